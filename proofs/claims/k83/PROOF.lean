import PyProof.Rows.All
import Wide.All
import OpenK.AllK
import Wide.FinOn
import Lean
import PyProof.EqAt
import PyProof.EqKinds
import PyProof.TupleCall
import PyProof.Rows.CatFin
import PyProof.StrLawsIn
import KE.IntTextLaws
import KE.IntTextText
import PyProof.StrLawsTight
import PyProof.StrLawsChain
import PyProof.Rows.StrLawsPart
import PyProof.Rows.StrFirst
import PyProof.Rows.ReprOcc
import PyProof.Rows.StrItems
import KE.KIntText
import PyProof.Rows.FStr
import PyProof.SumAny
import PyProof.SeqI3
import PyProof.WalkInts
import PyProof.NeKinds
import KE.KDictLaws
import PyProof.DictIter
import PyProof.DictWalks
import PyProof.Rows.DictUnroll
import KE.KSortTup
import KE.KDictSum
import KE.KSortKey
import PyProof.DictItems
import PyProof.DictItemsLoops
import KE.KDictOf
import PyProof.IsiH_list
import PyProof.AttrMiss
import PySem.Challenge.RW_jumpfield_k83_whole_written_and_read
set_option Elab.async false
set_option linter.all false
set_option maxRecDepth 100000
set_option maxHeartbeats 8000000
theorem A0{p:Prop}(h:p:=by lia):p:=h
theorem A1{p:Prop}(h:p:=by decide +kernel):p:=h
theorem A3{p:Prop}(h:p:=by decide):p:=h
theorem A4{p:Prop}(h:p:=by intro z; cases z):p:=h
theorem A5{p:Prop}(h:p:=by simp):p:=h
theorem A6{p:Prop}(h:p:=by omega):p:=h
theorem A7{p:Prop}(h:p:=by show (0:Int) < 2305843009213693951; decide):p:=h
theorem A8{p:Prop}(h:p:=by show (0:Int) < 7; decide):p:=h
theorem A9{p:Prop}(h:p:=by show (0:Int) < 2; decide):p:=h
abbrev B0:=@List.length_map
abbrev B1:=@PySem.Heap.get?_push_of_some
abbrev B3:=@List.mem_cons_of_mem
abbrev B4:=@List.length_append
abbrev B5:=@Nat.le_refl
abbrev B6:=@List.getElem?_map
abbrev B7:=@List.getElem?_eq_some_iff
abbrev B8:=@List.map_append
abbrev B9:=@List.mem_cons
abbrev C0:=@List.getElem?_eq_getElem
abbrev C1:=@List.getD_eq_getElem?_getD
abbrev C2:=@List.mem_cons_self
abbrev C3:=@PySem.Heap.get?_push_size
abbrev C4:=@Nat.le_trans
abbrev C5:=@List.mem_singleton
abbrev C6:=@PySem.Heap.lt_size
abbrev C7:=@List.size_toArray
abbrev C8:=@List.mem_append
abbrev C9:=@Bool.false_ne_true
abbrev D0:=@List.length_cons
abbrev D1:=@List.take_add_one
abbrev D3:=@List.mem_append_right
abbrev D4:=@List.mem_map
abbrev D5:=@List.map_cons
abbrev D6:=@Option.map_eq_some_iff
abbrev D7:=@List.nodup_iff_pairwise_ne
abbrev D8:=@Nat.ne_of_lt
abbrev D9:=@List.take_length
abbrev F0:=@Nat.lt_of_lt_of_le
abbrev F1:=@Int.toNat_natCast
abbrev F2:=@Bool.false_eq_true
abbrev F3:=@List.getElem?_append_right
abbrev F4:=@Nat.mod_lt
abbrev F5:=@Nat.not_lt_zero
abbrev F6:=@List.mem_of_getElem?
abbrev F7:=@List.concat_eq_append
abbrev F8:=@List.length_take
abbrev F9:=@Array.length_toList
abbrev G9:=@List.length_singleton
abbrev J1:=@List.eq_nil_or_concat
abbrev J7:=@Nat.zero_le
abbrev J8:=@List.getElem?_append_left
abbrev J9:=@List.not_mem_nil
abbrev L5:=@List.append_nil
abbrev L6:=@Int.le_refl
abbrev L7:=@List.pairwise_map
abbrev L8:=@List.mem_append_left
abbrev L9:=@List.mem_range
abbrev M0:=@List.getElem?_eq_none
abbrev M2:=@PySem.Heap.get?_update_other
abbrev M3:=@Int.toNat_of_nonneg
abbrev M4:=@PySem.Heap.get?_update_ne
abbrev M6:=@List.append_assoc
abbrev M7:=@List.map_map
abbrev M8:=@Nat.div_add_mod
abbrev M9:=@Array.getElem?_eq_getElem
abbrev N2:=@List.length_replicate
abbrev N3:=@Option.toList_some
abbrev N4:=@List.getElem_mem
abbrev N5:=@List.all_eq_true
abbrev N6:=@Nat.lt_irrefl
abbrev N7:=@PySem.Heap.get?_none_of_le
abbrev N8:=@List.foldl_append
abbrev N9:=@List.range_succ
abbrev O0:=@Bool.eq_iff_iff
abbrev O1:=@Nat.zero_add
abbrev O2:=@Nat.le_of_lt
abbrev O3:=@List.idxOf_lt_length_of_mem
abbrev O4:=@List.lookup_cons
abbrev O5:=@PySem.Heap.get?_update_self
abbrev O6:=@List.nodup_cons
abbrev O7:=@List.find?_cons
abbrev O8:=@Int.natCast_mul
abbrev O9:=@Nat.le_succ
abbrev P0:=@List.getLast?_concat
abbrev P1:=@Array.getElem_toList
abbrev P2:=@Nat.lt_succ_iff_lt_or_eq
abbrev P3:=@List.map_eq_nil_iff
abbrev P4:=@List.getElem?_range
abbrev P5:=@Nat.div_eq_of_lt
abbrev P6:=@Nat.add_le_add
abbrev P7:=@Int.eq_ofNat_of_zero_le
abbrev P8:=@Bool.and_eq_true
abbrev P9:=@Int.add_sub_cancel
abbrev Q0:=@List.sum_append
abbrev Q4:=@Int.natCast_add
abbrev Q5:=@Bool.not_true
abbrev Q6:=@List.take_append_drop
abbrev Q7:=@List.nodup_append
abbrev Q8:=@List.length_range
abbrev Q9:=@PySem.Heap.size_push
abbrev R0:=@Nat.succ_le_succ
abbrev R1:=@Nat.lt_trans
abbrev R3:=@Nat.le_of_not_lt
abbrev R4:=@List.getElem_map
abbrev R5:=@List.any_eq_true
abbrev R6:=@List.mem_filter
abbrev R7:=@List.pairwise_cons
abbrev R8:=@Int.emod_lt_of_pos
abbrev R9:=@List.filter_cons_of_pos
abbrev S3:=@Nat.lt_succ_of_lt
abbrev S4:=@Nat.lt_one_iff
abbrev S5:=@Nat.div_lt_iff_lt_mul
abbrev S6:=@List.length_filter_le
abbrev S7:=@Nat.lt_succ_self
abbrev S8:=@List.length_drop
abbrev S9:=@Nat.pow_le_pow_right
abbrev T5:=@Nat.add_mul_div_left
abbrev T6:=@List.length_nil
abbrev T7:=@Int.emod_nonneg
abbrev T8:=@List.mem_map_of_mem
abbrev T9:=@List.length_reverse
abbrev U0:=@List.flatten_append
abbrev U1:=@Nat.ne_of_gt
abbrev U2:=@List.nodup_nil
abbrev U3:=@Array.getElem?_eq_some_iff
abbrev U4:=@List.getElem?_eq_none_iff
abbrev U5:=@Int.emod_eq_of_lt
abbrev U6:=@List.mem_reverse
abbrev U7:=@List.getElem?_replicate
abbrev U8:=@Nat.sub_self
abbrev U9:=@Nat.pow_succ
abbrev V0:=@List.take_of_length_le
abbrev V1:=@Int.pow_succ
abbrev V2:=@Int.add_zero
abbrev V3:=@Option.map_some
abbrev V4:=@List.foldl_cons
abbrev V5:=@List.mem_iff_getElem
abbrev V6:=@List.reverse_append
abbrev V7:=@List.map_congr_left
abbrev V8:=@List.filterMap_cons
abbrev V9:=@Nat.add_assoc
abbrev W0:=@List.sum_cons
abbrev W1:=@Int.add_assoc
abbrev W2:=@Nat.pos_of_ne_zero
abbrev W4:=@Array.forIn_toList
abbrev W5:=@Nat.mul_comm
abbrev W6:=@List.flatMap_cons
abbrev W7:=@Int.mul_comm
abbrev W8:=@PySem.wpAny_bind
abbrev W9:=@PySem.wpAny_pure
abbrev Y0:=@if_neg
abbrev Y1:=@decide_eq_true
abbrev Y3:=@decide_eq_false
abbrev Y4:=@if_pos
abbrev Y5:=@Option.some.inj
abbrev Y6:=@PySem.Paired.length
abbrev Y7:=@Int.ofNat.inj
abbrev Y8:=@PySem.W.mg_of
abbrev Y9:=@PySem.F.slot_list_append
abbrev Z0:=@PySem.F.type_list_append
abbrev Z1:=@PySem.F.plainAttrs_list
abbrev Z2:=@PySem.PassesOwn.never
abbrev Z3:=@of_decide_eq_true
abbrev Z4:=@Ne.symm
abbrev Z5:=@congrArg
abbrev Z6:=@PySem.wpAny_call_entry
abbrev Z7:=@PySem.wpAny_newObj_type
abbrev Z8:=@PySem.W.kia_one
abbrev Z9:=@if_false
abbrev X0:=@PySem.wpAny_holding
abbrev X1:=@PyProof.Rows.boot_min
abbrev X3:=@PyProof.Rows.boot_isinstance
abbrev X4:=@PySem.wpAny_mono
abbrev X5:=@PySem.Obj.data_mapFields
abbrev X6:=@Classical.byContradiction
abbrev X7:=@PySem.wpAny_truthy_bool
abbrev X8:=@PyProof.Rows.int_text_len_1921
abbrev X9:=@PySem.boot_len
abbrev K0:=@PyProof.Rows.joinParts_cons
abbrev K1:=@PySem.mem_of_lookup
abbrev K2:=@PySem.Paired.snoc
abbrev K3:=@PySem.F.plainAttrs_str
abbrev K4:=@PyProof.Rows.FormattedValue_plain
abbrev K5:=@PyProof.Rows.boot_max
abbrev K6:=@PyProof.Rows.boot_str
abbrev K7:=@PySem.wpAny_field
abbrev K8:=@PySem.wpAny_pyIter_list
abbrev K9:=@PySem.wpAny_setField
abbrev A0a:=@or_false
abbrev A0b:=@PySem.wpAny_typeNameOfWhole_itemiter
abbrev A0c:=@List.cons.inj
abbrev A0d:=@PySem.F.slot_dict_get
abbrev A0e:=@PyProof.Rows.boot_int
abbrev A0f:=@PyProof.Rows.callWith_type1
abbrev A0g:=@PySem.wpAny_typeNameOfWhole_keyiter
abbrev A0h:=@PySem.F.slot_dict_itemiterator_next
abbrev A1a:=@PySem.wpAny_passesOwn
abbrev A1b:=@PySem.F.slot_dict_keyiterator_next
abbrev A1c:=@PySem.strLen_append
abbrev A1d:=@PySem.Obj.isFreed_of_fields
abbrev A1e:=@PySem.wpAny_dictEntries
abbrev A1f:=@PySem.F.slot_tuple_iterator_next
abbrev A1g:=@List.Pairwise.imp_of_mem
abbrev A1h:=@if_true
abbrev A2a:=@PyProof.Rows.formatField_int_small
abbrev A2b:=@PySem.wpAny_typeNameOf_itemiter
abbrev A2c:=@PySem.Heap.SameBut.update
abbrev A2d:=@PySem.wpAny_attempt
abbrev A2e:=@PySem.wpAny_typeNameOf_keyiter
abbrev A2f:=@PySem.wpAny_dictEpoch
abbrev A2g:=@PySem.wpAny_Call_Name_kw
abbrev A2h:=@PySem.wpAny_setField_rec
abbrev A3a:=@PySem.wpAny_getItem_str_slice
abbrev A3b:=@Classical.choose_spec
abbrev A3c:=@PySem.Calls.callWith_builtin
abbrev A3d:=@PyProof.Rows.listUpdate_at
abbrev A3e:=@PySem.wpAny_isInstance
abbrev A3f:=@beq_iff_eq
abbrev A3g:=@PySem.wpAny_execs_nil
abbrev A3h:=@PySem.wpAny_specialOf
abbrev A4a:=@PySem.size_of_entries
abbrev A4b:=@PySem.F.args_dict_get_2
abbrev A4c:=@PySem.wpAny_seqItems
abbrev A4d:=@PySem.F.entry_dict_get
abbrev A4e:=@PySem.wpAny_forIn_list
abbrev A4f:=@PySem.W.plainGet_of
abbrev A4g:=@PySem.codeAny_mono
abbrev A4h:=@PySem.wpAny_isOneOf_itemiter
abbrev A5a:=@PySem.post_val_or_str
abbrev A5b:=@PySem.wpAny_notOrdered_dict
abbrev A5c:=@PySem.isSubtype_tuple_tuple
abbrev A5d:=@PySem.Calls.evalArgs_plain
abbrev A5e:=@PySem.codeAny_call_builtin
abbrev A5f:=@PySem.wpAny_of_eq
abbrev A5g:=@PySem.wpAny_fieldsOf
abbrev A5h:=@bne_self_eq_false
abbrev A6a:=@PySem.wpAny_standAt
abbrev A6b:=@PySem.wpAny_newList
abbrev A6c:=@PySem.Calls.spliced_cons
abbrev A6d:=@PySem.tupleKind_room_in1
abbrev A6e:=@PySem.wpAny_tupleItemsOf
open PySem.W (instObj methodObj lookIn plainGet hasDictIn findIn handedIn isFn plainOver takerIn any_some makesIn emptyDict keepIn specialIn takesIn mroIn kitOne kitx_list kitx_dict callWith_K notCls excIn clsIn)
namespace L2
open PySem PySem.Spec PyProof.Rows
abbrev Key:=Sum Int Str
def NR:Key->Value->Bool
 |.inl k,v=>Value.isInt k v
 |.inr x,v=>Value.isStrOf x v
def keyH(w:World):Key->Int
 |.inl k=>hashInt k
 |.inr x=>hashStr w x
theorem BL:∀{k:Key}{v:Value},NR k v=true->(∃i t,k=Sum.inl i/\v=Value.int i t)\/(∃x t,k=Sum.inr x/\v=Value.str x t)
 |.inl i,v,h=>by
  obtain⟨t,e⟩:=Value.isInt_shape (k:=i) (v:=v) h;exact .inl ⟨i,t,rfl,e⟩
 |.inr x,v,h=>by
  obtain⟨t,e⟩:=Value.isStrOf_shape (x:=x) (v:=v) h;exact .inr ⟨x,t,rfl,e⟩
theorem TU(i:Int)(t:Tok):NR (.inl i) (.int i t)=true:=by simp[NR,Value.isInt]
theorem TR(x:Str)(t:Tok):NR (.inr x) (.str x t)=true:=by simp[NR,Value.isStrOf]
theorem key_ll(a b:Int):decide ((Sum.inl a:Key)=Sum.inl b)=(a==b):=by
 by_cases e:a=b
 ·subst e;simp
 ·have h:¬(Sum.inl a:Key)=Sum.inl b:=λq=>e (Sum.inl.inj q);rw[Y3 h];exact(beq_eq_false_iff_ne.mpr e).symm
theorem key_rr(a b:Str):decide ((Sum.inr a:Key)=Sum.inr b)=decide (a=b):=by
 by_cases e:a=b
 ·subst e;simp
 ·have h:¬(Sum.inr a:Key)=Sum.inr b:=λq=>e (Sum.inr.inj q);rw[Y3 h,Y3 e]
theorem key_lr(a:Int)(b:Str):decide ((Sum.inl a:Key)=Sum.inr b)=false:=Y3 (λq=>nomatch q)
theorem key_rl(a:Str)(b:Int):decide ((Sum.inr a:Key)=Sum.inl b)=false:=Y3 (λq=>nomatch q)
def BG(prog:Program)(w:World):PySem.KeyKind prog w Key where
 is:=NR
 hash:=keyH w
 inj:=λv a b ha hb=>by
  rcases BL ha with ⟨i,t,rfl,rfl⟩|⟨x,t,rfl,rfl⟩
  ·rcases BL hb with ⟨j,u,rfl,e⟩|⟨y,u,rfl,e⟩
   ·injection e with e1 _;rw[e1]
   ·exact nomatch e
  ·rcases BL hb with ⟨j,u,rfl,e⟩|⟨y,u,rfl,e⟩
   ·exact nomatch e
   ·injection e with e1 _;rw[e1]
 byValue:=λk v h=>by
  rcases BL h with ⟨i,t,rfl,rfl⟩|⟨x,t,rfl,rfl⟩<;>rfl
 pyHash:=λhv h=>by
  rcases BL hv with ⟨i,t,rfl,rfl⟩|⟨x,t,rfl,rfl⟩
  ·exact wpAny_pyHash_int h
  ·exact wpAny_pyHash_str h
 eqBool:=λhu hv h=>by
  rcases BL hu with ⟨i,t,rfl,rfl⟩|⟨x,t,rfl,rfl⟩
  ·rcases BL hv with ⟨j,u,rfl,rfl⟩|⟨y,u,rfl,rfl⟩
   ·rw[key_ll]at h;exact wpAny_eqBool_int h
   ·rw[key_lr]at h;exact SeqAt.EqAt.int_str i t y u _ _ _ _ h
  ·rcases BL hv with ⟨j,u,rfl,rfl⟩|⟨y,u,rfl,rfl⟩
   ·rw[key_rl]at h;exact SeqAt.EqAt.str_int x t j u _ _ _ _ h
   ·rw[key_rr]at h;exact wpAny_eqBool_str h
 «strs»:=λk x t v h=>by
  rcases BL h with ⟨i,u,rfl,e⟩|⟨y,u,rfl,e⟩
  ·exact nomatch e
  ·injection e with e1 _
   subst e1;cases v<;>rfl
theorem Qk(prog:Program)(w:World)(i:Int)(t:Tok):(BG prog w).is (.inl i) (.int i t)=true:=TU i t
theorem Qj(prog:Program)(w:World)(x:Str)(t:Tok):(BG prog w).is (.inr x) (.str x t)=true:=TR x t
inductive V where
 |non|bl (b:Bool)|int (i:Int)|str (x:Str)|byt (b:Array UInt8)|flt (b:UInt64)|ref (a:Addr)|ty (n:String)
 deriving DecidableEq
def AX:V->Value->Prop
 |.non,u=>u=Value.none
 |.bl b,u=>u=Value.bool b
 |.int i,u=>∃t,u=Value.int i t
 |.str x,u=>∃t,u=Value.str x t
 |.byt b,u=>∃t,u=Value.bytes b t
 |.flt b,u=>∃t,u=Value.float b t
 |.ref a,u=>u=Value.ref a
 |.ty n,u=>u=Value.type n
abbrev AH:List V->List Value->Prop:=Paired AX
theorem AH.length{xs:List V}{us:List Value}(r:AH xs us):xs.length=us.length:=Y6 r
theorem AH.get:∀{xs:List V}{us:List Value}{i:Nat}{x:V},AH xs us->xs[i]?=some x->∃u,us[i]?=some u/\AX x u
 |_,_,_,_,.nil,e=>by simp at e
 |_,_,0,_,.cons r _,e=>by simp at e;subst e;exact⟨_,rfl,r⟩
 |_,_,i+1,x,.cons _ t,e=>by
  obtain⟨u,h1,h2⟩:=AH.get (i:=i) (x:=x) t (by simpa using e);exact⟨u,by simpa using h1,h2⟩
theorem AH.set{x:V}{u:Value}(r:AX x u):∀{xs:List V}{us:List Value}(i:Nat),AH xs us->AH (xs.set i x) (us.set i u)
 |_,_,_,.nil=>.nil
 |_,_,0,.cons _ t=>.cons r t
 |_,_,i+1,.cons q t=>.cons q (AH.set r i t)
theorem AH.append:∀{xs ys:List V}{us ws:List Value},AH xs us->AH ys ws->AH (xs++ys) (us++ws)
 |_,_,_,_,.nil,s=>s
 |_,_,_,_,.cons r t,s=>.cons r (AH.append t s)
theorem AH.take:∀{xs:List V}{us:List Value}(n:Nat),AH xs us->AH (xs.take n) (us.take n)
 |_,_,0,_=>.nil
 |_,_,_+1,.nil=>.nil
 |_,_,n+1,.cons r t=>.cons r (AH.take n t)
theorem AH.drop:∀{xs:List V}{us:List Value}(n:Nat),AH xs us->AH (xs.drop n) (us.drop n)
 |_,_,0,r=>r
 |_,_,_+1,.nil=>.nil
 |_,_,n+1,.cons _ t=>AH.drop n t
theorem AH.none_of:∀{xs:List V}{us:List Value}{i:Nat},AH xs us->xs[i]?=none->us[i]?=none:=λ{xs us i} r e=>by
 have h1:=r.length;have h2:xs.length<=i:=U4.mp e;exact U4.mpr A0
def FY:Option V->Option Value->Prop
 |some v,some u=>AX v u
 |none,none=>True
 |_,_=>False
def KV{κ:Type}:List (κ×V)->List (κ×Value)->Prop:=Paired λ(p:κ×V)(q:κ×Value)=>p.1=q.1/\AX p.2 q.2
def kV:Key->V
 |.inl i=>.int i
 |.inr x=>.str x
inductive HO where
 |lst (xs:List V)
 |tup (xs:List V)
 |dK (kvs:List (Key×V))|dT (kvs:List (List Key×V))
 |set (S:Int->Bool) (n:Nat)
 |ins (C dx:Addr) (fs:List (Str×V))
 |own (x:Addr)
 |xd (fs:List (Str×V))
 |met (f x:Addr)
 |rng (lo hi:Int)
 |frz (o:Obj) (u:HO)
 |tbl (ps:Array Value)
 |ext (φ:Heap->Prop)
abbrev Hp:=Addr->Option HO
def upd(H:Hp)(a:Addr)(o:HO):Hp:=λb=>if b=a then some o else H b
theorem upd_same{H:Hp}{a:Addr}{o:HO}:upd H a o a=some o:=by unfold upd;rw[Y4 rfl]
theorem Al{H:Hp}{a b:Addr}{o:HO}(h:b≠a):upd H a o b=H b:=by unfold upd;rw[Y0 h]
theorem AS{H:Hp}{a b:Addr}{o u:HO}(h:H a=some o)(h':H b=some u)(d:o≠u):a≠b:=by
 intro e;subst e;rw[h]at h';exact d (Y5 h')
theorem An{H:Hp}{a b:Addr}{o:HO}(h:H a=some o)(h':H b=none):a≠b:=by
 intro e;subst e;rw[h]at h';cases h'
section
variable(P:Program)(w:World)
def Be(H:Hp)(h:Heap)(a:Addr):HO->Prop
 |.lst xs=>xs.length<=sizeLine/\∃(its:List Value)(n:Nat),AH xs its/\h.get? a=some {cls:=.type "list",data:=.seq its.toArray n}
 |.tup xs=>xs.length<=sizeLine/\∃its:List Value,AH xs its/\IsTup h a its.toArray
 |.dK kvs=>kvs.length<=sizeLine/\(a==sysModules)=false/\∃vs,KV kvs vs/\h.DictOf (BG P w) a vs
 |.dT kvs=>kvs.length<=sizeLine/\(a==sysModules)=false/\∃xs:List (List Key×Addr×Value),
   Paired (λ(p:List Key×V)(q:List Key×Addr×Value)=>p.1=q.1/\H q.2.1=some (.tup (p.1.map kV))/\AX p.2 q.2.2) kvs xs /\
   ∃o es ep,h.get? a=some o/\o.ExactDict/\o.data=.dict es ep/\es.toList=xs.map (entryOfKey (tupleKind (BG P w)))/\(xs.map (·.1)).Nodup
 |.set S n=>h.SetOf (intKind P w) a S n
 |.ins C dx fs=>H dx=some (.own a)/\fs.length<=1000/\dx≠a/\h.get? a=some (instObj C dx) /\
   ∃mA,h.Ns1 dx mA/\(∀f,FY (fs.lookup f) (mA f))/\PySem.Within mA (fs.map (·.1))
 |.own _=>∃o,h.get? a=some o
 |.xd fs=>∃mA,h.Ns1 a mA/\∀f,FY (fs.lookup f) (mA f)
 |.rng lo hi=>∃t u v,h.get? a=some {cls:=.type "range",data:=.fields #[.int lo t,.int hi u,.int 1 v]}
 |.frz o u=>h.get? a=some o/\Be H h a u
 |.tbl ps=>h.get? a=some {cls:=.none,data:=.fields ps}
 |.met f x=>h.get? a=some (methodObj (.ref f) (.ref x))
 |.ext φ=>φ h/\(∃o,h.get? a=some o)/\∀h1 h2:Heap,φ h1->(∀o,h1.get? a=some o->h2.get? a=some o)->φ h2
def HOk(H:Hp)(h:Heap):Prop:=∀a o,H a=some o->Be P w H h a o
end
section
variable{P:Program}{w:World}{H H':Hp}{h h':Heap}{a:Addr}{o:HO}
theorem Be.lt(x:Be P w H h a o):a<h.objs.size:=by
 cases o with
 |lst xs=>obtain⟨_,_,_,_,e⟩:=x;exact C6 e
 |tup xs=>obtain⟨_,_,_,p⟩:=x;exact p.lt
 |dK kvs=>obtain⟨_,_,_,_,o,_,_,e,_⟩:=x;exact C6 e
 |dT kvs=>obtain⟨_,_,_,_,o,_,_,e,_⟩:=x;exact C6 e
 |set S n=>obtain⟨o,_,_,_,e,_⟩:=x;exact C6 e
 |ins C dx fs=>obtain⟨_,_,_,e,_⟩:=x;exact C6 e
 |own y=>obtain⟨_,e⟩:=x;exact C6 e
 |xd fs=>obtain⟨_,⟨_,_,_,e,_⟩,_⟩:=x;exact C6 e
 |rng lo hi=>obtain⟨_,_,_,e⟩:=x;exact C6 e
 |frz ob u=>obtain⟨e,_⟩:=x;exact C6 e
 |tbl ps=>exact C6 (show h.get? a=some _ from x)
 |met f y=>exact C6 (show h.get? a=some _ from x)
 |ext φ=>obtain⟨_,⟨_,e⟩,_⟩:=x;exact C6 e
theorem Paired.mapP{α β:Type}{F G:α->β->Prop}:∀{l₁:List α}{l₂:List β},Paired F l₁ l₂->(∀a b,F a b->G a b)->Paired G l₁ l₂
 |_,_,.nil,_=>.nil
 |_,_,.cons r t,f=>.cons (f _ _ r) (Paired.mapP t f)
theorem Paired.imp'{α β:Type}{F G:α->β->Prop}(f:∀a b,F a b->G a b){l₁:List α}{l₂:List β}(r:Paired F l₁ l₂):Paired G l₁ l₂:=Paired.mapP r f
theorem Be.stay(x:Be P w H h a o)(k:∀b u,(b=a\/H b=some (.own a))->h.get? b=some u->h'.get? b=some u)
  (ho:∀b,H b=some (.own a)->H' b=some (.own a)) (ht:∀b xs,H b=some (.tup xs)->H' b=some (.tup xs)):Be P w H' h' a o:=by
 induction o with
 |lst xs=>obtain⟨z,its,n,r,e⟩:=x;exact⟨z,its,n,r,k _ _ (.inl rfl) e⟩
 |tup xs=>obtain⟨z,its,r,ob,e,c⟩:=x;exact⟨z,its,r,ob,k _ _ (.inl rfl) e,c⟩
 |dK kvs=>obtain⟨z,y,vs,r,ob,es,ep,e,c⟩:=x;exact⟨z,y,vs,r,ob,es,ep,k _ _ (.inl rfl) e,c⟩
 |dT kvs =>
  obtain⟨z,y,xs,r,ob,es,ep,e,c⟩:=x;exact⟨z,y,xs,Paired.mapP r λp q z=>⟨z.1,ht _ _ z.2.1,z.2.2⟩,ob,es,ep,k _ _ (.inl rfl) e,c⟩
 |set S n=>obtain⟨ob,es,ep,t,e,c⟩:=x;exact⟨ob,es,ep,t,k _ _ (.inl rfl) e,c⟩
 |ins C dx fs =>
  obtain⟨d,z,ne,e,mA,⟨od,es,ep,e2,c⟩,r⟩:=x;exact⟨ho _ d,z,ne,k _ _ (.inl rfl) e,mA,⟨od,es,ep,k _ _ (.inr d) e2,c⟩,r⟩
 |own y=>obtain⟨ob,e⟩:=x;exact⟨ob,k _ _ (.inl rfl) e⟩
 |xd fs=>obtain⟨mA,⟨od,es,ep,e,c⟩,r⟩:=x;exact⟨mA,⟨od,es,ep,k _ _ (.inl rfl) e,c⟩,r⟩
 |rng lo hi=>obtain⟨t,u,v,e⟩:=x;exact⟨t,u,v,k _ _ (.inl rfl) e⟩
 |frz ob u ih=>obtain⟨e,q⟩:=x;exact⟨k _ _ (.inl rfl) e,ih q⟩
 |tbl ps =>
  have e:h.get? a=some {cls:=.none,data:=.fields ps}:=x;show h'.get? a=some {cls:=.none,data:=.fields ps};exact k a _ (.inl rfl) e
 |met f y =>
  have e:h.get? a=some (methodObj (.ref f) (.ref y)):=x;show h'.get? a=some (methodObj (.ref f) (.ref y));exact k a _ (.inl rfl) e
 |ext φ=>obtain⟨p,⟨o,e⟩,st⟩:=x;exact⟨st _ _ p λo q=>k _ _ (.inl rfl) q,⟨o,k _ _ (.inl rfl) e⟩,st⟩
theorem HOk.lt(x:HOk P w H h)(e:H a=some o):a<h.objs.size:=(x a o e).lt
theorem HOk.fresh(x:HOk P w H h)(e:h.objs.size<=a):H a=none:=by
 cases q:H a with
 |none=>rfl
 |some u=>exact absurd (F0 (x.lt q) e) (N6 _)
theorem HOk.kept(x:HOk P w H h)(k:∀b u,h.get? b=some u->h'.get? b=some u):HOk P w H h':=λa o e =>
 (x a o e).stay (λb u _ q=>k b u q) (λ_ q=>q) λ_ _ q=>q
theorem HOk.laid(x:HOk P w H h)(k:∀b u,h.get? b=some u->h'.get? b=some u)(hp:h.objs.size<=a)(new:Be P w (upd H a o) h' a o):HOk P w (upd H a o) h':=λb u e=>by
 have hn:=x.fresh hp;by_cases hb:b=a
 ·subst hb;rw[upd_same]at e;cases e;exact new
 ·rw[Al hb]at e;exact(x b u e).stay (λc v _ q=>k c v q) (λc q=>by rw[Al (An q hn)];exact q) λc xs q=>by rw[Al (An q hn)];exact q
end
def Rd(H:Hp)(a:Addr)(u:HO):Prop:=H a=some u\/∃o,H a=some (.frz o u)
theorem Rd.ok{P:Program}{w:World}{H:Hp}{h:Heap}{a:Addr}{u:HO}(r:Rd H a u)(x:HOk P w H h):Be P w H h a u:=by
 rcases r with r|⟨o,r⟩
 ·exact x a u r
 ·obtain⟨_,q⟩:=x a _ r;exact q
def Mut:Option HO->Prop
 |some (.lst _)=>True
 |some (.dK _)=>True
 |some (.dT _)=>True
 |some (.set _ _)=>True
 |some (.ins _ _ _)=>True
 |some (.ext _)=>True
 |_=>False
section
variable{P:Program}{w:World}{H:Hp}{h h':Heap}{x e:Addr}{o':HO}
theorem HOk.write(ok:HOk P w H h)(mu:Mut (H x))(he:e=x\/H e=some (.own x))(k:∀b u,b≠e->h.get? b=some u->h'.get? b=some u)(heo:∃u,h'.get? e=some u)
  (new:Be P w (upd H x o') h' x o'):HOk P w (upd H x o') h':=λb u q=>by
 have nown:∀c y,H c=some (.own y)->c≠x:=λc y r z=>by subst z;rw[r]at mu;exact mu
 have ntup:∀c xs,H c=some (.tup xs)->c≠x:=λc xs r z=>by subst z;rw[r]at mu;exact mu
 by_cases hb:b=x
 ·subst hb;rw[upd_same]at q;cases q;exact new
 ·rw[Al hb]at q;by_cases hbe:b=e
  ·have q':H b=some (.own x):=by
    rcases he with z|z
    ·exact absurd (hbe.trans z) hb
    ·rw[hbe];exact z
   rw[q]at q';cases q';obtain⟨v,hv⟩:=heo;exact⟨v,by rw[hbe];exact hv⟩
  ·refine(ok b u q).stay (λc v hc r=>k c v ?_ r) (λc r=>by rw[Al (nown c b r)];exact r) λc xs r=>by rw[Al (ntup c xs r)];exact r
   rcases hc with rfl|hc
   ·exact hbe
   ·rintro rfl;rcases he with z|z
    ·exact nown c b hc z
    ·rw[hc]at z;cases z;exact hb rfl
end
structure Un(fs ex:List Addr)(H H':Hp)(h h':Heap):Prop where
 keep:∀b o,h.get? b=some o->H b=none->b∉fs->b∉ex->h'.get? b=some o
 slot:∀b o,h.get? b=some o->H b=none->b∈fs->b∉ex->∃sl,h'.get? b=some {o with slots:=sl}
 free:∀b o,h.get? b=some o->H b=none->b∉ex->H' b=none
 there:∀b o,h.get? b=some o->b∉ex->∃o',h'.get? b=some o'
 tups:∀b xs,H b=some (.tup xs)->H' b=some (.tup xs)
 frzs:∀b o u,H b=some (.frz o u)->H' b=some (.frz o u)
 tbls:∀b ps,H b=some (.tbl ps)->∃more,H' b=some (.tbl (ps++more))
section
variable{fs fs' ex ex':List Addr}{H H1 H2:Hp}{h h1 h2 h':Heap}{a x e:Addr}{o:HO}
theorem Un.any(u:Un fs ex H H1 h h1){b:Addr}{ob:Obj}(q:h.get? b=some ob)(n:H b=none)(hx:b∉ex):∃sl,h1.get? b=some {ob with slots:=sl}:=by
 by_cases hb:b∈fs
 ·exact u.slot b ob q n hb hx
 ·exact⟨ob.slots,u.keep b ob q n hb hx⟩
theorem Un.kept(k:∀b u,h.get? b=some u->h'.get? b=some u):Un fs ex H H h h' :=
 ⟨λb ob q _ _ _=>k b ob q,λb ob q _ _ _=>⟨ob.slots,k b ob q⟩,λ_ _ _ n _=>n,λb ob q _=>⟨ob,k b ob q⟩,λ_ _ q=>q,λ_ _ _ q=>q,λ_ ps q=>⟨#[],by rw[q];simp⟩⟩
theorem Un.refl:Un fs ex H H h h:=Un.kept λ_ _ q=>q
theorem Un.laid(k:∀b u,h.get? b=some u->h'.get? b=some u)(hp:h.objs.size<=a)(hn:H a=none):Un fs ex H (upd H a o) h h' where
 keep:=λb u q _ _ _=>k b u q
 slot:=λb u q _ _ _=>⟨u.slots,k b u q⟩
 free:=λb u q n _=>by rw[Al (D8 (F0 (C6 q) hp))];exact n
 there:=λb u q _=>⟨u,k b u q⟩
 tups:=λb xs q=>by rw[Al (An q hn)];exact q
 frzs:=λb u xs q=>by rw[Al (An q hn)];exact q
 tbls:=λb ps q=>⟨#[],by rw[Al (An q hn),q];simp⟩
theorem Un.write(mu:Mut (H x))(he:e=x\/H e=some (.own x))(k:∀b u,b≠e->h.get? b=some u->h'.get? b=some u)(heo:∃u,h'.get? e=some u):Un fs ex H (upd H x o) h h':=by
 have hx:∀b,H b=none->b≠x:=λb n z=>by subst z;rw[n]at mu;exact mu
 have hb:∀b,H b=none->b≠e:=λb n z=>by
  subst z;rcases he with r|r
  ·exact hx b n r
  ·rw[n]at r;cases r
 have hm:∀b u,H b=some u->¬Mut (some u)->b≠x:=λb u q nm z=>by subst z;rw[q]at mu;exact nm mu
 refine⟨λb u q n _ _=>k b u (hb b n) q,λb u q n _ _=>⟨u.slots,k b u (hb b n) q⟩,λb u q n _=>by rw[Al (hx b n)];exact n,λb u q _=>?_,
  λb xs q=>by rw[Al (hm b _ q λz=>z)];exact q,λb u xs q=>by rw[Al (hm b _ q λz=>z)];exact q,λb ps q=>⟨#[],by rw[Al (hm b _ q λz=>z),q];simp⟩⟩
 by_cases hbe:b=e
 ·subst hbe;exact heo
 ·exact⟨u,k b u hbe q⟩
end
def trk(h:Heap)(H:Hp):List Addr:=(List.range h.objs.size).filter λa=>(H a).isSome
def Pb(h:Heap)(H:Hp):Heap:=PySem.W.hideAll h (trk h H)
theorem TZ(h:Heap)(H:Hp):(Pb h H).objs.size=h.objs.size:=PySem.W.hideAll_size _ _
theorem Wh{h:Heap}{H:Hp}{b:Addr}{o:Obj}(e:h.get? b=some o)(n:H b=none):(Pb h H).get? b=some o :=
 PySem.W.hideAll_get _ e λhm=>by
  have q:(H b).isSome=true:=(R6.mp hm).2;rw[n]at q;simp at q
theorem of_hidT{h:Heap}{H:Hp}{b:Addr}{o:Obj}(e:(Pb h H).get? b=some o):h.get? b=some o/\H b=none:=by
 have e':h.get? b=some o:=PySem.W.of_hideAll (trk h H) e;refine⟨e',?_⟩;cases q:H b with
 |none=>rfl
 |some x =>
  have hm:b∈trk h H:=R6.mpr ⟨L9.mpr (C6 e'),by simp[q]⟩;have z:(Pb h H).get? b=none:=PySem.W.hideAll_none (trk h H) hm;rw[z]at e;cases e
structure Mod(K:PySem.W.Frag)(mg:Str->Option Value)(base:Heap):Prop where
 kin:K.In base
 glob:base.Ns mainGlobals mg
 blt:∃mb,base.Ns builtinsNs mb/\∀x:Str,x≠"__name__" -> mb x=bootBuiltins x
 nolimit:base.NoLimit
structure Cx where
 prog:Program
 w:World
 K:PySem.W.Frag
 mg:Str->Option Value
 base:Heap
 A:Around
 N:List Str
 s₀:Shared
 H₀:Hp
 env:Env
 outer:List Env
 stack:List Env
 ex:List Addr
 fn:Str->Bool
 calm:Bool
 pn:List (Addr×Obj)
 xe:Value->Shared->Prop
def frs(l:List Env):List Addr:=l.filterMap (·.frame)
abbrev Cx.fs(X:Cx):List Addr:=frs X.outer
def Vis(sc:Scope)(x:Str):Prop:=sc.names.lookup x=some .local\/sc.names.lookup x=some .cell\/sc.names.lookup x=some .free
def Loc(sc:Scope)(x:Str):Prop:=sc.names.lookup x=some .local\/sc.names.lookup x=some .cell
def Look(env:Env)(h:Heap)(m:Str->Option Value)(x:Str)(u:Value):Prop :=
 (env.kindOf x=some .local/\m x=some u)\/((env.kindOf x=some .cell\/env.kindOf x=some .free)/\∃c,env.cells.lookup x=some c/\h.IsCell c (some u))
structure Cx.Ok(X:Cx):Prop where
 mod:Mod X.K X.mg X.base
 kind:X.env.scope.kind=.function
 glob:X.env.globals=mainGlobals
 blt:X.env.builtins=builtinsNs
 above:X.s₀.heap.objs.size<=X.env.locals
 inj:∀x y c,X.env.cells.lookup x=some c->X.env.cells.lookup y=some c->x=y
 has:∀x,(X.env.kindOf x=some .cell\/X.env.kindOf x=some .free)->∃c,X.env.cells.lookup x=some c
 cab:∀x c,X.fn x=true->X.env.cells.lookup x=some c->X.s₀.heap.objs.size<=c
 hd:X.calm=true->X.A.handled=none
 frames:X.A.frames=some X.stack
 stk:X.stack=X.outer\/(X.stack=X.env::X.outer/\X.env.frame=some X.env.locals)
 exf:∀b∈X.ex,b≠X.env.locals/\∀x c,X.env.cells.lookup x=some c->c≠b
 bs:∀b o,X.base.get? b=some o->X.s₀.heap.get? b=some o/\X.H₀ b=none
 bsz:X.base.objs.size<=X.s₀.heap.objs.size
 noex:∀b o,X.base.get? b=some o->b∉X.ex
 exfs:∀b∈X.ex,b∉X.fs
 funs:X.s₀.heap.FunFrames X.base X.outer
 frf:∀b∈X.fs,X.H₀ b=none
structure Inv(X:Cx)(pins:List (Addr×Obj))(σ:List (Option V))(H:Hp)(s:Shared):Prop where
 ok:X.Ok
 os:s.os=X.s₀.os
 bare:AllBare s.gens
 base:Un X.fs X.ex X.H₀ H X.s₀.heap s.heap
 loc:∃m,s.heap.Ns X.env.locals m/\∀(i:Nat)(x:Str)(v:V),X.N[i]?=some x->σ[i]?=some (some v)->Vis X.env.scope x->∃u,AX v u/\Look X.env s.heap m x u
 cell:∀x c,X.env.cells.lookup x=some c->∃v,s.heap.IsCell c v
 free:H X.env.locals=none
 freeC:∀x c,X.env.cells.lookup x=some c->H c=none
 pin:∀p∈X.pn++pins,s.heap.get? p.1=some p.2/\H p.1=none/\p.1≠X.env.locals/\p.1∉X.fs/\∀v,p.2.data≠.cell v
 hok:HOk X.prog X.w H s.heap
 len:σ.length=X.N.length
section
variable{X:Cx}{pins:List (Addr×Obj)}{σ:List (Option V)}{H H':Hp}{s:Shared}{h':Heap}
theorem Cx.Ok.nofr(ok:X.Ok){b:Addr}{o:Obj}(e:X.base.get? b=some o):b∉X.fs:=λhb=>by
 have:=(ok.funs.mem hb).1;rw[e]at this;cases this
theorem Inv.bs(I:Inv X pins σ H s):∀b o,X.base.get? b=some o->s.heap.get? b=some o/\H b=none:=λb o e =>
 ⟨I.base.keep b o (I.ok.bs b o e).1 (I.ok.bs b o e).2 (I.ok.nofr e) (I.ok.noex b o e),I.base.free b o (I.ok.bs b o e).1 (I.ok.bs b o e).2 (I.ok.noex b o e)⟩
theorem Inv.bk(I:Inv X pins σ H s):∀b o,X.base.get? b=some o->s.heap.get? b=some o:=λb o e=>(I.bs b o e).1
theorem Inv.mod(I:Inv X pins σ H s):Mod X.K X.mg X.base:=I.ok.mod
theorem Inv.kIn(I:Inv X pins σ H s):X.K.In s.heap:=I.ok.mod.kin.keeps I.bk
theorem Inv.lt(I:Inv X pins σ H s):X.env.locals<s.heap.objs.size:=let ⟨_,hn,_⟩:=I.loc;hn.lt
theorem Inv.sz(I:Inv X pins σ H s):X.s₀.heap.objs.size<=s.heap.objs.size:=C4 I.ok.above (O2 I.lt)
theorem Inv.nofs(I:Inv X pins σ H s){a:Addr}(h:s.heap.objs.size<=a):a∉X.fs:=λhb=>by
 obtain⟨_,o,ho,_⟩:=I.ok.funs.mem hb;exact absurd (F0 (C6 ho) (C4 I.sz h)) (N6 _)
theorem Inv.cne(I:Inv X pins σ H s):∀x c,X.env.cells.lookup x=some c->c≠X.env.locals:=λx c e z=>by
 obtain⟨v,o,ho,hd⟩:=I.cell x c e;obtain⟨m,⟨o',es,ep,ho',hd',_⟩,_⟩:=I.loc;rw[z,ho']at ho;cases ho;rw[hd']at hd;cases hd
theorem Inv.funs (I:Inv X pins σ H s):s.heap.FunFrames X.base X.outer:=by
 have all:∀(l:List Env),(∀b∈frs l,b∈X.fs)->X.s₀.heap.FunFrames X.base l->s.heap.FunFrames X.base l:=by
  intro l;induction l with
  |nil=>intro _ _;trivial
  |cons env r ih =>
   intro hs hl;obtain⟨hk,⟨L,o,hf,hn,ho,hd⟩,hr⟩:=hl;have hL:L∈X.fs:=hs L (by unfold frs;rw[V8,hf];exact C2);obtain⟨sl,e⟩:=I.base.slot L o ho (I.ok.frf L hL) hL λz=>I.ok.exfs L z hL;exact⟨hk,⟨L,_,hf,hn,e,hd⟩,ih (λb hb=>hs b (by unfold frs;rw[V8,hf];exact B3 _ hb)) hr⟩
 exact all X.outer (λ_ hb=>hb) I.ok.funs
theorem Inv.stack(I:Inv X pins σ H s):s.heap.FunFrames X.base X.stack:=by
 rcases I.ok.stk with e|⟨e,hf⟩
 ·rw[e];exact I.funs
 ·rw[e];obtain⟨m,hn,_⟩:=I.loc;refine .cons (by rw[I.ok.kind];decide) hf hn ?_ I.funs;exact N7 (C4 I.ok.bsz I.ok.above)
theorem Inv.stkSub(I:Inv X pins σ H s):∀b∈frs X.stack,b∈X.env.locals::X.fs:=λb hb=>by
 rcases I.ok.stk with e|⟨e,hf⟩
 ·rw[e]at hb;exact B3 _ hb
 ·rw[e]at hb;unfold frs at hb;rw[V8,hf]at hb;exact hb
theorem Inv.stkFree(I:Inv X pins σ H s):∀b∈frs X.stack,H b=none:=λb hb=>by
 rcases B9.mp (I.stkSub b hb)with e|hb
 ·rw[e];exact I.free
 ·obtain⟨_,o,ho,_⟩:=I.ok.funs.mem hb;exact I.base.free b o ho (I.ok.frf b hb) λz=>I.ok.exfs b z hb
theorem Inv.step{g':Array GenState}{t':Nat}{d':Drawn}{ch:List Addr}(I:Inv X pins σ H s)
  (hch:∀b∈ch,(b∈X.ex\/X.s₀.heap.objs.size<=b)/\b≠X.env.locals/\(∀x c,X.env.cells.lookup x=some c->c≠b)/\∀p∈X.pn++pins,p.1≠b)
  (keep:∀b o,b≠X.env.locals->b∉X.fs->b∉ch->s.heap.get? b=some o->H b=none->h'.get? b=some o)
  (slot:∀b o,b≠X.env.locals->b∈X.fs->b∉ch->s.heap.get? b=some o->H b=none->∃sl,h'.get? b=some {o with slots:=sl}) (free:∀b o,b∉ch->s.heap.get? b=some o->H b=none->H' b=none)
  (there:∀b o,b∉ch->s.heap.get? b=some o->∃o',h'.get? b=some o')
  (tups:∀b xs,H b=some (.tup xs)->H' b=some (.tup xs)) (frzs:∀b o u,H b=some (.frz o u)->H' b=some (.frz o u)) (tbls:∀b ps,H b=some (.tbl ps)->∃more,H' b=some (.tbl (ps++more)))
  (ns:∀m,s.heap.Ns X.env.locals m->h'.Ns X.env.locals m) (hok:HOk X.prog X.w H' h') (hg:AllBare g') :
  Inv X pins σ H' {s with heap:=h',gens:=g',drawn:=d',toks:=t'}:=by
 have neL:∀b o,X.s₀.heap.get? b=some o->b≠X.env.locals:=λb o e=>D8 (F0 (C6 e) I.ok.above);have neC:∀b o,X.s₀.heap.get? b=some o->b∉X.ex->b∉ch:=λb o e hx hb=>by
  rcases(hch b hb).1 with z|z
  ·exact hx z
  ·exact absurd (F0 (C6 e) z) (N6 _)
 have cellK:∀x c,X.env.cells.lookup x=some c->∀v,s.heap.IsCell c v->h'.IsCell c v:=λx c e v ⟨o,ho,hd⟩=>by
  have nch:c∉ch:=λz=>(hch c z).2.2.1 x c e rfl;by_cases hc:c∈X.fs
  ·obtain⟨sl,q⟩:=slot c o (I.cne x c e) hc nch ho (I.freeC x c e);exact⟨_,q,hd⟩
  ·exact⟨o,keep c o (I.cne x c e) hc nch ho (I.freeC x c e),hd⟩
 refine⟨I.ok,I.os,hg,⟨λb o e n hb hx=>?_,λb o e n hb hx=>?_,λb o e n hx=>?_,λb o e hx=>?_,λb xs e=>tups b xs (I.base.tups b xs e),λb o xs e=>frzs b o xs (I.base.frzs b o xs e),λb ps e=>?_⟩,?_,λx c e=>?_,?_,λx c e=>?_,λp hp=>?_,hok,I.len⟩
 ·exact keep b o (neL b o e) hb (neC b o e hx) (I.base.keep b o e n hb hx) (I.base.free b o e n hx)
 ·obtain⟨sl,e1⟩:=I.base.slot b o e n hb hx;obtain⟨sl',e2⟩:=slot b _ (neL b o e) hb (neC b o e hx) e1 (I.base.free b o e n hx);exact⟨sl',e2⟩
 ·obtain⟨o',e1⟩:=I.base.there b o e hx;exact free b o' (neC b o e hx) e1 (I.base.free b o e n hx)
 ·obtain⟨o',e1⟩:=I.base.there b o e hx;exact there b o' (neC b o e hx) e1
 ·obtain⟨m1,e1⟩:=I.base.tbls b ps e;obtain⟨m2,e2⟩:=tbls b _ e1;exact⟨m1++m2,by rw[e2,Array.append_assoc]⟩
 ·obtain⟨m,hn,hl⟩:=I.loc;refine⟨m,ns m hn,λi x v e1 e2 e3=>?_⟩;obtain⟨u,r,l⟩:=hl i x v e1 e2 e3;refine⟨u,r,?_⟩;rcases l with l|⟨k,c,e,z⟩
  ·exact .inl l
  ·exact .inr ⟨k,c,e,cellK x c e _ z⟩
 ·obtain⟨v,z⟩:=I.cell x c e;exact⟨v,cellK x c e v z⟩
 ·obtain⟨m,⟨o,_,_,ho,_⟩,_⟩:=I.loc;exact free _ o (λz=>(hch _ z).2.1 rfl) ho I.free
 ·obtain⟨v,o,ho,hd⟩:=I.cell x c e;exact free c o (λz=>(hch c z).2.2.1 x c e rfl) ho (I.freeC x c e)
 ·obtain⟨e,n,ne,nf,d⟩:=I.pin p hp;have nch:p.1∉ch:=λz=>(hch p.1 z).2.2.2 p hp rfl;exact⟨keep p.1 p.2 ne nf nch e n,free p.1 p.2 nch e n,ne,nf,d⟩
theorem Inv.un{t':Nat}(I:Inv X pins σ H s)(u:Un X.fs [] H H' s.heap h')(hok:HOk X.prog X.w H' h'):Inv X pins σ H' {s with heap:=h',toks:=t'}:=by
 obtain⟨m,⟨o,es,ep,ho,r⟩,_⟩:=id I.loc;obtain⟨sl,hL⟩:=u.any ho I.free A5;exact I.step (g':=s.gens) (d':=s.drawn) (ch:=[]) (λ_ z=>nomatch z) (λb o _ hb _ e n=>u.keep b o e n hb A5) (λb o _ hb _ e n=>u.slot b o e n hb A5) (λb o _ e n=>u.free b o e n A5) (λb o _ e=>u.there b o e A5) u.tups u.frzs u.tbls (λm' hm=>by
  obtain⟨o',es',ep',ho',r'⟩:=hm;rw[ho]at ho';cases ho';exact⟨_,es',ep',hL,r'⟩) hok I.bare
theorem Inv.call{g':Array GenState}{t':Nat}{d':Drawn}{ch:List Addr}(I:Inv X pins σ H s)(u:Un (frs X.stack) ch H H' s.heap h')(hok:HOk X.prog X.w H' h')(hg:AllBare g')
  (hch:∀b∈ch,(b∈X.ex\/X.s₀.heap.objs.size<=b)/\b≠X.env.locals/\(∀x c,X.env.cells.lookup x=some c->c≠b)/\∀p∈X.pn++pins,p.1≠b) :
  Inv X pins σ H' {s with heap:=h',gens:=g',drawn:=d',toks:=t'}:=by
 obtain⟨m,⟨o,es,ep,ho,r⟩,_⟩:=id I.loc;obtain⟨sl,hL⟩:=u.any ho I.free λz=>(hch _ z).2.1 rfl;exact I.step (ch:=ch) hch (λb o hL hb hc e n=>u.keep b o e n (λz=>(B9.mp (I.stkSub b z)).elim hL hb) hc) (λb o _ _ hc e n=>u.any e n hc) (λb o hc e n=>u.free b o e n hc) (λb o hc e=>u.there b o e hc) u.tups u.frzs u.tbls (λm' hm=>by
  obtain⟨o',es',ep',ho',r'⟩:=hm;rw[ho]at ho';cases ho';exact⟨_,es',ep',hL,r'⟩) hok hg
theorem Inv.turned{t':Nat}{it:Addr}(I:Inv X pins σ H s)(k:∀b o,b≠it->s.heap.get? b=some o->h'.get? b=some o)(hn:H it=none)(hL:it≠X.env.locals)
  (h1:it∈X.ex\/X.s₀.heap.objs.size<=it) (h2:∀x c,X.env.cells.lookup x=some c->c≠it) (h3:∀p∈X.pn++pins,p.1≠it):Inv X pins σ H {s with heap:=h',toks:=t'}:=by
 have nit:∀b u,H b=some u->b≠it:=λb u e z=>by rw[z,hn]at e;cases e
 refine I.step (g':=s.gens) (d':=s.drawn) (ch:=[it]) (λb hb=>?_) (λb o _ _ hc e _=>k b o (λz=>hc (by simp[z])) e) (λb o _ _ hc e _=>⟨o.slots,k b o (λz=>hc (by simp[z])) e⟩) (λ_ _ _ _ n=>n)
  (λb o hc e=>⟨o,k b o (λz=>hc (by simp[z])) e⟩) (λ_ _ e=>e) (λ_ _ _ e=>e) (λb ps e=>⟨#[],by rw[e];simp⟩) (λm hm=>?_) (λb u e=>?_) I.bare
 ·have e:b=it:=by simpa using hb
  subst e;exact⟨h1,hL,h2,h3⟩
 ·obtain⟨o,es,ep,ho,r⟩:=hm;exact⟨o,es,ep,k _ o (Z4 hL) ho,r⟩
 ·refine(I.hok b u e).stay (λc v hc q=>k c v ?_ q) (λ_ q=>q) λ_ _ q=>q;rcases hc with z|z
  ·rw[z];exact nit b u e
  ·exact nit c _ z
theorem Inv.tok(I:Inv X pins σ H s)(t:Nat):Inv X pins σ H {s with toks:=t}:=I.un (h':=s.heap) (t':=t) Un.refl I.hok
theorem Inv.kept{t':Nat}(I:Inv X pins σ H s)(k:∀b u,s.heap.get? b=some u->h'.get? b=some u):Inv X pins σ H {s with heap:=h',toks:=t'}:=I.un (Un.kept k) (I.hok.kept k)
theorem Inv.laid{a:Addr}{o:HO}{t':Nat}(I:Inv X pins σ H s)(k:∀b u,s.heap.get? b=some u->h'.get? b=some u)(hp:s.heap.objs.size<=a)(new:Be X.prog X.w (upd H a o) h' a o) :
  Inv X pins σ (upd H a o) {s with heap:=h',toks:=t'}:=I.un (Un.laid k hp (I.hok.fresh hp)) (I.hok.laid k hp new)
theorem Inv.write{x e:Addr}{o:HO}{t':Nat}(I:Inv X pins σ H s)(mu:Mut (H x))(he:e=x\/H e=some (.own x))(k:∀b u,b≠e->s.heap.get? b=some u->h'.get? b=some u)(heo:∃u,h'.get? e=some u)
  (new:Be X.prog X.w (upd H x o) h' x o):Inv X pins σ (upd H x o) {s with heap:=h',toks:=t'}:=I.un (Un.write mu he k heo) (I.hok.write mu he k heo new)
theorem Inv.weak{σ':List (Option V)}(I:Inv X pins σ H s)(hl:σ'.length=σ.length)(w:∀(i:Nat) v,σ'[i]?=some (some v)->σ[i]?=some (some v)):Inv X pins σ' H s :=
 ⟨I.ok,I.os,I.bare,I.base,let ⟨m,hn,hl'⟩:=I.loc;⟨m,hn,λi x v e1 e2 e3=>hl' i x v e1 (w i v e2) e3⟩,I.cell,I.free,I.freeC,I.pin,I.hok,hl.trans I.len⟩
theorem Inv.pins_of{pins':List (Addr×Obj)}(I:Inv X pins σ H s)(h:∀p∈pins',s.heap.get? p.1=some p.2/\H p.1=none/\p.1≠X.env.locals/\p.1∉X.fs/\∀v,p.2.data≠.cell v):Inv X pins' σ H s :=
 ⟨I.ok,I.os,I.bare,I.base,I.loc,I.cell,I.free,I.freeC,λp hp=>(C8.mp hp).elim (λz=>I.pin p (L8 _ z)) (h p),I.hok,I.len⟩
theorem PY{N:List Str}(hN:N.Nodup){i j:Nat}{x:Str}(a:N[i]?=some x)(b:N[j]?=some x):i=j:=by
 obtain⟨h1,e1⟩:=B7.mp a;obtain⟨h2,e2⟩:=B7.mp b;exact(List.getElem_inj hN).mp (e1.trans e2.symm)
theorem NG{M:Model}{A:Around}{E:Value->Shared->Prop}{i:Nat}{x:Str}{v:V}{u:Value}{Q:Unit->Shared->Prop}(I:Inv X pins σ H s)(hN:X.N.Nodup)(hi:X.N[i]?=some x)(hx:Loc X.env.scope x)(r:AX v u)
  (h:∀s',Inv X pins (σ.set i (some v)) H s'->(∃a,Heap.SameBut a s.heap s'.heap/\(a=X.env.locals\/X.env.cells.lookup x=some a))->Q () s') (hf:X.fn x=true\/X.env.scope.names.lookup x=some .local:=by first|exact .inl rfl|exact .inr rfl|assumption):wpAny M A (storeName X.env x u) Q E s:=by
 obtain⟨m,hn,hl⟩:=id I.loc;have hcls:(X.env.scope.kind==.class || (X.env.scope.kind==.module && X.env.locals != X.env.globals))=false:=by rw[I.ok.kind];rfl
 have hiσ:i<σ.length:=by rw[I.len];exact(B7.mp hi).1
 have cne:=I.cne;have tracked:∀{a:Addr}{h':Heap},(∃o,s.heap.get? a=some o/\H a=none)->Heap.SameBut a s.heap h'->HOk X.prog X.w H h':=λ{a h'} ha hs b ob e=>by
  obtain⟨_,_,hfree⟩:=ha;refine(I.hok b ob e).stay (λc w' hc q=>(hs.2 c ?_).trans q) (λ_ q=>q) λ_ _ q=>q;rintro rfl;rcases hc with rfl|hc
  ·rw[hfree]at e;cases e
  ·rw[hfree]at hc;cases hc
 rcases hx with hk|hk
 ·refine wpAny_storeName_local hk hn (λh' hn' hs=>?_) hcls;obtain⟨oL,_,_,hoL,_⟩:=id hn;refine h _ ⟨I.ok,I.os,I.bare,⟨λb o e n hb hx=>?_,λb o e n hb hx=>?_,I.base.free,λb o e hx=>?_,I.base.tups,I.base.frzs,I.base.tbls⟩,⟨_,hn',λj y v' e1 e2 e3=>?_⟩,λy c e=>?_,I.free,I.freeC,λp hp=>?_,tracked ⟨oL,hoL,I.free⟩ hs,by simpa using I.len⟩ ⟨_,hs,.inl rfl⟩
  ·exact(hs.2 b (D8 (F0 (C6 e) I.ok.above))).trans (I.base.keep b o e n hb hx)
  ·obtain⟨sl,e1⟩:=I.base.slot b o e n hb hx;exact⟨sl,(hs.2 b (D8 (F0 (C6 e) I.ok.above))).trans e1⟩
  ·obtain⟨o',e1⟩:=I.base.there b o e hx;exact⟨o',(hs.2 b (D8 (F0 (C6 e) I.ok.above))).trans e1⟩
  ·by_cases hj:j=i
   ·subst hj;rw[hi]at e1;cases e1;rw[List.getElem?_set_self hiσ]at e2;cases e2;exact⟨u,r,.inl ⟨hk,by simp⟩⟩
   ·rw[List.getElem?_set_ne (Z4 hj)]at e2;obtain⟨u',r',q⟩:=hl j y v' e1 e2 e3;refine⟨u',r',?_⟩;rcases q with ⟨k,e⟩|⟨k,c,e,z⟩
    ·refine .inl ⟨k,?_⟩;have:y≠x:=λe=>hj (PY hN e1 (e▸hi));simp[this,e]
    ·exact .inr ⟨k,c,e,z.sameBut hs (cne y c e)⟩
  ·obtain⟨w',z⟩:=I.cell y c e;exact⟨w',z.sameBut hs (cne y c e)⟩
  ·obtain⟨e,n,ne,nf,d⟩:=I.pin p hp;exact⟨(hs.2 p.1 ne).trans e,n,ne,nf,d⟩
 ·have hfn:X.fn x=true:=by
   rcases hf with z|z
   ·exact z
   ·rw[z]at hk;cases hk
  obtain⟨c,hc⟩:=I.ok.has x (.inl hk);obtain⟨w',z⟩:=I.cell x c hc;refine wpAny_storeName_cell I.ok.kind hk hc z (λh' hc' hs=>?_);obtain⟨oc,hoc,hocd⟩:=id z;refine h {s with heap:=h'} ⟨I.ok,I.os,I.bare,⟨λb o e n hb hx=>?_,λb o e n hb hx=>?_,I.base.free,λb o e hx=>?_,I.base.tups,I.base.frzs,I.base.tbls⟩,⟨m,hn.sameBut hs (Z4 (cne x c hc)),λj y v' e1 e2 e3=>?_⟩,λy c' e=>?_,I.free,I.freeC,λp hp=>?_,tracked ⟨oc,hoc,I.freeC x c hc⟩ hs,by simpa using I.len⟩ ⟨c,hs,.inr hc⟩
  ·exact(hs.2 b (D8 (F0 (C6 e) (I.ok.cab x c hfn hc)))).trans (I.base.keep b o e n hb hx)
  ·obtain⟨sl,e1⟩:=I.base.slot b o e n hb hx;exact⟨sl,(hs.2 b (D8 (F0 (C6 e) (I.ok.cab x c hfn hc)))).trans e1⟩
  ·obtain⟨o',e1⟩:=I.base.there b o e hx;exact⟨o',(hs.2 b (D8 (F0 (C6 e) (I.ok.cab x c hfn hc)))).trans e1⟩
  ·by_cases hj:j=i
   ·subst hj;rw[hi]at e1;cases e1;rw[List.getElem?_set_self hiσ]at e2;cases e2;exact⟨u,r,.inr ⟨.inl hk,c,hc,hc'⟩⟩
   ·rw[List.getElem?_set_ne (Z4 hj)]at e2;obtain⟨u',r',q⟩:=hl j y v' e1 e2 e3;refine⟨u',r',?_⟩;rcases q with q|⟨k,c',e,z'⟩
    ·exact .inl q
    ·refine .inr ⟨k,c',e,z'.sameBut hs ?_⟩;rintro rfl;exact hj (PY hN e1 (I.ok.inj _ _ _ e hc▸hi))
  ·by_cases hcc:c'=c
   ·subst hcc;exact⟨_,hc'⟩
   ·obtain⟨w2,z2⟩:=I.cell y c' e;exact⟨w2,z2.sameBut hs hcc⟩
  ·obtain⟨e,n,ne,nf,d⟩:=I.pin p hp;refine⟨(hs.2 p.1 ?_).trans e,n,ne,nf,d⟩;intro q;rw[q,hoc]at e;have q':oc=p.2:=Y5 e;exact d w' (by rw[<-q'];exact hocd)
theorem Pu{M:Model}{A:Around}{E:Value->Shared->Prop}{i:Nat}{x:Str}{v:V}{u:Value}{Q:Unit->Shared->Prop}(I:Inv X pins σ H s)(hN:X.N.Nodup)(hi:X.N[i]?=some x)(hx:Loc X.env.scope x)(r:AX v u)
  (h:∀s',Inv X pins (σ.set i (some v)) H s'->Q () s') (hf:X.fn x=true\/X.env.scope.names.lookup x=some .local:=by first|exact .inl rfl|exact .inr rfl|assumption):wpAny M A (storeName X.env x u) Q E s :=
 NG I hN hi hx r (λs' I' _=>h s' I') hf
theorem Inv.call'{s':Shared}{ch:List Addr}(I:Inv X pins σ H s)(ho:s'.os=s.os)(u:Un (frs X.stack) ch H H' s.heap s'.heap)(hok:HOk X.prog X.w H' s'.heap)(hg:AllBare s'.gens)
  (hch:∀b∈ch,(b∈X.ex\/X.s₀.heap.objs.size<=b)/\b≠X.env.locals/\(∀x c,X.env.cells.lookup x=some c->c≠b)/\∀p∈X.pn++pins,p.1≠b):Inv X pins σ H' s':=by
 obtain⟨h',g',d',t',o'⟩:=s';have e:o'=s.os:=ho;subst e;exact I.call (g':=g') (t':=t') (d':=d') u hok hg hch
end
abbrev XK:=Value->Option Addr->Hp->Prop
abbrev St:=List (Option V)
abbrev VK:=V->Hp->Prop
abbrev TE:=St->Hp->VK->Prop
abbrev TT:=St->Hp->(Bool->Hp->Prop)->Prop
abbrev TA:=St->Hp->(List V->Hp->Prop)->Prop
structure JT where
 nx:St->Hp->Prop
 rt:VK
 bk:St->Hp->Prop:=λ_ _=>False
 ct:St->Hp->Prop:=λ_ _=>False
abbrev TS:=JT->St->Hp->Prop
def EP(X:Cx)(pins:List (Addr×Obj))(σ:St)(Q:VK)(u:Value)(s':Shared):Prop:=∃v H',Inv X pins σ H' s'/\AX v u/\Q v H'
def TP(X:Cx)(pins:List (Addr×Obj))(σ:St)(Q:Bool->Hp->Prop)(b:Bool)(s':Shared):Prop:=∃H',Inv X pins σ H' s'/\Q b H'
def AP(X:Cx)(pins:List (Addr×Obj))(σ:St)(Q:List V->Hp->Prop)(us:List Value)(s':Shared):Prop:=∃vs H',Inv X pins σ H' s'/\AH vs us/\Q vs H'
def SP(X:Cx)(pins:List (Addr×Obj))(D:JT)(f:Flow)(s':Shared):Prop :=
 match f with
 |.next=>∃σ' H',Inv X pins σ' H' s'/\D.nx σ' H'
 |.brk=>∃σ' H',Inv X pins σ' H' s'/\D.bk σ' H'
 |.cont=>∃σ' H',Inv X pins σ' H' s'/\D.ct σ' H'
 |.ret u=>∃v σ' H',Inv X pins σ' H' s'/\AX v u/\D.rt v H'
def PE(X:Cx)(e:Expr)(t:TE):Prop :=
 ∀(pins:List (Addr×Obj))(s:Shared)(σ:St)(H:Hp)(Q:VK),Inv X pins σ H s->t σ H Q->wpAny (model X.prog X.w) X.A (eval e X.env) (EP X pins σ Q) X.xe s
def PT(X:Cx)(e:Expr)(t:TT):Prop :=
 ∀(pins:List (Addr×Obj))(s:Shared)(σ:St)(H:Hp)(Q:Bool->Hp->Prop),Inv X pins σ H s->t σ H Q->wpAny (model X.prog X.w) X.A (isTrue e X.env (eval e X.env)) (TP X pins σ Q) X.xe s
def PW(X:Cx)(e:Expr)(t:TT):Prop :=
 ∀(whole:Sem Value)(pins:List (Addr×Obj))(s:Shared)(σ:St)(H:Hp)(Q:Bool->Hp->Prop),Inv X pins σ H s->t σ H Q->wpAny (model X.prog X.w) X.A (isTrue e X.env whole) (TP X pins σ Q) X.xe s
theorem PW.pt{X:Cx}{e:Expr}{t:TT}(h:PW X e t):PT X e t:=h _
def PA(X:Cx)(es:List Expr)(t:TA):Prop :=
 ∀(pos:Pos)(pins:List (Addr×Obj))(s:Shared)(σ:St)(H:Hp)(Q:List V->Hp->Prop),Inv X pins σ H s->t σ H Q->wpAny (model X.prog X.w) X.A (spliced (backTo pos (starEach es X.env))) (AP X pins σ Q) X.xe s
def PS(X:Cx)(st:Stmt)(t:TS):Prop :=
 ∀(pins:List (Addr×Obj))(s:Shared)(σ:St)(H:Hp)(D:JT),Inv X pins σ H s->t D σ H->wpAny (model X.prog X.w) X.A (exec st X.env) (SP X pins D) X.xe s
def PSs(X:Cx)(st:List Stmt)(t:TS):Prop :=
 ∀(pins:List (Addr×Obj))(s:Shared)(σ:St)(H:Hp)(D:JT),Inv X pins σ H s->t D σ H->wpAny (model X.prog X.w) X.A (execs st X.env) (SP X pins D) X.xe s
theorem thn{α:Type}{t:Sem α}{Q Q':α->Shared->Prop}{M:Model}{A:Around}{E:Value->Shared->Prop}{s:Shared}(h:wpAny M A t Q E s)(hQ:∀a s,Q a s->Q' a s):wpAny M A t Q' E s:=X4 h hQ λ_ _ x=>x
section
variable{X:Cx}
def Pt(i:Nat):TE:=fun σ H Q=>∃v,σ[i]?=some (some v)/\Q v H
def tC(v:V):TE:=λ_ H Q=>Q v H
theorem pe_var{i:Nat}{x:Str}{pos:Pos}(hN:X.N[i]?=some x)(hv:Vis X.env.scope x)(hd:(x==("__debug__" : Str))=false:=by decide)(hcd:(x==("__classdict__" : Str))=false:=by decide):PE X (.Name x pos) (Pt i):=by
 intro pins s σ H Q I h;obtain⟨v,e,h⟩:=h;obtain⟨m,hn,hl⟩:=I.loc;obtain⟨u,r,l⟩:=hl i x v hN e hv;have fin:EP X pins σ Q u s:=⟨v,H,I,r,h⟩
 rcases l with ⟨hk,hm⟩|⟨hk,c,hc,hcell⟩
 ·exact wpAny_Name (wpAny_loadName_local I.ok.kind hk hn hm fin) hd
 ·rcases hk with hk|hk
  ·exact wpAny_Name (wpAny_loadName_cell I.ok.kind hk hc hcell fin) hd
  ·exact wpAny_Name (wpAny_loadName_free I.ok.kind hk hc hcell fin hcd) hd
theorem Af{i j pos}:PE X (.Constant (.int i) j pos) (tC (.int i)):=λ_ _ _ H _ I h=>wpAny_Constant_int ⟨.int i,H,I.tok _,⟨_,rfl⟩,h⟩
theorem Sr{b j pos}:PE X (.Constant (.bool b) j pos) (tC (.bl b)):=λ_ _ _ H _ I h=>Constant_bool ⟨.bl b,H,I,rfl,h⟩
theorem Gp{j pos}:PE X (.Constant .none j pos) (tC .non):=λ_ _ _ H _ I h=>Constant_none ⟨.non,H,I,rfl,h⟩
theorem BM{x j pos}:PE X (.Constant (.str x) j pos) (tC (.str x)):=λ_ _ _ H _ I h=>Calls.Constant_str ⟨.str x,H,I.tok _,⟨_,rfl⟩,h⟩
def Gl(X:Cx)(x:Str):Prop:=X.env.kindOf x=some .globalImplicit
theorem LK{E:Value->Shared->Prop}{pins:List (Addr×Obj)}{s:Shared}{σ:St}{H:Hp}{x:Str}{u:Value}{pos:Pos}{Q:Value->Shared->Prop}(I:Inv X pins σ H s)(hg:Gl X x)(hm:X.mg x=some u)(h:Q u s)
  (hd:(x==("__debug__" : Str))=false:=by decide):wpAny (model X.prog X.w) X.A (eval (.Name x pos) X.env) Q E s :=
 Calls.Name_function_global I.ok.kind hg (Calls.loadGlobal_global (by rw[I.ok.glob];exact I.mod.glob.keeps I.bk) hm h) hd
theorem IA{E:Value->Shared->Prop}{pins:List (Addr×Obj)}{s:Shared}{σ:St}{H:Hp}{x:Str}{u:Value}{pos:Pos}{Q:Value->Shared->Prop}(I:Inv X pins σ H s)(hg:Gl X x)(hm:X.mg x=none)(hv:bootBuiltins x=some u)(h:Q u s)
  (hn:x≠"__name__" := by decide) (hd:(x==("__debug__" : Str))=false:=by decide):wpAny (model X.prog X.w) X.A (eval (.Name x pos) X.env) Q E s:=by
 obtain⟨mb,h1,h2⟩:=I.mod.blt;exact Calls.Name_function_global I.ok.kind hg (Calls.loadGlobal_builtin (by rw[I.ok.glob];exact I.mod.glob.keeps I.bk) hm (by rw[I.ok.blt];exact h1.keeps I.bk) ((h2 x hn).trans hv) h) hd
theorem OC{x:Str}{v:V}{u:Value}{pos:Pos}(hg:Gl X x)(hm:X.mg x=some u)(r:AX v u)(hd:(x==("__debug__" : Str))=false:=by decide):PE X (.Name x pos) (tC v) :=
 λ_ _ _ H _ I h=>LK I hg hm ⟨v,H,I,r,h⟩ hd
theorem GN{x:Str}{v:V}{u:Value}{pos:Pos}(hg:Gl X x)(hm:X.mg x=none)(hv:bootBuiltins x=some u)(r:AX v u)(hn:x≠"__name__" := by decide)(hd:(x==("__debug__" : Str))=false:=by decide):PE X (.Name x pos) (tC v) :=
 λ_ _ _ H _ I h=>IA I hg hm hv ⟨v,H,I,r,h⟩ hn hd
variable{a b:Expr}{ta tb:TE}{pos:Pos}
def tB(t:TE):TT:=fun σ H Q=>t σ H λx H1=>∃c,x=.bl c/\Q c H1
theorem Cm{e:Expr}{t:TE}(h:PE X e t)(he:∀whole,isTrue e X.env whole=(do let v <-whole;standAt e.pos;holding [v] (truthy v)):=by intro _;rfl):PT X e (tB t):=by
 intro pins s σ H Q I hw;refine isTrue_plain (thn (h pins s σ H _ I hw) λv s1 ⟨x,H1,I1,r1,q1⟩=>?_) (he _);obtain⟨d,rfl,q⟩:=q1;cases r1;exact X7 ⟨H1,I1,q⟩
variable{tA tB':TT}{rest:List Expr}
def tAnd(t u:TT):TT:=fun σ H Q=>t σ H λc H1=>if c=true then u σ H1 Q else Q false H1
def tOr(t u:TT):TT:=fun σ H Q=>t σ H λc H1=>if c=true then Q true H1 else u σ H1 Q
def tNot(t:TT):TT:=fun σ H Q=>t σ H λc H1=>Q (!c) H1
theorem IQ(ha:PT X a tA):PW X (.BoolOp .And [a] pos) tA:=by
 intro wh pins s σ H Q I h;refine isTrue_and (thn (ha pins s σ H Q I h) λc s1 e=>?_);cases c with
 |true=>exact isTrue_and_nil e
 |false=>exact e
theorem EZ(ha:PT X a tA):PW X (.BoolOp .Or [a] pos) tA:=by
 intro wh pins s σ H Q I h;refine isTrue_or (thn (ha pins s σ H Q I h) λc s1 e=>?_);cases c with
 |false=>exact isTrue_or_nil e
 |true=>exact e
theorem Ms(ha:PT X a tA)(hb:PW X (.BoolOp .And (b::rest) pos) tB'):PW X (.BoolOp .And (a::b::rest) pos) (tAnd tA tB'):=by
 intro wh pins s σ H Q I h;refine isTrue_and (thn (ha pins s σ H _ I h) λc s1 ⟨H1,I1,q1⟩=>?_);cases c with
 |true=>exact hb wh pins s1 σ H1 Q I1 q1
 |false=>exact⟨H1,I1,q1⟩
theorem Fn(ha:PT X a tA)(hb:PW X (.BoolOp .Or (b::rest) pos) tB'):PW X (.BoolOp .Or (a::b::rest) pos) (tOr tA tB'):=by
 intro wh pins s σ H Q I h;refine isTrue_or (thn (ha pins s σ H _ I h) λc s1 ⟨H1,I1,q1⟩=>?_);cases c with
 |true=>exact⟨H1,I1,q1⟩
 |false=>exact hb wh pins s1 σ H1 Q I1 q1
theorem CG(ha:PT X a tA):PT X (.UnaryOp .Not a pos) (tNot tA):=by
 intro pins s σ H Q I h;exact isTrue_not (ha pins s σ H (λc H1=>Q (!c) H1) I h)
def tAndV(ta tb:TE):TE:=fun σ H Q=>ta σ H λx H1=>∃c,x=.bl c/\if c=true then tb σ H1 Q else Q (.bl false) H1
def tNotV(ta:TE):TE:=fun σ H Q=>ta σ H λx H1=>∃c,x=.bl c/\Q (.bl (!c)) H1
theorem OB{op}{t:TE}(h:PE X a t):PE X (.BoolOp op [a] pos) t:=λpins s σ H Q I hw=>BoolOp_one (h pins s σ H Q I hw)
theorem Jz(ha:PE X a ta)(hb:PE X (.BoolOp .And (b::rest) pos) tb):PE X (.BoolOp .And (a::b::rest) pos) (tAndV ta tb):=by
 intro pins s σ H Q I h;refine BoolOp_and (thn (ha pins s σ H _ I h) λv s1 ⟨x,H1,I1,r1,q1⟩=>?_);obtain⟨c,rfl,q1⟩:=q1;cases r1;refine X7 ?_;cases c with
 |true=>exact hb pins s1 σ H1 Q I1 q1
 |false=>exact⟨.bl false,H1,I1,rfl,q1⟩
theorem pe_not(ha:PE X a ta):PE X (.UnaryOp .Not a pos) (tNotV ta):=by
 intro pins s σ H Q I h;refine UnaryOp_ (thn (ha pins s σ H _ I h) λv s1 ⟨x,H1,I1,r1,q1⟩=>?_);obtain⟨c,rfl,q1⟩:=q1;cases r1;exact not_of (X7 ⟨.bl (!c),H1,I1,rfl,q1⟩)
end
def SqL(K:PySem.W.Frag)(H:Hp)(a:Addr)(xs:List V):Prop :=
 Rd H a (.lst xs) \/
  ∃(o:Obj)(its:Array Value)(n:Nat),K.lookup a=some o/\o.cls=.type "list" /\ o.dict=none/\o.data=.seq its n/\its.size<=sizeLine/\AH xs its.toList
def SqT(K:PySem.W.Frag)(H:Hp)(a:Addr)(xs:List V):Prop :=
 Rd H a (.tup xs) \/
  ∃(o:Obj)(its:Array Value)(n:Nat),K.lookup a=some o/\o.cls=.type "tuple" /\ o.data=.seq its n/\its.size<=sizeLine/\AH xs its.toList
def absV:Value->Option V
 |.none=>some .non
 |.bool b=>some (.bl b)
 |.int i _=>some (.int i)
 |.str x _=>some (.str x)
 |.bytes b _=>some (.byt b)
 |.float b _=>some (.flt b)
 |.ref a=>some (.ref a)
 |.type n=>some (.ty n)
 |_=>none
theorem AX.abs{x:V}{u:Value}(r:AX x u):absV u=some x:=by
 cases x with
 |non=>cases r;rfl
 |bl _=>cases r;rfl
 |int _=>obtain⟨t,rfl⟩:=r;rfl
 |str _=>obtain⟨t,rfl⟩:=r;rfl
 |byt _=>obtain⟨t,rfl⟩:=r;rfl
 |flt _=>obtain⟨t,rfl⟩:=r;rfl
 |ref _=>cases r;rfl
 |ty _=>cases r;rfl
theorem AX.inj{x y:V}{u:Value}(r:AX x u)(q:AX y u):x=y:=Y5 (r.abs.symm.trans q.abs)
theorem AH.inj:∀{xs ys:List V}{us:List Value},AH xs us->AH ys us->xs=ys
 |_,_,_,.nil,.nil=>rfl
 |_,_,_,.cons r t,.cons r' t'=>by rw[r.inj r',AH.inj t t']
section
variable{X:Cx}{pins:List (Addr×Obj)}{σ:St}{H:Hp}{s:Shared}{a:Addr}{xs ys:List V}
theorem SqL.of{K:PySem.W.Frag}(h:H a=some (.lst xs)):SqL K H a xs:=.inl (.inl h)
theorem SqT.of{K:PySem.W.Frag}(h:H a=some (.tup xs)):SqT K H a xs:=.inl (.inl h)
theorem Inv.list(I:Inv X pins σ H s)(h:SqL X.K H a xs):∃its:List Value,AH xs its/\PlainL s.heap a its.toArray/\xs.length<=sizeLine:=by
 rcases h with h|⟨o,its,n,hk,hc,hd,hs,hz,r⟩
 ·obtain⟨z,its,n,r,e⟩:=h.ok I.hok;exact⟨its,r,⟨_,n,e,rfl,rfl,rfl⟩,z⟩
 ·refine⟨its.toList,r,⟨o,n,I.kIn a o hk,hc,hd,by simpa using hs⟩,?_⟩;have e:=r.length;simp only[F9]at e;lia
theorem Inv.tuple(I:Inv X pins σ H s)(h:SqT X.K H a xs):∃its:List Value,AH xs its/\IsTup s.heap a its.toArray/\xs.length<=sizeLine:=by
 rcases h with h|⟨o,its,n,hk,hc,hs,hz,r⟩
 ·obtain⟨z,its,r,p⟩:=h.ok I.hok;exact⟨its,r,p,z⟩
 ·refine⟨its.toList,r,⟨o,I.kIn a o hk,hc,n,by simpa using hs⟩,?_⟩;have e:=r.length;simp only[F9]at e;lia
theorem Inv.list_inj(I:Inv X pins σ H s)(h:SqL X.K H a xs)(h':SqL X.K H a ys):xs=ys:=by
 obtain⟨its,r,⟨o,n,e,_,_,d⟩,_⟩:=I.list h;obtain⟨its',r',⟨o',n',e',_,_,d'⟩,_⟩:=I.list h';rw[e]at e';cases e';rw[d]at d';injection d' with d1 _
 have:its=its':=by simpa using Z5 Array.toList d1
 subst this;exact r.inj r'
theorem Inv.tuple_inj(I:Inv X pins σ H s)(h:SqT X.K H a xs)(h':SqT X.K H a ys):xs=ys:=by
 obtain⟨its,r,⟨o,e,_,n,d⟩,_⟩:=I.tuple h;obtain⟨its',r',⟨o',e',_,n',d'⟩,_⟩:=I.tuple h';rw[e]at e';cases e';rw[d]at d';injection d' with d1 _
 have:its=its':=by simpa using Z5 Array.toList d1
 subst this;exact r.inj r'
end
abbrev Cx.wish(X:Cx)(E:Value->Shared->Prop):Cx:={X with xe:=E}
abbrev Cx.nox(X:Cx):Cx:=X.wish λ_ _=>False
theorem Cx.Ok.wish{X:Cx}(ok:X.Ok)(E:Value->Shared->Prop):(X.wish E).Ok :=
 ⟨ok.mod,ok.kind,ok.glob,ok.blt,ok.above,ok.inj,ok.has,ok.cab,ok.hd,ok.frames,ok.stk,ok.exf,ok.bs,ok.bsz,ok.noex,ok.exfs,ok.funs,ok.frf⟩
theorem Cx.Ok.unwish{X:Cx}{E:Value->Shared->Prop}(ok:(X.wish E).Ok):X.Ok :=
 ⟨ok.mod,ok.kind,ok.glob,ok.blt,ok.above,ok.inj,ok.has,ok.cab,ok.hd,ok.frames,ok.stk,ok.exf,ok.bs,ok.bsz,ok.noex,ok.exfs,ok.funs,ok.frf⟩
section
variable{X:Cx}{pins:List (Addr×Obj)}{σ:St}{H:Hp}{s:Shared}{E:Value->Shared->Prop}
theorem Inv.wish(I:Inv X pins σ H s)(E:Value->Shared->Prop):Inv (X.wish E) pins σ H s:=⟨I.ok.wish E,I.os,I.bare,I.base,I.loc,I.cell,I.free,I.freeC,I.pin,I.hok,I.len⟩
theorem Inv.unwish(I:Inv (X.wish E) pins σ H s):Inv X pins σ H s:=⟨I.ok.unwish,I.os,I.bare,I.base,I.loc,I.cell,I.free,I.freeC,I.pin,I.hok,I.len⟩
theorem SP.unwish{D:JT}{f:Flow}{s':Shared}(h:SP (X.wish E) pins D f s'):SP X pins D f s':=by
 cases f with
 |next=>obtain⟨σ',H',I,q⟩:=h;exact⟨σ',H',I.unwish,q⟩
 |brk=>obtain⟨σ',H',I,q⟩:=h;exact⟨σ',H',I.unwish,q⟩
 |cont=>obtain⟨σ',H',I,q⟩:=h;exact⟨σ',H',I.unwish,q⟩
 |ret u=>obtain⟨v,σ',H',I,r,q⟩:=h;exact⟨v,σ',H',I.unwish,r,q⟩
theorem PSs.nox{st:List Stmt}{t:TS}(h:PSs X.nox st t):PSs X st t:=λpins s σ H D I hw =>
 X4 (h pins s σ H D (I.wish _) hw) (λ_ _ q=>q.unwish) λ_ _ z=>False.elim z
end
section
variable{X:Cx}{st:Stmt}{rest:List Stmt}{t u:TS}{e:Expr}{te:TE}{pos:Pos}
def tNext:TS:=λD σ H=>D.nx σ H
def UC(t u:TS):TS:=λD σ H=>t {D with nx:=u D} σ H
theorem Ax:PSs X [] tNext:=λ_ _ σ H _ I h=>A3g ⟨σ,H,I,h⟩
theorem Ab(h1:PS X st t)(h2:PSs X rest u):PSs X (st::rest) (UC t u):=by
 intro pins s σ H D I h;refine wpAny_execs_cons (thn (h1 pins s σ H {D with nx:=u D} I h) λf s1 q=>?_);cases f with
 |next =>
  obtain⟨σ',H',I',q⟩:=q;exact h2 pins s1 σ' H' D I' q
 |ret v=>exact q
 |brk=>exact q
 |cont=>exact q
theorem Ae(h1:PS X st t):PSs X [st] t:=by
 intro pins s σ H D I h;refine wpAny_execs_cons (thn (h1 pins s σ H D I h) λf s1 q=>?_);cases f with
 |next=>exact A3g q
 |ret v=>exact q
 |brk=>exact q
 |cont=>exact q
theorem Inv.quiet{pins:List (Addr×Obj)}{σ:St}{H:Hp}{s:Shared}(I:Inv X pins σ H s):interactive X.env=false:=by simp[interactive,I.ok.kind]
def tDrop(te:TE):TS:=λD σ H=>te σ H λ_ H1=>D.nx σ H1
theorem Bj(he:PE X e te)(hs:swapsWith e none pos.line X.env=pure false:=by rfl):PS X (.Expr e pos) (tDrop te):=by
 intro pins s σ H D I h;exact wpAny_Expr_any (thn (he pins s σ H _ I h) λv s1 ⟨x,H1,I1,r1,q1⟩=>⟨σ,H1,I1,q1⟩) I.quiet hs
def tRet(te:TE):TS:=λD σ H=>te σ H D.rt
theorem At(he:PE X e te):PS X (.Return (some e) pos) (tRet te):=by
 intro pins s σ H D I h;exact wpAny_Return_some (thn (he pins s σ H _ I h) λv s1 ⟨x,H1,I1,r1,q1⟩=>⟨x,σ,H1,I1,r1,q1⟩)
def tRetN:TS:=λD _ H=>D.rt .non H
theorem Sm:PS X (.Return none pos) tRetN:=λ_ _ σ H _ I h=>wpAny_Return_none ⟨.non,σ,H,I,rfl,h⟩
def tIfS(c:TT)(t u:TS):TS:=λD σ H=>c σ H λb H1=>if b=true then t D σ H1 else u D σ H1
theorem AE{c:Expr}{a b:List Stmt}{tc:TT}(hc:PT X c tc)(ha:PSs X a t)(hb:PSs X b u):PS X (.If c a b pos) (tIfS tc t u):=by
 intro pins s σ H D I h;refine wpAny_If (thn (hc pins s σ H _ I h) λd s1 ⟨H1,I1,q1⟩=>?_);cases d with
 |true=>exact ha pins s1 σ H1 D I1 q1
 |false=>exact hb pins s1 σ H1 D I1 q1
def tNever:TS:=λ_ _ _=>False
theorem AZ:PS X st tNever:=λ_ _ _ _ _ _ h=>h.elim
end
abbrev TG:=V->St->Hp->(St->Hp->Prop)->Prop
abbrev TGs:=List V->St->Hp->(St->Hp->Prop)->Prop
def PG(X:Cx)(target:Expr)(t:TG):Prop :=
 ∀(pins:List (Addr×Obj))(s:Shared)(σ:St)(H:Hp)(v:V)(u:Value)(Q:St->Hp->Prop),Inv X pins σ H s->AX v u->t v σ H Q ->
  wpAny (model X.prog X.w) X.A (assign target X.env u) (λ_ s'=>∃σ' H',Inv X pins σ' H' s'/\Q σ' H') X.xe s
def PGs(X:Cx)(ts:List Expr)(t:TGs):Prop :=
 ∀(pins:List (Addr×Obj))(s:Shared)(σ:St)(H:Hp)(vs:List V)(us:List Value)(Q:St->Hp->Prop),Inv X pins σ H s->AH vs us->t vs σ H Q ->
  wpAny (model X.prog X.w) X.A (assignInOrder ((assignEach ts X.env).map (·.2)) us) (λ_ s'=>∃σ' H',Inv X pins σ' H' s'/\Q σ' H') X.xe s
abbrev TSet:=V->V->V->Hp->(Hp->Prop)->Prop
def PSet(X:Cx)(t:TSet):Prop :=
 ∀(pins:List (Addr×Obj))(s:Shared)(σ:St)(H:Hp)(o i v:V)(ov iv u:Value)(Q:Hp->Prop),Inv X pins σ H s->AX o ov->AX i iv->AX v u->t o i v H Q ->
  wpAny (model X.prog X.w) X.A (setItem ov iv u) (λ_ s'=>∃H',Inv X pins σ H' s'/\Q H') X.xe s
section
variable{X:Cx}{pos:Pos}
def Ie(i:Nat):TG:=λv σ H Q=>Q (σ.set i (some v)) H
theorem AF{i:Nat}{x:Str}(hN:X.N.Nodup)(hi:X.N[i]?=some x)(hx:Loc X.env.scope x)(hf:X.fn x=true\/X.env.scope.names.lookup x=some .local:=by first|exact .inl rfl|exact .inr rfl|assumption):PG X (.Name x pos) (Ie i):=by
 intro pins s σ H v u Q I r h;exact wpAny_assign_Name (Pu I hN hi hx r (λs' I'=>⟨_,H,I',h⟩) hf)
def gNil:TGs:=λvs σ H Q=>vs=[]/\Q σ H
def Lf(t:TG)(u:TGs):TGs:=λvs σ H Q=>∃v r,vs=v::r/\t v σ H fun σ' H'=>u r σ' H' Q
theorem Di:PGs X [] gNil:=by
 intro pins s σ H vs us Q I r h;obtain⟨e,h⟩:=h;subst e;cases r;exact assignInOrder_nil ⟨σ,H,I,h⟩
theorem AN{e:Expr}{es:List Expr}{t:TG}{u:TGs}(h1:PG X e t)(h2:PGs X es u)
  (hs:(assignEach (e::es) X.env).map (·.2)=assign e X.env::(assignEach es X.env).map (·.2):=by rfl):PGs X (e::es) (Lf t u):=by
 intro pins s σ H vs us Q I r h;obtain⟨v,vr,e1,h⟩:=h;subst e1;cases r with
 |cons r rr =>
  rw[hs];refine assignInOrder_cons (thn (h1 pins s σ H _ _ _ I r h) λ_ s1 ⟨σ1,H1,I1,q1⟩=>?_);exact h2 pins s1 σ1 H1 _ _ Q I1 rr q1
def gTup(K:PySem.W.Frag)(n:Nat)(t:TGs):TG:=λv σ H Q=>∃a xs,v=.ref a/\SqT K H a xs/\xs.length=n/\t xs σ H Q
theorem Ey{es:List Expr}{k:Nat}{t:TGs}{n:Nat}(hc:X.calm=true)(h:PGs X es t)
  (hn:(assignEach es X.env).length=n:=by rfl) (hst:(assignEach es X.env).findIdx? (·.1)=none:=by rfl):PG X (.Tuple es k pos) (gTup X.K n t):=by
 intro pins s σ H v u Q I r hw;obtain⟨a,xs,e1,hq,hl,hw⟩:=hw;subst e1;cases r;obtain⟨its,rv,ht,hz⟩:=I.tuple hq;refine assign_Tuple_tuple (I.ok.hd hc) ht (by simp[hn,<-hl,rv.length]) hst λh' hx=>?_;have I1:Inv X pins σ H {s with heap:=h'}:=I.kept (t':=s.toks) λb o e=>hx b o (D8 (C6 e)) e;exact h pins _ σ H xs _ Q I1 (by simpa using rv) hw
def gSub(to ti:TE)(t:TSet):TG:=λv σ H Q=>to σ H λo H1=>ti σ H1 λi H2=>t o i v H2 λH3=>Q σ H3
theorem Rf{o i:Expr}{to ti:TE}{t:TSet}(ho:PE X o to)(hi:PE X i ti)(hs:PSet X t)
  (ha:∀v,assign (.Subscript o i pos) X.env v=(do
   let ov <-holding [v] (eval o X.env);let iv <-holding [v,ov] (eval i X.env)
   standAt pos
   holding [v,ov,iv] (setItem ov iv v)
   release [v,ov,iv] []):=by intro _;rfl):PG X (.Subscript o i pos) (gSub to ti t):=by
 intro pins s σ H v u Q I r h;rw[ha];refine W8 (X0 (thn (ho pins s σ H _ I h) λov s1 ⟨x,H1,I1,r1,q1⟩=>?_));refine W8 (X0 (thn (hi pins s1 σ H1 _ I1 q1) λiv s2 ⟨y,H2,I2,r2,q2⟩=>?_));refine W8 (A6a (W8 (X0 (thn (hs pins s2 σ H2 x y v ov iv u _ I2 r1 r2 r q2) λ_ s3 ⟨H3,I3,q3⟩=>?_))));exact wpAny_release ⟨σ,H3,I3,q3⟩
def tAsg(te:TE)(g:TG):TS:=λD σ H=>te σ H λx H1=>g x σ H1 D.nx
theorem Re{tg e:Expr}{te:TE}{g:TG}(he:PE X e te)(hg:PG X tg g)(hs:swapsWithSole [tg] e pos.line X.env=pure false:=by rfl)(hw:swappedStores [tg] e X.env=pure none:=by rfl)
  (h1:(assignEach [tg] X.env).map (·.2)=[assign tg X.env]:=by rfl):PS X (.Assign [tg] e pos) (tAsg te g):=by
 intro pins s σ H D I h;refine wpAny_Assign_stores (thn (he pins s σ H _ I h) λv s1 ⟨x,H1,I1,r1,q1⟩=>?_) hs hw;rw[h1];exact thn (hg pins s1 σ H1 x v _ I1 r1 q1) λ_ s2 q=>q
theorem Ah{i:Nat}{x:Str}{e:Expr}{te:TE}{pos':Pos}(hN:X.N.Nodup)(hi:X.N[i]?=some x)(hx:Loc X.env.scope x)(he:PE X e te)(hs:swapsWith e (some (.Name x pos')) pos.line X.env=pure false:=by rfl)(hf:X.fn x=true\/X.env.scope.names.lookup x=some .local:=by first|exact .inl rfl|exact .inr rfl|assumption) :
  PS X (.Assign [.Name x pos'] e pos) (tAsg te (Ie i)):=by
 intro pins s σ H D I h;refine wpAny_Assign_Name (thn (he pins s σ H _ I h) λv s1 ⟨y,H1,I1,r1,q1⟩=>?_) hs;exact Pu I1 hN hi hx r1 (λs2 I2=>⟨_,H1,I2,q1⟩) hf
end
section
variable{X:Cx}{pos:Pos}
def tWhile(c:TT)(tb:TS):TS:=λD σ H=>∃W:Nat->St->Hp->Prop,(∃m,W m σ H)/\∀m σ H,W m σ H ->
 c σ H λb H1=>if b=true then ∃N:St->Hp->Prop,(∀σ' H',N σ' H'->∃m',m'<m/\W m' σ' H')/\tb {D with nx:=N,ct:=N,bk:=D.nx} σ H1 else D.nx σ H1
theorem Mt{c:Expr}{body:List Stmt}{tc:TT}{tb:TS}(hp:PassesOwn (model X.prog X.w) X.A X.env X.xe)(hc:PT X c tc)(hb:PSs X body tb):PS X (.While c body [] pos) (tWhile tc tb):=by
 intro pins s σ H D I h;obtain⟨W,⟨m0,w0⟩,turn⟩:=h;refine wpAny_While (codeAny_whileLoop (λn s'=>∃σ' H',Inv X pins σ' H' s'/\W n σ' H') ?_ m0 ⟨σ,H,I,w0⟩);rintro n s1 ⟨σ1,H1,I1,w1⟩;refine A1a hp (thn (hc pins s1 σ1 H1 _ I1 (turn n σ1 H1 w1)) λb s2 ⟨H2,I2,q2⟩=>?_);cases b with
 |true =>
  obtain⟨N,hN,q2⟩:=q2;rw[Y4 rfl];refine A1a hp (thn (hb pins s2 σ1 H2 _ I2 q2) λf s3 q3=>?_);cases f with
  |next =>
   obtain⟨σ3,H3,I3,n3⟩:=q3;obtain⟨m',hm,w3⟩:=hN σ3 H3 n3;exact⟨m',hm,σ3,H3,I3,w3⟩
  |cont =>
   obtain⟨σ3,H3,I3,n3⟩:=q3;obtain⟨m',hm,w3⟩:=hN σ3 H3 n3;exact⟨m',hm,σ3,H3,I3,w3⟩
  |brk=>exact q3
  |ret v=>exact q3
 |false =>
  rw[Y0 C9];exact A3g ⟨σ1,H2,I2,q2⟩
end
structure It where
 go:Nat->Hp->Prop
 yld:Nat->Hp->V->Hp->Prop
 stop:Nat->Hp->Prop
def CL(X:Cx)(pins:List (Addr×Obj))(H:Hp)(b:Addr):Prop :=
 H b=none/\b≠X.env.locals/\b∉X.fs/\(b∈X.ex\/X.s₀.heap.objs.size<=b)/\(∀x c,X.env.cells.lookup x=some c->c≠b)/\∀p∈X.pn++pins,p.1≠b
theorem Inv.fpOk{X:Cx}{pins:List (Addr×Obj)}{σ:St}{H H':Hp}{s:Shared}{b:Addr}(I:Inv X pins σ H s)(hb:s.heap.objs.size<=b)(hn:H' b=none):CL X pins H' b:=by
 refine⟨hn,U1 (F0 I.lt hb),I.nofs hb,.inr (C4 I.sz hb),λx c e z=>?_,λp hp z=>?_⟩
 ·obtain⟨v,q⟩:=I.cell x c e;exact absurd (F0 q.lt (by rw[z];exact hb)) (N6 _)
 ·exact absurd (F0 (C6 (I.pin p hp).1) (by rw[z];exact hb)) (N6 _)
structure Ny(P:Program)(w:World)(K:PySem.W.Frag)(tg:Expr)(J:It)(fp:List Addr)(it:Addr)(tn:Nat->Heap->Prop):Prop where
 mem:it∈fp
 obj:∀i h,tn i h->∀b∈fp,∃o,h.get? b=some o/\∀v,o.data≠.cell v
 keep:∀i h h',tn i h->(∀b∈fp,∀o,h.get? b=some o->h'.get? b=some o)->tn i h'
 item:∀(X:Cx),X.prog=P->X.w=w->X.K=K->X.calm=true->∀(i:Nat)(pins:List (Addr×Obj))(s:Shared)(σ:St)(H:Hp)(E:Value->Shared->Prop),Inv X pins σ H s->(∀b∈fp,CL X pins H b)->tn i s.heap->J.go i H ->
  wpAny (model P w) X.A (pyNext (.ref it)) (λr s1=>∃u,r=some u /\
   wpAny (model P w) X.A (letOwnedTupleGo tg (.ref it) u) (λ_ s2=>∃x H',Inv X pins σ H' s2/\AX x u/\J.yld i H x H'/\tn (i+1) s2.heap/\∀b∈fp,H' b=none) E s1) E s
 done:∀(X:Cx),X.prog=P->X.w=w->X.K=K->X.calm=true->∀(i:Nat)(pins:List (Addr×Obj))(s:Shared)(σ:St)(H:Hp)(E:Value->Shared->Prop),Inv X pins σ H s->(∀b∈fp,CL X pins H b)->tn i s.heap->J.stop i H ->
  wpAny (model P w) X.A (pyNext (.ref it)) (λr s1=>r=none/\Inv X pins σ H s1) E s
 self:∀(A:Around)(i:Nat)(s:Shared)(Q:Value->Shared->Prop)(E:Value->Shared->Prop),tn i s.heap->Q (.ref it) s->wpAny (model P w) A (pyIter (.ref it)) Q E s
abbrev TI:=St->Hp->(It->Hp->Prop)->Prop
def PIE(X:Cx)(pins:List (Addr×Obj))(σ:St)(tg:Expr)(R:It->Hp->Prop)(itv:Value)(s2:Shared):Prop :=
 ∃(it:Addr)(fp:List Addr)(tn:Nat->Heap->Prop)(J:It)(H':Hp),itv=.ref it/\Inv X pins σ H' s2/\Ny X.prog X.w X.K tg J fp it tn/\tn 0 s2.heap/\(∀b∈fp,CL X pins H' b)/\R J H'
def PI(X:Cx)(tg iter:Expr)(wi:TI):Prop :=
 ∀(pins:List (Addr×Obj))(s:Shared)(σ:St)(H:Hp)(R:It->Hp->Prop),Inv X pins σ H s->wi σ H R ->
  wpAny (model X.prog X.w) X.A (eval iter X.env) (λv s1=>wpAny (model X.prog X.w) X.A (pyIter v) (PIE X pins σ tg R) X.xe s1) X.xe s
theorem Qu{M:Model}{A:Around}{E:Value->Shared->Prop}{s:Shared}{tg:Expr}{it:Addr}{u:Value}{o:Obj}{n:String}{vs:Array Value}{Q:Unit->Shared->Prop}(ho:s.heap.get? it=some o)(hc:o.cls=.type n)(hd:o.data=.fields vs)
    (hn:["enumerate","zip","dict_itemiterator","dict_reverseitemiterator","odict_iterator","itertools.zip_longest","itertools.pairwise"].contains n=false) (hQ:Q () s):wpAny M A (letOwnedTupleGo tg (.ref it) u) Q E s:=by
  unfold letOwnedTupleGo;cases tg<;>first
    |exact W9 hQ
    | (cases u<;>first
        |exact W9 hQ
        | (refine W8 (wpAny_load ho ?_)
           rw[hc,hd];show wpAny M A (if(["enumerate","zip","dict_itemiterator","dict_reverseitemiterator","odict_iterator","itertools.zip_longest","itertools.pairwise"].contains n && vs[0]?==some (rawInt _))=true then _ else _) Q E s;rw[Y0 (by intro h;rw[hn,Bool.false_and]at h;cases h)];exact W9 hQ))
def Itl(K:PySem.W.Frag)(a:Addr):It :=
 ⟨λi H=>∃xs x,SqL K H a xs/\xs[i]?=some x,λi H x H'=>H'=H/\∀xs,SqL K H a xs->xs[i]?=some x,λi H=>∃xs,SqL K H a xs/\xs.length<=i⟩
def Itt(K:PySem.W.Frag)(a:Addr):It :=
 ⟨λi H=>∃xs x,SqT K H a xs/\xs[i]?=some x,λi H x H'=>H'=H/\∀xs,SqT K H a xs->xs[i]?=some x,λi H=>∃xs,SqT K H a xs/\xs.length<=i⟩
def Itr(lo:Int)(n:Nat):It:=⟨λi _=>i<n,λi H x H'=>H'=H/\x=.int (lo+i),λi _=>n<=i⟩
theorem Tf{P:Program}{w:World}{K:PySem.W.Frag}{tg:Expr}(a it:Addr):Ny P w K tg (Itl K a) [it] it (λi h=>h.IsListIter it a i) where
 mem:=by simp
 obj:=λi h st b hb=>by
  have e:b=it:=by simpa using hb
  subst e;obtain⟨o,e,c,d⟩:=st;exact⟨o,e,λv z=>by rw[d]at z;cases z⟩
 keep:=λi h h' st k=>st.at λo e=>k it A5 o e
 item:=by
  intro X hP hw hK hc i pins s σ H E I hf st hg;subst hP hw hK;obtain⟨xs,x,hq,hx⟩:=hg;obtain⟨its,rv,p,hz⟩:=I.list hq;obtain⟨u,hu,ru⟩:=rv.get hx;obtain⟨f0,f1,f2,f3,f4,f5⟩:=hf it A5;refine wpAny_pyNext_list_item st p.isList (x:=u) (by simpa using hu) λh' st' sb=>?_;have I1:Inv X pins σ H {s with heap:=h'}:=I.turned (t':=s.toks) (λb o hb e=>(sb.2 b hb).trans e) f0 f1 f3 f4 f5;obtain⟨o,e,c,d⟩:=id st';exact⟨u,rfl,Qu (s:={s with heap:=h'}) e c d A3 ⟨x,H,I1,ru,⟨rfl,λys hy=>by rw[I.list_inj hy hq];exact hx⟩,st',λb hb=>(hf b hb).1⟩⟩
 done:=by
  intro X hP hw hK hc i pins s σ H E I hf st hg;subst hP hw hK;obtain⟨xs,hq,hx⟩:=hg;obtain⟨its,rv,p,hz⟩:=I.list hq;obtain⟨f0,f1,f2,f3,f4,f5⟩:=hf it A5;have hl:=rv.length;exact wpAny_pyNext_list_end (I.ok.hd hc) st p.isList (by simp;lia) λh' eb=>⟨rfl,I.turned (t':=s.toks) (λb o hb e=>eb b o hb e) f0 f1 f3 f4 f5⟩
 self:=λ_ _ _ _ _ st h=>wpAny_pyIter_listiter st h
theorem QN{P:Program}{w:World}{K:PySem.W.Frag}{tg:Expr}(a it:Addr):Ny P w K tg (Itt K a) [it] it (λi h=>h.IsTupleIter it a i) where
 mem:=by simp
 obj:=λi h st b hb=>by
  have e:b=it:=by simpa using hb
  subst e;obtain⟨o,e,c,d⟩:=st;exact⟨o,e,λv z=>by rw[d]at z;cases z⟩
 keep:=λi h h' st k=>st.at λo e=>k it A5 o e
 item:=by
  intro X hP hw hK hc i pins s σ H E I hf st hg;subst hP hw hK;obtain⟨xs,x,hq,hx⟩:=hg;obtain⟨its,rv,p,hz⟩:=I.tuple hq;obtain⟨u,hu,ru⟩:=rv.get hx;obtain⟨f0,f1,f2,f3,f4,f5⟩:=hf it A5;refine wpAny_pyNext_tuple_item st (show s.heap.IsTuple a its.toArray from p) (x:=u) (by simpa using hu) λh' st' sb=>?_;have I1:Inv X pins σ H {s with heap:=h'}:=I.turned (t':=s.toks) (λb o hb e=>(sb.2 b hb).trans e) f0 f1 f3 f4 f5;obtain⟨o,e,c,d⟩:=id st';exact⟨u,rfl,Qu (s:={s with heap:=h'}) e c d A3 ⟨x,H,I1,ru,⟨rfl,λys hy=>by rw[I.tuple_inj hy hq];exact hx⟩,st',λb hb=>(hf b hb).1⟩⟩
 done:=by
  intro X hP hw hK hc i pins s σ H E I hf st hg;subst hP hw hK;obtain⟨xs,hq,hx⟩:=hg;obtain⟨its,rv,p,hz⟩:=I.tuple hq;obtain⟨f0,f1,f2,f3,f4,f5⟩:=hf it A5;have hl:=rv.length;exact wpAny_pyNext_tuple_end (I.ok.hd hc) st (show s.heap.IsTuple a its.toArray from p) (by simp;lia) λh' eb=>⟨rfl,I.turned (t':=s.toks) (λb o hb e=>eb b o hb e) f0 f1 f3 f4 f5⟩
 self:=λ_ _ _ _ _ st h=>wpAny_pyIter_tupleiter st h
theorem QO{P:Program}{w:World}{K:PySem.W.Frag}{tg:Expr}(it:Addr)(lo:Int)(n:Nat):Ny P w K tg (Itr lo n) [it] it (λi h=>IsRangeIter h it (lo+(i:Nat)*1) ((n:Int)-(i:Nat)) 1) where
 mem:=by simp
 obj:=λi h st b hb=>by
  have e:b=it:=by simpa using hb
  subst e;exact⟨_,st,λv z=>by
   have z':Data.fields _=Data.cell v:=z;cases z'⟩
 keep:=λi h h' st k=>k it A5 _ st
 item:=by
  intro X hP hw hK hc i pins s σ H E I hf st hg;subst hP hw hK;obtain⟨f0,f1,f2,f3,f4,f5⟩:=hf it A5;have W:=Walks.range (prog:=X.prog) (w:=X.w) (I.ok.hd hc) it lo 1 n;refine W.item i s _ _ hg st λv h' tk hv st' kk=>?_;obtain⟨t,rfl⟩:=hv;have I1:Inv X pins σ H {s with heap:=h',toks:=tk}:=I.turned (λb o hb e=>kk b o (by simpa using hb) e) f0 f1 f3 f4 f5;refine⟨_,rfl,Qu (s:={s with heap:=h',toks:=tk}) (n:="range_iterator") st' rfl rfl A3 ⟨.int (lo+i),H,I1,⟨t,?_⟩,⟨rfl,rfl⟩,st',λb hb=>(hf b hb).1⟩⟩;rw[Int.mul_one]
 done:=by
  intro X hP hw hK hc i pins s σ H E I hf st hg;subst hP hw hK;obtain⟨f0,f1,f2,f3,f4,f5⟩:=hf it A5;exact wpAny_pyNext_range_end (I.ok.hd hc) st (by have:n<=i:=hg;lia) λh' eb=>⟨rfl,I.turned (t':=s.toks) (λb o hb e=>eb b o hb e) f0 f1 f3 f4 f5⟩
 self:=λ_ _ _ _ _ st h=>wpAny_pyIter_rangeiter st h
section
variable{X:Cx}{tg:Expr}
def iList(K:PySem.W.Frag)(tl:TE):TI:=fun σ H R=>tl σ H λx H1=>∃a,x=.ref a/\(∃xs,SqL K H1 a xs)/\R (Itl K a) H1
def iTup(K:PySem.W.Frag)(tl:TE):TI:=fun σ H R=>tl σ H λx H1=>∃a,x=.ref a/\(∃xs,SqT K H1 a xs)/\R (Itt K a) H1
theorem Cg{l:Expr}{tl:TE}(hl:PE X l tl):PI X tg l (iList X.K tl):=by
 intro pins s σ H R I h;refine thn (hl pins s σ H _ I h) λv s1 ⟨x,H1,I1,r1,q1⟩=>?_;obtain⟨a,e,⟨xs,hq⟩,q⟩:=q1;subst e;cases r1;obtain⟨its,rv,p,hz⟩:=I1.list hq;refine K8 p.isList ?_;refine⟨s1.heap.objs.size,[s1.heap.objs.size],_,_,H1,rfl,I1.kept (t':=s1.toks) λb o e=>B1 _ e,Tf a _,⟨_,C3 _ rfl,rfl,rfl⟩,λb hb=>?_,q⟩;have e:b=s1.heap.objs.size:=by simpa using hb
 subst e;exact I1.fpOk (B5 _) (I1.hok.fresh (B5 _))
theorem Vh{l:Expr}{tl:TE}(hl:PE X l tl):PI X tg l (iTup X.K tl):=by
 intro pins s σ H R I h;refine thn (hl pins s σ H _ I h) λv s1 ⟨x,H1,I1,r1,q1⟩=>?_;obtain⟨a,e,⟨xs,hq⟩,q⟩:=q1;subst e;cases r1;obtain⟨its,rv,p,hz⟩:=I1.tuple hq;refine wpAny_pyIter_tuple (show s1.heap.IsTuple a its.toArray from p) ?_;refine⟨s1.heap.objs.size,[s1.heap.objs.size],_,_,H1,rfl,I1.kept (t':=s1.toks) λb o e=>B1 _ e,QN a _,⟨_,C3 _ rfl,rfl,rfl⟩,λb hb=>?_,q⟩;have e:b=s1.heap.objs.size:=by simpa using hb
 subst e;exact I1.fpOk (B5 _) (I1.hok.fresh (B5 _))
theorem PM{pins:List (Addr×Obj)}{σ:St}{H:Hp}{s:Shared}{R:It->Hp->Prop}{E:Value->Shared->Prop}{lo hi:Int}{t u v:Tok}{tk:Nat}(I:Inv X pins σ H s)(h1:-(2^62)<=lo)(h2:lo<2^62)(h3:-(2^62)<=hi)(h4:hi<2^62)
  (q:R (Itr lo (hi-lo).toNat) H):wpAny (model X.prog X.w) X.A (pyIter (.ref s.heap.objs.size)) (PIE X pins σ tg R) E {s with heap:=s.heap.push {cls:=.type "range",data:=.fields #[.int lo t,.int hi u,.int 1 v]},toks:=tk}:=by
 refine wpAny_pyIter_range (IsRange.new ..) (small_one h1 h2 h3 h4) ?_;have I1:Inv X pins σ H {s with heap:=s.heap.push {cls:=.type "range",data:=.fields #[.int lo t,.int hi u,.int 1 v]},toks:=tk}:=I.kept λb o e=>B1 _ e;refine⟨(s.heap.push {cls:=.type "range",data:=.fields #[.int lo t,.int hi u,.int 1 v]}).objs.size,[(s.heap.push {cls:=.type "range",data:=.fields #[.int lo t,.int hi u,.int 1 v]}).objs.size],_,_,H,rfl,
  I1.kept (t':=tk) λb o e=>B1 _ e,QO _ lo (hi-lo).toNat,?_,λb hb=>?_,q⟩
 ·have e1:lo+((0:Nat):Int)*1=lo:=by simp
  have e2:(((hi-lo).toNat:Nat):Int)-((0:Nat):Int)=Builtin.Range.rangeSize lo hi 1:=by rw[rangeSize_one];split<;>lia
  show IsRangeIter _ _ (lo+((0:Nat):Int)*1) ((((hi-lo).toNat:Nat):Int)-((0:Nat):Int)) 1;rw[e1,e2];exact C3 _ rfl
 ·have e:b=(s.heap.push {cls:=.type "range",data:=.fields #[.int lo t,.int hi u,.int 1 v]}).objs.size:=by simpa using hb
  subst e;exact I1.fpOk (B5 _) (I1.hok.fresh (B5 _))
def iRng1(ta:TA):TI:=fun σ H R=>ta σ H λvs H1=>∃j:Int,vs=[.int j]/\-(2^62)<=j/\j<2^62/\R (Itr 0 j.toNat) H1
def iRng2(ta:TA):TI:=fun σ H R=>ta σ H λvs H1=>∃i j:Int,vs=[.int i,.int j]/\(-(2^62)<=i/\i<2^62/\-(2^62)<=j/\j<2^62)/\R (Itr i (j-i).toNat) H1
theorem GM{a:Expr}{ta:TA}{p pos:Pos}(hg:Gl X "range")(hm:X.mg "range" = none)(ha:PA X [a] ta)(hs:starEach [a] X.env=[(false,eval a X.env)]:=by rfl):PI X tg (.Call (.Name "range" p) [a] [] pos) (iRng1 ta):=by
 intro pins s σ H R I h;refine Call_ (IA I hg hm boot_range (A0f (thn (ha pos pins s σ H _ I h) λus s1 ⟨vs,H1,I1,r1,q1⟩=>?_) hs rfl));obtain⟨j,e,q1,q2,q⟩:=q1;subst e;cases r1 with
 |cons r rr =>
  cases rr;obtain⟨t,rfl⟩:=r;exact call_range_1 (PM I1 A0 A0 q1 q2 (by simpa using q))
theorem Jy{a b:Expr}{ta:TA}{p pos:Pos}(hg:Gl X "range")(hm:X.mg "range" = none)(ha:PA X [a,b] ta)(hs:starEach [a,b] X.env=[(false,eval a X.env),(false,eval b X.env)]:=by rfl)(hs2:starEach [b] X.env=[(false,eval b X.env)]:=by rfl) :
  PI X tg (.Call (.Name "range" p) [a,b] [] pos) (iRng2 ta):=by
 intro pins s σ H R I h;refine Call_ (IA I hg hm boot_range (A0f (thn (ha pos pins s σ H _ I h) λus s1 ⟨vs,H1,I1,r1,q1⟩=>?_) (by rw[hs,hs2]) (by rw[hs2];rfl)));obtain⟨i,j,e,⟨q1,q2,q3,q4⟩,q⟩:=q1;subst e;cases r1 with
 |cons r rr =>
  cases rr with
  |cons r' rr =>
   cases rr;obtain⟨t,rfl⟩:=r;obtain⟨t',rfl⟩:=r';exact call_range_2 (PM I1 q1 q2 q3 q4 q)
def tFor(wi:TI)(g:TG)(tb:TS):TS:=λD σ H=>wi σ H λJ H1=>∃W:Nat->Nat->St->Hp->Prop,(∃m,W 0 m σ H1)/\∀i m σ H,W i m σ H ->
 (J.stop i H/\D.nx σ H)\/(J.go i H/\∃N:St->Hp->Prop,(∀σ' H',N σ' H'->∃m',m'<m/\W (i+1) m' σ' H')/\∀x H',J.yld i H x H'->g x σ H' fun σ2 H2=>tb {D with nx:=N,ct:=N,bk:=D.nx} σ2 H2)
def Jx(fp:List Addr)(h:Heap):List (Addr×Obj):=fp.filterMap λb=>(h.get? b).map λo=>(b,o)
theorem FT{fp:List Addr}{h:Heap}{b:Addr}{o:Obj}(hb:b∈fp)(e:h.get? b=some o):(b,o)∈Jx fp h:=List.mem_filterMap.mpr ⟨b,hb,by rw[e];rfl⟩
theorem NN{fp:List Addr}{h:Heap}{p:Addr×Obj}(hp:p∈Jx fp h):p.1∈fp/\h.get? p.1=some p.2:=by
 obtain⟨b,hb,e⟩:=List.mem_filterMap.mp hp;cases q:h.get? b with
 |none=>rw[q]at e;cases e
 |some o =>
  rw[q]at e;have e':(b,o)=p:=Y5 e;subst e';exact⟨hb,q⟩
theorem Inv.pinned{pins:List (Addr×Obj)}{σ:St}{H:Hp}{s:Shared}{fp:List Addr}(I:Inv X pins σ H s)(hf:∀b∈fp,CL X pins H b)(ho:∀b∈fp,∃o,s.heap.get? b=some o/\∀v,o.data≠.cell v):Inv X (pins++Jx fp s.heap) σ H s :=
 I.pins_of λp hp=>(C8.mp hp).elim (λz=>I.pin p (D3 _ z)) λz=>by
  obtain⟨hb,e⟩:=NN z;obtain⟨f0,f1,f2,_⟩:=hf p.1 hb;obtain⟨o,e',d⟩:=ho p.1 hb;rw[e]at e';cases e';exact⟨e,f0,f1,f2,d⟩
theorem Inv.unpinned{pins pl:List (Addr×Obj)}{σ:St}{H:Hp}{s:Shared}(I:Inv X (pins++pl) σ H s):Inv X pins σ H s:=I.pins_of λp hp=>I.pin p (D3 _ (L8 _ hp))
theorem BT{iter:Expr}{body:List Stmt}{wi:TI}{g:TG}{tb:TS}{pos:Pos}(hp:PassesOwn (model X.prog X.w) X.A X.env X.xe)(hc:X.calm=true)(hi:PI X tg iter wi)(hg:PG X tg g)(hb:PSs X body tb)
  (hs:∀x,foldedSetIterable iter X.env x=pure x:=by intro _;rfl):PS X (.For tg iter body [] pos) (tFor wi g tb):=by
 intro pins s σ H D I h;refine wpAny_For (thn (hi pins s σ H _ I h) λv s1 h1=>thn h1 λitv s2 h2=>?_) hs;obtain⟨it,fp,tn,J,H2,e,I2,T,st2,f2,W,⟨m0,w0⟩,turn⟩:=h2;subst e;have stat:∀{H':Hp},(∀b∈fp,H' b=none)->∀b∈fp,CL X pins H' b:=λhn b hb=>⟨hn b hb,(f2 b hb).2⟩
 refine codeAny_forLoop_any (λn s'=>∃i σ' H',Inv X pins σ' H' s'/\tn i s'.heap/\(∀b∈fp,H' b=none)/\W i n σ' H') ?_ m0 ⟨0,σ,H2,I2,st2,λb hb=>(f2 b hb).1,w0⟩;rintro n s3 ⟨i,σ3,H3,I3,st3,fr3,w3⟩;rcases turn i n σ3 H3 w3 with ⟨stop,qn⟩|⟨go,N,hN,step⟩
 ·refine A1a hp (thn (T.done X rfl rfl rfl hc i pins s3 σ3 H3 X.xe I3 (stat fr3) st3 stop) λr s4 ⟨hr,I4⟩=>?_);subst hr;exact A3g ⟨σ3,H3,I4,qn⟩
 ·refine A1a hp (thn (T.item X rfl rfl rfl hc i pins s3 σ3 H3 X.xe I3 (stat fr3) st3 go) λr s4 ⟨u,hr,h4⟩=>?_);subst hr;refine A1a hp (thn h4 λ_ s5 ⟨x,H5,I5,r5,y5,st5,fr5⟩=>?_);have I5':=I5.pinned (stat fr5) (T.obj _ _ st5);refine A1a hp (thn (hg _ s5 σ3 H5 x u _ I5' r5 (step x H5 y5)) λ_ s6 ⟨σ6,H6,I6,q6⟩=>?_);refine A1a hp (thn (hb _ s6 σ6 H6 _ I6 q6) λf s7 q7=>?_);have again:∀{σ7:St}{H7:Hp},Inv X (pins++Jx fp s5.heap) σ7 H7 s7->N σ7 H7->∃m,m<n/\∃i σ' H',Inv X pins σ' H' s7/\tn i s7.heap/\(∀b∈fp,H' b=none)/\W i m σ' H':=λ{σ7 H7} I7 n7=>by
   obtain⟨m',hm,w7⟩:=hN σ7 H7 n7;refine⟨m',hm,i+1,σ7,H7,I7.unpinned,T.keep _ _ _ st5 λb hb o e=>(I7.pin (b,o) (D3 _ (D3 _ (FT hb e)))).1,λb hb=>?_,w7⟩;obtain⟨o,e,d⟩:=T.obj _ _ st5 b hb;exact(I7.pin (b,o) (D3 _ (D3 _ (FT hb e)))).2.1
  cases f with
  |next=>obtain⟨σ7,H7,I7,n7⟩:=q7;exact again I7 n7
  |cont=>obtain⟨σ7,H7,I7,n7⟩:=q7;exact again I7 n7
  |brk=>obtain⟨σ7,H7,I7,q7⟩:=q7;exact⟨σ7,H7,I7.unpinned,q7⟩
  |ret v=>obtain⟨x7,σ7,H7,I7,r7,q7⟩:=q7;exact⟨x7,σ7,H7,I7.unpinned,r7,q7⟩
end
theorem EJ{K:PySem.W.Frag}{a:Addr}{xs:List V}{g:TG}{tb:TS}{D:JT}{σ:St}{H:Hp}(Pv:Nat->St->Hp->Prop)(h0:Pv 0 σ H)(hl:∀i σ H,i<=xs.length->Pv i σ H->SqL K H a xs)
  (hs:∀i x σ H,xs[i]?=some x->Pv i σ H->g x σ H fun σ2 H2=>tb {D with nx:=Pv (i+1),ct:=Pv (i+1),bk:=D.nx} σ2 H2) (hd:∀σ H,Pv xs.length σ H->D.nx σ H) :
  ∃W:Nat->Nat->St->Hp->Prop,(∃m,W 0 m σ H)/\∀i m σ H,W i m σ H ->
   ((Itl K a).stop i H/\D.nx σ H)\/((Itl K a).go i H/\∃N:St->Hp->Prop,(∀σ' H',N σ' H'->∃m',m'<m/\W (i+1) m' σ' H')/\∀x H',(Itl K a).yld i H x H'->g x σ H' fun σ2 H2=>tb {D with nx:=N,ct:=N,bk:=D.nx} σ2 H2):=by
 refine⟨λi m σ H=>m=xs.length-i/\i<=xs.length/\Pv i σ H,⟨xs.length,by simp,J7 _,h0⟩,?_⟩;rintro i m σ H ⟨rfl,hi,p⟩;have q:=hl i σ H hi p;by_cases hlt:i<xs.length
 ·refine .inr ⟨⟨xs,xs[i],q,by simp[hlt]⟩,Pv (i+1),fun σ' H' p'=>⟨xs.length-(i+1),by lia,rfl,hlt,p'⟩,λx H' y=>?_⟩;obtain⟨e,y⟩:=y;subst e;exact hs i x σ _ (y xs q) p
 ·have e:i=xs.length:=by lia
  subst e;exact .inl ⟨⟨xs,q,B5 _⟩,hd σ H p⟩
theorem Dw{lo:Int}{n:Nat}{g:TG}{tb:TS}{D:JT}{σ:St}{H:Hp}(Pv:Nat->St->Hp->Prop)(h0:Pv 0 σ H)
  (hs:∀i σ H,i<n->Pv i σ H->g (.int (lo+i)) σ H fun σ2 H2=>tb {D with nx:=Pv (i+1),ct:=Pv (i+1),bk:=D.nx} σ2 H2) (hd:∀σ H,Pv n σ H->D.nx σ H) :
  ∃W:Nat->Nat->St->Hp->Prop,(∃m,W 0 m σ H)/\∀i m σ H,W i m σ H ->
   ((Itr lo n).stop i H/\D.nx σ H)\/((Itr lo n).go i H/\∃N:St->Hp->Prop,(∀σ' H',N σ' H'->∃m',m'<m/\W (i+1) m' σ' H')/\∀x H',(Itr lo n).yld i H x H'->g x σ H' fun σ2 H2=>tb {D with nx:=N,ct:=N,bk:=D.nx} σ2 H2):=by
 refine⟨λi m σ H=>m=n-i/\i<=n/\Pv i σ H,⟨n,by simp,J7 _,h0⟩,?_⟩;rintro i m σ H ⟨rfl,hi,p⟩;by_cases hlt:i<n
 ·refine .inr ⟨hlt,Pv (i+1),fun σ' H' p'=>⟨n-(i+1),by lia,rfl,hlt,p'⟩,λx H' y=>?_⟩;obtain⟨e,y⟩:=y;subst e y;exact hs i σ _ hlt p
 ·have e:i=n:=by lia
  subst e;exact .inl ⟨B5 _,hd σ H p⟩
abbrev R2:=V->V->Hp->VK->Prop
def OpR(X:Cx)(f:Value->Value->Sem Value)(r:R2):Prop :=
 ∀(pins:List (Addr×Obj))(s:Shared)(σ:St)(H:Hp)(x y:V)(v u:Value)(Q:VK),Inv X pins σ H s->AX x v->AX y u->r x y H Q ->
  wpAny (model X.prog X.w) X.A (f v u) (EP X pins σ Q) X.xe s
def UnR(X:Cx)(f:Value->Sem Value)(r:V->Hp->VK->Prop):Prop :=
 ∀(pins:List (Addr×Obj))(s:Shared)(σ:St)(H:Hp)(x:V)(v:Value)(Q:VK),Inv X pins σ H s->AX x v->r x H Q ->
  wpAny (model X.prog X.w) X.A (f v) (EP X pins σ Q) X.xe s
def Do(X:Cx)(f:Value)(r:List V->Hp->VK->Prop):Prop :=
 ∀(pins:List (Addr×Obj))(s:Shared)(σ:St)(H:Hp)(xs:List V)(us:List Value)(Q:VK),Inv X pins σ H s->AH xs us->r xs H Q ->
  wpAny (model X.prog X.w) X.A (call f us) (EP X pins σ Q) X.xe s
def tOp(r:R2)(ta tb:TE):TE:=fun σ H Q=>ta σ H λx H1=>tb σ H1 λy H2=>r x y H2 Q
def tUn(r:V->Hp->VK->Prop)(ta:TE):TE:=fun σ H Q=>ta σ H λx H1=>r x H1 Q
def rI(C:Int->Int->Prop)(g:Int->Int->V):R2:=λx y H Q=>∃i j,x=.int i/\y=.int j/\C i j/\Q (g i j) H
def rI0(g:Int->Int->V):R2:=λx y H Q=>∃i j,x=.int i/\y=.int j/\Q (g i j) H
def rU(g:Int->V):V->Hp->VK->Prop:=λx H Q=>∃i,x=.int i/\Q (g i) H
section
variable{X:Cx}{a b c:Expr}{ta tb tc:TE}{pos:Pos}
theorem binT(ha:PE X a ta)(hb:PE X b tb){pins:List (Addr×Obj)}{s:Shared}{σ:St}{H:Hp}{R:V->V->Hp->Prop}(I:Inv X pins σ H s)
  (h:ta σ H λx H1=>tb σ H1 λy H2=>R x y H2) {Q:Value->Shared->Prop} {f:Value->Value->Sem Value}
  (hf:∀v u s2 x y H2,Inv X pins σ H2 s2->AX x v->AX y u->R x y H2->wpAny (model X.prog X.w) X.A (f v u) Q X.xe s2) :
  wpAny (model X.prog X.w) X.A (eval a X.env) (λv s₁=>wpAny (model X.prog X.w) X.A (eval b X.env) (λu s₂=>wpAny (model X.prog X.w) X.A (f v u) Q X.xe s₂) X.xe s₁) X.xe s:=by
 refine thn (ha pins s σ H _ I h) λv s1 ⟨x,H1,I1,r1,q1⟩=>?_;refine thn (hb pins s1 σ H1 _ I1 q1) λu s2 ⟨y,H2,I2,r2,q2⟩=>?_;exact hf v u s2 x y H2 I2 r1 r2 q2
theorem Ay{op:Operator}{r:R2}(ho:OpR X (binaryOp op) r)(ha:PE X a ta)(hb:PE X b tb):PE X (.BinOp a op b pos) (tOp r ta tb):=by
 intro pins s σ H Q I h;exact wpAny_BinOp (binT ha hb I h λv u s2 x y H2 I2 rx ry q=>ho pins s2 σ H2 x y v u Q I2 rx ry q)
theorem EQ{op:UnaryOp}{r:V->Hp->VK->Prop}(ho:UnR X (unaryOp op) r)(ha:PE X a ta):PE X (.UnaryOp op a pos) (tUn r ta):=by
 intro pins s σ H Q I h;exact UnaryOp_ (thn (ha pins s σ H _ I h) λv s1 ⟨x,H1,I1,r1,q1⟩=>ho pins s1 σ H1 x v Q I1 r1 q1)
theorem opI{f:Value->Value->Sem Value}{C:Int->Int->Prop}{g:Int->Int->Int}
  (rule:∀(i j:Int)(t u:Tok)(s:Shared)(Q:Value->Shared->Prop)(E:Value->Shared->Prop),C i j->Q (.int (g i j) s.toks) {s with toks:=s.toks+1}->wpAny (model X.prog X.w) X.A (f (.int i t) (.int j u)) Q E s) :
  OpR X f (rI C λi j=>.int (g i j)):=by
 intro pins s σ H x y v u Q I rx ry h;obtain⟨i,j,rfl,rfl,hc,q⟩:=h;obtain⟨t,rfl⟩:=rx;obtain⟨t',rfl⟩:=ry;exact rule i j t t' s _ _ hc ⟨.int (g i j),H,I.tok _,⟨_,rfl⟩,q⟩
theorem opI0{f:Value->Value->Sem Value}{g:Int->Int->Int}
  (rule:∀(i j:Int)(t u:Tok)(s:Shared)(Q:Value->Shared->Prop)(E:Value->Shared->Prop),Q (.int (g i j) s.toks) {s with toks:=s.toks+1}->wpAny (model X.prog X.w) X.A (f (.int i t) (.int j u)) Q E s) :
  OpR X f (rI0 λi j=>.int (g i j)):=by
 intro pins s σ H x y v u Q I rx ry h;obtain⟨i,j,rfl,rfl,q⟩:=h;obtain⟨t,rfl⟩:=rx;obtain⟨t',rfl⟩:=ry;exact rule i j t t' s _ _ ⟨.int (g i j),H,I.tok _,⟨_,rfl⟩,q⟩
theorem opB0{f:Value->Value->Sem Value}{g:Int->Int->Bool}
  (rule:∀(i j:Int)(t u:Tok)(s:Shared)(Q:Value->Shared->Prop)(E:Value->Shared->Prop),Q (.bool (g i j)) s->wpAny (model X.prog X.w) X.A (f (.int i t) (.int j u)) Q E s) :
  OpR X f (rI0 λi j=>.bl (g i j)):=by
 intro pins s σ H x y v u Q I rx ry h;obtain⟨i,j,rfl,rfl,q⟩:=h;obtain⟨t,rfl⟩:=rx;obtain⟨t',rfl⟩:=ry;exact rule i j t t' s _ _ ⟨.bl (g i j),H,I,rfl,q⟩
def CDiv(i j:Int):Prop:=0<j/\j<1073741824
def CPow(i j:Int):Prop:=0<=j/\j<=1000000/\i.natAbs<2^64
def CMul(i j:Int):Prop:=(-(2^64)<i/\i<2^64)\/(-(2^64)<j/\j<2^64)
theorem CMul.ok{i j:Int}(h:CMul i j):IntMulOk i j:=by
 rcases h with ⟨h1,h2⟩|⟨h1,h2⟩
 ·exact .of_left (intBits_le_64 h1 h2)
 ·exact .of_right (intBits_le_64 h1 h2)
theorem AW:OpR X (binaryOp .Add) (rI0 λi j=>.int (i+j)):=opI0 λ_ _ _ _ _ _ _ q=>add_int q
theorem Cd:OpR X (binaryOp .Sub) (rI0 λi j=>.int (i-j)):=opI0 λ_ _ _ _ _ _ _ q=>sub_int q
theorem EF:OpR X (binaryOp .Mult) (rI CMul λi j=>.int (i*j)):=opI λ_ _ _ _ _ _ _ hc q=>mul_int q hc.ok
theorem FQ:OpR X (binaryOp .FloorDiv) (rI CDiv λi j=>.int (i/j)):=opI λi j _ _ _ _ _ hc q=>by
 have h1:(0:Int)<j:=hc.1;have h2:j<1073741824:=hc.2;exact floordiv_int A0 (by rw[Int.fdiv_eq_ediv_of_nonneg i A0];exact q) (.inl (PyProof.noPylong_small A0))
theorem Ce:OpR X (binaryOp .Mod) (rI (λ_ j=>0<j) λi j=>.int (i%j)):=opI λi j _ _ _ _ _ hc q=>by
 have h1:(0:Int)<j:=hc;exact mod_int' A0 (by rw[Int.fmod_eq_emod_of_nonneg i A0];exact q)
theorem FP:OpR X (binaryOp .LShift) (rI CPow λi j=>.int (i*2^j.toNat)):=opI λ_ _ _ _ _ _ _ hc q=>lshift_int_small hc.1 hc.2.1 hc.2.2 q
theorem unI{f:Value->Sem Value}{g:Int->Int}
  (rule:∀(i:Int)(t:Tok)(s:Shared)(Q:Value->Shared->Prop)(E:Value->Shared->Prop),Q (.int (g i) s.toks) {s with toks:=s.toks+1}->wpAny (model X.prog X.w) X.A (f (.int i t)) Q E s) :
  UnR X f (rU λi=>.int (g i)):=by
 intro pins s σ H x v Q I rx h;obtain⟨i,rfl,q⟩:=h;obtain⟨t,rfl⟩:=rx;exact rule i t s _ _ ⟨.int (g i),H,I.tok _,⟨_,rfl⟩,q⟩
theorem Dd:UnR X (unaryOp .USub) (rU λi=>.int (-i)):=unI λ_ _ _ _ _ q=>neg_int q
end
def scal:V->V->Bool
 |.non,.non=>true|.non,.int _=>true|.int _,.non=>true|.non,.bl _=>true|.bl _,.non=>true|.non,.str _=>true|.str _,.non=>true
 |.int _,.int _=>true|.bl _,.bl _=>true|.str _,.str _=>true|.byt _,.byt _=>true
 |.int _,.str _=>true|.str _,.int _=>true|.bl _,.str _=>true|.str _,.bl _=>true
 |_,_=>false
def rEq:R2:=λx y H Q=>scal x y=true/\Q (.bl (decide (x=y))) H
def rNe:R2:=λx y H Q=>scal x y=true/\Q (.bl (!decide (x=y))) H
theorem SN{i j:Int}:decide (V.int i=V.int j)=(i==j):=by
 rw[O0];simp
theorem Wq{i j:Bool}:decide (V.bl i=V.bl j)=(i==j):=by
 rw[O0];simp
theorem SM{i j:Str}:decide (V.str i=V.str j)=(i==j):=by
 rw[O0];simp
theorem SO{i j:Array UInt8}:decide (V.byt i=V.byt j)=(i.toList==j.toList):=by
 rw[O0];cases i;cases j;simp
section
variable{X:Cx}{a b c:Expr}{ta tb tc:TE}{pos:Pos}
theorem Ba{pins:List (Addr×Obj)}{σ:St}{H:Hp}{s:Shared}{Q:VK}{k k':Bool}(I:Inv X pins σ H s)(q:Q (.bl k) H)(e:k=k'):EP X pins σ Q (.bool k') s:=by
 subst e;exact⟨.bl k,H,I,rfl,q⟩
theorem Cp:OpR X (compareOp .Eq) rEq:=by
 intro pins s σ H x y v u Q I rx ry h;obtain⟨hs,q⟩:=h;cases x with
 |non =>
  cases rx;cases y with
  |non=>cases ry;exact PySem.EqNone.eq_none_none (Ba I q A5)
  |bl j=>cases ry;exact PySem.EqNone.eq_none_bool (Ba I q A5)
  |int j=>obtain⟨t',rfl⟩:=ry;exact PySem.EqNone.eq_none_int (Ba I q A5)
  |str j=>obtain⟨t',rfl⟩:=ry;exact PySem.EqNone.eq_none_str (Ba I q A5)
  |_=>exact absurd (show false=true from hs) C9
 |bl i =>
  cases rx;cases y with
  |non=>cases ry;exact PySem.EqNone.eq_bool_none (Ba I q A5)
  |bl j=>cases ry;exact eq_bool (Ba I q Wq)
  |str j=>obtain⟨t',rfl⟩:=ry;exact PySem.EqMixed.eq_bool_str (Ba I q A5)
  |_=>exact absurd (show false=true from hs) C9
 |int i =>
  obtain⟨t,rfl⟩:=rx;cases y with
  |non=>cases ry;exact PySem.EqNone.eq_int_none (Ba I q A5)
  |int j=>obtain⟨t',rfl⟩:=ry;exact eq_int (Ba I q SN)
  |str j=>obtain⟨t',rfl⟩:=ry;exact PySem.EqMixed.eq_int_str (Ba I q A5)
  |_=>exact absurd (show false=true from hs) C9
 |str i =>
  obtain⟨t,rfl⟩:=rx;cases y with
  |non=>cases ry;exact PySem.EqNone.eq_str_none (Ba I q A5)
  |bl j=>cases ry;exact PySem.EqMixed.eq_str_bool (Ba I q A5)
  |int j=>obtain⟨t',rfl⟩:=ry;exact PySem.EqMixed.eq_str_int (Ba I q A5)
  |str j=>obtain⟨t',rfl⟩:=ry;exact eq_str (Ba I q SM)
  |_=>exact absurd (show false=true from hs) C9
 |byt i =>
  obtain⟨t,rfl⟩:=rx;cases y with
  |byt j=>obtain⟨t',rfl⟩:=ry;exact PySem.W.eq_bytes (Ba I q SO)
  |_=>exact absurd (show false=true from hs) C9
 |_=>cases y<;>exact absurd (show false=true from hs) C9
theorem MA:OpR X (compareOp .NotEq) rNe:=by
 intro pins s σ H x y v u Q I rx ry h;obtain⟨hs,q⟩:=h;cases x with
 |non =>
  cases rx;cases y with
  |non=>cases ry;exact PySem.EqNone.ne_none_none (Ba I q A5)
  |bl j=>cases ry;exact PySem.EqNone.ne_none_bool (Ba I q A5)
  |int j=>obtain⟨t',rfl⟩:=ry;exact PySem.EqNone.ne_none_int (Ba I q A5)
  |str j=>obtain⟨t',rfl⟩:=ry;exact PySem.EqNone.ne_none_str (Ba I q A5)
  |_=>exact absurd (show false=true from hs) C9
 |bl i =>
  cases rx;cases y with
  |non=>cases ry;exact PySem.EqNone.ne_bool_none (Ba I q A5)
  |bl j=>cases ry;exact ne_bool (Ba I q (Z5 not Wq))
  |str j=>obtain⟨t',rfl⟩:=ry;exact PySem.EqMixed.ne_bool_str (Ba I q A5)
  |_=>exact absurd (show false=true from hs) C9
 |int i =>
  obtain⟨t,rfl⟩:=rx;cases y with
  |non=>cases ry;exact PySem.EqNone.ne_int_none (Ba I q A5)
  |int j=>obtain⟨t',rfl⟩:=ry;exact ne_int (Ba I q (Z5 not SN))
  |str j=>obtain⟨t',rfl⟩:=ry;exact PySem.EqMixed.ne_int_str (Ba I q A5)
  |_=>exact absurd (show false=true from hs) C9
 |str i =>
  obtain⟨t,rfl⟩:=rx;cases y with
  |non=>cases ry;exact PySem.EqNone.ne_str_none (Ba I q A5)
  |bl j=>cases ry;exact PySem.EqMixed.ne_str_bool (Ba I q A5)
  |int j=>obtain⟨t',rfl⟩:=ry;exact PySem.EqMixed.ne_str_int (Ba I q A5)
  |str j=>obtain⟨t',rfl⟩:=ry;exact ne_str (Ba I q (Z5 not SM))
  |_=>exact absurd (show false=true from hs) C9
 |byt i =>
  obtain⟨t,rfl⟩:=rx;cases y with
  |byt j=>obtain⟨t',rfl⟩:=ry;exact PySem.W.ne_bytes (Ba I q (Z5 not SO))
  |_=>exact absurd (show false=true from hs) C9
 |_=>cases y<;>exact absurd (show false=true from hs) C9
theorem JY:OpR X (compareOp .Lt) (rI0 λi j=>.bl (decide (i<j))):=opB0 λ_ _ _ _ _ _ _ q=>lt_int q
theorem JZ:OpR X (compareOp .LtE) (rI0 λi j=>.bl (decide (i<=j))):=opB0 λ_ _ _ _ _ _ _ q=>le_int q
theorem Ea:OpR X (compareOp .Gt) (rI0 λi j=>.bl (decide (j<i))):=opB0 λ_ _ _ _ _ _ _ q=>gt_int q
theorem op_ge:OpR X (compareOp .GtE) (rI0 λi j=>.bl (decide (j<=i))):=opB0 λ_ _ _ _ _ _ _ q=>ge_int q
theorem JE:OpR X (compareOp .In) (λx y H Q=>∃i j,x=.str i/\y=.str j/\Q (.bl (!(Builtin.Str.occurrences j i 0 j.length 1).isEmpty)) H):=by
 intro pins s σ H x y v u Q I rx ry h;obtain⟨i,j,rfl,rfl,q⟩:=h;obtain⟨t,rfl⟩:=rx;obtain⟨t',rfl⟩:=ry;exact in_str (Ba I q rfl)
theorem MB:OpR X (compareOp .Is) (λx y H Q=>y=.non/\Q (.bl (decide (x=.non))) H):=by
 intro pins s σ H x y v u Q I rx ry h;obtain⟨rfl,q⟩:=h;cases ry;refine is_none_gen (Ba I q ?_);cases x<;>first
  | (cases rx;rfl)
  | (obtain⟨t,rfl⟩:=rx;rfl)
theorem op_notN:OpR X (compareOp .IsNot) (λx y H Q=>y=.non/\Q (.bl (!decide (x=.non))) H):=by
 intro pins s σ H x y v u Q I rx ry h;obtain⟨rfl,q⟩:=h;cases ry;refine isnot_none_gen (Ba I q ?_);cases x<;>first
  | (cases rx;rfl)
  | (obtain⟨t,rfl⟩:=rx;rfl)
theorem Au(b:Expr){op:CmpOp}(h:op≠.In:=by decide)(h2:op≠.NotIn:=by decide):behindInMarks op b=false:=by
 have e1:(op==CmpOp.In)=false:=by cases op<;>first|rfl|exact absurd rfl h
 have e2:(op==CmpOp.NotIn)=false:=by cases op<;>first|rfl|exact absurd rfl h2
 cases b<;>simp[behindInMarks,e1,e2]
theorem DD{op:CmpOp}{r:R2}(ho:OpR X (compareOp op) r)(ha:PE X a ta)(hb:PE X b tb)(hm:behindInMarks op b=false):PE X (.Compare a [op] [b] pos) (tOp r ta tb):=by
 intro pins s σ H Q I h;exact wpAny_Compare1 (binT ha hb I h λv u s2 x y H2 I2 rx ry q=>ho pins s2 σ H2 x y v u Q I2 rx ry q) hm
def Sb(t:TE):TT:=fun σ H Q=>t σ H λx H'=>∃k,x=.bl k/\Q k H'
theorem As{op:CmpOp}{r:R2}(ho:OpR X (compareOp op) r)(ha:PE X a ta)(hb:PE X b tb)(hm:behindInMarks op b=false):PT X (.Compare a [op] [b] pos) (Sb (tOp r ta tb)):=by
 intro pins s σ H Q I h;refine wpAny_isTrue_Compare1 (thn (ha pins s σ H _ I h) λv s1 ⟨x,H1,I1,r1,q1⟩=>thn (hb pins s1 σ H1 _ I1 q1) λu s2 ⟨y,H2,I2,r2,q2⟩ =>
  thn (ho pins s2 σ H2 x y v u _ I2 r1 r2 q2) λc s3 ⟨z,H3,I3,r3,k,e,q3⟩=>?_) hm
 subst e;cases r3;exact X7 ⟨H3,I3,q3⟩
def UD(r r':R2)(ta tb tc:TE):TE:=fun σ H Q=>ta σ H λx H1=>tb σ H1 λy H2=>r x y H2 λz H3=>∃k,z=.bl k /\
 (if k=true then tc σ H3 λw' H4=>r' y w' H4 Q else Q (.bl false) H3)
theorem Vt{op op':CmpOp}{r r':R2}(ho:OpR X (compareOp op) r)(ho':OpR X (compareOp op') r')(ha:PE X a ta)(hb:PE X b tb)(hc:PE X c tc)
  (hm:lastMarks [op,op'] [b,c]=false:=by with_unfolding_all rfl):PE X (.Compare a [op,op'] [b,c] pos) (UD r r' ta tb tc):=by
 intro pins s σ H Q I h;refine Compare_chain (thn (ha pins s σ H _ I h) λv s1 ⟨x,H1,I1,r1,q1⟩=>chain_link (thn (hb pins s1 σ H1 _ I1 q1) λu s2 ⟨y,H2,I2,r2,q2⟩ =>
  thn (ho pins s2 σ H2 x y v u _ I2 r1 r2 q2) λd s3 ⟨z,H3,I3,r3,k,e,q3⟩=>?_)) hm
 subst e;cases r3;refine X7 ?_;cases k with
 |false=>exact ite_ff ⟨.bl false,H3,I3,rfl,q3⟩
 |true=>exact ite_tt (chain_last (thn (hc pins s3 σ H3 _ I3 q3) λw' s4 ⟨z',H4,I4,r4,q4⟩=>ho' pins s4 σ H4 y z' u w' Q I4 r2 r4 q4))
theorem PP{op op':CmpOp}{r r':R2}(ho:OpR X (compareOp op) r)(ho':OpR X (compareOp op') r')(ha:PE X a ta)(hb:PE X b tb)(hc:PE X c tc)
  (hm:lastMarks [op,op'] [b,c]=false:=by with_unfolding_all rfl):PT X (.Compare a [op,op'] [b,c] pos) (Sb (UD r r' ta tb tc)):=by
 intro pins s σ H Q I h;refine isTrue_chain (thn (ha pins s σ H _ I h) λv s1 ⟨x,H1,I1,r1,q1⟩=>test_link (thn (hb pins s1 σ H1 _ I1 q1) λu s2 ⟨y,H2,I2,r2,q2⟩ =>
  thn (ho pins s2 σ H2 x y v u _ I2 r1 r2 q2) λd s3 ⟨z,H3,I3,r3,k,e,q3⟩=>?_)) hm
 subst e;cases r3;refine X7 ?_;cases k with
 |false =>
  obtain⟨k',e',q'⟩:=q3;cases e';exact ite_ff ⟨H3,I3,q'⟩
 |true =>
  refine ite_tt (test_last (thn (hc pins s3 σ H3 _ I3 q3) λw' s4 ⟨z',H4,I4,r4,q4⟩=>thn (ho' pins s4 σ H4 y z' u w' _ I4 r2 r4 q4) λd' s5 ⟨z2,H5,I5,r5,k2,e2,q5⟩=>?_));subst e2;cases r5;exact X7 ⟨H5,I5,q5⟩
theorem JL:(sizeLine:Nat)<2^63:=by rw[sizeLine_eq];decide
theorem EG:OpR X (binaryOp .Add) (λx y H Q=>∃i j,x=.str i/\y=.str j/\i.length+j.length<=sizeLine/\Q (.str (i++j)) H):=by
 intro pins s σ H x y v u Q I rx ry h;obtain⟨i,j,rfl,rfl,hz,q⟩:=h;obtain⟨t,rfl⟩:=rx;obtain⟨t',rfl⟩:=ry;exact add_str (λt' tk=>⟨.str (i++j),H,I.tok _,⟨_,rfl⟩,q⟩) hz
theorem JV{x:V}{us:List Value}(r:AH [x] us):∃u,us=[u]/\AX x u:=by
 cases r with
 |cons r1 r2=>cases r2;exact⟨_,rfl,r1⟩
theorem vals2{x y:V}{us:List Value}(r:AH [x,y] us):∃u w',us=[u,w']/\AX x u/\AX y w':=by
 cases r with
 |cons r1 r2 =>
  cases r2 with
  |cons r3 r4=>cases r4;exact⟨_,_,rfl,r1,r3⟩
theorem Wx:Do X (.builtin "abs") (λxs H Q=>∃i,xs=[.int i]/\Q (.int (if i<0 then -i else i)) H):=by
 intro pins s σ H xs us Q I r h;obtain⟨i,rfl,q⟩:=h;obtain⟨u,rfl,t,rfl⟩:=JV r;exact call_abs_int λu tk=>⟨.int (if i<0 then -i else i),H,I.tok _,⟨_,rfl⟩,q⟩
theorem GV(hc:X.calm=true):Do X (.builtin "max") (λxs H Q=>∃i j,xs=[.int i,.int j]/\Q (.int (if j > i then j else i)) H):=by
 intro pins s σ H xs us Q I r h;obtain⟨i,j,rfl,q⟩:=h;obtain⟨u,w',rfl,⟨t,rfl⟩,⟨t',rfl⟩⟩:=vals2 r;refine max_two_ints (I.ok.hd hc) λh' tk k=>⟨_,H,I.kept k,?_,q⟩
 by_cases hj:j > i
 ·rw[Y4 hj,Y4 hj];exact⟨_,rfl⟩
 ·rw[Y0 hj,Y0 hj];exact⟨_,rfl⟩
theorem Fq(hc:X.calm=true):Do X (.builtin "min") (λxs H Q=>∃i j,xs=[.int i,.int j]/\Q (.int (if j<i then j else i)) H):=by
 intro pins s σ H xs us Q I r h;obtain⟨i,j,rfl,q⟩:=h;obtain⟨u,w',rfl,⟨t,rfl⟩,⟨t',rfl⟩⟩:=vals2 r;refine min_two_ints (I.ok.hd hc) λh' tk k=>⟨_,H,I.kept k,?_,q⟩
 by_cases hj:j<i
 ·rw[Y4 hj,Y4 hj];exact⟨_,rfl⟩
 ·rw[Y0 hj,Y0 hj];exact⟨_,rfl⟩
theorem NZ:Do X (.type "int") (λxs H Q=>(∃i,xs=[.int i]/\Q (.int i) H)\/∃k,xs=[.bl k]/\Q (.int (if k then 1 else 0)) H):=by
 intro pins s σ H xs us Q I r h;rcases h with ⟨i,rfl,q⟩|⟨k,rfl,q⟩
 ·obtain⟨u,rfl,t,rfl⟩:=JV r;exact call_int_int ⟨.int i,H,I,⟨_,rfl⟩,q⟩
 ·obtain⟨u,rfl,r1⟩:=JV r;cases r1;exact call_int_bool ⟨.int (if k then 1 else 0),H,I.tok _,⟨_,rfl⟩,q⟩
theorem Ji:Do X (.type "str") (λxs H Q=>∃i,xs=[.int i]/\i.natAbs.log2<1920/\Q (.str (toString i)) H):=by
 intro pins s σ H xs us Q I r h;obtain⟨i,rfl,hz,q⟩:=h;obtain⟨u,rfl,t,rfl⟩:=JV r;exact PySem.P.str_of_int hz ⟨.str _,H,I.tok _,⟨_,rfl⟩,q⟩
end
structure RQ(h:Heap)(x dx C:Addr)(mA:Str->Option Value):Prop where
 obj:h.get? x=some (instObj C dx)
 ns:h.Ns1 dx mA
 ne:dx≠x
theorem TL{h:Heap}{dx:Addr}{mA:Str->Option Value}(n:h.Ns1 dx mA):∃od,h.get? dx=some od/\∀name,lookIn name od=some (mA name):=by
 obtain⟨o,es,ep,ho,hd,hk,_,hm⟩:=n;refine⟨o,ho,λname=>?_⟩;have e:=hm name;unfold nsFind findBy at e;rw[<-Array.find?_toList]at e;unfold lookIn;rw[hd];dsimp only;split
 ·rename_i y q;rw[q]at e;exact Z5 some e
 ·rename_i q;rw[q]at e;have a:es.toList.any (·.refKey)=false:=by
   rw[List.any_eq_false];intro y hy;obtain⟨z,t,hkey⟩:=hk y (Array.mem_toList_iff.mp hy);simp[DictEntry.refKey,hkey]
  have a':¬es.toList.any (·.refKey)=true:=by rw[a];exact C9
  rw[Y0 a'];exact Z5 some e
theorem RQ.look{h:Heap}{x dx C:Addr}{mA:Str->Option Value}(I:RQ h x dx C mA):∃od,PySem.W.InstAt h x (instObj C dx) C (some od)/\∀name,lookIn name od=some (mA name) :=
 let ⟨od,ho,hl⟩:=TL I.ns
 ⟨od,⟨I.obj,rfl,rfl,ho⟩,hl⟩
section
variable{prog:Program}{w:World}{A:Around}{E:Value->Shared->Prop}{s:Shared}{K:PySem.W.Frag}{x dx C f:Addr}{mA:Str->Option Value}{name:Str}{v:Value}
theorem get_map{expr:Bool}{Q:Value->Shared->Prop}(X:K.In s.heap)(I:RQ s.heap x dx C mA)(hg:plainGet K C name=true)(hh:hasDictIn K C=true)
  (ha:findIn K (.ref C) name=some none) (hv:mA name=some v) (hv':handedIn v=true) (h:Q v {s with toks:=s.toks+1}) :
  wpAny (model prog w) A (getAttr (.ref x) name expr) Q E s:=by
 obtain⟨od,J,hl⟩:=I.look;exact PySem.W.get_value X J (A4f hg).1 (PySem.W.findObj_own hh ha rfl (by rw[hl,hv])) hv' h
theorem Wk{pl:Sem Bool}{Q:Value×List Value->Shared->Prop}(X:K.In s.heap)(I:RQ s.heap x dx C mA)(hg:plainGet K C name=true)
  (hf:findIn K (.ref C) name=some (some (.ref f))) (ht:isFn K (.ref f)=true) (hv:mA name=none) (h:Q (.ref f,[.ref x]) s) :
  wpAny (model prog w) A (getMethod (.ref x) name pl) Q E s:=by
 obtain⟨od,J,hl⟩:=I.look;exact PySem.W.method_fn X J (A4f hg).1 (A4f hg).2 hf (beq_iff_eq.mp ht) (by show(lookIn name od).map (·.isSome)=some false;rw[hl,hv];rfl) h
theorem set_map{ns:List Str}{Q:Unit->Shared->Prop}(X:K.In s.heap)(I:RQ s.heap x dx C mA)
  (hs:findIn K (.ref C) "__setattr__" = some (some (.builtin "object.__setattr__"))) (hp:plainOver K C=true) (ht:takerIn K C name=some none) (hh:hasDictIn K C=true)
  (hw:PySem.Within mA ns) (hsz:ns.length<=sizeLine)
  (h:∀h',RQ h' x dx C (λy=>if y=name then some v else mA y)->Heap.SameBut dx s.heap h'->Q () {s with heap:=h',toks:=s.toks+2}) :
  wpAny (model prog w) A (setAttr (.ref x) name v) Q E s:=by
 obtain⟨od,J,hl⟩:=I.look;refine PySem.W.set_plain X J hs (PySem.W.osa_open (s:={s with toks:=s.toks+1}) (r:=none) X J hp ht λb=>?_)
 obtain⟨cd,hc,hd'⟩:=any_some hh;have hx:s.heap.get? x=some ⟨.ref C,some dx,.plain,#[]⟩:=I.obj;refine W8 (W9 (W8 (W8 (wpAny_loadPart hx (W8 (PySem.W.Looks.here (s:={s with toks:=s.toks+1}) (PySem.W.looks_clsIn X hc) ?_))))))
 rw[hd'];refine W9 (a:=some dx) (W8 (W9 (W8 ?_)));refine wpAny_nsSet1 (s:={s with toks:=s.toks+1}) I.ns λh' hn2 hs2=>?_;obtain⟨oD,esD,epD,hoD,hdD,hcD⟩:=hn2.count (PySem.Within.cons name v hw);refine W8 (wpAny_lookBehind hoD (by rw[hdD];exact pastItsLine_dict (C4 hcD (by rw[D0];lia))) ?_);exact W9 (h _ ⟨(hs2.2 _ (Z4 I.ne)).trans I.obj,hn2,I.ne⟩ hs2)
theorem VV{R:Result->Shared->Prop}{vs:List Value}{kw:List (Str×Value)}(X:K.In s.heap)(hm:makesIn K C=true)
  (hi:findIn K (.ref C) "__init__" = some (some (.ref f))) (hf:PySem.W.typeIn K (.ref f)=some (.type "function"))
  (h:codeAny (model prog w) (A.under (.builtin "type.__call__" ⟨.ref C::vs,kw⟩)) (.call (.ref f) ⟨.ref (s.heap.objs.size+1)::vs,kw⟩) (PySem.W.InitBack (s.heap.objs.size+1) R)
   {s with heap:=(s.heap.push emptyDict).push (instObj C s.heap.objs.size)}) :
  codeAny (model prog w) A (.call (.ref C) ⟨vs,kw⟩) R s:=by
 obtain⟨hh,g,d,t,os⟩:=s;exact PySem.W.make_core (PySem.W.makes_of X hm) (PySem.W.looks_findIn X hi) (λself=>PySem.W.bind_fn X self hf) (.inl rfl) h
end
def BO(f:Str)(v:V):List (Str×V)->List (Str×V)
 |[]=>[(f,v)]
 | (g,x)::r=>if g=f then(g,v)::r else(g,x)::BO f v r
theorem Aw(f g:Str)(v:V):∀fs:List (Str×V),(BO f v fs).lookup g=if g=f then some v else fs.lookup g
 |[]=>by
  show List.lookup g [(f,v)]=_;by_cases h:g=f
  ·have hb:(g==f)=true:=beq_iff_eq.mpr h;simp only[List.lookup,hb,Y4 h]
  ·have hb:(g==f)=false:=beq_eq_false_iff_ne.mpr h;simp only[List.lookup,hb,Y0 h]
 | (k,x)::r=>by
  have ih:=Aw f g v r;rw[show BO f v ((k,x)::r)=(if k=f then(k,v)::r else(k,x)::BO f v r)from rfl];by_cases hk:k=f
  ·rw[Y4 hk];by_cases h:g=k
   ·have hb:(g==k)=true:=beq_iff_eq.mpr h;simp only[List.lookup,hb,Y4 (h.trans hk)]
   ·have hb:(g==k)=false:=beq_eq_false_iff_ne.mpr h;simp only[List.lookup,hb,Y0 (λe:g=f=>h (e.trans hk.symm))]
  ·rw[Y0 hk];by_cases h:g=k
   ·have hb:(g==k)=true:=beq_iff_eq.mpr h;simp only[List.lookup,hb,Y0 (λe:g=f=>hk (h.symm.trans e))]
   ·have hb:(g==k)=false:=beq_eq_false_iff_ne.mpr h;simp only[List.lookup,hb];exact ih
theorem JM(f:Str)(v:V):∀fs:List (Str×V),f∈(BO f v fs).map (·.1)/\∀g,g∈fs.map (·.1)->g∈(BO f v fs).map (·.1)
 |[]=>⟨by simp[BO],λg h=>by simp at h⟩
 | (k,x)::r=>by
  obtain⟨i1,i2⟩:=JM f v r;rw[show BO f v ((k,x)::r)=(if k=f then(k,v)::r else(k,x)::BO f v r)from rfl];by_cases hk:k=f
  ·rw[Y4 hk];subst hk;exact⟨by simp,λg h=>by simpa using h⟩
  ·rw[Y0 hk];refine⟨?_,λg h=>?_⟩
   ·rw[D5];exact B3 _ i1
   ·rw[D5]at h⊢;rcases B9.mp h with e|e
    ·exact B9.mpr (.inl e)
    ·exact B3 _ (i2 g e)
theorem Ld(f:Str)(v:V):∀fs:List (Str×V),(BO f v fs).length<=fs.length+1
 |[]=>by simp[BO]
 | (k,x)::r=>by
  have ih:=Ld f v r;rw[show BO f v ((k,x)::r)=(if k=f then(k,v)::r else(k,x)::BO f v r)from rfl];by_cases hk:k=f
  ·rw[Y4 hk,D0,D0];lia
  ·rw[Y0 hk,D0,D0];lia
theorem FY.some_of{v:V}{o:Option Value}(r:FY (some v) o):∃u,o=some u/\AX v u:=by
 cases o with
 |none=>exact(show False from r).elim
 |some u=>exact⟨u,rfl,r⟩
theorem FY.none_of{o:Option Value}(r:FY none o):o=none:=by
 cases o with
 |none=>rfl
 |some u=>exact(show False from r).elim
theorem Ua{v:V}{u:Value}(r:AX v u):handedIn u=true:=by
 cases v with
 |non=>cases(show u=Value.none from r);rfl
 |bl b=>cases(show u=Value.bool b from r);rfl
 |int i=>obtain⟨t,e⟩:=(show ∃t,u=Value.int i t from r);cases e;rfl
 |str x=>obtain⟨t,e⟩:=(show ∃t,u=Value.str x t from r);cases e;rfl
 |byt b=>obtain⟨t,e⟩:=(show ∃t,u=Value.bytes b t from r);cases e;rfl
 |flt b=>obtain⟨t,e⟩:=(show ∃t,u=Value.float b t from r);cases e;rfl
 |ref a=>cases(show u=Value.ref a from r);rfl
 |ty n=>cases(show u=Value.type n from r);rfl
section
variable{P:Program}{w:World}{H H':Hp}{h h':Heap}{a C dx:Addr}{fs fs':List (Str×V)}
theorem LN(hok:HOk P w H h)(e:H a=some (.ins C dx fs)):∃mA,RQ h a dx C mA/\(∀f,FY (fs.lookup f) (mA f))/\PySem.Within mA (fs.map (·.1))/\fs.length<=1000/\H dx=some (.own a):=by
 obtain⟨d,z,ne,ob,mA,n,r,q⟩:=(show Be P w H h a (.ins C dx fs)from hok a _ e)
 exact⟨mA,⟨ob,n,ne⟩,r,q,z,d⟩
end
structure Cls(K:PySem.W.Frag)(C:Addr):Prop where
 pg:plainGet K C Str.empty=true
 hd:hasDictIn K C=true
 po:plainOver K C=true
 sa:findIn K (.ref C) "__setattr__" = some (some (.builtin "object.__setattr__"))
theorem Cls.get{K:PySem.W.Frag}{C:Addr}(c:Cls K C)(f:Str):plainGet K C f=true:=c.pg
def Dm(K:PySem.W.Frag)(C:Addr)(f:Str):Prop:=findIn K (.ref C) f=some none
theorem Dm.taker{K:PySem.W.Frag}{C:Addr}{f:Str}(n:Dm K C f):takerIn K C f=some none:=by
 unfold takerIn;rw[show findIn K (.ref C) f=some none from n];rfl
structure QL(K:PySem.W.Frag)(C:Addr)(m:Str)(f:Addr):Prop where
 at_:findIn K (.ref C) m=some (some (.ref f))
 fn:isFn K (.ref f)=true
 kp:keepIn K (.ref f)=true
section
variable{X:Cx}{pins:List (Addr×Obj)}{σ:St}{H:Hp}{s:Shared}{a C dx:Addr}{fs:List (Str×V)}{f:Str}{v:V}{A:Around}{E:Value->Shared->Prop}
theorem RD{b:Bool}{Q:Value->Shared->Prop}(I:Inv X pins σ H s)(e:H a=some (.ins C dx fs))(c:Cls X.K C)(n:Dm X.K C f)(l:fs.lookup f=some v)
  (h:∀u s',Inv X pins σ H s'->AX v u->Q u s'):wpAny (model X.prog X.w) A (getAttr (.ref a) f b) Q E s:=by
 obtain⟨mA,O,r,_,_,_⟩:=LN I.hok e;obtain⟨u,hu,ru⟩:=FY.some_of (v:=v) (o:=mA f) (by rw[<-l];exact r f);exact get_map I.kIn O (c.get f) c.hd n hu (Ua ru) (h u _ (I.tok _) ru)
theorem RC{m:Str}{g:Addr}{pl:Sem Bool}{Q:Value×List Value->Shared->Prop}(I:Inv X pins σ H s)(e:H a=some (.ins C dx fs))(c:Cls X.K C)(k:QL X.K C m g)(l:fs.lookup m=none)
  (h:Q (.ref g,[.ref a]) s):wpAny (model X.prog X.w) A (getMethod (.ref a) m pl) Q E s:=by
 obtain⟨mA,O,r,_,_,_⟩:=LN I.hok e;have hn:mA m=none:=FY.none_of (by rw[<-l];exact r m);exact Wk I.kIn O (c.get m) k.at_ k.fn hn h
theorem QY{y:V}{u:Value}{Q:Unit->Shared->Prop}(I:Inv X pins σ H s)(e:H a=some (.ins C dx fs))(c:Cls X.K C)(n:Dm X.K C f)(hl:fs.length<1000)(ry:AX y u)
  (h:∀s',Inv X pins σ (upd H a (.ins C dx (BO f y fs))) s'->Q () s'):wpAny (model X.prog X.w) A (setAttr (.ref a) f u) Q E s:=by
 obtain⟨mA,O,r,wi,_,ho⟩:=LN I.hok e;have hz:(fs.map (·.1)).length<=sizeLine:=by rw[B0,sizeLine_eq];lia
 refine set_map I.kIn O c.sa c.po n.taker c.hd wi hz λh' O' sb=>h _ ?_;have hd:∃o,h'.get? dx=some o:=let ⟨o,_,_,e',_⟩:=O'.ns;⟨o,e'⟩;refine I.write (x:=a) (e:=dx) (by rw[e];exact True.intro) (.inr ho) (λb q hb z=>(sb.2 b hb).trans z) hd ?_;refine⟨by rw[Al O.ne];exact ho,?_,O.ne,O'.obj,_,O'.ns,λg=>?_,λg hg=>?_⟩
 ·have:=Ld f y fs;lia
 ·show FY ((BO f y fs).lookup g) (if g=f then some u else mA g);rw[Aw];by_cases q:g=f
  ·rw[Y4 q,Y4 q];exact ry
  ·rw[Y0 q,Y0 q];exact r g
 ·by_cases q:g=f
  ·rw[q];exact(JM f y fs).1
  ·refine(JM f y fs).2 g (wi g λz=>hg ?_);show(if g=f then some u else mA g)=none;rw[Y0 q];exact z
theorem Inv.made(I:Inv X pins σ H s):Inv X pins σ (upd (upd H s.heap.objs.size (.own (s.heap.objs.size+1))) (s.heap.objs.size+1) (.ins C s.heap.objs.size []))
  {s with heap:=(s.heap.push emptyDict).push (instObj C s.heap.objs.size)}:=by
 have e1:(s.heap.push emptyDict).get? s.heap.objs.size=some emptyDict:=C3 s.heap rfl;have e2:((s.heap.push emptyDict).push (instObj C s.heap.objs.size)).get? (s.heap.objs.size+1)=some (instObj C s.heap.objs.size):=by
  have:=C3 (s.heap.push emptyDict) (o:=instObj C s.heap.objs.size) rfl
  rwa [Q9]at this
 have e3:(s.heap.push emptyDict).Ns s.heap.objs.size (λ_=>none):=⟨emptyDict,#[],_,e1,rfl,(λe he=>absurd he A5),λ_=>rfl⟩
 have I1:=I.laid (a:=s.heap.objs.size) (o:=.own (s.heap.objs.size+1)) (h':=s.heap.push emptyDict) (t':=s.toks) (λb u q=>B1 _ q) (B5 _) ⟨_,e1⟩;refine I1.laid (a:=s.heap.objs.size+1) (o:=.ins C s.heap.objs.size []) (t':=s.toks) (λb u q=>B1 _ q) (Nat.le_of_eq (Q9 _ _)) ?_;have ne:s.heap.objs.size≠s.heap.objs.size+1:=D8 (S7 _);refine⟨by rw[Al ne,upd_same],J7 _,ne,e2,λ_=>none,(Heap.Ns1.of_empty e3).at λo q=>B1 _ q,λ_=>True.intro,λy hy=>absurd rfl hy⟩
theorem attr_of{prog:Program}{w:World}{env:Env}{e:Expr}{f:Str}{pos:Pos}{s:Shared}{Q:Value->Shared->Prop}(hb:attributeBase e f env (eval e env)=eval e env)
  (h:wpAny (model prog w) A (eval e env) (λo s₁=>wpAny (model prog w) A (getAttr o f true) Q E s₁) E s):wpAny (model prog w) A (eval (.Attribute e f pos) env) Q E s :=
 Attribute_any_ h (by rw[arm_eval_Attribute,hb])
end
def tFld(K:PySem.W.Frag)(ta:TE)(f:Str):TE:=fun σ H Q=>ta σ H λx H1=>∃a C dx fs v,x=.ref a/\H1 a=some (.ins C dx fs)/\Cls K C/\Dm K C f/\fs.lookup f=some v/\Q v H1
def sFld(K:PySem.W.Frag)(ta tv:TE)(f:Str):TS:=λD σ H=>tv σ H λy H1=>ta σ H1 λx H2=>∃a C dx fs,x=.ref a/\H2 a=some (.ins C dx fs)/\Cls K C/\Dm K C f/\fs.length<1000 /\
 D.nx σ (upd H2 a (.ins C dx (BO f y fs)))
section
variable{X:Cx}{o e value:Expr}{f:Str}{pos pos' tpos:Pos}{ta tv:TE}
theorem AO(he:PE X e ta)(hb:attributeBase e f X.env (eval e X.env)=eval e X.env):PE X (.Attribute e f pos) (tFld X.K ta f):=by
 intro pins s σ H Q I h;refine attr_of hb (thn (he pins s σ H _ I h) λu s1 ⟨x,H1,I1,rx,a,C,dx,fs,v,ex,ea,c,n,l,q⟩=>?_);subst ex;obtain rfl:u=Value.ref a:=rx;exact RD I1 ea c n l λu' s2 I2 ru=>⟨v,H1,I2,ru,q⟩
theorem Jw(ha:PE X o ta)(hv:PE X value tv)(hs:swapsWith value (some (.Attribute o f pos')) pos.line X.env=pure false):PS X (.Assign [.Attribute o f pos'] value pos) (sFld X.K ta tv f):=by
 intro pins s σ H D I h;refine plainObj_wpAny_Assign_Attribute (thn (hv pins s σ H _ I h) λu s1 ⟨y,H1,I1,ry,q⟩=>thn (ha pins s1 σ H1 _ I1 q) λov s2 ⟨x,H2,I2,rx,a,C,dx,fs,ex,ea,c,n,l,q2⟩=>?_) hs;subst ex;obtain rfl:ov=Value.ref a:=rx;exact QY I2 ea c n l ry λs3 I3=>⟨σ,_,I3,q2⟩
end
section
variable{X:Cx}{pins:List (Addr×Obj)}{σ:St}{H:Hp}{s:Shared}{A:Around}{E:Value->Shared->Prop}{Q:Value->Shared->Prop}{c:Value}{b:Bool}
inductive JS(K:PySem.W.Frag)(H:Hp):V->Value->Prop where
 |non:JS K H .non (.type "NoneType")
 |bl (x:Bool):JS K H (.bl x) (.type "bool")
 |int (i:Int):JS K H (.int i) (.type "int")
 |str (x:Str):JS K H (.str x) (.type "str")
 |flt (x:UInt64):JS K H (.flt x) (.type "float")
 |lst {a:Addr} {xs:List V} (e:H a=some (.lst xs)):JS K H (.ref a) (.type "list")
 |frz {a:Addr} {o:Obj} {xs:List V} (e:H a=some (.frz o (.lst xs))):JS K H (.ref a) (.type "list")
 |tup {a:Addr} {xs:List V} (e:H a=some (.tup xs)):JS K H (.ref a) (.type "tuple")
 |dK {a:Addr} {kvs:List (Key×V)} (e:H a=some (.dK kvs)):JS K H (.ref a) (.type "dict")
 |dT {a:Addr} {kvs:List (List Key×V)} (e:H a=some (.dT kvs)):JS K H (.ref a) (.type "dict")
 |ins {a C dx:Addr} {fs:List (Str×V)} (e:H a=some (.ins C dx fs)) (cl:Cls K C) (ha:findIn K (.ref C) "__class__" = some (some (.builtin "object.__class__")))
   (hn:specialIn K (.builtin "object.__class__") "__get__" = some (some (.builtin "getset_descriptor.__get__"))) (htk:takesIn K (.builtin "object.__class__")=some true)
   (hm:mroIn K C (.type "object")=some true):JS K H (.ref a) (.ref C)
theorem TV{x:V}{u t:Value}(I:Inv X pins σ H s)(rx:AX x u)(ty:JS X.K H x t)(e:kitOne X.K t c=some b)(h:∀tk,Q (.bool b) {s with toks:=tk}) :
  wpAny (model X.prog X.w) A (call (.builtin "isinstance") [u,c]) Q E s:=by
 cases ty with
 |non=>cases(show u=Value.none from rx);exact Z8 PySem.W.kitx_none I.kIn True.intro e (λz=>nomatch z) h
 |bl y=>cases(show u=Value.bool y from rx);exact Z8 PySem.W.kitx_bool I.kIn True.intro e (λz=>nomatch z) h
 |int i=>obtain⟨t,q⟩:=(show ∃t,u=Value.int i t from rx);cases q;exact Z8 PySem.W.kitx_int I.kIn True.intro e (λz=>nomatch z) h
 |str y=>obtain⟨t,q⟩:=(show ∃t,u=Value.str y t from rx);cases q;exact Z8 PySem.W.kitx_str I.kIn True.intro e (λz=>nomatch z) h
 |flt y=>obtain⟨t,q⟩:=(show ∃t,u=Value.float y t from rx);cases q;exact Z8 PySem.W.kitx_float I.kIn True.intro e (λz=>nomatch z) h
 |@lst a xs ea =>
  cases(show u=Value.ref a from rx);obtain⟨_,_,n,_,h1⟩:=(show Be X.prog X.w H s.heap a (.lst xs)from I.hok a _ ea)
  exact Z8 kitx_list I.kIn ⟨_,h1,rfl⟩ e (λz=>nomatch z) h
 |@frz a ob xs ea =>
  cases(show u=Value.ref a from rx);obtain⟨_,_,_,n,_,h1⟩:=(show Be X.prog X.w H s.heap a (.frz ob (.lst xs))from I.hok a _ ea)
  exact Z8 kitx_list I.kIn ⟨_,h1,rfl⟩ e (λz=>nomatch z) h
 |@tup a xs ea =>
  cases(show u=Value.ref a from rx);obtain⟨_,_,_,p⟩:=(show Be X.prog X.w H s.heap a (.tup xs)from I.hok a _ ea)
  obtain⟨o,h1,h2,_⟩:=p;exact Z8 PySem.W.kitx_tuple I.kIn ⟨o,h1,h2⟩ e (λz=>nomatch z) h
 |@dK a kvs ea =>
  cases(show u=Value.ref a from rx);obtain⟨_,_,vs,_,p⟩:=(show Be X.prog X.w H s.heap a (.dK kvs)from I.hok a _ ea)
  obtain⟨o,es,ep,h1,h2,_⟩:=p;exact Z8 kitx_dict I.kIn ⟨o,h1,h2.1⟩ e (λz=>nomatch z) h
 |@dT a kvs ea =>
  cases(show u=Value.ref a from rx);obtain⟨_,_,xs,_,o,es,ep,h1,h2,_⟩:=(show Be X.prog X.w H s.heap a (.dT kvs)from I.hok a _ ea)
  exact Z8 kitx_dict I.kIn ⟨o,h1,h2.1⟩ e (λz=>nomatch z) h
 |@ins a C dx fs ea cl ha hn htk hm =>
  cases(show u=Value.ref a from rx);obtain⟨mA,O,_⟩:=LN I.hok ea;obtain⟨od,J,_⟩:=O.look;exact Z8 (PySem.W.kitx_own (cl.get _) cl.hd ha hn htk hm) I.kIn J e (λz=>nomatch z) h
end
structure Cr(k:Nat)(A:Around):Prop where
 hd:A.handled=none
 dp:A.depth+3*k+5<recursionLimit
 un:A.units+16*k+200<cLine
theorem Cr.mono{j k:Nat}{A:Around}(r:Cr k A)(h:j<=k):Cr j A:=⟨r.hd,by have:=r.dp;lia,by have:=r.un;lia⟩
theorem Cr.deeper{k:Nat}{A:Around}(r:Cr (k+1) A)(env:Env):Cr k (A.deeper env) :=
 ⟨r.hd,by have:=r.dp;show A.depth+1+3*k+5<_;lia,by have:=r.un;show A.units+3+16*k+200<_;lia⟩
theorem Cr.in1{k:Nat}{A:Around}(r:Cr (k+1) A):Cr k A.in1 :=
 ⟨r.hd,by have:=r.dp;show A.depth+3*k+5<_;lia,by have:=r.un;show A.units+1+16*k+200<_;lia⟩
theorem Rx{A:Around}{C:Addr}{us:List Value}{kw:List (Str×Value)}:(A.under (.builtin "type.__call__" ⟨.ref C::us,kw⟩)).depth=A.depth+1:=by
 first|rfl|simp[Around.under,Code.weight,Code.isCreation,Code.isGuard,Code.isCaller,Code.frames,Code.isFrame,guardIds]
theorem Rw{A:Around}{C:Addr}{us:List Value}{kw:List (Str×Value)}:(A.under (.builtin "type.__call__" ⟨.ref C::us,kw⟩)).units=A.units+1:=by
 first|rfl|simp[Around.under,Code.cUnits,Code.frames,Code.isFrame]
theorem Cr.make{k:Nat}{A:Around}(r:Cr (k+1) A)(C:Addr)(us:List Value)(kw:List (Str×Value)):Cr k (A.under (.builtin "type.__call__" ⟨.ref C::us,kw⟩)) :=
 ⟨r.hd,by have:=r.dp;rw[Rx];lia,by have:=r.un;rw[Rw];lia⟩
theorem Cr.depth{k:Nat}{A:Around}(r:Cr k A):A.depth<recursionLimit:=by have:=r.dp;lia
theorem Cr.units{k:Nat}{A:Around}(r:Cr k A):A.units+64<cLine:=by have:=r.un;lia
def tNil:TA:=λ_ H Q=>Q [] H
def NF(ta:TE)(tr:TA):TA:=fun σ H Q=>ta σ H λx H1=>tr σ H1 λxs H2=>Q (x::xs) H2
section
variable{X:Cx}{e:Expr}{es:List Expr}{te:TE}{t:TA}{pos:Pos}
theorem Ac:PA X [] tNil:=λ_ _ _ _ H Q I h=>Calls.spliced_nil ⟨[],H,I,.nil,h⟩
theorem Aa(ha:PE X e te)(hr:PA X es t)(hs:starEach (e::es) X.env=(false,eval e X.env)::starEach es X.env:=by rfl):PA X (e::es) (NF te t):=by
 intro pos pins s σ H Q I h;rw[hs];show wpAny _ _ (spliced ((false,eval e X.env)::backTo pos (starEach es X.env))) _ _ s;refine A6c (thn (ha pins s σ H _ I h) λu s1 ⟨x,H1,I1,r1,q1⟩=>?_);exact thn (hr pos pins s1 σ H1 _ I1 q1) λus s2 ⟨xs,H2,I2,r2,q2⟩=>⟨x::xs,H2,I2,.cons r1 r2,q2⟩
def tTup(t:TA):TE:=fun σ H Q=>t σ H λxs H1=>xs.length<=sizeLine/\∀p,H1 p=none->Q (.ref p) (upd H1 p (.tup xs))
def tLst(t:TA):TE:=fun σ H Q=>t σ H λxs H1=>xs.length<=sizeLine/\∀p,H1 p=none->Q (.ref p) (upd H1 p (.lst xs))
theorem Cn{x1}(h:PA X es t):PE X (.Tuple es x1 pos) (tTup t):=by
 intro pins s σ H Q I hq;refine wpAny_Tuple_spliced (thn (h pos pins s σ H _ I hq) λus s1 ⟨xs,H1,I1,r,z,q⟩=>⟨by rw[<-r.length];exact z,?_⟩);have hf:H1 s1.heap.objs.size=none:=I1.hok.fresh (B5 _);refine⟨.ref s1.heap.objs.size,upd H1 s1.heap.objs.size (.tup xs),I1.laid (t':=s1.toks) (λb u e=>B1 _ e) (B5 _) ?_,rfl,q _ hf⟩;exact⟨z,us,r,⟨_,C3 _ rfl,rfl,_,rfl⟩⟩
theorem Dj(h:PA X es t):PE X (.List es pos) (tLst t):=by
 intro pins s σ H Q I hq;refine wpAny_List_spliced (thn (h pos pins s σ H _ I hq) λus s1 ⟨xs,H1,I1,r,z,q⟩=>⟨by rw[<-r.length];exact z,?_⟩);have hf:H1 s1.heap.objs.size=none:=I1.hok.fresh (B5 _);refine⟨.ref s1.heap.objs.size,upd H1 s1.heap.objs.size (.lst xs),I1.laid (t':=s1.toks) (λb u e=>B1 _ e) (B5 _) ?_,rfl,q _ hf⟩;exact⟨z,us,0,r,C3 _ rfl⟩
end
abbrev Sp:=List V->Hp->VK->XK->Prop
abbrev CXT:=List Env->Hp->Shared->XK->Value->Shared->Prop
structure Lw(P:Program)(w:World)(K:PySem.W.Frag)(mg:Str->Option Value)(base:Heap)(A:Around)(outer:List Env)(s:Shared)(H:Hp):Prop where
 frames:A.frames=some outer
 mod:Mod K mg base
 bs:∀b o,base.get? b=some o->s.heap.get? b=some o/\H b=none
 bsz:base.objs.size<=s.heap.objs.size
 funs:s.heap.FunFrames base outer
 frf:∀b∈frs outer,H b=none
 hok:HOk P w H s.heap
 bare:AllBare s.gens
def CE(outer:List Env)(P:Program)(w:World)(H:Hp)(s:Shared)(Q:VK)(u:Value)(s':Shared):Prop :=
 ∃v H',s'.os=s.os/\AllBare s'.gens/\Un (frs outer) [] H H' s.heap s'.heap/\HOk P w H' s'.heap/\AX v u/\Q v H'
def CR(CX:CXT)(outer:List Env)(P:Program)(w:World)(H:Hp)(s:Shared)(Q:VK)(E:XK)(r:Result)(s':Shared):Prop :=
 match r with
 |.ok (.ret u)=>CE outer P w H s Q u s'
 |.ok _=>False
 |.error e=>CX outer H s E e s'
structure AI(P:Program)(w:World)(K:PySem.W.Frag)(mg:Str->Option Value)(base:Heap)(CX:CXT)(k:Nat)(f:Addr)(fd:FuncData)(ps:List Str)(sp:Sp):Prop where
 len:∀vs H Q E,sp vs H Q E->vs.length=ps.length
 run:∀(A:Around)(outer:List Env)(s:Shared)(H:Hp)(args:Args)(us:List Value)(vs:List V)(Q:VK)(E:XK),Cr k A->Lw P w K mg base A outer s H->BindsTo s fd args (ps.zip us)->AH vs us->sp vs H Q E ->
  codeAny (model P w) A (.call (.ref f) args) (CR CX outer P w H s Q E) s
theorem Lw.make{P:Program}{w:World}{K:PySem.W.Frag}{mg:Str->Option Value}{base:Heap}{A:Around}{outer:List Env}{s:Shared}{H:Hp}(e:Lw P w K mg base A outer s H)(C:Addr)(us:List Value)(kw:List (Str×Value)) :
  Lw P w K mg base (A.under (.builtin "type.__call__" ⟨.ref C::us,kw⟩)) outer s H:=⟨by first|exact e.frames|(simpa[Around.under,Code.envs,Code.isFrame,pushEnvs] using e.frames),e.mod,e.bs,e.bsz,e.funs,e.frf,e.hok,e.bare⟩
theorem Lw.in1{P:Program}{w:World}{K:PySem.W.Frag}{mg:Str->Option Value}{base:Heap}{A:Around}{outer:List Env}{s:Shared}{H:Hp}(e:Lw P w K mg base A outer s H) :
  Lw P w K mg base A.in1 outer s H:=⟨e.frames,e.mod,e.bs,e.bsz,e.funs,e.frf,e.hok,e.bare⟩
section
variable{X:Cx}{pins:List (Addr×Obj)}{σ:St}{H:Hp}{s s':Shared}
theorem Inv.env0(I:Inv X pins σ H s):Lw X.prog X.w X.K X.mg X.base X.A X.stack s H :=
 ⟨I.ok.frames,I.ok.mod,I.bs,C4 I.ok.bsz I.sz,I.stack,I.stkFree,I.hok,I.bare⟩
theorem Inv.after{Q:VK}{u:Value}(I:Inv X pins σ H s)(h:CE X.stack X.prog X.w H s Q u s'):EP X pins σ Q u s':=by
 obtain⟨v,H',os,bare,un,hok,r,q⟩:=h;obtain⟨hh,g,d,t,os'⟩:=s';obtain rfl:os'=s.os:=os;exact⟨v,H',I.call (h':=hh) (g':=g) (d':=d) (t':=t) (ch:=[]) un hok bare (λb z=>absurd z A5),r,q⟩
end
def tCall(sp:Sp)(dvs:List V)(E:XK)(t:TA):TE:=fun σ H Q=>t σ H λvs H1=>sp (vs++dvs) H1 Q E
def tMeth(C:Addr)(m:Str)(sp:Sp)(dvs:List V)(E:XK)(ta:TE)(t:TA):TE:=fun σ H Q=>ta σ H λx H1=>∃a dx fs,x=.ref a/\H1 a=some (.ins C dx fs)/\fs.lookup m=none /\
 t σ H1 λvs H2=>sp (x::(vs++dvs)) H2 Q E
def tMake(C:Addr)(sp:Sp)(dvs:List V)(E:XK)(t:TA):TE:=fun σ H Q=>t σ H λvs H1=>∀x dx,H1 x=none->H1 dx=none->dx≠x ->
 sp (.ref x::(vs++dvs)) (upd (upd H1 dx (.own x)) x (.ins C dx [])) (λv H2=>v=.non/\Q (.ref x) H2) E
def Ci(K:PySem.W.Frag)(fd:FuncData)(ps:List Str)(ds:List Value):Prop :=
 ∀(s:Shared)(us:List Value),K.In s.heap->(us++ds).length=ps.length->BindsTo s fd ⟨us,[]⟩ (ps.zip (us++ds))
theorem Ci.all{K:PySem.W.Frag}{fd:FuncData}{ps:List Str}(h:∀us:List Value,us.length=ps.length->bindArgs fd ⟨us,[]⟩=pure (ps.zip us)):Ci K fd ps []:=λs us _ hl=>by
 rw[L5]at hl⊢;exact .of_eq (h us hl)
def Ga(CX:CXT)(X:Cx)(E:XK):Prop:=∀(pins:List (Addr×Obj))(σ:St)(H:Hp)(s:Shared)(e:Value)(s':Shared),Inv X pins σ H s->CX X.stack H s E e s'->X.xe e s'
section
variable{X:Cx}{CX:CXT}{k:Nat}{f C:Addr}{fd:FuncData}{ps:List Str}{sp:Sp}{dvs:List V}{ds:List Value}{E:XK}{x m:Str}{p pos apos:Pos}{e o:Expr}{es:List Expr}{ta:TE}{t:TA}
theorem UY{pins:List (Addr×Obj)}{σ:St}{H:Hp}{s:Shared}{Q:VK}{us:List Value}{vs:List V}(F:AI X.prog X.w X.K X.mg X.base CX k f fd ps sp)(hr:Cr k X.A)(hb:Ci X.K fd ps ds)(hd:AH dvs ds)(hx:Ga CX X E)
  (I:Inv X pins σ H s) (r:AH vs us) (h:sp (vs++dvs) H Q E):wpAny (model X.prog X.w) X.A (call (.ref f) us) (EP X pins σ Q) X.xe s:=by
 have r2:AH (vs++dvs) (us++ds):=r.append hd;have hl:(us++ds).length=ps.length:=by rw[<-r2.length];exact F.len _ _ _ _ h
 refine wpAny_call (A4g (F.run X.A X.stack s H ⟨us,[]⟩ (us++ds) (vs++dvs) Q E hr I.env0 (hb s us I.kIn hl) r2 h) λr s' hq=>?_);cases r with
 |error e=>exact hx pins σ H s e s' I hq
 |ok fl =>
  cases fl with
  |ret u=>exact I.after hq
  |next=>exact False.elim hq
  |brk=>exact False.elim hq
  |cont=>exact False.elim hq
theorem pe_call(F:AI X.prog X.w X.K X.mg X.base CX k f fd ps sp)(hr:Cr k X.A)(hg:Gl X x)(hm:X.mg x=some (.ref f))(hk:keepIn X.K (.ref f)=true)(hb:Ci X.K fd ps ds)(hd:AH dvs ds)(hx:Ga CX X E)
  (ha:PA X (e::es) t) (hdb:(x==("__debug__" : Str))=false:=by decide) (he:starEach (e::es) X.env=(false,eval e X.env)::starEach es X.env:=by rfl) (hpl:(backTo pos (starEach es X.env)).any (·.1)=false:=by rfl) :
  PE X (.Call (.Name x p) (e::es) [] pos) (tCall sp dvs E t):=by
 intro pins s σ H Q I h;refine A2g (LK I hg hm ?_ hdb);refine callWith_K (h₀:=X.base) I.ok.mod.kin hk (thn (ha pos pins s σ H _ I h) λus s1 ⟨vs,H1,I1,r,q⟩=>⟨I1.kIn,?_⟩) he hpl;exact UY F hr hb hd hx I1 r q
theorem pe_meth{pl:Sem Bool}(he:PE X o ta)(c:Cls X.K C)(hm:QL X.K C m f)(F:AI X.prog X.w X.K X.mg X.base CX k f fd ps sp)(hr:Cr k X.A)(hb:Ci X.K fd ps ds)(hd:AH dvs ds)(hx:Ga CX X E)(ha:PA X (e::es) t)
  (hst:starEach (e::es) X.env=(false,eval e X.env)::starEach es X.env:=by rfl) (hpl:(backTo pos (starEach es X.env)).any (·.1)=false:=by rfl)
  (ht:eval (.Call (.Attribute o m apos) (e::es) [] pos) X.env=(do
   let ov <-eval o X.env
   standAt apos.atName
   let (f,first) <-holding [ov] (getMethod ov m pl)
   callWith pos f first (backTo pos (starEach (e::es) X.env)) (backToKw pos (keywordEach [] X.env))):=by rfl) :
  PE X (.Call (.Attribute o m apos) (e::es) [] pos) (tMeth C m sp dvs E ta t):=by
 intro pins s σ H Q I h;refine PySem.W.methodCall_KW (pl:=pl) (thn (he pins s σ H _ I h) λu s1 ⟨x,H1,I1,rx,a,dx,fs,ex,ea,l,q⟩=>?_) ht;subst ex;obtain rfl:u=Value.ref a:=rx;refine RC I1 ea c hm l ?_;refine callWith_K (first:=[.ref a]) (h₀:=X.base) I.ok.mod.kin hm.kp (thn (ha pos pins s1 σ H1 _ I1 q) λus s2 ⟨vs,H2,I2,r,q2⟩=>⟨I2.kIn,?_⟩) hst hpl;exact UY (us:=.ref a::us) (vs:=.ref a::vs) F hr hb hd hx I2 (.cons rfl r) q2
structure Mk(K:PySem.W.Frag)(C f:Addr):Prop where
 makes:makesIn K C=true
 init:findIn K (.ref C) "__init__" = some (some (.ref f))
 fn:isFn K (.ref f)=true
 kp:keepIn K (.ref C)=true
theorem UX{pins:List (Addr×Obj)}{σ:St}{H:Hp}{s:Shared}{Q:VK}{us:List Value}{vs:List V}(M:Mk X.K C f)(F:AI X.prog X.w X.K X.mg X.base CX k f fd ps sp)(hr:Cr (k+1) X.A)(hb:Ci X.K fd ps ds)(hd:AH dvs ds)
  (hx:Ga CX X E) (I:Inv X pins σ H s) (r:AH vs us)
  (h:∀x dx,H x=none->H dx=none->dx≠x->sp (.ref x::(vs++dvs)) (upd (upd H dx (.own x)) x (.ins C dx [])) (λv H2=>v=.non/\Q (.ref x) H2) E) :
  wpAny (model X.prog X.w) X.A (call (.ref C) us) (EP X pins σ Q) X.xe s:=by
 have hq:=h (s.heap.objs.size+1) s.heap.objs.size (I.hok.fresh (O9 _)) (I.hok.fresh (B5 _)) (D8 (S7 _));have I2:=Inv.made (C:=C) I;have r2:AH (V.ref (s.heap.objs.size+1)::(vs++dvs)) (Value.ref (s.heap.objs.size+1)::(us++ds)):=.cons rfl (r.append hd);have hl:(Value.ref (s.heap.objs.size+1)::us++ds).length=ps.length:=by
  have e:=r2.length;rw[F.len _ _ _ _ hq]at e;exact e.symm
 refine wpAny_call (VV (f:=f) I.kIn M.makes M.init (beq_iff_eq.mp M.fn) (A4g (F.run _ X.stack _ _ ⟨Value.ref (s.heap.objs.size+1)::us,[]⟩ (Value.ref (s.heap.objs.size+1)::(us++ds)) _ _ E (hr.make C us [])
  (I2.env0.make C us []) (hb _ (Value.ref (s.heap.objs.size+1)::us) I2.kIn hl) r2 hq) λr s' hq'=>?_))
 cases r with
 |error e=>exact hx pins σ _ _ e s' I2 hq'
 |ok fl =>
  cases fl with
  |ret u =>
   obtain⟨v,H',I3,rv,ev,q3⟩:=I2.after hq';subst ev;exact⟨rv,⟨V.ref (s.heap.objs.size+1),H',I3,rfl,q3⟩⟩
  |next=>exact False.elim hq'
  |brk=>exact False.elim hq'
  |cont=>exact False.elim hq'
theorem Vn(M:Mk X.K C f)(F:AI X.prog X.w X.K X.mg X.base CX k f fd ps sp)(hr:Cr (k+1) X.A)(hg:Gl X x)(hm:X.mg x=some (.ref C))(hb:Ci X.K fd ps ds)(hd:AH dvs ds)(hx:Ga CX X E)
  (hdb:(x==("__debug__" : Str))=false:=by decide):PE X (.Call (.Name x p) [] [] pos) (tMake C sp dvs E tNil):=by
 intro pins s σ H Q I h;refine A2g (LK I hg hm ?_ hdb);exact PySem.W.callWith_K0 I.kIn M.kp (UX (us:=[]) M F hr hb hd hx I .nil h)
end
def PK(X:Cx)(kws:List Keyword)(t:TA):Prop :=
 ∀(pos:Pos)(pins:List (Addr×Obj))(s:Shared)(σ:St)(H:Hp)(Q:List V->Hp->Prop),Inv X pins σ H s->t σ H Q->wpAny (model X.prog X.w) X.A (evalAll ((backToKw pos (keywordEach kws X.env)).map (·.2))) (AP X pins σ Q) X.xe s
section
variable{X:Cx}{CX:CXT}{k:Nat}{f C:Addr}{fd:FuncData}{ps ks:List Str}{sp:Sp}{E:XK}{x m:Str}{p pos apos kpos:Pos}{e o:Expr}{es:List Expr}{kws:List Keyword}{te ta:TE}{t tk:TA}{nm:Option Str}
theorem pk_nil:PK X [] tNil:=λ_ _ _ _ H Q I h=>wpAny_evalAll_nil ⟨[],H,I,.nil,h⟩
theorem pk_cons(ha:PE X e te)(hr:PK X kws t):PK X (⟨nm,e,kpos⟩::kws) (NF te t):=by
 intro pos pins s σ H Q I h;show wpAny _ _ (evalAll ((do let v <-eval e X.env;standAt pos;pure v)::(backToKw pos (keywordEach kws X.env)).map (·.2))) _ _ s;refine wpAny_evalAll_cons (W8 (thn (ha pins s σ H _ I h) λu s1 ⟨x,H1,I1,r1,q1⟩=>W8 (A6a (W9 ?_))));exact thn (hr pos pins s1 σ H1 _ I1 q1) λus s2 ⟨xs,H2,I2,r2,q2⟩=>⟨x::xs,H2,I2,.cons r1 r2,q2⟩
variable{g:List Value->List Value->List Value}{gV:List V->List V->List V}
end
structure Ar(N P:List Str)(sc:Scope):Prop where
 kind:sc.kind=.function
 co:sc.isCoroutine=false
 gen:sc.isGenerator=false
 nd:N.Nodup
 pre:N.take P.length=P
 par:∀x∈P,sc.names.lookup x=some .local\/sc.names.lookup x=some .cell
 nofree:∀y∈sc.names,y.2≠.free
theorem Oa{kindOf:Str->Option NameKind}{x:Str}:∀{binds:List (Str×Value)}{m:Str->Option Value},(∀v,(x,v)∉binds)->bindL kindOf binds m x=m x
 |[],_,_=>rfl
 | (n,v)::r,m,h=>by
  unfold bindL;rw[Oa λw hw=>h w (B3 _ hw)];split
  ·have:x≠n:=by rintro rfl;exact h v C2
   simp[this]
  ·rfl
theorem Oc{kindOf:Str->Option NameKind}{x:Str}:∀{binds:List (Str×Value)}{m:Str->Option Value},(∀v,(x,v)∉binds)->bindC kindOf binds m x=m x
 |[],_,_=>rfl
 | (n,v)::r,m,h=>by
  unfold bindC;rw[Oc λw hw=>h w (B3 _ hw)];split
  ·rfl
  ·have:x≠n:=by rintro rfl;exact h v C2
   simp[this]
theorem Ob{kindOf:Str->Option NameKind}{x:Str}{v:Value}:∀{P:List Str}{vs:List Value}{i:Nat}{m:Str->Option Value},P.Nodup->P[i]?=some x->vs[i]?=some v->kindOf x=some .local ->
  bindL kindOf (P.zip vs) m x=some v
 |[],_,_,_,_,h,_,_=>by simp at h
 |_::_,[],_,_,_,_,h,_=>by simp at h
 |p::P,w::vs,0,m,nd,h1,h2,hk=>by
  simp at h1 h2;subst h1;subst h2;show bindL kindOf ((p,w)::P.zip vs) m p=_;unfold bindL;rw[Oa λv hv=>(O6.mp nd).1 (List.of_mem_zip hv).1,Y4 hk];simp
 |p::P,w::vs,i+1,m,nd,h1,h2,hk=>by
  show bindL kindOf ((p,w)::P.zip vs) m x=_;unfold bindL;exact Ob (i:=i) (O6.mp nd).2 (by simpa using h1) (by simpa using h2) hk
theorem Od{kindOf:Str->Option NameKind}{x:Str}{v:Value}:∀{P:List Str}{vs:List Value}{i:Nat}{m:Str->Option Value},P.Nodup->P[i]?=some x->vs[i]?=some v->kindOf x≠some .local ->
  bindC kindOf (P.zip vs) m x=some v
 |[],_,_,_,_,h,_,_=>by simp at h
 |_::_,[],_,_,_,_,h,_=>by simp at h
 |p::P,w::vs,0,m,nd,h1,h2,hk=>by
  simp at h1 h2;subst h1;subst h2;show bindC kindOf ((p,w)::P.zip vs) m p=_;unfold bindC;rw[Oc λv hv=>(O6.mp nd).1 (List.of_mem_zip hv).1,Y0 hk];simp
 |p::P,w::vs,i+1,m,nd,h1,h2,hk=>by
  show bindC kindOf ((p,w)::P.zip vs) m x=_;unfold bindC;exact Od (i:=i) (O6.mp nd).2 (by simpa using h1) (by simpa using h2) hk
def JW(N:List Str)(vs:List V):St:=vs.map some++List.replicate (N.length-vs.length) none
def Ui(CX:CXT)(P:Program)(w:World)(K:PySem.W.Frag)(mg:Str->Option Value)(base:Heap)(N:List Str)(qual:Str)(scope:Scope)(f:Addr)(cd:Value)(A:Around)(outer:List Env)(s:Shared)(H:Hp)(E:XK):Cx where
 prog:=P
 w:=w
 K:=K
 mg:=mg
 base:=base
 A:=A.deeper (envOfC qual scope s.heap.objs.size f cd)
 N:=N
 s₀:=s
 H₀:=H
 env:=envOfC qual scope s.heap.objs.size f cd
 outer:=outer
 stack:=envOfC qual scope s.heap.objs.size f cd::outer
 ex:=[]
 calm:=true
 fn:=λ_=>true
 pn:=[]
 xe:=λe s'=>wpAny (model P w) (A.deeper (envOfC qual scope s.heap.objs.size f cd)) (leaving (envOfC qual scope s.heap.objs.size f cd) e) (λ_ s''=>CX outer H s E e s'') (λe' s''=>CX outer H s E e' s'') s'
theorem QG{sc:Scope}{n:Nat}{x:Str}(h:sc.names.lookup x=some .cell):∃c,(cellsFrom n sc.names []).lookup x=some c:=by
 have q:=PySem.W.cellsFrom_some sc.names n [] (.inl h);exact Option.isSome_iff_exists.mp q
theorem TX{CX:CXT}{P:Program}{w:World}{K:PySem.W.Frag}{mg:Str->Option Value}{base:Heap}{N ps:List Str}{qual:Str}{scope:Scope}{f:Addr}{cd:Value}{A:Around}{outer:List Env}{s s1:Shared}{H:Hp}{E:XK}{us:List Value}{vs:List V}
  (S:Ar N ps scope) (hd:A.handled=none) (e0:Lw P w K mg base A outer s H) (hl:vs.length=ps.length) (r:AH vs us)
  (x:InCallC s s.heap.objs.size (bindL (envOfC qual scope s.heap.objs.size f cd).kindOf (ps.zip us) λ_=>none) (cellsFrom (s.heap.objs.size+1) scope.names []) (bindC (envOfC qual scope s.heap.objs.size f cd).kindOf (ps.zip us) λ_=>none) s1) :
  Inv (Ui CX P w K mg base N qual scope f cd A outer s H E) [] (JW N vs) H s1:=by
 have hpl:ps.length<=N.length:=by have:=Z5 List.length S.pre;rw[F8]at this;lia
 obtain⟨h1,tk,rfl,hk⟩:=x.done;have noA:∀b:Addr,b∉(Ui CX P w K mg base N qual scope f cd A outer s H E).ex:=λb z=>absurd (show b∈([]:List Addr)from z) A5;refine⟨⟨e0.mod,S.kind,rfl,rfl,B5 _,λy z c h1 h2=>?_,λy hy=>?_,λy c _ h=>?_,λ_=>hd,Around.frames_deeper e0.frames,.inr ⟨rfl,rfl⟩,λb z=>absurd z (noA b),e0.bs,e0.bsz,λb _ _=>noA b,λb z=>absurd z (noA b),e0.funs,e0.frf⟩,
  rfl,e0.bare,Un.kept hk,⟨_,x.toInCall.ns,λi y v h1 h2 h3=>?_⟩,λy c h=>⟨_,x.cell y c h⟩,e0.hok.fresh (B5 _),λy c h=>?_,λp hp=>absurd (show p∈([]:List (Addr×Obj))from hp) A5,e0.hok.kept hk,?_⟩
 ·exact name_of_addr x.apart (K1 h1) (K1 h2)
 ·have hy:scope.names.lookup y=some .cell\/scope.names.lookup y=some .free:=hy;rcases hy with hy|hy
  ·exact QG hy
  ·exact absurd rfl (S.nofree _ (K1 hy))
 ·exact O2 (x.above y c (K1 h))
 ·have hi:i<vs.length:=by
   unfold JW at h2;by_cases hi:i<vs.length
   ·exact hi
   ·rw[F3 (by simpa using hi)]at h2;rw[U7]at h2;split at h2<;>cases h2
  have ha:vs[i]?=some v:=by
   unfold JW at h2;rw[J8 (by simpa using hi),B6]at h2;cases e:vs[i]? with
   |none=>rw[e]at h2;cases h2
   |some a=>rw[e]at h2;cases h2;rfl
  obtain⟨u,hu,rv⟩:=r.get ha;have hp:ps[i]?=some y:=by
   rw[<-S.pre,List.getElem?_take_of_lt A0];exact h1
  have ndP:ps.Nodup:=by rw[<-S.pre];exact S.nd.sublist (List.take_sublist _ _)
  refine⟨u,rv,?_⟩;rcases S.par y (F6 hp)with k|k
  ·exact .inl ⟨k,Ob ndP hp hu k⟩
  ·obtain⟨c,e⟩:=QG (n:=s.heap.objs.size+1) k;refine .inr ⟨.inl k,c,e,?_⟩;have q:=x.cell y c e;rw[Od ndP hp hu (by show scope.names.lookup y≠_;rw[k];decide)]at q;exact q
 ·exact e0.hok.fresh (O2 (x.above y c (K1 h)))
 ·unfold JW;show _=N.length;rw[B4,B0,N2];lia
theorem fn_of{CX:CXT}{P:Program}{w:World}{K:PySem.W.Frag}{mg:Str->Option Value}{base:Heap}{k:Nat}{f:Addr}{name qual:Str}{params:Arguments}{body:List Stmt}{scope:Scope}{dV kV doc pm cdv ct oc:Value}{an od:Option Addr}
  {osl:Array (Option Value)} {N ps:List Str} {sp:Sp} (lk:K.lookup f=some ⟨oc,od,.func (PySem.W.fnOf name qual params body scope dV kV doc pm an cdv ct),osl⟩) (hcd:PySem.W.codeIn K cdv qual=true) (S:Ar N ps scope)
  (len:∀vs H Q E,sp vs H Q E->vs.length=ps.length)
  (hbody:∀(A:Around)(outer:List Env)(s:Shared)(H:Hp)(vs:List V)(Q:VK)(E:XK),Cr k (A.deeper (envOfC qual scope s.heap.objs.size f cdv))->sp vs H Q E ->
   ∃t,PSs (Ui CX P w K mg base N qual scope f cdv A outer s H E) body t/\t {nx:=λ_ H'=>Q .non H',rt:=Q} (JW N vs) H) :
  AI P w K mg base CX (k+1) f (PySem.W.fnOf name qual params body scope dV kV doc pm an cdv ct) ps sp:=by
 refine⟨len,λA outer s H args us vs Q E hr e0 hb r hsp=>?_⟩;have hl:=len _ _ _ _ hsp;have KX:K.In s.heap:=e0.mod.kin.keeps λb o e=>(e0.bs b o e).1;have lim:s.heap.NoLimit:=e0.mod.nolimit.keeps λb o e=>(e0.bs b o e).1;have hkind:∀y∈ps.zip us,scope.names.lookup y.1=some .local\/(scope.names.lookup y.1=some .cell/\((cellsFrom (s.heap.objs.size+1) scope.names []).lookup y.1).isSome=true):=λ⟨n,v⟩ hy=>by
  rcases S.par n (List.of_mem_zip hy).1 with q|q
  ·exact .inl q
  ·exact .inr ⟨q,PySem.W.cellsFrom_some _ _ _ (.inl q)⟩
 refine codeAny_call_function hr.depth (KX _ _ lk) rfl S.co S.gen rfl (PySem.W.codeRec_of KX hcd) (hb _ _ _ _ ?_);refine wpAny_newFunctionEnv_cells S.kind hkind λenv he s1 x=>?_;subst he;refine⟨lim.keeps x.toInCall.keep,codeAny_func ?_⟩;obtain⟨t,ht,hq⟩:=hbody A outer s H vs Q E (hr.deeper _) hsp;have I:Inv (Ui CX P w K mg base N qual scope f cdv A outer s H E) [] (JW N vs) H s1:=TX S hr.hd e0 hl r x;refine X4 (ht [] s1 (JW N vs) H _ I hq) (λfl s' hs=>?_) λe s' hs=>hs;have fin:∀{σ':St}{H':Hp}{v:V}{u:Value},Inv (Ui CX P w K mg base N qual scope f cdv A outer s H E) [] σ' H' s'->AX v u->Q v H'->CE outer P w H s Q u s' :=
  λ{σ' H' v u} J rv q=>⟨v,H',J.os,J.bare,J.base,J.hok,rv,q⟩
 cases fl with
 |ret u =>
  obtain⟨v,σ',H',J,rv,q⟩:=hs;exact fin J rv q
 |next =>
  obtain⟨σ',H',J,q⟩:=hs;exact fin (v:=V.non) (u:=Value.none) J rfl q
 |brk =>
  obtain⟨_,_,_,q⟩:=hs;exact False.elim q
 |cont =>
  obtain⟨_,_,_,q⟩:=hs;exact False.elim q
section
variable{X:Cx}{x:Str}{p pos:Pos}{e:Expr}{es:List Expr}{t:TA}{id T:String}{r:List V->Hp->VK->Prop}
def tCB(r:List V->Hp->VK->Prop)(t:TA):TE:=fun σ H Q=>t σ H λvs H1=>r vs H1 Q
theorem AA(hc:Do X (.builtin id) r)(hg:Gl X x)(hm:X.mg x=none)(hv:bootBuiltins x=some (.builtin id))(ha:PA X (e::es) t)(hn:x≠"__name__" := by decide)(hdb:(x==("__debug__" : Str))=false:=by decide)
  (he:starEach (e::es) X.env=(false,eval e X.env)::starEach es X.env:=by rfl) (hpl:(backTo pos (starEach es X.env)).any (·.1)=false:=by rfl):PE X (.Call (.Name x p) (e::es) [] pos) (tCB r t):=by
 intro pins s σ H Q I h;refine A2g (IA I hg hm hv ?_ hn hdb);exact PyProof.Rows.callWith_builtin1 (thn (ha pos pins s σ H _ I h) λus s1 ⟨vs,H1,I1,r1,q1⟩=>hc pins s1 σ H1 vs us Q I1 r1 q1) he hpl
theorem Ca(hc:Do X (.type T) r)(hg:Gl X x)(hm:X.mg x=none)(hv:bootBuiltins x=some (.type T))(ha:PA X (e::es) t)(hn:x≠"__name__" := by decide)(hdb:(x==("__debug__" : Str))=false:=by decide)
  (he:starEach (e::es) X.env=(false,eval e X.env)::starEach es X.env:=by rfl) (hpl:(backTo pos (starEach es X.env)).any (·.1)=false:=by rfl):PE X (.Call (.Name x p) (e::es) [] pos) (tCB r t):=by
 intro pins s σ H Q I h;refine A2g (IA I hg hm hv ?_ hn hdb);exact A0f (thn (ha pos pins s σ H _ I h) λus s1 ⟨vs,H1,I1,r1,q1⟩=>hc pins s1 σ H1 vs us Q I1 r1 q1) he hpl
end
end L2
namespace HT
open PySem PyProof.Rows
section
open PySem.SeqAt
open PySem.AutoSeq1 (wpAny_loadPart')
open PySem.MeetsSeq PySem.MeetsSeq2 PySem.MeetsSeq3
end
section
variable{prog:Program}{w:World}{A:Around}{E:Value->Shared->Prop}{s:Shared}
def sIx(n d:Nat):Option Int->Nat
 |none=>d
 |some v=>if v<0 then(v+(n:Int)).toNat else min v.toNat n
end
end HT
namespace L2
open PySem PySem.Spec PyProof.Rows
abbrev TO:=St->Hp->(Option Int->Hp->Prop)->Prop
def PO(X:Cx)(e:Option Expr)(t:TO):Prop :=
 ∀(pins:List (Addr×Obj))(s:Shared)(σ:St)(H:Hp)(Q:Option Int->Hp->Prop),Inv X pins σ H s->t σ H Q ->
  wpAny (model X.prog X.w) X.A (evalPart e X.env) (λu s'=>∃o H',Inv X pins σ H' s'/\IsPart u o/\Q o H') X.xe s
def tNoPart:TO:=λ_ H Q=>Q none H
def tPart(t:TE):TO:=fun σ H Q=>t σ H λx H1=>∃i,x=.int i/\Q (some i) H1
section
variable{X:Cx}{e:Expr}{te:TE}{lo hi:Option Expr}{tl th:TO}{pos p2:Pos}
theorem OA:PO X none tNoPart:=by
 intro pins s σ H Q I h;rw[evalPart_none];exact W9 ⟨none,H,I,.none,h⟩
theorem Oz(h:PE X e te):PO X (some e) (tPart te):=by
 intro pins s σ H Q I hw;rw[evalPart_some];refine thn (h pins s σ H _ I hw) λu s1 ⟨x,H1,I1,r1,q1⟩=>?_;obtain⟨i,rfl,q⟩:=q1;obtain⟨t,rfl⟩:=r1;exact⟨some i,H1,I1,.int i t,q⟩
def SlR(X:Cx)(r:V->Option Int->Option Int->Hp->VK->Prop):Prop :=
 ∀(pins:List (Addr×Obj))(s:Shared)(σ:St)(H:Hp)(x:V)(v vl vu:Value)(lo hi:Option Int)(sl:Addr)(Q:VK),Inv X pins σ H s->AX x v->s.heap.IsSliceOf sl vl vu .none->IsPart vl lo->IsPart vu hi->r x lo hi H Q ->
  ∃T id,typeLookup (.type T) "__getitem__" = pure (some (.builtin id))/\s.TypeIs v T/\wpAny (model X.prog X.w) X.A (getItem v (.ref sl)) (EP X pins σ Q) X.xe s
def tSl(r:V->Option Int->Option Int->Hp->VK->Prop)(te:TE)(tl th:TO):TE:=fun σ H Q=>te σ H λx H1=>tl σ H1 λl H2=>th σ H2 λu H3=>r x l u H3 Q
theorem Mw{r:V->Option Int->Option Int->Hp->VK->Prop}(hr:SlR X r)(he:PE X e te)(hl:PO X lo tl)(hu:PO X hi th):PE X (.Subscript e (.Slice lo hi none p2) pos) (tSl r te tl th):=by
 intro pins s σ H Q I h;refine Subscript_ (thn (he pins s σ H _ I h) λv s1 ⟨x,H1,I1,r1,q1⟩=>?_);refine wpAny_Slice (thn (hl pins s1 σ H1 _ I1 q1) λvl s2 ⟨l,H2,I2,pl,q2⟩=>thn (hu pins s2 σ H2 _ I2 q2) λvu s3 ⟨u,H3,I3,pu,q3⟩=>?_);rw[evalPart_none];refine W9 ?_;have I4:Inv X pins σ H3 {s3 with heap:=s3.heap.push {cls:=.type "slice",data:=.fields #[vl,vu,.none]} }:=I3.kept (t':=s3.toks) λb ob q=>B1 _ q;obtain⟨T,id,hT,ht,hg⟩:=hr pins {s3 with heap:=s3.heap.push {cls:=.type "slice",data:=.fields #[vl,vu,.none]} } σ H3 x v vl vu l u s3.heap.objs.size Q I4 r1 (Heap.IsSliceOf.new ..) pl pu q3;show wpAny (model X.prog X.w) X.A (subscriptTail e (.Slice lo hi none p2) v (.ref s3.heap.objs.size)) (EP X pins σ Q) X.xe {s3 with heap:=s3.heap.push {cls:=.type "slice",data:=.fields #[vl,vu,.none]} };exact tail_any (ops:=[.ref s3.heap.objs.size,v]) ht hT hg (by with_unfolding_all rfl)
def QB(xs:List V)(lo hi:Option Int):List V:=(xs.drop (HT.sIx xs.length 0 lo)).take (HT.sIx xs.length xs.length hi-HT.sIx xs.length 0 lo)
theorem QA(xs:List V)(lo hi:Option Int):(QB xs lo hi).length<=xs.length:=by
 unfold QB;rw[F8,S8];lia
end
def ixN(n:Nat)(i:Int):Option Nat:=if 0<=i then(if i<n then some i.toNat else none)else if -(n:Int)<=i then some (i+n).toNat else none
def atI{α:Type}(xs:List α)(i:Int):Option α:=(ixN xs.length i).bind λj=>xs[j]?
theorem SH{n:Nat}{i:Int}{j:Nat}(h:ixN n i=some j):seqIndex? i n=some j/\j<n/\-(n:Int)<=i/\i<n:=by
 unfold ixN at h;by_cases h0:0<=i
 ·rw[Y4 h0]at h;by_cases h1:i<n
  ·rw[Y4 h1]at h;have e:i.toNat=j:=Y5 h;exact⟨by rw[seqIndex_of h0 h1,e],by lia,by lia,h1⟩
  ·rw[Y0 h1]at h;cases h
 ·rw[Y0 h0]at h;by_cases h1:-(n:Int)<=i
  ·rw[Y4 h1]at h;have e:(i+n).toNat=j:=Y5 h;exact⟨by rw[seqIndex_neg A0 h1,e],by lia,h1,by lia⟩
  ·rw[Y0 h1]at h;cases h
theorem Pj{α:Type}{xs:List α}{i:Int}{v:α}(h:atI xs i=some v):∃j,seqIndex? i xs.length=some j/\xs[j]?=some v/\j<xs.length/\-(xs.length:Int)<=i/\i<xs.length:=by
 unfold atI at h;cases e:ixN xs.length i with
 |none=>rw[e]at h;cases h
 |some j =>
  rw[e]at h;obtain⟨h1,h2,h3,h4⟩:=SH e;exact⟨j,h1,h,h2,h3,h4⟩
theorem Ag{α:Type}{xs:List α}{j:Nat}{v:α}(h:xs[j]?=some v):atI xs (j:Int)=some v:=by
 have hj:j<xs.length:=(B7.mp h).1;have e:ixN xs.length (j:Int)=some j:=by
  unfold ixN;rw[Y4 A0,Y4 A0];simp
 unfold atI;rw[e];exact h
def PlainIx(b:Expr):Prop:=∀o i,subscripted b false o i=operate [o,i] (getItem o i)
def IxR(X:Cx)(r:R2):Prop :=
 ∀(value slice:Expr)(pins:List (Addr×Obj))(s:Shared)(σ:St)(H:Hp)(x y:V)(v u:Value)(Q:VK),Inv X pins σ H s->AX x v->AX y u->r x y H Q ->
  subscripted slice false v u=operate [v,u] (getItem v u)->wpAny (model X.prog X.w) X.A (subscriptTail value slice v u) (EP X pins σ Q) X.xe s
def MtR(X:Cx)(id:String)(r:V->List V->Hp->VK->Prop):Prop :=
 ∀(pins:List (Addr×Obj))(s:Shared)(σ:St)(H:Hp)(x:V)(xs:List V)(v:Value)(us:List Value)(Q:VK),Inv X pins σ H s->AX x v->AH xs us->r x xs H Q ->
  wpAny (model X.prog X.w) X.A (call (.builtin id) (v::us)) (EP X pins σ Q) X.xe s
section
variable{X:Cx}{a b:Expr}{ta tb:TE}{pos:Pos}
theorem Am{r:R2}(hr:IxR X r)(ha:PE X a ta)(hb:PE X b tb)(hs:PlainIx b):PE X (.Subscript a b pos) (tOp r ta tb):=by
 intro pins s σ H Q I h;exact Subscript_ (binT ha hb I h λv u s2 x y H2 I2 rx ry q=>hr a b pins s2 σ H2 x y v u Q I2 rx ry q (hs _ _))
def rIxL(K:PySem.W.Frag):R2:=λx y H Q=>∃p xs i v,x=.ref p/\y=.int i/\SqL K H p xs/\atI xs i=some v/\Q v H
def PN(K:PySem.W.Frag):R2:=λx y H Q=>∃p xs i v,x=.ref p/\y=.int i/\SqT K H p xs/\atI xs i=some v/\Q v H
def rIxS:R2:=λx y H Q=>∃z i c,x=.str z/\y=.int i/\z.length<=sizeLine/\atI z.cps.toList i=some c/\Q (.str ⟨#[c]⟩) H
theorem AB:IxR X (rIxL X.K):=by
 intro value slice pins s σ H x y v u Q I rx ry h hs;obtain⟨p,xs,i,z,rfl,rfl,hq,he,q⟩:=h;cases rx;obtain⟨t,rfl⟩:=ry;obtain⟨its,r,pl,hz⟩:=I.list hq;obtain⟨j,h1,h2,h3,h4,h5⟩:=Pj he;obtain⟨w,ew,rw'⟩:=r.get h2;have hl:=r.length;have hn:=JL;have fin:EP X pins σ Q w s:=⟨z,H,I,rw',q⟩
 by_cases h0:0<=i
 ·have hj:i.toNat=j:=by
   rw[seqIndex_of h0 h5]at h1;exact Y5 h1
  exact item_listR pl.isList h0 A0 (by rw[hj];simpa using ew) fin hs
 ·have hj:(i+(its.toArray.size:Int)).toNat=j:=by
   rw[seqIndex_neg A0 h4]at h1;rw[C7,<-hl];exact Y5 h1
  exact subscriptTail_builtinR (x:=w) pl.isList.typeIs slot_list_getitem.lookup
   (wpAny_getItem_list_neg (Q:=λr s'=>r=w/\EP X pins σ Q r s') pl.isList A0 (by rw[C7]<;>lia) A0 (by rw[hj];simpa using ew) ⟨rfl,fin⟩) hs
theorem Av:IxR X (PN X.K):=by
 intro value slice pins s σ H x y v u Q I rx ry h hs;obtain⟨p,xs,i,z,rfl,rfl,hq,he,q⟩:=h;cases rx;obtain⟨t,rfl⟩:=ry;obtain⟨its,r,pl,hz⟩:=I.tuple hq;obtain⟨j,h1,h2,h3,h4,h5⟩:=Pj he;obtain⟨w,ew,rw'⟩:=r.get h2;have hl:=r.length;have hn:=JL;have fin:EP X pins σ Q w s:=⟨z,H,I,rw',q⟩
 exact subscriptTail_builtinR (x:=w) pl.typeIs slot_tuple_getitem.lookup
  (getItem_tuple (j:=j) (Q:=λr s'=>r=w/\EP X pins σ Q r s') pl A0 A0 (by rw[C7,<-hl];exact h1) (by simpa using ew) ⟨rfl,fin⟩) hs
theorem OZ:IxR X rIxS:=by
 intro value slice pins s σ H x y v u Q I rx ry h hs;obtain⟨z,i,c,rfl,rfl,hz,he,q⟩:=h;obtain⟨t,rfl⟩:=rx;obtain⟨t',rfl⟩:=ry;obtain⟨j,h1,h2,h3,h4,h5⟩:=Pj he;have hl:z.cps.toList.length=z.length:=by simp[Str.length]
 rw[hl]at h1 h4 h5;have hn:=JL;exact tail_any (typeIs_str s z t) slot_str_getitem.lookup (getItem_str (c:=c) (by
  have e1:decide (i < -(2^63:Int))=false:=Y3 A0;have e2:decide (i ≥ 2^63)=false:=Y3 A0;rw[e1,e2,Bool.or_false]) (by rw[h1];simpa using h2) ⟨.str ⟨#[c]⟩,H,I.tok _,⟨_,rfl⟩,q⟩) hs
theorem Rv(its:List Value)(n j:Nat)(u:Value):Obj.mapSeq (·.setIfInBounds j u) {cls:=.type "list",data:=.seq its.toArray n}={cls:=.type "list",data:=.seq (its.set j u).toArray n}:=by
 simp[Obj.mapSeq]
theorem Inv.lst{pins:List (Addr×Obj)}{σ:St}{H:Hp}{s:Shared}{p:Addr}{xs:List V}(I:Inv X pins σ H s)(h:H p=some (.lst xs)) :
  ∃(its:List Value)(n:Nat),AH xs its/\s.heap.get? p=some {cls:=.type "list",data:=.seq its.toArray n}/\xs.length<=sizeLine:=by
 obtain⟨z,its,n,r,e⟩:=I.hok p _ h;exact⟨its,n,r,e,z⟩
theorem Inv.lstUpd{pins:List (Addr×Obj)}{σ:St}{H:Hp}{s:Shared}{p:Addr}{xs ys:List V}{its its':List Value}{n n':Nat}{f:Obj->Obj}(I:Inv X pins σ H s)(h:H p=some (.lst xs))
  (ho:s.heap.get? p=some {cls:=.type "list",data:=.seq its.toArray n}) (hf:f {cls:=.type "list",data:=.seq its.toArray n}={cls:=.type "list",data:=.seq its'.toArray n'}) (r:AH ys its') (hz:ys.length<=sizeLine) (t:Nat) :
  Inv X pins σ (upd H p (.lst ys)) {s with heap:=s.heap.update p f,toks:=t}:=by
 have e:(s.heap.update p f).get? p=some {cls:=.type "list",data:=.seq its'.toArray n'}:=by
  rw[O5 f ho (by rw[hf]<;>rfl),hf]
 refine I.write (x:=p) (e:=p) (by rw[h];trivial) (.inl rfl) (λb u hb q=>(M2 _ _ (Z4 hb)).trans q) ⟨_,e⟩ ?_;exact⟨hz,its',n',r,e⟩
def rSetL:V->V->V->Hp->(Hp->Prop)->Prop:=λo i v H Q=>∃p xs k j,o=.ref p/\i=.int k/\H p=some (.lst xs)/\ixN xs.length k=some j/\Q (upd H p (.lst (xs.set j v)))
theorem Mf:PSet X rSetL:=by
 intro pins s σ H o i v ov iv u Q I ro ri rv h;obtain⟨p,xs,k,j,rfl,rfl,hp,hj,q⟩:=h;cases ro;obtain⟨t,rfl⟩:=ri;obtain⟨its,n,r,ho,hz⟩:=I.lst hp;obtain⟨h1,h2,h3,h4⟩:=SH hj;have hl:=r.length;have hn:=JL;have I':Inv X pins σ (upd H p (.lst (xs.set j v))) {s with heap:=s.heap.update p (Obj.mapSeq (·.setIfInBounds j u))} :=
  I.lstUpd hp ho (Rv its n j u) (r.set rv j) (by rw[List.length_set];exact hz) s.toks
 by_cases h0:0<=k
 ·have hk:k.toNat=j:=by
   rw[seqIndex_of h0 h4]at h1;exact Y5 h1
  exact PySem.W.ki_setAt ho h0 A0 (by rw[C7,<-hl];exact h4) (by rw[hk];exact⟨_,I',q⟩)
 ·have hk:(k+(its.toArray.size:Int)).toNat=j:=by
   rw[seqIndex_neg A0 h3]at h1;rw[C7,<-hl];exact Y5 h1
  exact PySem.W.ki_setBack ho A0 (by rw[C7,<-hl];exact h3) A0 (by rw[hk];exact⟨_,I',q⟩)
theorem Ot(lo hi:Option Int)(n:Nat):(sliceBounds lo hi none n).1=((HT.sIx n 0 lo:Nat):Int)/\(sliceBounds lo hi none n).2.1=((HT.sIx n n hi:Nat):Int)/\(sliceBounds lo hi none n).2.2=1:=by
 refine⟨?_,?_,rfl⟩
 ·cases lo with
  |none=>simp[sliceBounds,HT.sIx]
  |some i =>
   simp only[sliceBounds,HT.sIx,Option.getD_none,show(1:Int) > 0 by decide,A1h];by_cases h:i<0
   ·simp only[h,A1h]<;>lia
   ·simp only[h,Z9]<;>lia
 ·cases hi with
  |none=>simp[sliceBounds,HT.sIx]
  |some i =>
   simp only[sliceBounds,HT.sIx,Option.getD_none,show(1:Int) > 0 by decide,A1h];by_cases h:i<0
   ·simp only[h,A1h]<;>lia
   ·simp only[h,Z9]<;>lia
theorem Nc(its:List Value)(lo hi:Option Int):slicePick its.toArray lo hi none=((its.drop (HT.sIx its.length 0 lo)).take (HT.sIx its.length its.length hi-HT.sIx its.length 0 lo)).toArray:=by
 obtain⟨h1,h2,h3⟩:=Ot lo hi its.toArray.size;unfold slicePick;rw[h1,h2,h3];simp only[sliceRange_one,pick_run,C7]<;>rfl
def rSlL(K:PySem.W.Frag):V->Option Int->Option Int->Hp->VK->Prop:=λx lo hi H Q=>∃a xs,x=.ref a/\SqL K H a xs/\∀p,H p=none->Q (.ref p) (upd H p (.lst (QB xs lo hi)))
theorem Sh:SlR X (rSlL X.K):=by
 intro pins s σ H x v vl vu lo hi sl Q I rx hs pl pu h;obtain⟨a,xs,rfl,hx,q⟩:=h;cases rx;obtain⟨its,r,ht,hz⟩:=I.list hx;have hlen:=r.length;refine⟨"list",_,slot_list_getitem.lookup,ht.isList.typeIs,?_⟩;refine wpAny_getItem_list_slice ht.isList hs pl pu .none A5 ?_ (by rw[C7]<;>lia);rw[Nc,<-hlen];refine⟨.ref s.heap.objs.size,_,I.laid (t':=s.toks) (o:=.lst (QB xs lo hi)) (λb ob q=>B1 _ q) (B5 _) ?_,rfl,q _ (I.hok.fresh (B5 _))⟩;exact⟨C4 (QA xs lo hi) hz,_,0,(r.drop (HT.sIx xs.length 0 lo)).take (HT.sIx xs.length xs.length hi-HT.sIx xs.length 0 lo),C3 _ rfl⟩
theorem BV:Do X (.builtin "len") (λxs H Q=>∃p ys,xs=[.ref p]/\(SqL X.K H p ys\/SqT X.K H p ys)/\Q (.int ys.length) H):=by
 intro pins s σ H xs us Q I r h;obtain⟨p,ys,rfl,hq,q⟩:=h;obtain⟨u,rfl,rx⟩:=JV r;cases rx;have hn:=JL;rcases hq with hq|hq
 ·obtain⟨its,r',pl,hz⟩:=I.list hq;have hlen:=r'.length;exact Calls.call_len_list pl.isList (by simp only[C7]<;>lia) ⟨.int ys.length,H,I.tok _,⟨s.toks+1,by rw[C7,hlen]⟩,q⟩
 ·obtain⟨its,r',pl,hz⟩:=I.tuple hq;have hlen:=r'.length;exact len_tuple pl (by simp only[C7]<;>lia) ⟨.int ys.length,H,I.tok _,⟨s.toks+1,by rw[C7,hlen]⟩,q⟩
theorem FX:Do X (.builtin "len") (λxs H Q=>∃z,xs=[.str z]/\z.length<=sizeLine/\Q (.int z.length) H):=by
 intro pins s σ H xs us Q I r h;obtain⟨z,rfl,hz,q⟩:=h;obtain⟨u,rfl,t,rfl⟩:=JV r;have hn:=JL;exact len_str A0 ⟨.int z.length,H,I.tok _,⟨_,rfl⟩,q⟩
theorem Pi:Do X (.type "list") (λxs H Q=>∃p ys,xs=[.ref p]/\(SqL X.K H p ys\/SqT X.K H p ys)/\∀l,H l=none->Q (.ref l) (upd H l (.lst ys))):=by
 intro pins s σ H xs us Q I r h;obtain⟨p,ys,rfl,hq,q⟩:=h;obtain⟨u,rfl,rx⟩:=JV r;cases rx;have fin:∀(its:List Value),AH ys its->ys.length<=sizeLine->∀(h':Heap)(c':Nat),(∀b o',s.heap.get? b=some o'->h'.get? b=some o') ->
   h'.get? s.heap.objs.size=some {cls:=.type "list",dict:=none,data:=.seq its.toArray c',slots:=#[]}->EP X pins σ Q (.ref s.heap.objs.size) {s with heap:=h'}:=λits r' hz h' c' kp e =>
  ⟨.ref s.heap.objs.size,_,I.laid (t':=s.toks) kp (B5 _) (show Be X.prog X.w _ h' _ (.lst ys)from⟨hz,its,c',r',e⟩),rfl,q _ (I.hok.fresh (B5 _))⟩
 rcases hq with hq|hq
 ·obtain⟨its,r',pl,hz⟩:=I.list hq;have hlen:=r'.length;obtain⟨o,ho,hc,n,hd⟩:=pl.isList;exact call_list_seq p (.inl rfl) ho hc hd (λh' c' kp e=>fin its r' hz h' c' kp e) (by simp only[C7]<;>lia)
 ·obtain⟨its,r',pl,hz⟩:=I.tuple hq;have hlen:=r'.length;obtain⟨o,ho,hc,n,hd⟩:=pl;exact call_list_seq p (.inr rfl) ho hc hd (λh' c' kp e=>fin its r' hz h' c' kp e) (by simp only[C7]<;>lia)
theorem Ig:Do X (.type "tuple") (λxs H Q=>∃p ys,xs=[.ref p]/\((SqL X.K H p ys/\∀l,H l=none->Q (.ref l) (upd H l (.tup ys)))\/(SqT X.K H p ys/\Q (.ref p) H))):=by
 intro pins s σ H xs us Q I r h;obtain⟨p,ys,rfl,h⟩:=h;obtain⟨u,rfl,rx⟩:=JV r;cases rx;rcases h with ⟨hq,q⟩|⟨hq,q⟩
 ·obtain⟨its,r',pl,hz⟩:=I.list hq;have hlen:=r'.length;refine call_tuple_list pl.isList (λh' kp=>?_) (by simp only[C7]<;>lia);have I1:Inv X pins σ H {s with heap:=h'}:=I.kept (t':=s.toks) kp
  have I2:Inv X pins σ (upd H h'.objs.size (.tup ys)) {s with heap:=h'.push {cls:=.type "tuple",data:=.seq its.toArray} } :=
   I1.laid (t':=s.toks) (λb o e=>B1 _ e) (B5 _) (show Be X.prog X.w _ _ _ (.tup ys)from⟨hz,its,r',IsTup.new _ _⟩)
  exact⟨.ref h'.objs.size,_,I2,rfl,q _ (I1.hok.fresh (B5 _))⟩
 ·obtain⟨its,r',pl,hz⟩:=I.tuple hq;exact call_tuple_same pl ⟨.ref p,H,I,rfl,q⟩
def tyV(K:PySem.W.Frag)(T:String)(x:V)(H:Hp):Prop:=match x with
 |.str _=>T="str"
 |.int _=>T="int"
 |.ref p=>(T="list" /\ ∃xs,SqL K H p xs)\/(T="tuple" /\ ∃o,K.lookup p=some o/\o.cls=.type "tuple" /\ o.dict=none) \/
   (T="dict" /\ ((∃kvs,H p=some (.dK kvs))\/∃kvs,H p=some (.dT kvs)))\/(T="set" /\ ∃S n,H p=some (.set S n))
 |_=>False
theorem tyV_is{pins:List (Addr×Obj)}{σ:St}{H:Hp}{s:Shared}{T:String}{x:V}{v:Value}(I:Inv X pins σ H s)(r:AX x v)(ty:tyV X.K T x H) :
  s.TypeIs v T/\∀a,v=.ref a->∃ob,s.heap.get? a=some ob/\ob.dict=none:=by
 cases x with
 |str z =>
  obtain⟨t,rfl⟩:=r;cases(show T="str" from ty);exact⟨typeIs_str s z t,λ_ e=>nomatch e⟩
 |int i =>
  obtain⟨t,rfl⟩:=r;cases(show T="int" from ty);exact⟨typeIs_int s i t,λ_ e=>nomatch e⟩
 |ref p =>
  cases r;rcases ty with ⟨rfl,xs,hq⟩|⟨rfl,o,hk,hc,hd⟩|⟨rfl,hk⟩|⟨rfl,S,n,hk⟩
  ·obtain⟨its,_,pl,_⟩:=I.list hq;refine⟨pl.isList.typeIs,λa e=>?_⟩;cases e;obtain⟨o,n,e,c,hd,_⟩:=pl;exact⟨o,e,hd⟩
  ·refine⟨⟨o,I.kIn p o hk,hc⟩,λa e=>?_⟩;cases e;exact⟨o,I.kIn _ o hk,hd⟩
  ·have z:∃o,s.heap.get? p=some o/\o.ExactDict:=by
    rcases hk with ⟨kvs,hk⟩|⟨kvs,hk⟩
    ·obtain⟨_,_,_,_,o,_,_,e,ex,_⟩:=I.hok p _ hk;exact⟨o,e,ex⟩
    ·obtain⟨_,_,_,_,o,_,_,e,ex,_⟩:=I.hok p _ hk;exact⟨o,e,ex⟩
   obtain⟨o,e,ex⟩:=z;refine⟨⟨o,e,ex.1⟩,λa e2=>?_⟩;cases e2;exact⟨o,e,ex.2.1⟩
  ·obtain⟨o,_,_,_,e,ex,_⟩:=I.hok p _ hk;refine⟨⟨o,e,ex.1⟩,λa e2=>?_⟩;cases e2;exact⟨o,e,ex.2.1⟩
 |_=>exact False.elim ty
def tBM(K:PySem.W.Frag)(T:String)(r:V->List V->Hp->VK->Prop)(to:TE)(t:TA):TE:=fun σ H Q=>to σ H λx H1=>tyV K T x H1/\t σ H1 λxs H2=>r x xs H2 Q
variable{o e:Expr}{es:List Expr}{to:TE}{t:TA}{name:Str}{apos cpos:Pos}{T id:String}{r:V->List V->Hp->VK->Prop}
theorem CH(pa:PlainAttrs T)(slot:Slot T name id)(hty:typeOf (.builtin id)=pure (.type "method_descriptor"))(hm:MtR X id r)(ho:PE X o to)(ha:PA X (e::es) t)
  (hbase:attributeBase o name X.env (eval o X.env)=eval o X.env:=by rfl)
  (hfew:((backTo cpos (starEach (e::es) X.env)).all (λx=>!x.1) && (backToKw cpos (keywordEach [] X.env)).all (λx=>x.1.isSome)
   && decide ((e::es).length+([]:List Keyword).length+(if([]:List Keyword).isEmpty then 0 else 1)<30))=true:=by rfl)
  (hline:(apos.endLine==cpos.line)=true:=by rfl) (hs:starEach (e::es) X.env=(false,eval e X.env)::starEach es X.env:=by rfl) (hplain:(backTo cpos (starEach es X.env)).any (·.1)=false:=by rfl) :
  PE X (.Call (.Attribute o name apos) (e::es) [] cpos) (tBM X.K T r to t):=by
 intro pins s σ H Q I h;refine wpAny_Call_method_late hbase hfew hline rfl (thn (ho pins s σ H _ I h) λv s1 ⟨x,H1,I1,r1,ty,q1⟩=>?_);obtain⟨h1,h2⟩:=tyV_is I1 r1 ty;refine⟨T,id,pa,slot,hty,h1,h2,?_⟩;have hA:=ha cpos pins s1 σ H1 _ I1 q1;rw[hs]at hA⊢;refine A3c (by show(false || (backTo cpos (starEach es X.env)).any (·.1))=false;rw[hplain]<;>rfl) (A5d ?_);exact thn hA λus s2 ⟨vs,H2,I2,r2,q2⟩=>hm pins s2 σ H2 x vs v us Q I2 r1 r2 q2
end
def MtM(X:Cx)(id:String)(r:V->List V->Hp->VK->Prop):Prop :=
 ∀(pins:List (Addr×Obj))(s:Shared)(σ:St)(H:Hp)(x:V)(xs:List V)(v:Value)(us:List Value)(Q:VK),Inv X pins σ H s->AX x v->AH xs us->r x xs H Q ->
  wpAny (model X.prog X.w) X.A (call (.builtin id) (v::us)) (EP X pins σ Q) X.xe s
theorem AH.one:∀{x:V}{us:List Value},AH [x] us->∃u,us=[u]/\AX x u
 |_,_,.cons r .nil=>⟨_,rfl,r⟩
theorem AH.two:∀{x y:V}{us:List Value},AH [x,y] us->∃u v,us=[u,v]/\AX x u/\AX y v:=by
 intro x y us h;cases h with
 |cons r t=>cases t with
  |cons q t=>cases t;exact⟨_,_,rfl,r,q⟩
section
variable{X:Cx}{pins:List (Addr×Obj)}{σ:St}{H:Hp}{s:Shared}{l b:Addr}{xs ys zs:List V}
theorem Inv.lset{its its':List Value}{n:Nat}{f:Array Value->Array Value}{t':Nat}(I:Inv X pins σ H s)(hH:H l=some (.lst xs))
  (e:s.heap.get? l=some {cls:=.type "list",data:=.seq its.toArray n}) (hf:f its.toArray=its'.toArray) (hv:AH ys its') (hz:ys.length<=sizeLine) :
  Inv X pins σ (upd H l (.lst ys)) {s with heap:=s.heap.update l (Obj.mapSeq f),toks:=t'}:=by
 have q:=PySem.IsL.update e f;rw[hf]at q;refine I.write (x:=l) (e:=l) (by rw[hH];exact trivial) (.inl rfl) (λb' u hb hu=>(M2 s.heap (Obj.mapSeq f) (Z4 hb)).trans hu) ⟨_,q⟩ ?_;exact⟨hz,its',_,hv,q⟩
theorem Inv.fresh(I:Inv X pins σ H s):H s.heap.objs.size=none:=I.hok.fresh (B5 _)
theorem Inv.lstM(I:Inv X pins σ H s)(hH:H l=some (.lst xs)):xs.length<=sizeLine/\∃(its:List Value)(n:Nat),AH xs its/\xs.length=its.length/\s.heap.get? l=some {cls:=.type "list",data:=.seq its.toArray n}:=by
 obtain⟨z,its,n,r,e⟩:=I.hok l _ hH;exact⟨z,its,n,r,r.length,e⟩
end
section
variable{X:Cx}
def rAppend:V->List V->Hp->VK->Prop:=λx vs H Q=>∃l xs y,x=.ref l/\vs=[y]/\H l=some (.lst xs)/\xs.length<sizeLine/\Q .non (upd H l (.lst (xs++[y])))
theorem Bl:MtM X "list.append" rAppend:=by
 intro pins s σ H x vs v us Q I rx rv h;obtain⟨l,xs,y,rfl,rfl,hH,hz,q⟩:=h;cases rx;obtain⟨u,rfl,ru⟩:=rv.one;obtain⟨z,its,n,r,hl,e⟩:=I.lstM hH;refine call_meets F.slot_list_append ⟨_,e,rfl⟩ F.entry_list_append (F.args_list_append_2 _ _) (PySem.list_append l its.toArray n u (by rw[C7];lia)) ⟨e,?_⟩;refine⟨.non,_,I.lset (its':=its++[u]) hH e A5 (r.append (.cons ru .nil)) ?_,rfl,q⟩;rw[B4,G9];lia
end
section
variable{prog:Program}{w:World}{A:Around}{E:Value->Shared->Prop}{s:Shared}
end
section
variable{X:Cx}
end
end L2
namespace Att
open PySem PySem.W PySem.Calls PyProof.Rows
theorem Lr{P:Params}{h:Heap}:∀(ns:List Int)(vs:List Value),WellAll P h vs (ns.map WData.int)->IntsAre vs ns:=by
 intro ns;induction ns with
 |nil =>
  intro vs w;rw[List.map_nil]at w;cases w;exact .nil
 |cons n ns ih =>
  intro vs w;rw[D5]at w;cases w with
  |cons a b =>
   cases a;exact .cons _ _ (ih _ b)
theorem Tj{l:OpenLaw}{n:Nat}(hn:l.most=some n){P:Params}{h:Heap}{args:List WData}{vals:List Value}
  (hpre:l.row.toRowW.claim.pre args=true) (hwl:WellAll P h vals args) :
  ∃a vs ns,vals=[Value.ref a]/\args=[WData.list (ns.map WData.int)]/\h.get? a=some {cls:=.type "list",data:=.seq vs.toArray}/\IntsAre vs ns/\ns.length<=n:=by
 have hsh:WShape.hasAll [] args [.list .int]=true:=(pre_splitW hpre).1;have hc:l.pre.holds [] {args:=args}=true:=(pre_splitW hpre).2;obtain⟨d,r,rfl,h1,h2⟩:=hasAllW_cons hsh;obtain rfl:=hasAllW_nil h2;obtain⟨xs,rfl,h3⟩:=hasW_list h1;obtain⟨ns,rfl⟩:=items_int h3;have hlen:ns.length<=n:=by
  unfold OpenLaw.pre at hc;have h4:(WTm.not (.lt (.lit (.int (n:Int))) (.len (.arg 0)))).holds [] {args:=[.list (ns.map .int)]}=true:=by
   have h4:=(holds_andW hc).1;rw[hn]at h4;exact h4
  have h5:=condW_of h4 (w_not (w_lt w_lit (w_len_list (w_arg rfl))));rw[B0]at h5;refine R3 λq=>?_;have q':(n:Int)<((ns.length:Nat):Int):=by lia
  first
   | (rw[Y1 q']at h5;exact absurd h5 A3)
   | (simp at h5;lia)
 cases hwl with
 |cons w1 w2 =>
  cases w2;cases w1 with
  |list ho hall=>exact⟨_,_,ns,rfl,rfl,ho,Lr ns _ hall,hlen⟩
theorem Tq(l:OpenLaw)(args:List WData):l.row.toRowW.claim.post args (.bool true) args=true :=
 postW_of (r:=l.row.toRowW) (X:=(true==true))
  (show WShape.has [] (.bool true) .bool=true by first|rfl|decide|simp[WShape.has,WShape.arms,WShape.armsAll])
  (show(WTm.eq .res (.lit (.bool true))).value [] {args:=args,res:=some (.bool true),after:=args}=some (.bool (true==true))from w_eq_bool (w_res rfl) w_lit) rfl
theorem QH{l:OpenLaw}{n:Nat}{q:Program}{loose:List Str}{XP:(Str->Option Value)->Heap->Prop}{YP:World->Heap->Prop}{d:DefRec}
  (hn:l.most=some n) (hdf:d.params.defaults=[])
  (call:∀(w:World)(s₀ s₁:Shared)(mg mb:Str->Option Value)(fa:Addr)(o:Obj)(pm cd doc:Value)(a:Addr)(vs:List Value)(ns:List Int),
   Ground q loose [] XP w s₀ mg mb s₁.heap->YP w s₁.heap ->
   s₁.heap.get? fa=some o->o.data=.func (docDef d.name d.params d.body d.scope pm cd doc)->s₁.heap.CodeRec cd d.name->mg d.name=some (.ref fa) ->
   s₁.heap.get? a=some {cls:=.type "list",data:=.seq vs.toArray}->IntsAre vs ns->ns.length<=n->s₁.gens=#[] ->
   codeAny (model l.prog w) callerA (.call (.ref fa) ⟨[.ref a],[]⟩) (λr s'=>r=.ok (.ret (.bool true))/\OldK s₁.heap s'.heap/\s'.os=s₁.os/\AllBare s'.gens) s₁) :
  WalkO q loose XP YP l.row.toRowW d [] (λf vs=>PySem.call f vs):=by
 intro w s₀ s₁ mg mb G Y fa o pm cd doc dV kV ho hd hcd hD hmg hg args vals as hpre hlay hrd hwl hlo;obtain rfl:dV=.none:=Dflts.none hD hdf;obtain rfl:kV=.none:=Dflts.noKw hD;obtain⟨a,vs,ns,rfl,rfl,hobj,hints,hlen⟩:=Tj hn hpre hwl;refine enter_call (A4g (call w s₀ s₁ mg mb fa o pm cd doc a vs ns G Y ho (fd_plain hd) hcd hmg hobj hints hlen hg) λr s' hq=>?_);obtain⟨rfl,h2,h3,h4⟩:=hq;exact⟨.inl ⟨.bool true,.bool true,[],rfl,λ_=>rfl,.bool true,Tq l _,λ_=>⟨List.Pairwise.nil,λ_ hm=>(nomatch hm)⟩⟩,h2,h3,h4⟩
section
variable{prog:Program}{w:World}{A:Around}{E:Value->Shared->Prop}{s:Shared}{K:Frag}
end
end Att
namespace L2
open PySem PySem.Spec PyProof.Rows
theorem NB:∀{vs:List Value}{ns:List Int},IntsAre vs ns->AH (ns.map V.int) vs
 |_,_,.nil=>.nil
 |_,_,.cons n t h=>.cons ⟨t,rfl⟩ (NB h)
def Only(H:Hp):Prop:=∀b,H b=none\/∃o xs,H b=some (.frz o (.lst xs))
theorem VZ{P:Program}{w:World}{K:PySem.W.Frag}{mg mb:Str->Option Value}{CX:CXT}{k:Nat}{fa a:Addr}{fd:FuncData}{x:Str}{sp:Sp}{s₁:Shared}{vs:List Value}{ns:List Int}
  (KX:K.In s₁.heap) (hns:s₁.heap.Ns mainGlobals mg) (hb:s₁.heap.Ns builtinsNs mb) (hbb:∀x:Str,x≠"__name__" -> mb x=bootBuiltins x) (hlim:s₁.heap.NoLimit) (hg:s₁.gens=#[])
  (ha:s₁.heap.get? a=some {cls:=.type "list",data:=.seq vs.toArray}) (hi:IntsAre vs ns) (hl:ns.length<=sizeLine) (hr:Cr k callerA)
  (F:∀base:Heap,K.In base->base.Ns mainGlobals mg->AI P w K mg base CX k fa fd [x] sp) (hbind:∀(s:Shared)(u:Value),BindsTo s fd ⟨[u],[]⟩ [(x,u)])
  (hsp:∀H:Hp,Only H->SqL K H a (ns.map V.int)->sp [.ref a] H (λv _=>v=.bl true) λ_ _ _=>False)
  (hCX:∀H e s',CX [] H s₁ (λ_ _ _=>False) e s'->False) :
  codeAny (model P w) callerA (.call (.ref fa) ⟨[.ref a],[]⟩) (λr s'=>r=.ok (.ret (.bool true))/\OldK s₁.heap s'.heap/\s'.os=s₁.os/\AllBare s'.gens) s₁:=by
 have rv:=NB hi;have lenV:=hi.length;have core:∀H:Hp,Only H->SqL K H a (ns.map V.int)->HOk P w H s₁.heap->(∀b,H b≠none->b=a)->(H a≠none->K.lookup a=none) ->
   codeAny (model P w) callerA (.call (.ref fa) ⟨[.ref a],[]⟩) (λr s'=>r=.ok (.ret (.bool true))/\OldK s₁.heap s'.heap/\s'.os=s₁.os/\AllBare s'.gens) s₁:=by
  intro H hO hS hok hA hK;have base_of:∀{b:Addr}{o:Obj},s₁.heap.get? b=some o->H b=none->(Pb s₁.heap H).get? b=some o:=λe n=>Wh e n;have noA:∀{b:Addr}{o:Obj}{es:Array DictEntry}{ep:Nat},s₁.heap.get? b=some o->o.data=.dict es ep->H b=none:=λ{b o es ep} e d=>by
   cases q:H b with
   |none=>rfl
   |some u =>
    have e':b=a:=hA b (by rw[q];simp);subst e';rw[ha]at e;cases e;have d':Data.seq vs.toArray _=Data.dict es ep:=d;cases d'
  have nsK:∀{b:Addr}{m:Str->Option Value},s₁.heap.Ns b m->(Pb s₁.heap H).Ns b m:=λ{b m} ⟨o,es,ep,e,d,r⟩=>⟨o,es,ep,base_of e (noA e d),d,r⟩
  have hKb:K.In (Pb s₁.heap H):=λb o e=>base_of (KX b o e) (by
   cases q:H b with
   |none=>rfl
   |some u =>
    have e':b=a:=hA b (by rw[q];simp);subst e';rw[hK (by rw[q];simp)]at e;cases e)
  have hM:Mod K mg (Pb s₁.heap H):=⟨hKb,nsK hns,⟨mb,nsK hb,hbb⟩,let ⟨mc,h1,h2⟩:=hlim;⟨mc,nsK h1,h2⟩⟩
  have e0:Lw P w K mg (Pb s₁.heap H) callerA [] s₁ H:=⟨rfl,hM,λb o e=>of_hidT e,Nat.le_of_eq (TZ _ _),trivial,λb hb=>absurd (show b∈([]:List Addr)from hb) A5,hok,.of_eq hg⟩
  refine A4g ((F _ hKb (nsK hns)).run callerA [] s₁ H ⟨[.ref a],[]⟩ [.ref a] [.ref a] _ _ hr e0 (hbind s₁ (.ref a)) (.cons rfl .nil) (hsp H hO hS)) λr s' h=>?_;cases r with
  |error e=>exact(hCX H e s' h).elim
  |ok fl =>
   cases fl with
   |next=>exact False.elim h
   |brk=>exact False.elim h
   |cont=>exact False.elim h
   |ret u =>
    obtain⟨v,H',os,bare,un,hok',r',q⟩:=h;have q':v=.bl true:=q;subst q';obtain rfl:u=Value.bool true:=r';refine⟨rfl,OldK.of_keep λb o e=>?_,os,bare⟩;cases q:H b with
    |none=>exact un.keep b o e q (by intro z;exact absurd (show b∈([]:List Addr)from z) A5) A5
    |some u =>
     rcases hO b with z|⟨ob,xs,z⟩
     ·rw[q]at z;cases z
     ·have z2:=un.frzs b ob _ z;obtain⟨e1,_⟩:=hok b _ z;obtain⟨e2,_⟩:=hok' b _ z2;rw[e]at e1;cases e1;exact e2
 cases hk:K.lookup a with
 |some o =>
  have e:=KX a o hk;rw[ha]at e;cases e;refine core (λ_=>none) (λ_=>.inl rfl) (.inr ⟨_,vs.toArray,_,hk,rfl,rfl,rfl,by rw[C7,lenV];exact hl,by simpa using rv⟩) (λb u z=>by have z':(none:Option HO)=some u:=z;cases z') (λb z=>absurd rfl z) λz=>absurd rfl z
 |none =>
  refine core (λb=>if b=a then some (.frz {cls:=.type "list",data:=.seq vs.toArray} (.lst (ns.map V.int)))else none) (λb=>?_) (.inl (.inr ⟨{cls:=.type "list",data:=.seq vs.toArray},Y4 rfl⟩)) (λb u z=>?_) (λb z=>?_) λ_=>hk
  ·by_cases hb:b=a
   ·exact .inr ⟨_,_,Y4 hb⟩
   ·exact .inl (Y0 hb)
  ·by_cases hb:b=a
   ·have z':=(Y4 hb).symm.trans z;cases z';subst hb;exact⟨ha,by rw[B0];exact hl,vs,_,rv,ha⟩
   ·have z':=(Y0 hb).symm.trans z;cases z'
  ·by_cases hb:b=a
   ·exact hb
   ·exact absurd (Y0 hb) z
theorem RU{l:PySem.W.OpenLaw}{n k:Nat}{q:Program}{loose:List Str}{XP:(Str->Option Value)->Heap->Prop}{YP:World->Heap->Prop}{d:DefRec}{K:Params->PySem.W.Frag}{CX:World->CXT}{sp:World->Sp}{x:Str}
  (hn:l.most=some n) (hn2:n<=sizeLine) (hdf:d.params.defaults=[]) (hr:Cr k callerA)
  (hY:∀(w:World)(h:Heap),YP w h->(K w.params).In h)
  (F:∀(w:World)(mg:Str->Option Value)(fa:Addr)(h:Heap),(K w.params).In h->h.Ns mainGlobals mg->mg d.name=some (.ref fa) ->
   ∃fd:FuncData,(∀(s:Shared)(u:Value),BindsTo s fd ⟨[u],[]⟩ [(x,u)]) /\
    ∀base:Heap,(K w.params).In base->base.Ns mainGlobals mg->AI l.prog w (K w.params) mg base (CX w) k fa fd [x] (sp w))
  (hsp:∀(w:World)(H:Hp)(a:Addr)(ns:List Int),ns.length<=n->Only H->SqL (K w.params) H a (ns.map V.int)->sp w [.ref a] H (λv _=>v=.bl true) λ_ _ _=>False)
  (hCX:∀(w:World)(H:Hp)(s:Shared)(e:Value)(s':Shared),CX w [] H s (λ_ _ _=>False) e s'->False) :
  PySem.W.WalkO q loose XP YP l.row.toRowW d [] (λf vs=>PySem.call f vs):=by
 refine Att.QH hn hdf λw s₀ s₁ mg mb fa o pm cd doc a vs ns G Y ho hd hcd hmg hobj hints hlen hg=>?_;have KX:=hY w _ Y;obtain⟨fd,hb,hF⟩:=F w mg fa _ KX G.T.g hmg;exact VZ KX G.T.g G.T.b G.T.builtins G.T.nolimit hg hobj hints (C4 hlen hn2) hr hF hb (λH hO hS=>hsp w H a ns hlen hO hS) λH e s'=>hCX w H s₁ e s'
end L2
/- THE LAST THEOREM (shape;LID,My.* are yours):
 My.Adr: a structure of the addresses that your layer names (classes,functions);My.Txt K t: a structure (Prop) of the equations over K;
 My.txt_mk:{K} {implicit addresses ..} (e1:nsIn K mainGlobals "law" = some (some (.ref f))) (e2:K.lookup f=some ⟨oc,od,.func (fnOf "law" "law" params body scope dV kV doc pm an cdv ct),sl⟩) (e3:codeIn K cdv "law" = true) ..:∃t,My.Txt K t
set_option maxRecDepth 100000 in
set_option maxHeartbeats 0 in
theorem PySem.Challenge.cw_LID_holds:PySem.Challenge.rw_LID.Holds:=by
 w_on;o_law;k_head;(case hw=>w_witness2)
 k_fill
 refine L2.RU (l:=PySem.Challenge.rw_LID) (n:=63) (k:=40) (x:="script") (CX:=λw=>..) (sp:=λ_=>My.sp_law) rfl A3 rfl ⟨rfl,by decide,by decide⟩ (λw h Y=>PySem.W.kIn_of Y) ?F ?S ?C
 case F =>
  intro w mg fa h KX G hmg;have T:∃t,My.Txt (L2.KOf KX) t:=by
   dsimp only[L2.KOf]                          
   (case e1=>PySem.W.k_is)                    
   (case e2=>PySem.W.k_is)
   ..
  obtain⟨t,T⟩:=T;have e0:=hmg.symm.trans (Y8 KX G T.law);cases e0                                       
 case S=>exact λw H a ns hl hO hS=>..
 case C=>exact ..
(the tactic k_is has no namespace: write k_is) -/
namespace L2
open PySem PySem.Spec PyProof.Rows
def CB(s:Stmt)(j:Nat):Stmt:=match s with
 |.ClassDef _ _ _ body _ _ _ _ _ _ _=>body.getD j (.Pass ⟨0,0,0,0⟩)
 |_=>.Pass ⟨0,0,0,0⟩
def Jh(s:Stmt):Arguments:=match s with
 |.FunctionDef _ a _ _ _ _ _ _ _ _=>a
 |_=>{posonlyargs:=[],args:=[],vararg:=none,kwonlyargs:=[],kw_defaults:=[],kwarg:=none,defaults:=[]}
def GT(s:Stmt):List Stmt:=match s with
 |.FunctionDef _ _ b _ _ _ _ _ _ _=>b
 |_=>[]
def Ai(s:Stmt):Scope:=match s with
 |.FunctionDef _ _ _ _ _ _ sc _ _ _=>sc
 |_=>{kind:=.function,names:=[],isGenerator:=false,isCoroutine:=false}
abbrev CX0:CXT:=λ_ _ _ _ _ _=>False
abbrev E0:XK:=λ_ _ _=>False
theorem Ao{X:Cx}:Ga CX0 X E0:=λ_ _ _ _ _ _ _ h=>h.elim
structure Fun(K:PySem.W.Frag)(x qual:Str)(st:Stmt)(f:Addr)(fd:FuncData):Prop where
 ex:∃(oc:Value)(od:Option Addr)(kV doc pm:Value)(an:Option Addr)(cdv ct:Value)(osl:Array (Option Value)),
  fd=PySem.W.fnOf x qual (Jh st) (GT st) (Ai st) .none kV doc pm an cdv ct/\K.lookup f=some ⟨oc,od,.func fd,osl⟩/\PySem.W.codeIn K cdv qual=true
 kp:keepIn K (.ref f)=true
section
variable{P:Program}{w:World}{K:PySem.W.Frag}{mg:Str->Option Value}{base:Heap}
theorem Fun.ok{x qual:Str}{st:Stmt}{f:Addr}{fd:FuncData}{N ps:List Str}{k:Nat}{sp:Sp}(F:Fun K x qual st f fd)(S:Ar N ps (Ai st))(len:∀vs H Q E,sp vs H Q E->vs.length=ps.length)
  (hbody:∀(cdv:Value)(A:Around)(outer:List Env)(s:Shared)(H:Hp)(vs:List V)(Q:VK)(E:XK),Cr k (A.deeper (envOfC qual (Ai st) s.heap.objs.size f cdv))->sp vs H Q E ->
   ∃t,PSs (Ui CX0 P w K mg base N qual (Ai st) f cdv A outer s H E).nox (GT st) t/\t {nx:=λ_ H'=>Q .non H',rt:=Q} (JW N vs) H):AI P w K mg base CX0 (k+1) f fd ps sp:=by
 obtain⟨oc,od,kV,doc,pm,an,cdv,ct,osl,rfl,lk,hcd⟩:=F.ex;refine fn_of lk hcd S len λA outer s H vs Q E hr hsp=>?_;obtain⟨t,h,q⟩:=hbody cdv A outer s H vs Q E hr hsp;exact⟨t,h.nox,q⟩
theorem Fun.binds{x qual:Str}{st:Stmt}{f:Addr}{fd:FuncData}{ps:List Str}(F:Fun K x qual st f fd)
  (h:∀(kV doc pm:Value)(an:Option Addr)(cdv ct:Value)(us:List Value),us.length=ps.length->bindArgs (PySem.W.fnOf x qual (Jh st) (GT st) (Ai st) .none kV doc pm an cdv ct) ⟨us,[]⟩=pure (ps.zip us)):Ci K fd ps []:=by
 obtain⟨oc,od,kV,doc,pm,an,cdv,ct,osl,rfl,lk,hcd⟩:=F.ex;exact .all (h kV doc pm an cdv ct)
theorem RF {x qual:Str} {st:Stmt} {f:Addr} {oc:Value} {od an:Option Addr} {osl:Array (Option Value)} {kV doc pm cdv ct:Value} (l:K.lookup f=some ⟨oc,od,.func (PySem.W.fnOf x qual (Jh st) (GT st) (Ai st) .none kV doc pm an cdv ct),osl⟩)
  (c:PySem.W.codeIn K cdv qual=true) (k:keepIn K (.ref f)=true):Fun K x qual st f (PySem.W.fnOf x qual (Jh st) (GT st) (Ai st) .none kV doc pm an cdv ct):=⟨⟨oc,od,kV,doc,pm,an,cdv,ct,osl,rfl,l,c⟩,k⟩
end
theorem Id{A:Around}{k:Nat}(hr:Cr k A):A.units+1<cLine:=Nat.lt_of_le_of_lt (Nat.add_le_add_left (by decide:1<=64) _) hr.units
section
variable{X:Cx}
theorem pv(i:Nat){x:Str}{pos:Pos}(hN:X.N[i]?=some x:=by rfl)(hv:Vis X.env.scope x:=by first|exact Or.inl rfl|exact Or.inr (Or.inl rfl)|exact Or.inr (Or.inr rfl))(hd:(x==("__debug__" : Str))=false:=by decide)
  (hcd:(x==("__classdict__" : Str))=false:=by decide):PE X (.Name x pos) (Pt i):=pe_var hN hv hd hcd
end
theorem AT{A B:Prop}(h:B):if false=true then A else B:=by
 rw[Y0 C9];exact h
theorem BH{A B:Prop}(h:A):if true=true then A else B:=by
 rw[Y4 rfl];exact h
theorem Pa{c A B:Prop}[Decidable c](h1:c->A)(h2:¬c->B):if c then A else B:=by
 by_cases h:c
 ·rw[Y4 h];exact h1 h
 ·rw[Y0 h];exact h2 h
theorem iteNS{c A B:Prop}[Decidable c](hc:c)(h:B):if(!decide c)=true then A else B:=by
 rw[Y1 hc];exact AT h
def Az(H H':Hp):Prop:=∀b o,H b=some o->H' b=some o
theorem Az.refl(H:Hp):Az H H:=λ_ _ h=>h
theorem Az.trans{H H1 H2:Hp}(a:Az H H1)(b:Az H1 H2):Az H H2:=λc o h=>b c o (a c o h)
theorem Az.seq{K:PySem.W.Frag}{H H':Hp}{a:Addr}{xs:List V}(e:Az H H')(h:SqL K H a xs):SqL K H' a xs:=by
 rcases h with (h|⟨o,h⟩)|h
 ·exact .inl (.inl (e _ _ h))
 ·exact .inl (.inr ⟨o,e _ _ h⟩)
 ·exact .inr h
structure Uq(hid fs:List Addr)(h h':Heap):Prop where
 keep:∀b o,h.get? b=some o->b∉hid->h'.get? b=some o
 slot:∀b o,b∈fs->h.get? b=some o->∃sl,h'.get? b=some {o with slots:=sl}
 sub:∀b,b∈fs->b∈hid
def Li(a T:Addr)(cls fl:Value)(h:Heap):Prop :=
 ∃(oe:Obj)(vs:Array Value)(oT:Obj)(ts:Array Value),h.get? a=some oe/\oe.cls=cls/\oe.data=.fields vs/\vs[1]?=some (.ref T)/\vs[2]?=some .none/\T≠a/\h.get? T=some oT/\oT.data=.fields ts/\ts[3]?=some fl
def FlyNew(a:Addr)(cls:Value)(h:Heap):Prop:=∃(oe:Obj)(vs:Array Value),h.get? a=some oe/\oe.cls=cls/\oe.data=.fields vs/\vs[1]?=some .none/\vs[2]?=some .none
def Na(a D:Addr)(h:Heap):Prop:=∃o,h.get? a=some o/\o.cls=.ref D/\∃vs,o.data=.fields vs/\vs[2]?=some .none
theorem Li.exc{a T D:Addr}{fl:Value}{h:Heap}(x:Li a T (.ref D) fl h):Na a D h:=by
 obtain⟨oe,vs,_,_,e1,e2,e3,_,e5,_⟩:=x;exact⟨oe,e1,e2,vs,e3,e5⟩
theorem Na.not{a D:Addr}{h:Heap}(x:Na a D h):∃o,h.get? a=some o/\o.cls=.ref D/\notCls o=true:=by
 obtain⟨o,e,c,vs,d,_⟩:=x;exact⟨o,e,c,by unfold notCls;rw[d]⟩
section
variable{M:Model}{A:Around}{E:Value->Shared->Prop}{s:Shared}{b0:Heap}{env:Env}{outer:List Env}{L a T:Addr}{cls fl:Value}{Q:Unit->Shared->Prop}
theorem NU{oe:Obj}{vs:Array Value}{head:Value}{hn:Bool}(hfr:A.frames=some (env::outer))(hl:s.heap.FunFrames b0 (env::outer))(hf:env.frame=some L)(he:s.heap.get? a=some oe)(hd:oe.data=.fields vs)(h2:vs[2]?=some .none)
  (k:∀h' T',Li a T' oe.cls (rawInt L) h'->s.heap.get? T'=none->Uq (a::frs (env::outer)) (frs (env::outer)) s.heap h'->Q () {s with heap:=h'}) :
  wpAny M A (do let x <-frameOf env;let pl <-entryPlaceOf L hn;let b <-EntryCells.newEntry head x .none (rawInt L) .none pl;setField (.ref a) 1 b) Q E s:=by
 refine W8 (wpAny_frameOf_fun hfr hl hf λg hs=>W8 (wpAny_entryPlaceOf λpl hp=>?_));unfold EntryCells.newEntry newFields;refine W8 (Z7 ?_ (hp.sizeOk5 _ _ _ _ _));have na:a∉frs (env::outer):=λz=>by
  obtain⟨_,o,ho,hn⟩:=hl.mem z;rw[he]at ho;cases ho;exact hn vs hd
 have e1:g.get? a=some oe:=(hs.2.1 a na).trans he;have sz:1<vs.size:=by
  have:=(U3.mp h2).1;omega
 have nT:g.objs.size≠a:=U1 (C6 e1);have gn:∀b o,s.heap.get? b=some o->∃o',g.get? b=some o':=λb o q=>by
  by_cases z:b∈frs (env::outer)
  ·obtain⟨sl,e⟩:=hs.2.2 b o q;exact⟨_,e⟩
  ·exact⟨o,(hs.2.1 b z).trans q⟩
 refine K9 (B1 _ e1) hd sz (k _ g.objs.size ⟨_,_,_,_,O5 _ (B1 _ e1) (A1d (X5 hd _)),Obj.cls_mapFields _ _,X5 hd _,?_,?_,nT,(M2 _ _ nT.symm).trans (C3 _ rfl),rfl,?_⟩ ?_ ?_)
 ·simp[sz]
 ·rw[Array.getElem?_setIfInBounds_ne A3];exact h2
 ·first|(simp;done)|(rcases hp with rfl|⟨_,_,_,_,_,_,_,rfl⟩<;>simp)
 ·cases q:s.heap.get? g.objs.size with
  |none=>rfl
  |some o =>
   obtain⟨o',q'⟩:=gn _ _ q;exact absurd (C6 q') (N6 _)
 ·have kp:∀(x:Obj)(f:Obj->Obj) b o,g.get? b=some o->b≠a->((g.push x).update a f).get? b=some o:=λx f b o q z=>(M2 _ _ (Z4 z)).trans (B1 _ q);refine⟨λb o q z=>kp _ _ b o ((hs.2.1 b λm=>z (.tail _ m)).trans q) λy=>z (y▸.head _),λb o m q=>?_,λb m=>.tail _ m⟩;obtain⟨sl,e⟩:=hs.2.2 b o q;exact⟨sl,kp _ _ b _ e λy=>na (y▸m)⟩
theorem VI(hfr:A.frames=some (env::outer))(hl:s.heap.FunFrames b0 (env::outer))(hf:env.frame=some L)(hx:FlyNew a cls s.heap\/Li a T cls .none s.heap)
  (k:∀h' T',Li a T' cls (rawInt L) h'->s.heap.get? T'=none->Uq (a::T::frs (env::outer)) (frs (env::outer)) s.heap h'->Q () {s with heap:=h'}):wpAny M A (noteFrame (.ref a) env) Q E s:=by
 unfold noteFrame;simp only[hf];rcases hx with ⟨oe,vs,e1,rfl,e3,e4,e5⟩|⟨oe,vs,oT,ts,e1,rfl,e3,e4,e5,e6,e7,e8,e9⟩
 ·refine W8 (K7 e1 e3 e4 ?_);rw[Y0 A3];refine NU hfr hl hf e1 e3 e5 λh' T' f n nr=>k h' T' f n ⟨λb o q z=>nr.keep b o q λm=>z ?_,nr.slot,λb m=>.tail _ (.tail _ m)⟩;rcases B9.mp m with y|y
  ·exact y▸.head _
  ·exact .tail _ (.tail _ y)
 ·refine W8 (K7 e1 e3 e4 ?_);rw[Y4 (show(Value.ref T != Value.none)=true from by simp)];refine W8 (K7 e7 e8 e9 ?_);rw[Y0 (by simp[rawInt])];refine W8 (K9 e7 e8 (U3.mp e9).1 ?_);have ot:∀b,b≠T->(s.heap.update T (Obj.mapFields (·.setIfInBounds 3 Value.none))).get? b=s.heap.get? b:=λb z=>M2 _ _ (Z4 z);have nf:∀b o,s.heap.get? b=some o->(∀vs,o.data≠.fields vs)->b≠T:=λb o q d z=>by
   rw[z,e7]at q;cases q;exact d ts e8
  have fT:∀b,b∈frs (env::outer)->b≠T:=λb m=>by
   obtain⟨_,o,ho,d⟩:=hl.mem m;exact nf b o ho d
  refine NU (s:={s with heap:=s.heap.update T (Obj.mapFields (·.setIfInBounds 3 Value.none))}) hfr (hl.of_keeps λb o q d=>⟨o,(ot b (nf b o q d)).trans q,rfl⟩) hf ((ot a (Z4 e6)).trans e1) e3 e5 λh' T' f n nr=>k h' T' f ?_ ⟨λb o q z=>?_,λb o m q=>nr.slot b o m ((ot b (fT b m)).trans q),λb m=>.tail _ (.tail _ m)⟩
  ·by_cases z:T'=T
   ·rw[z,O5 _ e7 (A1d (X5 e8 _))]at n;cases n
   ·rw[<-ot T' z];exact n
  ·refine nr.keep b o ((ot b λy=>z (y▸.tail _ (.head _))).trans q) λm=>z ?_;rcases B9.mp m with y|y
   ·exact y▸.head _
   ·exact .tail _ (.tail _ y)
theorem MQ {fr:Option Addr} (hx:Li a T cls fl s.heap) (k:∀h',Li a T cls (fr.elim .none λf=>rawInt f) h'->(∀b o,s.heap.get? b=some o->b≠T->h'.get? b=some o)->Q () {s with heap:=h'}):wpAny M A (setFlight (.ref a) fr) Q E s:=by
 obtain⟨oe,vs,oT,ts,e1,rfl,e3,e4,e5,e6,e7,e8,e9⟩:=hx;unfold setFlight;refine W8 (K7 e1 e3 e4 ?_);rw[Y4 (show(Value.ref T != Value.none)=true from by simp)];have z:=(U3.mp e9).1;refine K9 e7 e8 z (k _ ⟨oe,vs,_,_,(M2 _ _ e6).trans e1,rfl,e3,e4,e5,e6,O5 _ e7 (A1d (X5 e8 _)),X5 e8 _,by simp[z]⟩ λb o q y=>(M2 _ _ (Z4 y)).trans q)
end
section
variable{κ:Type}[DecidableEq κ]
def Bw(kvs:List (κ×V))(k:κ):Option V:=(kvs.find? λkv=>decide (kv.1=k)).map (·.2)
def Cc(kvs:List (κ×V))(k:κ)(v:V):List (κ×V) :=
 if(kvs.any λkv=>decide (kv.1=k))=true then kvs.map (λkv=>if kv.1=k then(kv.1,v)else kv)else kvs++[(k,v)]
theorem Bu{p:κ×V}{r:List (κ×V)}{k:κ}(e:p.1=k):Bw (p::r) k=some p.2:=by simp[Bw,O7,e]
theorem Bf{p:κ×V}{r:List (κ×V)}{k:κ}(e:¬p.1=k):Bw (p::r) k=Bw r k:=by simp[Bw,O7,e]
theorem Ep(k:κ):∀kvs:List (κ×V),(kvs.any λkv=>decide (kv.1=k))=(Bw kvs k).isSome
 |[]=>rfl
 |p::r=>by
  rw[List.any_cons];by_cases e:p.1=k
  ·simp only[Bu e,Y1 e,Bool.true_or,Option.isSome_some]
  ·rw[Bf e,Y3 e,Bool.false_or];exact Ep k r
theorem Po(k j:κ)(y:V):∀kvs:List (κ×V),Bw (kvs.map λkv=>if kv.1=k then(kv.1,y)else kv) j=(Bw kvs j).map λx=>if j=k then y else x
 |[]=>rfl
 |p::r=>by
  have ih:=Po k j y r;rw[D5];by_cases h:p.1=k
  ·rw[Y4 h];by_cases e:p.1=j
   ·rw[Bu (p:=(p.1,y)) e,Bu e,V3,Y4 (e.symm.trans h)]
   ·rw[Bf (p:=(p.1,y)) e,Bf e,ih]
  ·rw[Y0 h];by_cases e:p.1=j
   ·rw[Bu (p:=p) e,Bu e,V3,Y0 (λz=>h (e.trans z))]
   ·rw[Bf (p:=p) e,Bf e,ih]
theorem NC(k j:κ)(y:V):∀kvs:List (κ×V),Bw kvs k=none->Bw (kvs++[(k,y)]) j=if j=k then some y else Bw kvs j
 |[],_=>by
  by_cases e:k=j
  ·rw[Y4 e.symm];exact Bu (p:=(k,y)) e
  ·rw[Y0 (λz=>e z.symm)];exact Bf (p:=(k,y)) e
 |p::r,hn=>by
  rw[List.cons_append];have hk:¬p.1=k:=λz=>by rw[Bu z]at hn;cases hn
  rw[Bf hk]at hn;have ih:=NC k j y r hn;by_cases e:p.1=j
  ·rw[Bu e,Bu e,Y0 (λz=>hk (e.trans z))]
  ·rw[Bf e,Bf e,ih]
theorem IF(kvs:List (κ×V))(k j:κ)(y:V):Bw (Cc kvs k y) j=if j=k then some y else Bw kvs j:=by
 unfold Cc;by_cases a:(kvs.any λkv=>decide (kv.1=k))=true
 ·rw[Y4 a,Po];rw[Ep]at a;by_cases e:j=k
  ·obtain⟨x,hx⟩:=Option.isSome_iff_exists.mp a;rw[Y4 e,e,hx,V3,Y4 rfl]
  ·rw[Y0 e];cases Bw kvs j with
   |none=>rfl
   |some x=>rw[V3,Y0 e]
 ·rw[Y0 a];refine NC k j y kvs ?_;rw[Ep]at a;cases q:Bw kvs k with
  |none=>rfl
  |some x=>rw[q]at a;exact(a rfl).elim
theorem DH(kvs:List (κ×V))(k:κ)(v:V):(Cc kvs k v).length<=kvs.length+1:=by
 unfold Cc;split
 ·rw[B0];lia
 ·rw[B4,D0,T6];lia
theorem IR{kvs:List (κ×V)}{k:κ}(v:V)(h:Bw kvs k=none):Cc kvs k v=kvs++[(k,v)]:=by
 unfold Cc;rw[Ep,h];exact Y0 A3
theorem FY.isSome_eq{o:Option V}{u:Option Value}(r:FY o u):o.isSome=u.isSome:=by
 cases o with
 |none=>cases u with
  |none=>rfl
  |some _=>exact(show False from r).elim
 |some _=>cases u with
  |none=>exact(show False from r).elim
  |some _=>rfl
theorem FY.getD{o:Option V}{u:Option Value}{d:V}{d':Value}(r:FY o u)(rd:AX d d'):AX (o.getD d) (u.getD d'):=by
 cases o with
 |none=>cases u with
  |none=>exact rd
  |some _=>exact(show False from r).elim
 |some _=>cases u with
  |none=>exact(show False from r).elim
  |some _=>exact r
theorem KV.val{kvs:List (κ×V)}{vs:List (κ×Value)}(r:KV kvs vs)(k:κ):FY (Bw kvs k) (valueAt vs k):=by
 unfold KV at r;induction r with
 |nil=>exact True.intro
 |@cons p q ps qs h t ih =>
  obtain⟨h1,h2⟩:=h;by_cases e:p.1=k
  ·have e':q.1=k:=h1.symm.trans e;have b:valueAt (q::qs) k=some q.2:=by simp[valueAt,O7,e']
   rw[Bu e,b];exact h2
  ·have e':¬q.1=k:=λz=>e (h1.trans z);have b:valueAt (q::qs) k=valueAt qs k:=by simp[valueAt,O7,e']
   rw[Bf e,b];exact ih
theorem KV.any{kvs:List (κ×V)}{vs:List (κ×Value)}(r:KV kvs vs)(k:κ):(kvs.any λkv=>decide (kv.1=k))=vs.any λkv=>decide (kv.1=k):=by
 unfold KV at r;induction r with
 |nil=>rfl
 |cons h t ih=>rw[List.any_cons,List.any_cons,ih,h.1]
theorem KV.repl{kvs:List (κ×V)}{vs:List (κ×Value)}(r:KV kvs vs)(k:κ){y:V}{u:Value}(ry:AX y u) :
  KV (kvs.map λkv=>if kv.1=k then(kv.1,y)else kv) (vs.map λkv=>if kv.1=k then(kv.1,u)else kv):=by
 unfold KV at r⊢;induction r with
 |nil=>exact .nil
 |@cons p q ps qs h t ih =>
  rw[D5,D5];refine .cons ?_ ih;obtain⟨h1,h2⟩:=h;by_cases e:p.1=k
  ·rw[Y4 e,Y4 (h1.symm.trans e)];exact⟨h1,ry⟩
  ·rw[Y0 e,Y0 (λz=>e (h1.trans z))];exact⟨h1,h2⟩
theorem KV.put{kvs:List (κ×V)}{vs:List (κ×Value)}(r:KV kvs vs)(k:κ){y:V}{u:Value}(ry:AX y u):KV (Cc kvs k y) (stored vs k u):=by
 unfold Cc stored;rw[r.any k];by_cases e:(vs.any λkv=>decide (kv.1=k))=true
 ·rw[Y4 e,Y4 e];exact r.repl k ry
 ·rw[Y0 e,Y0 e];exact K2 r ⟨rfl,ry⟩
theorem KV.length{kvs:List (κ×V)}{vs:List (κ×Value)}(r:KV kvs vs):kvs.length=vs.length:=Y6 r
end
theorem SG{P:Program}{w:World}{k:Key}{u:Value}(r:AX (kV k) u):(BG P w).is k u=true:=by
 cases k with
 |inl i=>obtain⟨t,e⟩:=(show ∃t,u=Value.int i t from r);subst e;exact Qk P w i t
 |inr x=>obtain⟨t,e⟩:=(show ∃t,u=Value.str x t from r);subst e;exact Qj P w x t
theorem NS{P:Program}{w:World}:∀{ks:List Key}{us:List Value},AH (ks.map kV) us->ItemsAre (BG P w) ks us
 |[],_,r=>by rw[List.map_nil]at r;cases r;exact .nil
 |k::ks,_,r=>by
  rw[D5]at r;cases r with
  |cons h t=>exact .cons (SG h) (NS t)
abbrev KT(H:Hp):List (List Key×V)->List (List Key×Addr×Value)->Prop:=Paired λp q=>p.1=q.1/\H q.2.1=some (.tup (p.1.map kV))/\AX p.2 q.2.2
theorem KT.val{H:Hp}{kvs:List (List Key×V)}{xs:List (List Key×Addr×Value)}(r:KT H kvs xs)(k:List Key):FY (Bw kvs k) ((atKey xs k).map (·.2)):=by
 induction r with
 |nil=>exact True.intro
 |@cons p q ps qs h t ih =>
  obtain⟨h1,_,h2⟩:=h;by_cases e:p.1=k
  ·have e':q.1=k:=h1.symm.trans e;have b:atKey (q::qs) k=some q.2:=by simp[atKey,O7,e']
   rw[Bu e,b];exact h2
  ·have e':¬q.1=k:=λz=>e (h1.trans z);have b:atKey (q::qs) k=atKey qs k:=by simp[atKey,O7,e']
   rw[Bf e,b];exact ih
theorem KT.repl{H:Hp}{kvs:List (List Key×V)}{xs:List (List Key×Addr×Value)}(r:KT H kvs xs)(k:List Key){y:V}{u:Value}(ry:AX y u) :
  KT H (kvs.map λkv=>if kv.1=k then(kv.1,y)else kv) (xs.map (putAt k u)):=by
 induction r with
 |nil=>exact .nil
 |@cons p q ps qs h t ih =>
  rw[D5,D5];refine .cons ?_ ih;obtain⟨h1,h2,h3⟩:=h;unfold putAt;by_cases e:p.1=k
  ·rw[Y4 e,Y4 (h1.symm.trans e)];exact⟨h1,h2,ry⟩
  ·rw[Y0 e,Y0 (λz=>e (h1.trans z))];exact⟨h1,h2,h3⟩
theorem KT.put{H:Hp}{kvs:List (List Key×V)}{xs:List (List Key×Addr×Value)}(r:KT H kvs xs)(k:List Key){b:Addr}{y:V}{u:Value}(hb:H b=some (.tup (k.map kV)))(ry:AX y u) :
  KT H (Cc kvs k y) (storedH xs k b u):=by
 have e:(kvs.any λkv=>decide (kv.1=k))=(atKey xs k).isSome:=by
  rw[Ep,(r.val k).isSome_eq,Option.isSome_map]
 unfold Cc storedH;rw[e];by_cases q:(atKey xs k).isSome=true
 ·rw[Y4 q,Y4 q];exact r.repl k ry
 ·rw[Y0 q,Y0 q];exact K2 r ⟨rfl,hb,ry⟩
theorem KT.keeps{H H':Hp}{kvs:List (List Key×V)}{xs:List (List Key×Addr×Value)}(r:KT H kvs xs)(ht:∀b ys,H b=some (.tup ys)->H' b=some (.tup ys)):KT H' kvs xs :=
 Paired.mapP r λ_ _ z=>⟨z.1,ht _ _ z.2.1,z.2.2⟩
section
variable{P:Program}{w:World}{H:Hp}{h:Heap}{a:Addr}
theorem rd_of{u:HO}(ok:HOk P w H h)(e:Rd H a u):Be P w H h a u:=e.ok ok
theorem Qy{kvs:List (Key×V)}(ok:HOk P w H h)(e:Rd H a (.dK kvs)):kvs.length<=sizeLine/\(a==sysModules)=false/\∃vs,KV kvs vs/\h.DictOf (BG P w) a vs :=
 show Be P w H h a (.dK kvs)from rd_of ok e
theorem dk_of{kvs:List (Key×V)}(ok:HOk P w H h)(e:H a=some (.dK kvs)):kvs.length<=sizeLine/\(a==sysModules)=false/\∃vs,KV kvs vs/\h.DictOf (BG P w) a vs:=Qy ok (.inl e)
theorem MO{ks:List Key}(ok:HOk P w H h)(e:H a=some (.tup (ks.map kV))):(tupleKind (BG P w)).is h ks a:=by
 obtain⟨_,its,r,o,h1,h2,n,h3⟩:=(show Be P w H h a (.tup (ks.map kV))from ok a _ e)
 exact⟨o,its.toArray,n,h1,h2,h3,by simpa using NS r⟩
theorem Qw{kvs:List (List Key×V)}(ok:HOk P w H h)(e:Rd H a (.dT kvs)):kvs.length<=sizeLine/\(a==sysModules)=false /\
  ∃xs,KT H kvs xs/\h.DictOfH (tupleKind (BG P w)) a xs:=by
 obtain⟨z,y,xs,r,o,es,ep,h1,h2,h3,h4,h5⟩:=(show Be P w H h a (.dT kvs)from rd_of ok e)
 refine⟨z,y,xs,r,o,es,ep,h1,h2,h3,h4,λx hx=>?_,h5⟩;have all:∀{l:List (List Key×V)}{m:List (List Key×Addr×Value)},KT H l m->∀x∈m,(tupleKind (BG P w)).is h x.1 x.2.1:=by
  intro l m q;induction q with
  |nil=>intro x hx;exact nomatch hx
  |@cons p q ps qs hq t ih =>
   intro x hx;rcases B9.mp hx with e|hx
   ·subst e;exact MO ok (by rw[<-hq.1];exact hq.2.1)
   ·exact ih x hx
 exact all r x hx
theorem SL{kvs:List (List Key×V)}(ok:HOk P w H h)(e:H a=some (.dT kvs)):kvs.length<=sizeLine/\(a==sysModules)=false /\
  ∃xs,KT H kvs xs/\h.DictOfH (tupleKind (BG P w)) a xs:=Qw ok (.inl e)
end
def Lz(H:Hp)(a:Addr)(y:V)(r:Option V):Prop :=
 (∃kvs k,Rd H a (.dK kvs)/\y=kV k/\r=Bw kvs k)\/∃kvs k b,Rd H a (.dT kvs)/\y=.ref b/\H b=some (.tup (k.map kV))/\r=Bw kvs k
def Ly(H:Hp)(a:Addr)(y v:V)(H':Hp):Prop :=
 (∃kvs k,H a=some (.dK kvs)/\y=kV k/\kvs.length<sizeLine/\H'=upd H a (.dK (Cc kvs k v))) \/
 ∃kvs k b,H a=some (.dT kvs)/\y=.ref b/\H b=some (.tup (k.map kV))/\kvs.length<sizeLine/\H'=upd H a (.dT (Cc kvs k v))
theorem Lz.k{H:Hp}{a:Addr}{kvs:List (Key×V)}{k:Key}(e:H a=some (.dK kvs)):Lz H a (kV k) (Bw kvs k):=.inl ⟨kvs,k,.inl e,rfl,rfl⟩
theorem Lz.t{H:Hp}{a b:Addr}{kvs:List (List Key×V)}{k:List Key}(e:H a=some (.dT kvs))(eb:H b=some (.tup (k.map kV))):Lz H a (.ref b) (Bw kvs k):=.inr ⟨kvs,k,b,.inl e,rfl,eb,rfl⟩
theorem Ly.k{H:Hp}{a:Addr}{kvs:List (Key×V)}{k:Key}{v:V}(e:H a=some (.dK kvs))(hl:kvs.length<sizeLine):Ly H a (kV k) v (upd H a (.dK (Cc kvs k v))):=.inl ⟨kvs,k,e,rfl,hl,rfl⟩
theorem Ly.t{H:Hp}{a b:Addr}{kvs:List (List Key×V)}{k:List Key}{v:V}(e:H a=some (.dT kvs))(eb:H b=some (.tup (k.map kV)))(hl:kvs.length<sizeLine) :
  Ly H a (.ref b) v (upd H a (.dT (Cc kvs k v))):=.inr ⟨kvs,k,b,e,rfl,eb,hl,rfl⟩
section
variable{X:Cx}{pins:List (Addr×Obj)}{σ:St}{H:Hp}{s:Shared}{a:Addr}{y v:V}{u r:Value}{o:Option V}{A:Around}{E:Value->Shared->Prop}
theorem Inv.big(I:Inv X pins σ H s):sysModules<s.heap.objs.size:=by
 have h:mainGlobals<s.heap.objs.size:=(I.mod.glob.keeps I.bk).lt;exact R1 A3 h
theorem Uh{Q:Value->Shared->Prop}(hu:A.units+1<cLine)(I:Inv X pins σ H s)(g:Lz H a y (some v))(ry:AX y u)(h:∀w' s',Inv X pins σ H s'->AX v w'->Q w' s') :
  wpAny (model X.prog X.w) A (getItem (.ref a) u) Q E s:=by
 rcases g with ⟨kvs,k,e,ey,l⟩|⟨kvs,k,b,e,ey,eb,l⟩
 ·subst ey;obtain⟨z,hd,vs,rel,dd⟩:=Qy I.hok e;obtain⟨w',hw,rw'⟩:=FY.some_of (v:=v) (o:=valueAt vs k) (by rw[l];exact rel.val k);exact wpAny_getItem_of (SG ry) dd.mapOf hw (h w' _ (I.tok _) rw')
 ·subst ey;cases(show u=Value.ref b from ry);obtain⟨z,hd,xs,rel,dd⟩:=Qw I.hok e;obtain⟨w',hw,rw'⟩:=FY.some_of (v:=v) (o:=(atKey xs k).map (·.2)) (by rw[l];exact rel.val k);obtain⟨p,hp,hp2⟩:=D6.mp hw;refine wpAny_getItem_heap (A6d hu) (MO I.hok eb) dd hp ?_;rw[hp2];exact h w' _ (I.tok _) rw'
theorem GU{h':Heap}{t':Nat}{ob:HO}(I:Inv X pins σ H s)(mu:Mut (H a))(hs:Heap.SameBut a s.heap h')(he:∃q,h'.get? a=some q)(new:Be X.prog X.w (upd H a ob) h' a ob) :
  Inv X pins σ (upd H a ob) {s with heap:=h',toks:=t'} :=
 I.write (x:=a) (e:=a) mu (.inl rfl) (λb q hb z=>(hs.2 b hb).trans z) he new
theorem dk_new{P:Program}{w:World}{H':Hp}{h':Heap}{kvs:List (Key×V)}{vs:List (Key×Value)}(z:kvs.length<=sizeLine)(hd:(a==sysModules)=false)(rel:KV kvs vs)(dd:h'.DictOf (BG P w) a vs) :
  Be P w H' h' a (.dK kvs):=⟨z,hd,vs,rel,dd⟩
theorem Ug{H':Hp}{Q:Unit->Shared->Prop}(hu:A.units+1<cLine)(I:Inv X pins σ H s)(g:Ly H a y v H')(ry:AX y u)(rv:AX v r)(h:∀s',Inv X pins σ H' s'->Q () s') :
  wpAny (model X.prog X.w) A (setItem (.ref a) u r) Q E s:=by
 rcases g with ⟨kvs,k,e,ey,l,eH⟩|⟨kvs,k,b,e,ey,eb,l,eH⟩
 ·subst ey eH;obtain⟨z,hd,vs,rel,dd⟩:=dk_of I.hok e;have hz:vs.length<=sizeLine:=by rw[<-rel.length];exact z
  have hl:(Cc kvs k v).length<=sizeLine:=by have:=DH kvs k v;lia
  refine wpAny_setItem_pairs (hsz:=hz) (SG ry) dd λh' dd' hs=>h _ ?_;have he:∃q,h'.get? a=some q:=let ⟨q,_,_,hq,_⟩:=dd';⟨q,hq⟩;exact GU I (by rw[e];exact True.intro) hs he (dk_new hl hd (rel.put k rv) dd')
 ·subst ey eH;cases(show u=Value.ref b from ry);obtain⟨z,hd,xs,rel,dd⟩:=SL I.hok e;have hz:xs.length<=sizeLine:=by rw[<-Y6 rel];exact z
  have hl:(Cc kvs k v).length<=sizeLine:=by have:=DH kvs k v;lia
  refine wpAny_setItem_heap (hsz:=hz) (A6d hu) (MO I.hok eb) dd λh' dd' hs=>h _ ?_;obtain⟨q,es,ep,hq,h2,h3,h4,_,h5⟩:=dd';refine GU I (by rw[e];exact True.intro) hs ⟨q,hq⟩ ⟨hl,hd,_,(rel.put k eb rv).keeps λc ys ec=>?_,q,es,ep,hq,h2,h3,h4,h5⟩;rw[Al (AS ec e (λz=>nomatch z))];exact ec
end
section
variable{X:Cx}{pins:List (Addr×Obj)}{σ:St}{H:Hp}{s:Shared}{a:Addr}{kvs:List (Key×V)}{k:Key}{u:Value}{A:Around}{E:Value->Shared->Prop}
end
def NoSl(i:Expr):Prop:=∀ov iv,subscripted i false ov iv=operate [ov,iv] (getItem ov iv)
theorem subD_of{prog:Program}{w:World}{A:Around}{E:Value->Shared->Prop}{s:Shared}{env:Env}{value slice:Expr}{pos:Pos}{T id:String}{Q:Value->Shared->Prop}
  (hl:typeLookup (.type T) "__getitem__" = pure (some (.builtin id))) (hs:NoSl slice)
  (h:wpAny (model prog w) A (eval value env) (λo s₁=>wpAny (model prog w) A (eval slice env) (λi s₂=>s₂.TypeIs o T/\wpAny (model prog w) A (getItem o i) Q E s₂) E s₁) E s) :
  wpAny (model prog w) A (eval (.Subscript value slice pos) env) Q E s:=by
 refine Subscript_ (X4 h (λo s₁ h₁=>X4 h₁ (λi s₂ h₂=>?_) λ_ _ x=>x) λ_ _ x=>x);obtain⟨hT,h₂⟩:=h₂;unfold subscriptTail;refine W8 ?_;rw[getitemInPython_of_ne hT.not_modules];refine W8 (A3h hT hl ?_);have fin:wpAny (model prog w) A (subscripted slice false o i) (λr s₃=>wpAny (model prog w) A (letTemporaryGo value o r >>= λ_=>pure r) Q E s₃) E s₂:=by
  rw[hs o i];exact wpAny_operating (X4 h₂ (λr s₃ h₃=>W8 (wpAny_letTemporaryGo (W9 h₃))) λ_ _ x=>x)
 first
  |exact W9 (W8 fin)
  |exact W8 (W9 (W8 fin))
  |exact W8 fin
theorem Qz{X:Cx}{pins:List (Addr×Obj)}{σ:St}{H:Hp}{s:Shared}{a:Addr}{y:V}{o:Option V}(I:Inv X pins σ H s)(g:Lz H a y o):s.TypeIs (.ref a) "dict" := by
 rcases g with ⟨kvs,k,e,_,_⟩|⟨kvs,k,b,e,_,_,_⟩
 ·obtain⟨_,_,vs,_,dd⟩:=Qy I.hok e;exact dd.typeIs
 ·obtain⟨_,_,xs,_,dd⟩:=Qw I.hok e;exact dd.typeIs
def tDGet(td ty:TE):TE:=fun σ H Q=>td σ H λx H1=>ty σ H1 λy H2=>∃a v,x=.ref a/\Lz H2 a y (some v)/\Q v H2
def sDPut(td ty tv:TE):TS:=λD σ H=>tv σ H λv H1=>td σ H1 λx H2=>ty σ H2 λy H3=>∃a H4,x=.ref a/\Ly H3 a y v H4/\D.nx σ H4
section
variable{X:Cx}{o i e value:Expr}{pos pos' tpos:Pos}{td ty tv:TE}
theorem pe_dget(hu:X.A.units+1<cLine)(ho:PE X o td)(hi:PE X i ty)(hs:NoSl i):PE X (.Subscript o i pos) (tDGet td ty):=by
 intro pins s σ H Q I h;refine subD_of PySem.F.slot_dict_getitem.lookup hs (thn (ho pins s σ H _ I h) λu s1 ⟨x,H1,I1,rx,q1⟩=>thn (hi pins s1 σ H1 _ I1 q1) λiv s2 ⟨y,H2,I2,ry,a,v,ex,g,q2⟩=>?_);subst ex;obtain rfl:u=Value.ref a:=rx;exact⟨Qz I2 g,Uh hu I2 g ry λw' s3 I3 rw'=>⟨v,H2,I3,rw',q2⟩⟩
theorem GL(hu:X.A.units+1<cLine)(ho:PE X o td)(hi:PE X i ty)(hv:PE X value tv)(hs:swapsWith value (some (.Subscript o i pos')) pos.line X.env=pure false) :
  PS X (.Assign [.Subscript o i pos'] value pos) (sDPut td ty tv):=by
 intro pins s σ H D I h;refine wpAny_Assign_Subscript (thn (hv pins s σ H _ I h) λr s1 ⟨v,H1,I1,rv,q1⟩=>thn (ho pins s1 σ H1 _ I1 q1) λu s2 ⟨x,H2,I2,rx,q2⟩=>thn (hi pins s2 σ H2 _ I2 q2) λiv s3 ⟨y,H3,I3,ry,a,H4,ex,g,q3⟩=>?_) hs;subst ex;obtain rfl:u=Value.ref a:=rx;exact Ug hu I3 g ry rv λs4 I4=>⟨σ,H4,I4,q3⟩
end
theorem Wp{P:Program}{w:World}{H:Hp}(h:Heap)(hb:sysModules<h.objs.size):Be P w H (h.push {cls:=.type "dict",data:=.dict #[]}) h.objs.size (.dK []) :=
 ⟨J7 _,beq_eq_false_iff_ne.mpr (Z4 (D8 hb)),[],.nil,Heap.DictOf.new h⟩
theorem Qx{P:Program}{w:World}{H:Hp}(h:Heap)(hb:sysModules<h.objs.size):Be P w H (h.push {cls:=.type "dict",data:=.dict #[]}) h.objs.size (.dT []) :=
 ⟨J7 _,beq_eq_false_iff_ne.mpr (Z4 (D8 hb)),[],.nil,_,#[],0,C3 _ rfl,⟨rfl,rfl,rfl⟩,rfl,rfl,U2⟩
def tDNewK:TE:=λ_ H Q=>∀p,H p=none->Q (.ref p) (upd H p (.dK []))
def tDNewT:TE:=λ_ H Q=>∀p,H p=none->Q (.ref p) (upd H p (.dT []))
section
variable{X:Cx}{pos:Pos}
theorem PU:PE X (.Dict [] [] pos) tDNewK:=λpins s σ H Q I h =>
 wpAny_Dict_empty ⟨.ref s.heap.objs.size,_,I.laid (a:=s.heap.objs.size) (o:=.dK []) (t':=s.toks) (λ_ _ q=>B1 _ q) (B5 _) (Wp s.heap I.big),rfl,h _ (I.hok.fresh (B5 _))⟩
theorem PR:PE X (.Dict [] [] pos) tDNewT:=λpins s σ H Q I h =>
 wpAny_Dict_empty ⟨.ref s.heap.objs.size,_,I.laid (a:=s.heap.objs.size) (o:=.dT []) (t':=s.toks) (λ_ _ q=>B1 _ q) (B5 _) (Qx s.heap I.big),rfl,h _ (I.hok.fresh (B5 _))⟩
end
structure M1(X:Cx)(o:Expr)(m:Str)(apos:Pos)(e:Expr)(cpos:Pos):Prop where
 base:attributeBase o m X.env (eval o X.env)=eval o X.env
 few:((backTo cpos (starEach [e] X.env)).all (λx=>!x.1) && (backToKw cpos (keywordEach [] X.env)).all (λx=>x.1.isSome)
  && decide (([e]:List Expr).length+([]:List Keyword).length+(if([]:List Keyword).isEmpty then 0 else 1)<30))=true
 line:(apos.endLine==cpos.line)=true
 trees:backTo cpos (starEach [e] X.env)=[(false,eval e X.env)]
def IsD(H:Hp)(a:Addr):Prop:=(∃kvs,Rd H a (.dK kvs))\/∃kvs,Rd H a (.dT kvs)
theorem isD_at{X:Cx}{pins:List (Addr×Obj)}{σ:St}{H:Hp}{s:Shared}{a:Addr}(I:Inv X pins σ H s)(d:IsD H a) :
  s.TypeIs (.ref a) "dict" /\ (∀b,Value.ref a=.ref b->∃ob,s.heap.get? b=some ob/\ob.dict=none)/\(a==sysModules)=false:=by
 rcases d with ⟨kvs,e⟩|⟨kvs,e⟩
 ·obtain⟨_,hd,vs,_,dd⟩:=Qy I.hok e;refine⟨dd.typeIs,λb q=>?_,hd⟩;cases q;obtain⟨ob,_,_,h1,h2,_⟩:=dd;exact⟨ob,h1,h2.2.1⟩
 ·obtain⟨_,hd,xs,_,dd⟩:=Qw I.hok e;refine⟨dd.typeIs,λb q=>?_,hd⟩;cases q;obtain⟨ob,_,_,h1,h2,_⟩:=dd;exact⟨ob,h1,h2.2.1⟩
section
variable{X:Cx}{pins:List (Addr×Obj)}{σ:St}{H:Hp}{s:Shared}{a:Addr}{y d:V}{u r:Value}{o:Option V}{A:Around}{E:Value->Shared->Prop}
theorem d_get1{Q:Value->Shared->Prop}(hu:A.units+1<cLine)(I:Inv X pins σ H s)(g:Lz H a y o)(ry:AX y u)(h:∀w' s',Inv X pins σ H s'->AX (o.getD .non) w'->Q w' s') :
  wpAny (model X.prog X.w) A (call (.builtin "dict.get") [.ref a,u]) Q E s:=by
 rcases g with ⟨kvs,k,e,ey,l⟩|⟨kvs,k,b,e,ey,eb,l⟩
 ·subst ey;obtain⟨z,hd,vs,rel,dd⟩:=Qy I.hok e;refine call_meetsIn A0d dd.typeIs A4d (A4b _ _) (meets_dict_get (BG X.prog X.w) a (SG ry) hd) ⟨_,dd.mapOf,h _ _ (I.tok _) ?_⟩;rw[l];exact(rel.val k).getD rfl
 ·subst ey;cases(show u=Value.ref b from ry);obtain⟨z,hd,xs,rel,dd⟩:=Qw I.hok e;refine call_meetsIn A0d dd.typeIs A4d (A4b _ _) (meetsH_dict_get (tupleKind (BG X.prog X.w)) a b hd) ⟨A6d hu,k,xs,MO I.hok eb,dd,h _ _ (I.tok _) ?_⟩;rw[l];exact(rel.val k).getD rfl
end
def tDGet1(td ty:TE):TE:=fun σ H Q=>td σ H λx H1=>∃a,x=.ref a/\IsD H1 a/\ty σ H1 λy H2=>∃o,Lz H2 a y o/\Q (o.getD .non) H2
section
variable{X:Cx}{o e f:Expr}{apos cpos:Pos}{td ty tx:TE}
theorem Mx(hu:X.A.units+1<cLine)(ho:PE X o td)(he:PE X e ty)(m:M1 X o "get" apos e cpos):PE X (.Call (.Attribute o "get" apos) [e] [] cpos) (tDGet1 td ty):=by
 intro pins s σ H Q I h;refine wpAny_Call_method m.base m.few m.line PySem.F.plainAttrs_dict A0d PySem.F.type_dict_get (thn (ho pins s σ H _ I h) λu s1 ⟨x,H1,I1,rx,a,ex,d,q1⟩=>?_);subst ex;obtain rfl:u=Value.ref a:=rx;obtain⟨t1,t2,_⟩:=isD_at I1 d;refine⟨t1,t2,?_⟩;rw[m.trees];refine A3c rfl (A5d (A6c (thn (he pins s1 σ H1 _ I1 q1) λiv s2 ⟨y,H2,I2,ry,ov,g,q2⟩=>Calls.spliced_nil ?_)));exact d_get1 hu I2 g ry λw' s3 I3 rw'=>⟨_,H2,I3,rw',q2⟩
end
section
variable{X:Cx}{pins:List (Addr×Obj)}{σ:St}{H:Hp}{s:Shared}{a:Addr}{kvs:List (Key×V)}{A:Around}{E:Value->Shared->Prop}
end
section
variable{X:Cx}{pins:List (Addr×Obj)}{σ:St}{H:Hp}{s:Shared}{a:Addr}{y:V}{u:Value}{A:Around}{E:Value->Shared->Prop}
end
section
variable{X:Cx}
end
section
variable{κ:Type}[DecidableEq κ]
theorem Uv{kvs:List (κ×V)}{k:κ}(h:Bw kvs k=none):¬k∈kvs.map (·.1):=by
 intro m;obtain⟨p,hp,e⟩:=D4.mp m;have q:(kvs.any λkv=>decide (kv.1=k))=true:=R5.mpr ⟨p,hp,Y1 e⟩;rw[Ep,h]at q;exact absurd q A5
theorem Sx:∀{l:List κ}{k:κ},l.Nodup->¬k∈l->(l++[k]).Nodup
 |[],k,_,_=>by simp
 |a::r,k,h,hk=>by
  obtain⟨h1,h2⟩:=O6.mp h;show(a::(r++[k])).Nodup;refine O6.mpr ⟨λm=>?_,Sx h2 λm=>hk (B9.mpr (Or.inr m))⟩;rcases C8.mp m with q|q
  ·exact h1 q
  ·exact hk (B9.mpr (Or.inl (C5.mp q).symm))
theorem nd_putK{kvs:List (κ×V)}{k:κ}(v:V)(hn:(kvs.map (·.1)).Nodup)(h:Bw kvs k=none):((Cc kvs k v).map (·.1)).Nodup:=by
 rw[IR v h,B8];exact Sx hn (Uv h)
end
theorem Wg{P:Program}{w:World}{H:Hp}{h h':Heap}{hid fs:List Addr}(hok:HOk P w H h)(n:Uq hid fs h h')(free:∀b,b∈hid->H b=none):HOk P w H h':=λb u q =>
 (hok b u q).stay (λc v hc r=>n.keep c v r λm=>by
  have z:=free c m;rcases hc with rfl|hc
  ·rw[q]at z;cases z
  ·rw[hc]at z;cases z) (λ_ z=>z) λ_ _ z=>z
theorem un_near{gs hid fs:List Addr}{H0 H:Hp}{g h h':Heap}(u:Un gs [] H0 H g h)(n:Uq hid fs h h')(out:∀b,b∈hid->b∈fs\/g.get? b=none)(inn:∀b,b∈fs->b∈gs\/g.get? b=none):Un gs [] H0 H g h' where
 keep:=λb o q m hb hx=>n.keep b o (u.keep b o q m hb hx) λz=>by
  rcases out b z with y|y
  ·rcases inn b y with y|y
   ·exact hb y
   ·rw[q]at y;cases y
  ·rw[q]at y;cases y
 slot:=λb o q m hb hx=>by
  obtain⟨sl,e⟩:=u.slot b o q m hb hx;by_cases z:b∈hid
  ·rcases out b z with y|y
   ·obtain⟨sl',e'⟩:=n.slot b _ y e;exact⟨sl',e'⟩
   ·rw[q]at y;cases y
  ·exact⟨sl,n.keep b _ e z⟩
 free:=u.free
 there:=λb o q hx=>by
  obtain⟨o',e⟩:=u.there b o q hx;by_cases z:b∈hid
  ·rcases out b z with y|y
   ·obtain⟨sl',e'⟩:=n.slot b _ y e;exact⟨_,e'⟩
   ·rw[q]at y;cases y
  ·exact⟨_,n.keep b _ e z⟩
 tups:=u.tups
 frzs:=u.frzs
 tbls:=u.tbls
abbrev FlyT(a T:Addr)(cls:Value)(h:Heap):Prop:=Li a T cls .none h
def CXE(P:Program)(w:World):CXT:=λouter H s E e s' =>
 ∃(a T:Addr)(cls:Value)(H':Hp),e=.ref a/\s'.os=s.os/\AllBare s'.gens/\Un (frs outer) [] H H' s.heap s'.heap/\HOk P w H' s'.heap /\
  FlyT a T cls s'.heap/\s.heap.get? a=none/\s.heap.get? T=none/\H' a=none/\H' T=none/\E cls none H'
section
variable{P:Program}{w:World}{K:PySem.W.Frag}{mg:Str->Option Value}{base:Heap}{N:List Str}{qual:Str}{scope:Scope}{f:Addr}{cd:Value}{A:Around}{outer:List Env}{s:Shared}{H:Hp}{E:XK}
theorem Inv.gk{X:Cx}{pins:List (Addr×Obj)}{σ:St}{H:Hp}{s:Shared}(I:Inv X pins σ H s)(hx:X.ex=[]):∀b o,X.s₀.heap.get? b=some o->∃o',s.heap.get? b=some o':=λb o q=>I.base.there b o q (by rw[hx];simp)
theorem Inv.gn{X:Cx}{pins:List (Addr×Obj)}{σ:St}{H:Hp}{s:Shared}(I:Inv X pins σ H s)(hx:X.ex=[]){b:Addr}(q:s.heap.get? b=none):X.s₀.heap.get? b=none:=by
 cases e:X.s₀.heap.get? b with
 |none=>rfl
 |some o =>
  obtain⟨o',e'⟩:=I.gk hx b o e;rw[q]at e';cases e'
end
def vmro:List Value:=[.type "ValueError",.type "Exception",.type "BaseException",.type "object"]
abbrev NA(K:PySem.W.Frag)(C:Addr):Prop:=excIn K C vmro "ValueError.__new__" = true
theorem SK{K:PySem.W.Frag}{h:Heap}{C:Addr}{bmB:List Value}{newId:String}(X:K.In h)(q:excIn K C bmB newId=true) :
  ∃(bm:List Value)(N:Addr)(nm qn:Str)(bs:List Value)(hd:Bool)(sn:List Str)(sub:List Value)(ab:Bool)(col:Option Bool)(dd:Option Addr)(k0 k1 k2 k3 k5:Option Value)(mN:Str->Option Value),
   h.get? C=some (excClassObj nm qn C N bs bm hd sn sub ab col dd k0 k1 k2 k3 k5 newId)/\h.Ns N mN/\mN "__init__" = none/\OwnTail h bmB bm/\∀v,mroIn K C v=some ((Value.ref C::bm).contains v):=by
 unfold excIn at q;split at q
 case h_2=>cases q
 rename_i dd cd sl ho;split at q
 case h_2=>cases q
 rename_i C' bm k0 k1 k2 k3 n k5 hm hs;simp only[P8,A3f,Bool.not_eq_true']at q;obtain⟨⟨⟨⟨⟨q1,q2⟩,q3⟩,q4⟩,q5⟩,q6⟩:=q;subst q1 q2;have mro:∀v,mroIn K C' v=some ((Value.ref C'::bm).contains v):=λv=>by
  unfold mroIn clsIn;rw[ho];show(if cd.mro.isEmpty=true then none else some (cd.mro.contains v))=_;rw[hm];rfl
 obtain⟨nm,bs,mr,ns,qn,hd,sn,sub,ab,col,del⟩:=cd;dsimp only at hm q3 q5 q6;subst hm;subst q3;obtain⟨l⟩:=sl;dsimp only at hs;subst hs;exact⟨bm,ns,nm,qn,bs,hd,sn,sub,ab,col,dd,k0,k1,k2,k3,k5,_,X _ _ ho,.of_isNs (PySem.W.isNs_of_in X q5),PySem.W.nsMap_none_of_in X q5 q6,PySem.W.tail_of_in X q4,mro⟩
section
variable{X:Cx}{C:Addr}{x:Str}{np cpos pos:Pos}{e:Expr}{es:List Expr}{t:TA}{E:XK}
end
def PassesS(CX:CXT)(X:Cx)(E:XK)(S:St->Prop):Prop:=∀(pins:List (Addr×Obj))(σ:St)(H:Hp)(s:Shared)(e:Value)(s':Shared),S σ->Inv X pins σ H s->CX X.stack H s E e s'->X.xe e s'
section
variable{X:Cx}{CX:CXT}{k:Nat}{f:Addr}{fd:FuncData}{ps:List Str}{sp:Sp}{dvs:List V}{ds:List Value}{E:XK}{x:Str}{p pos:Pos}{e:Expr}{es:List Expr}{t:TA}{S:St->Prop}
end
theorem Inv.re{X:Cx}{pins pins2 pn2:List (Addr×Obj)}{σ:St}{H:Hp}{s:Shared}{A2:Around}{c2:Bool}{xe2:Value->Shared->Prop}(I:Inv X pins σ H s)(hd:c2=true->A2.handled=none)(hf:A2.frames=X.A.frames)
  (hp:∀p,p∈pn2++pins2->p∈X.pn++pins):Inv {X with A:=A2,calm:=c2,xe:=xe2,pn:=pn2} pins2 σ H s :=
 ⟨⟨I.ok.mod,I.ok.kind,I.ok.glob,I.ok.blt,I.ok.above,I.ok.inj,I.ok.has,I.ok.cab,hd,hf.trans I.ok.frames,I.ok.stk,I.ok.exf,I.ok.bs,I.ok.bsz,I.ok.noex,I.ok.exfs,I.ok.funs,I.ok.frf⟩,
  I.os,I.bare,I.base,I.loc,I.cell,I.free,I.freeC,λp z=>I.pin p (hp p z),I.hok,I.len⟩
theorem Inv.un_re{X:Cx}{pins pins2 pn2:List (Addr×Obj)}{σ:St}{H:Hp}{s:Shared}{A2:Around}{c2:Bool}{xe2:Value->Shared->Prop}(I:Inv {X with A:=A2,calm:=c2,xe:=xe2,pn:=pn2} pins2 σ H s)(hd:X.calm=true->X.A.handled=none)
  (hf:X.A.frames=A2.frames) (hp:∀p,p∈X.pn++pins->p∈pn2++pins2):Inv X pins σ H s :=
 ⟨⟨I.ok.mod,I.ok.kind,I.ok.glob,I.ok.blt,I.ok.above,I.ok.inj,I.ok.has,I.ok.cab,hd,hf.trans I.ok.frames,I.ok.stk,I.ok.exf,I.ok.bs,I.ok.bsz,I.ok.noex,I.ok.exfs,I.ok.funs,I.ok.frf⟩,
  I.os,I.bare,I.base,I.loc,I.cell,I.free,I.freeC,λp z=>I.pin p (hp p z),I.hok,I.len⟩
theorem SP.map{X Y:Cx}{p q:List (Addr×Obj)}{D:JT}{f:Flow}{s:Shared}(k:∀σ H,Inv X p σ H s->Inv Y q σ H s)(h:SP X p D f s):SP Y q D f s:=by
 cases f with
 |next=>obtain⟨σ',H',I,z⟩:=h;exact⟨σ',H',k _ _ I,z⟩
 |brk=>obtain⟨σ',H',I,z⟩:=h;exact⟨σ',H',k _ _ I,z⟩
 |cont=>obtain⟨σ',H',I,z⟩:=h;exact⟨σ',H',k _ _ I,z⟩
 |ret u=>obtain⟨v,σ',H',I,r,z⟩:=h;exact⟨v,σ',H',k _ _ I,r,z⟩
def isExc(a D:Addr):HO:=.ext (Na a D)
theorem Inv.track{X:Cx}{pins:List (Addr×Obj)}{σ:St}{H:Hp}{s:Shared}{a:Addr}{o:HO}(I:Inv X pins σ H s)(ha:H a=none)(h0:X.s₀.heap.get? a=none)(hb:X.base.get? a=none)(hL:X.env.locals≠a)(hc:∀x c,X.env.cells.lookup x=some c->c≠a)
  (hp:∀p,p∈X.pn++pins->p.1≠a) (hs:∀b,b∈X.fs->b≠a) (new:Be X.prog X.w (upd H a o) s.heap a o):Inv X pins σ (upd H a o) s:=by
 have ne:∀b u,H b=some u->b≠a:=λb u q z=>by rw[z,ha]at q;cases q
 refine⟨I.ok,I.os,I.bare,⟨I.base.keep,I.base.slot,λb u q n x=>?_,I.base.there,λb xs q=>?_,λb u v q=>?_,λb ps q=>?_⟩,I.loc,I.cell,?_,λx c q=>?_,λp z=>?_,λb u q=>?_,I.len⟩
 ·rw[Al (λz=>by rw[z,h0]at q;cases q)];exact I.base.free b u q n x
 ·have z:=I.base.tups b xs q;rw[Al (ne _ _ z)];exact z
 ·have z:=I.base.frzs b u v q;rw[Al (ne _ _ z)];exact z
 ·obtain⟨m,z⟩:=I.base.tbls b ps q;exact⟨m,by rw[Al (ne _ _ z)];exact z⟩
 ·rw[Al hL];exact I.free
 ·rw[Al (hc x c q)];exact I.freeC x c q
 ·obtain⟨e,n,r⟩:=I.pin p z;exact⟨e,by rw[Al (hp p z)];exact n,r⟩
 ·by_cases z:b=a
  ·subst z;rw[upd_same]at q;cases q;exact new
  ·rw[Al z]at q;exact(I.hok b u q).stay (λc v _ r=>r) (λc r=>by rw[Al (ne _ _ r)];exact r) λc xs r=>by rw[Al (ne _ _ r)];exact r
theorem Uc{K:PySem.W.Frag}{M:Model}{A:Around}{E:Value->Shared->Prop}{s:Shared}{e C D:Addr}{oe:Obj}{Q:Bool->Shared->Prop}(X:K.In s.heap)(hC:NA K C)(hD:NA K D)(hs:mroIn K D (.ref C)=some true)
  (he:s.heap.get? e=some oe) (hcls:oe.cls=.ref D) (hq:Q true s):wpAny M A (excMatches (.ref e) (.ref C)) Q E s:=by
 obtain⟨h,g,d,t,os⟩:=s;obtain⟨bm,N,nm,qn,bs,hd,sn,sub,ab,col,dd,k0,k1,k2,k3,k5,mN,hO,hN,hi,hT,hM⟩:=SK X hD;have hbase:bm.contains (.type "BaseException")=true:=hT.hasType A3;by_cases z:D=C
 ·subst z;exact wpAny_excMatches_sub_self hO he hcls hbase hq
 ·obtain⟨bm',N',nm',qn',bs',hd',sn',sub',ab',col',dd',k0',k1',k2',k3',k5',mN',hO',hN',hi',hT',hM'⟩:=SK X hC;have hcB:(Value.ref C::bm').contains (.type "BaseException")=true:=by rw[List.contains_cons,hT'.hasType (X:="BaseException") (b:=true) A3,Bool.or_true]
  have hcC:(Value.ref D::bm).contains (.ref C)=true:=Y5 ((hM (.ref C)).symm.trans hs);have f:=tc_notTuple;unfold excMatches
  repeat (first
   | (with_reducible refine wpAny_loadPart_at he ?_;rw[hcls])
   |with_reducible refine wpAny_loadPart_at hO' ?_
   | (with_reducible refine wpAny_isSubtype_exc hO' ?_;rw[hcB])
   | (with_reducible refine wpAny_isSubtype_exc hO ?_;rw[hcC])
   |wp_step)
  exact hq
section
variable{X:Cx}{C:Addr}{x n:Str}{np hpos pos:Pos}{i:Nat}{b₀:Stmt}{suite body:List Stmt}{S:St->Prop}{tb:XK->TS}{th:TS}
theorem land{pins pins':List (Addr×Obj)}{σ:St}{H1:Hp}{s1 s':Shared}{e:Value}{E1:XK}{Q:Flow->Shared->Prop}{nm:Option Str}{xe1:Value->Shared->Prop}
  (hstk:X.stack=X.env::X.outer) (hfr:X.env.frame=some X.env.locals) (hex:X.ex=[]) (hg:Gl X x) (hm:X.mg x=some (.ref C)) (hC:NA X.K C) (hcalm:X.calm=true)
  (hE1:∀cls d H',E1 cls d H'->∃D,cls=.ref D/\NA X.K D/\mroIn X.K D (.ref C)=some true)
  (J0:Inv {X with xe:=xe1,pn:=X.pn++pins} pins' σ H1 s1) (hcx:CXE X.prog X.w X.stack H1 s1 E1 e s')
  (go:∀(a D:Addr)(H':Hp)(s2:Shared),e=.ref a->E1 (.ref D) none H'->H' a=none->Na a D s2.heap->X.s₀.heap.get? a=none->X.base.get? a=none->X.env.locals≠a->(∀x c,X.env.cells.lookup x=some c->c≠a) ->
   (∀p,p∈X.pn++pins->p.1≠a)->(∀b,b∈X.fs->b≠a)->Inv X pins σ H' s2 ->
   (∀(Q':Unit->Shared->Prop)(E':Value->Shared->Prop),(∀s3,Inv X pins σ H' s3->Na a D s3.heap->Q' () s3)->wpAny (model X.prog X.w) (X.A.mark (some (.ref a))) (setFlight (.ref a) none) Q' E' s2) ->
   codeAny (model X.prog X.w) (X.A.mark (some (.ref a))) (.handlers (.ref a) [.ExceptHandler none nm (b₀::suite) hpos] X.env) (λr s₂=>match r with
     |.ok f=>(match nm with
      |none=>Q f s₂
      |some n=>wpAny (model X.prog X.w) X.A (do bindName X.env n .none;unbindBehindTheSuite X.env n hpos) (λ_ s₃=>Q f s₃) X.xe s₂)
     |.error x=>cameBackBy (model X.prog X.w) X.A X.env X.xe x s₂) s2)
  (hdb:(x==("__debug__" : Str))=false:=by decide) :
  wpAny (model X.prog X.w) X.A (noteFrame e X.env) (λ_ s₂=>wpAny (model X.prog X.w) X.A (setFlight e none) (λ_ s₃=>wpAny (model X.prog X.w) X.A (handleBy e X.env [.ExceptHandler (some (.Name x np)) nm (b₀::suite) hpos]) Q X.xe s₃) X.xe s₂) X.xe s':=by
 obtain⟨a,T,cls,H',rfl,os,bare,un,hok,fl,na,nT,ha,hT,hE⟩:=hcx;obtain⟨D,rfl,hD,hDC⟩:=hE1 _ _ _ hE;have hpin:∀p,p∈X.pn++pins->p.1≠a:=λp hp z=>by
  have q:=(J0.pin p (L8 _ hp)).1;rw[z,na]at q;cases q
 have I0:Inv X pins σ H1 s1:=J0.un_re J0.ok.hd rfl (λp hp=>L8 _ hp);have J:Inv X pins σ H' s':=I0.call' (ch:=[]) os un hok bare (λb z=>absurd z A5);have fr:=J.stack;have sub:∀b,b∈frs X.stack->b∈a::T::frs X.stack:=λb z=>.tail _ (.tail _ z);have hf2:X.A.frames=some (X.env::X.outer):=J.ok.frames.trans (by rw[hstk]);have free:∀b,b∈a::T::frs X.stack->H' b=none:=λb z=>by
  rcases B9.mp z with rfl|z
  ·exact ha
  ·rcases B9.mp z with rfl|z
   ·exact hT
   ·exact J.stkFree b z
 have g0:∀{b},s1.heap.get? b=none->X.s₀.heap.get? b=none:=λq=>I0.gn hex q;have out:∀b,b∈a::T::frs X.stack->b∈frs X.stack\/X.s₀.heap.get? b=none:=λb z=>by
  rcases B9.mp z with rfl|z
  ·exact .inr (g0 na)
  ·rcases B9.mp z with rfl|z
   ·exact .inr (g0 nT)
   ·exact .inl z
 have out1:∀b,b∈a::T::frs X.stack->b∈frs X.stack\/s1.heap.get? b=none:=λb z=>by
  rcases B9.mp z with rfl|z
  ·exact .inr na
  ·rcases B9.mp z with rfl|z
   ·exact .inr nT
   ·exact .inl z
 have over:∀h2,Uq (a::T::frs X.stack) (frs X.stack) s'.heap h2->Inv X pins σ H' {s' with heap:=h2}:=λh2 nr =>
  I0.call' (s':={s' with heap:=h2}) (ch:=[]) os (un_near un nr out1 λb z=>.inl z) (Wg hok nr free) bare (λb z=>absurd z A5)
 have fr':=fr;rw[hstk]at fr';have efs:frs X.stack=frs (X.env::X.outer):=by rw[hstk]
 refine VI hf2 fr' hfr (.inr fl) λh4 T4 fl4 n4 nr4=>?_;rw[<-efs]at nr4;have kn:∀{h2},(∀b o,h4.get? b=some o->b≠T4->h2.get? b=some o)->Uq (a::T::frs X.stack) (frs X.stack) s'.heap h2:=λkp=>by
  have ne:∀b o,s'.heap.get? b=some o->b≠T4:=λb o q y=>by
   rw[y,n4]at q;cases q
  refine⟨λb o q z=>kp b o (nr4.keep b o q z) (ne b o q),λb o m q=>?_,nr4.sub⟩;obtain⟨sl,e⟩:=nr4.slot b o m q;exact⟨sl,kp b _ e (ne b o q)⟩
 refine MQ (s:={s' with heap:=h4}) fl4 λh5 fw5 kp5=>?_;have J5:=over h5 (kn kp5);obtain⟨oe5,_,_,_,q5,c5,_⟩:=id fw5;have M5:Inv {X with A:=X.A.mark (some (.ref a)),calm:=false,xe:=λ_ _=>False,pn:=X.pn} pins σ H' {s' with heap:=h5}:=J5.re (λz=>nomatch z) rfl (λ_ z=>z);refine wpAny_handleBy_cons (codeAny_handlers_test (LK (X:={X with A:=X.A.mark (some (.ref a)),calm:=false,xe:=λ_ _=>False,pn:=X.pn}) M5 hg hm ?_ hdb)) (by intro q;cases q);refine Uc M5.kIn hC hD hDC q5 c5 ?_;have nL:∀{b o},s1.heap.get? b=some o->b≠a:=λq z=>by rw[z,na]at q;cases q
 refine go a D H' {s' with heap:=h5} rfl hE ha fw5.exc (g0 na) ?_ ?_ ?_ hpin ?_ J5 ?_
 ·cases q:X.base.get? a with
  |none=>rfl
  |some o =>
   have:=I0.bk a o q;rw[na]at this;cases this
 ·obtain⟨m,⟨o,_,_,q,_⟩,_⟩:=I0.loc;exact nL q
 ·intro y c q;obtain⟨v,o,ho,_⟩:=I0.cell y c q;exact nL ho
 ·intro b hb;obtain⟨_,o,ho,_⟩:=I0.funs.mem hb;exact nL ho
 ·intro Q' E' hk;refine MQ (s:={s' with heap:=h5}) fw5 λh6 fw6 kp6=>hk _ (over h6 (kn λb o q y=>kp6 b o (kp5 b o q y) y)) fw6.exc
abbrev Ux(X:Cx)(pins:List (Addr×Obj))(D:JT)(hs:List ExceptHandler):Value->Shared->Prop:=λe s₁ =>
 wpAny (model X.prog X.w) X.A (noteFrame e X.env) (λ_ s₂=>wpAny (model X.prog X.w) X.A (setFlight e none) (λ_ s₃=>wpAny (model X.prog X.w) X.A (handleBy e X.env hs) (SP X pins D) X.xe s₃) X.xe s₂) X.xe s₁
def tTry(K:PySem.W.Frag)(C:Addr)(S:St->Prop)(tb:XK->TS)(th:TS):TS:=λD σ H =>
 tb (λcls _ H'=>∃D',cls=.ref D'/\NA K D'/\mroIn K D' (.ref C)=some true/\∀σ',S σ'->th D σ' H') D σ H
theorem ps_try(hstk:X.stack=X.env::X.outer)(hfr:X.env.frame=some X.env.locals)(hex:X.ex=[])(hcalm:X.calm=true)(hg:Gl X x)(hm:X.mg x=some (.ref C))(hC:NA X.K C)
  (hb:∀(xe:Value->Shared->Prop)(pn:List (Addr×Obj))(E1:XK),PassesS (CXE X.prog X.w) {X with xe:=xe,pn:=pn} E1 S->PSs {X with xe:=xe,pn:=pn} body (tb E1))
  (hth:∀(a:Addr),PSs {X with A:=X.A.mark (some (.ref a)),calm:=false,xe:=λ_ _=>False,pn:=X.pn} (b₀::suite) th) (hdb:(x==("__debug__" : Str))=false:=by decide) :
  PS X (.Try body [.ExceptHandler (some (.Name x np)) none (b₀::suite) hpos] [] [] pos) (tTry X.K C S tb th):=by
 intro pins s σ H D I h;refine wpAny_Try_except ?_;have I1:Inv {X with xe:=Ux X pins D [.ExceptHandler (some (.Name x np)) none (b₀::suite) hpos],pn:=X.pn++pins} [] σ H s :=
  I.re I.ok.hd rfl (λp z=>by simpa using z)
 refine X4 (hb (Ux X pins D [.ExceptHandler (some (.Name x np)) none (b₀::suite) hpos]) (X.pn++pins) _ ?pass [] s σ H D I1 h) (λf s1 q=>?_) (λe s1 q=>q)
 case pass =>
  intro pins' σ' H1 s1 e s' hS J hcx;refine land (pins:=pins) hstk hfr hex hg hm hC hcalm (λcls d H' ⟨D',z,a,b,_⟩=>⟨D',z,a,b⟩) J hcx (λa D' H' s2 _ hE ha ho _ _ _ _ _ _ J5 hset=>?_) hdb;obtain⟨D2,z,_,_,k⟩:=hE;refine codeAny_handlers_suite (hset _ _ λs3 J3 L3=>?_);have J6:Inv {X with A:=X.A.mark (some (.ref a)),calm:=false,xe:=λ_ _=>False,pn:=X.pn} pins σ' H' s3:=J3.re (λz=>nomatch z) rfl (λ_ z=>z);refine X4 (hth a pins s3 σ' H' D J6 (k σ' hS)) (λf s4 q=>?_) (λ_ _ z=>z.elim);exact q.map fun σ4 H4 (J4:Inv {X with A:=X.A.mark (some (.ref a)),calm:=false,xe:=λ_ _=>False,pn:=X.pn} pins σ4 H4 s4)=>J4.un_re J3.ok.hd rfl (λ_ z=>z)
 have back:∀σ H,Inv {X with xe:=Ux X pins D [.ExceptHandler (some (.Name x np)) none (b₀::suite) hpos],pn:=X.pn++pins} [] σ H s1->Inv X pins σ H s1 :=
  fun σ H J=>J.un_re J.ok.hd rfl (λp z=>by simpa using z)
 cases f with
 |next=>exact A3g (q.map back)
 |brk=>exact q.map back
 |cont=>exact q.map back
 |ret u=>exact q.map back
end
section
variable{P:Program}{w:World}{K:PySem.W.Frag}{mg:Str->Option Value}{base:Heap}
end
section
variable{X:Cx}{k:Nat}{f:Addr}{fd:FuncData}{ps:List Str}{sp:Sp}{x:Str}{p pos:Pos}{e:Expr}{es:List Expr}{t:TA}
end
section
variable{X:Cx}{tg:Expr}
def Its(x:Str):It:=⟨λi _=>i<x.cps.size,λi H v H'=>H'=H/\∃c,x.cps[i]?=some c/\v=.str ⟨#[c]⟩,λi _=>i=x.cps.size⟩
theorem Pr{P:Program}{w:World}{K:PySem.W.Frag}(it:Addr)(x:Str)(t:Tok)(T:String)(hn:["enumerate","zip","dict_itemiterator","dict_reverseitemiterator","odict_iterator","itertools.zip_longest","itertools.pairwise"].contains T=false)
  (W:∀A:Around,A.handled=none->Walks P w A it [it] [it] x.cps.size (SignAt x) (λi h=>h.IsStrIter it T x t i))
  (hself:∀(A:Around)(i:Nat)(s:Shared)(Q:Value->Shared->Prop)(E:Value->Shared->Prop),s.heap.IsStrIter it T x t i->Q (.ref it) s->wpAny (model P w) A (pyIter (.ref it)) Q E s):Ny P w K tg (Its x) [it] it (λi h=>h.IsStrIter it T x t i) where
 mem:=by simp
 obj:=λi h st b hb=>by
  have e:b=it:=by simpa using hb
  subst e;obtain⟨o,e,c,d⟩:=st;exact⟨o,e,λv z=>by rw[d]at z;cases z⟩
 keep:=λi h h' ⟨o,e,r⟩ k=>⟨o,k it A5 o e,r⟩
 item:=by
  intro X hP hw hK hc i pins s σ H E I hf st hg;subst hP hw hK;obtain⟨f0,f1,f2,f3,f4,f5⟩:=hf it A5;refine(W X.A (I.ok.hd hc)).item i s _ _ hg st λv h' tk hv st' kk=>?_;obtain⟨c,u,hc',rfl⟩:=hv;have I1:Inv X pins σ H {s with heap:=h',toks:=tk}:=I.turned (λb o hb e=>kk b o (by simpa using hb) e) f0 f1 f3 f4 f5;obtain⟨o,e,oc,od⟩:=id st';exact⟨_,rfl,Qu (s:={s with heap:=h',toks:=tk}) e oc od hn ⟨.str ⟨#[c]⟩,H,I1,⟨u,rfl⟩,⟨rfl,c,hc',rfl⟩,st',λb hb=>(hf b hb).1⟩⟩
 done:=by
  intro X hP hw hK hc i pins s σ H E I hf st hg;subst hP hw hK;obtain⟨f0,f1,f2,f3,f4,f5⟩:=hf it A5;have z:i=x.cps.size:=hg;subst z;exact(W X.A (I.ok.hd hc)).done s _ _ st λh' tk kk=>⟨rfl,I.turned (λb o hb e=>kk b o (by simpa using hb) e) f0 f1 f3 f4 f5⟩
 self:=hself
def iStr(tl:TE):TI:=fun σ H R=>tl σ H λv H1=>∃x,v=.str x/\R (Its x) H1
theorem Vi{l:Expr}{tl:TE}(hl:PE X l tl):PI X tg l (iStr tl):=by
 intro pins s σ H R I h;refine thn (hl pins s σ H _ I h) λv s1 ⟨y,H1,I1,r1,q1⟩=>?_;obtain⟨x,rfl,q⟩:=q1;obtain⟨t,rfl⟩:=r1;have fp:∀b,b∈[s1.heap.objs.size]->CL X pins H1 b:=λb hb=>by
  have e:b=s1.heap.objs.size:=by simpa using hb
  subst e;exact I1.fpOk (B5 _) (I1.hok.fresh (B5 _))
 cases ha:x.cps.all (· < 128)with
 |true =>
  refine wpAny_pyIter_ascii ha ?_;refine⟨s1.heap.objs.size,[s1.heap.objs.size],_,_,H1,rfl,I1.kept (t':=s1.toks) λb o e=>B1 _ e,Pr _ x t "str_ascii_iterator" A3 (λA hA=>Walks.strAscii hA _ x t) (λ_ _ _ _ _ st h=>wpAny_pyIter_striter_ascii st h),⟨_,C3 _ rfl,rfl,rfl⟩,fp,q⟩
 |false =>
  refine wpAny_pyIter_wide ha ?_;refine⟨s1.heap.objs.size,[s1.heap.objs.size],_,_,H1,rfl,I1.kept (t':=s1.toks) λb o e=>B1 _ e,Pr _ x t "str_iterator" A3 (λA hA=>Walks.strWide hA _ x t) (λ_ _ _ _ _ st h=>wpAny_pyIter_striter_wide st h),⟨_,C3 _ rfl,rfl,rfl⟩,fp,q⟩
theorem for_str{x:Str}{g:TG}{tb:TS}{D:JT}{σ:St}{H:Hp}(Pv:Nat->St->Hp->Prop)(h0:Pv 0 σ H)
  (hs:∀i c σ H,x.cps[i]?=some c->Pv i σ H->g (.str ⟨#[c]⟩) σ H fun σ2 H2=>tb {D with nx:=Pv (i+1),ct:=Pv (i+1),bk:=D.nx} σ2 H2) (hd:∀σ H,Pv x.cps.size σ H->D.nx σ H) :
  ∃W:Nat->Nat->St->Hp->Prop,(∃m,W 0 m σ H)/\∀i m σ H,W i m σ H ->
   ((Its x).stop i H/\D.nx σ H)\/((Its x).go i H/\∃N:St->Hp->Prop,(∀σ' H',N σ' H'->∃m',m'<m/\W (i+1) m' σ' H')/\∀v H',(Its x).yld i H v H'->g v σ H' fun σ2 H2=>tb {D with nx:=N,ct:=N,bk:=D.nx} σ2 H2):=by
 refine⟨λi m σ H=>m=x.cps.size-i/\i<=x.cps.size/\Pv i σ H,⟨x.cps.size,by simp,J7 _,h0⟩,?_⟩;rintro i m σ H ⟨rfl,hi,p⟩;by_cases hlt:i<x.cps.size
 ·refine .inr ⟨hlt,Pv (i+1),fun σ' H' p'=>⟨x.cps.size-(i+1),by lia,rfl,hlt,p'⟩,λv H' y=>?_⟩;obtain⟨e,c,hc,rfl⟩:=y;subst e;exact hs i c σ _ hc p
 ·have e:i=x.cps.size:=by lia
  subst e;exact .inl ⟨rfl,hd σ H p⟩
def rSlS:V->Option Int->Option Int->Hp->VK->Prop:=λx lo hi H Q=>∃z,x=.str z/\z.length<=sizeLine/\Q (.str (Txt.slice z lo hi)) H
theorem sl_str:SlR X rSlS:=by
 intro pins s σ H x v vl vu lo hi sl Q I rx hs pl pu h;obtain⟨z,rfl,hz,q⟩:=h;obtain⟨t,rfl⟩:=rx;refine⟨"str",_,F.slot_str_getitem.lookup,typeIs_str _ _ _,?_⟩;obtain⟨o,ho,hc,hd⟩:=hs;have fin:∀t' k,EP X pins σ Q (.str (Txt.slice z lo hi) t') {s with toks:=k}:=λt' k=>⟨.str _,H,I.tok k,⟨t',rfl⟩,q⟩
 have le:=C4 (Txt.slice_le z lo hi) hz;cases pl with
 |none =>
  cases pu with
  |none=>exact A3a (l:=none) (u:=none) (st:=none) ⟨o,ho,hc,hd⟩ rfl (A5a ⟨le,fin⟩)
  |int j uj=>exact A3a (l:=none) (u:=some (j,uj)) (st:=none) ⟨o,ho,hc,hd⟩ rfl (A5a ⟨le,fin⟩)
 |int i ui =>
  cases pu with
  |none=>exact A3a (l:=some (i,ui)) (u:=none) (st:=none) ⟨o,ho,hc,hd⟩ rfl (A5a ⟨le,fin⟩)
  |int j uj=>exact A3a (l:=some (i,ui)) (u:=some (j,uj)) (st:=none) ⟨o,ho,hc,hd⟩ rfl (A5a ⟨le,fin⟩)
theorem Nt:MtR X "str.startswith" (λx xs H Q=>∃a b,x=.str a/\xs=[.str b]/\Q (.bl (Txt.startswith a b)) H):=by
 intro pins s σ H x xs v us Q I rx r h;obtain⟨a,b,rfl,rfl,q⟩:=h;obtain⟨t,rfl⟩:=rx;cases r with
 |cons r1 r2 =>
  cases r2;obtain⟨u,rfl⟩:=r1;exact SC.startswith ⟨.bl _,H,I,rfl,q⟩
theorem Ih:Do X (.type "int") (λxs H Q=>∃x n,xs=[.str x]/\PySem.intText? x=some n/\x.length<=640/\Q (.int n) H):=by
 intro pins s σ H xs us Q I r h;obtain⟨x,n,rfl,hn,hl,q⟩:=h;cases r with
 |cons r1 r2 =>
  cases r2;obtain⟨t,rfl⟩:=r1;exact PySem.W.KIN.call_text hn hl ⟨.int n,H,I.tok _,⟨_,rfl⟩,q⟩
theorem Ww(hc:X.calm=true):Do X (.builtin "all") (λxs H Q=>∃(p:Addr)(bs:List Bool),xs=[.ref p]/\SqL X.K H p (bs.map V.bl)/\Q (.bl (bs.all id)) H):=by
 intro pins s σ H xs us Q I r h;obtain⟨p,bs,rfl,hq,q⟩:=h;cases r with
 |cons r1 r2 =>
  cases r2;cases(show _=Value.ref p from r1);obtain⟨its,rv,pl,hz⟩:=I.list hq;have hne:p≠s.heap.objs.size:=D8 (by obtain⟨o,n,e,_⟩:=pl;exact C6 e);refine call_all_walk (K8 pl.isList ?_);have vals:∀(i:Nat) v,its[i]?=some v->∃b,bs[i]?=some b/\v=.bool b:=λi v e=>by
   cases eb:bs[i]? with
   |none =>
    have:its[i]?=none:=rv.none_of (by rw[B6,eb];rfl);rw[e]at this;cases this
   |some b =>
    obtain⟨u,hu,ru⟩:=rv.get (i:=i) (x:=V.bl b) (by rw[B6,eb];rfl);rw[e]at hu;cases hu;exact⟨b,rfl,ru⟩
  refine⟨s.heap.objs.size,_,_,_,_,_,λi=>bs.getD i true,rfl,Walks.list (A:=X.A.in1) (I.ok.hd hc) s.heap.objs.size p hne its.toArray,⟨⟨_,C3 _ rfl,rfl,rfl⟩,?_⟩,?_,?_⟩
  ·exact pl.isList.at λo e=>B1 _ e
  ·intro i v s2 Q2 E2 hP hQ;obtain⟨b,eb,rfl⟩:=vals i v (by simpa using hP);have e2:bs.getD i true=b:=by rw[C1,eb];rfl
   have hQ:Q2 (bs.getD i true) s2:=hQ;rw[e2]at hQ;exact X7 hQ
  ·intro h' tk kk;have I2:Inv X pins σ H {s with heap:=h',toks:=tk}:=I.kept λb o e=>kk b o (by intro z;exact D8 (C6 e) (by simpa using z)) (B1 _ e);have len:its.toArray.size=bs.length:=by rw[C7,<-rv.length,B0]
   have e3:(List.range its.toArray.size).all (λi=>bs.getD i true)=bs.all id:=by
    rw[len,O0,N5,N5];constructor
    ·intro z b hb;obtain⟨i,hi,e⟩:=V5.mp hb;have:=z i (L9.mpr hi);rw[C1,C0 hi,e]at this;exact this
    ·intro z i hi;have hi':=L9.mp hi;rw[C1,C0 hi'];exact z _ (N4 hi')
   rw[e3];exact⟨.bl _,H,I2,rfl,q⟩
end
section
variable{X:Cx}{iter:Expr}{ti:TE}{x G:Str}{px px1 px2 cpos pos:Pos}{scope:Scope}{g:Str}
end
structure WP(K:PySem.W.Frag)(D:Addr):Prop where
 hd:hasDictIn K D=true
 ga:findIn K (.ref D) "__getattribute__" = some (some (.builtin "BaseException.__getattribute__"))
 gt:findIn K (.ref D) "__getattr__" = some none
 cl:findIn K (.ref D) "__class__" = some (some (.builtin "object.__class__"))
 sp:specialIn K (.builtin "object.__class__") "__get__" = some (some (.builtin "getset_descriptor.__get__"))
 tk:takesIn K (.builtin "object.__class__")=some true
 mo:mroIn K D (.type "object")=some true
 mb:mroIn K D (.type "BaseException")=some true
section
variable{K:PySem.W.Frag}{prog:Program}{w:World}{A:Around}{E:Value->Shared->Prop}{s:Shared}{a D:Addr}{o:Obj}
open PySem.W Builtin Builtin.ObjectAttr Builtin.Getset_descriptor
theorem Wo{M:Model}{h:Heap}(X:K.In h)(f:WP K D):Looks M h (find (.ref a) (.ref D) "__class__") (.bind (.builtin "getset_descriptor.__get__") (.builtin "object.__class__")) :=
 (looks_findIn X f.cl).andThen ((looks_specialIn X f.sp).andThen ((show Looks M h (dataDescriptor? (some (.builtin "object.__class__")) (some (.builtin "getset_descriptor.__get__"))) (some (.builtin "getset_descriptor.__get__",.builtin "object.__class__"))from(looks_takesIn X f.tk).andThen .now).andThen (Looks.tag .now)))
theorem exc_get{R:Result->Shared->Prop}{tp:Value}(X:K.In s.heap)(f:WP K D)(he:s.heap.get? a=some o)(hc:o.cls=.ref D)(hq:R (.ok (.ret (.ref D))) s) :
  codeAny (model prog w) A (.call (.builtin "getset_descriptor.__get__") ⟨[.builtin "object.__class__",.ref a,tp],[]⟩) R s:=by
 obtain⟨h,g,d,t,os⟩:=s;have L0:Looks (model prog w) h (typeOf (.ref a)) (.ref D):=hc▸(Looks.ld he).andThen .now;have L1:=looks_mroIn (M:=model prog w) X f.mo;refine A5e KF.slot_gs.plain KF.entry_gs (KF.slot_gs.check _ _ _ _ _ _ _ _ KF.type_class (KF.args_gs _ _ _) ?_);unfold Builtin.«getset_descriptor.__get__» descrGet;rw[dga_obj];refine W8 (W9 ?_);unfold descrGetter descrCheckInstance descrNameAndClass isInstance;simp only[KF.owner_class]
 repeat lk
 refine⟨Code.quiet_builtin _ A1,codeAny_builtin KF.entry_class ?_⟩;unfold Builtin.«object.__class__» shownTypeOf
 repeat lk
 exact hq
theorem Ud{Q:Option Value->Shared->Prop}(X:K.In s.heap)(f:WP K D)(he:s.heap.get? a=some o)(hc:o.cls=.ref D)(hq:Q (some (.ref D)) {s with toks:=s.toks+1}) :
  wpAny (model prog w) A (getAttr? (.ref a) "__class__") Q E s:=by
 obtain⟨h,g,d,t,os⟩:=s;have L0:Looks (model prog w) h (typeOf (.ref a)) (.ref D):=hc▸(Looks.ld he).andThen .now;have L1:=looks_findIn (M:=model prog w) X f.ga;have L2:=looks_findIn (M:=model prog w) X f.gt;have L3:=Wo (M:=model prog w) (a:=a) X f;have L4:Looks (model prog w) h (isInstance (.ref a) (.type "BaseException")) true:=L0.andThen (looks_mroIn X f.mb);unfold getAttr? getAttrBy? getAttrBy;refine W8 (wpAny_mkText (W8 (A2d (X0 (W8 (L0.at (W8 (L1.at ?_))))))));dsimp only;have n0:(Value.builtin "BaseException.__getattribute__" == Value.builtin "object.__getattribute__")=false:=by decide +kernel
 rw[Y0 (by rw[n0,Bool.and_false];exact C9)];unfold getAttrByItsOwn hookBefore;rw[Y4 (by rfl)];refine W8 (L2.at ?_);refine W8 (A2d (X0 ?_));unfold callGetattribute;rw[Y0 A3];unfold boundAndCalled;refine W8 (A5f (PySem.F.excAttr_ValueError.ga.bind (.ref a)) ?_);dsimp only;refine wpAny_call (A5e PySem.F.excAttr_ValueError.ga.plain PySem.F.entry_bexc_ga ?_);have hk:builtinKind "BaseException.__getattribute__" = some .slot:=by decide +kernel
 have hsp:splitId "BaseException.__getattribute__" = some ("BaseException","__getattribute__"):=by decide +kernel
 have har:=PySem.F.args_bexc_ga (.ref a) (.str "__class__" t);simp only[checkBuiltinCall,hk,hsp];refine W8 (L4.at ?_);rw[Y0 A3];refine A5f (a:=()) har ?_;unfold Builtin.«object.__getattribute__»;dsimp only at L3
 repeat ((fail_if_success (with_reducible show wpAny _ _ (call _ _) _ _ _));lk)
 refine wpAny_call (exc_get (s:=⟨h,g,d,t+1,os⟩) X f he hc ?_);dsimp only
 repeat lk
 exact hq
end
inductive TyX(K:PySem.W.Frag)(H:Hp):V->Value->Prop where
 |of {x:V} {t:Value} (h:JS K H x t):TyX K H x t
 |exc {a D:Addr} (e:H a=some (isExc a D)) (f:WP K D):TyX K H (.ref a) (.ref D)
theorem Wb{K:PySem.W.Frag}{a D:Addr}(f:WP K D):PySem.W.KitX K (.ref a) (.ref D) (λh=>∃o,h.get? a=some o/\o.cls=.ref D/\notCls o=true) where
 ty:=λM h X ⟨o,e,c,_⟩=>c▸(PySem.W.Looks.ld e).andThen .now
 it:=λM h X _=>by
  obtain⟨cd,hc,_⟩:=any_some f.hd;unfold clsIn at hc;split at hc
  ·rename_i c' d' cd' sl' ho;intro A' Q' E' s' k q;unfold isType loadHead;exact W8 (wpAny_loadPart (k _ _ (X _ _ ho)) (W9 q))
  ·cases hc
 ne:=λh tp dd its n sl X htp=>by
  obtain⟨cd,hc,_⟩:=any_some f.hd;refine Bool.eq_false_iff.mpr λq=>?_;have e:D=tp:=Value.ref.inj (beq_iff_eq.mp q);subst e;unfold clsIn at hc;split at hc
  ·rename_i c' d' cd' sl' ho;have z:=(X _ _ ho).symm.trans htp;cases z
  ·cases hc
 ca:=λX ⟨o,e,c,_⟩ k=>Ud X f e c k
def clsV:V->Option Value
 |.ty n=>some (.type n)
 |.ref C=>some (.ref C)
 |_=>none
theorem Fs{X:Cx}:Do X (.builtin "isinstance") (λxs H Q=>∃x c cv t b,xs=[x,c]/\clsV c=some cv/\TyX X.K H x t/\kitOne X.K t cv=some b/\Q (.bl b) H):=by
 intro pins s σ H xs us Q I r h;obtain⟨x,c,cv,t,b,rfl,hc,ty,hk,q⟩:=h;cases r with
 |@cons _ u _ _ rx rr =>
  cases rr with
  |@cons _ v _ _ rc rn =>
   cases rn;have ev:v=cv:=by
    cases c with
    |ty n=>cases hc;exact rc
    |ref C=>cases hc;exact rc
    |_=>cases hc
   subst ev;cases ty with
   |of ty=>exact TV I rx ty hk λtk=>⟨.bl b,H,I.tok tk,rfl,q⟩
   |@exc a D e f =>
    cases(show u=Value.ref a from rx);obtain⟨p,_,_⟩:=(show Be X.prog X.w H s.heap a (isExc a D)from I.hok a _ e)
    exact Z8 (Wb f) I.kIn (Na.not p) hk (λz=>nomatch z) λtk=>⟨.bl b,H,I.tok tk,rfl,q⟩
section
variable{X:Cx}{c:Expr}{a b:List Stmt}{tc:TT}{t u:TS}{pos:Pos}
end
def Ff(env:Env)(a:List (Str×Addr))(x:Str×NameKind):List (Str×Addr):=if(x.2==NameKind.free)=true then(x.1,(env.cells.lookup x.1).getD 0)::a else a
def RL(env:Env)(l:List (Str×NameKind)):List (Str×Addr):=l.foldl (Ff env) []
theorem RG{α β:Type}{l:List α}{f:α->β->Sem (ForInStep β)}{g:β->α->β}(h:∀x∈l,∀b,f x b=pure (.yield (g b x))):∀b,forIn l b f=pure (l.foldl g b):=by
 induction l with
 |nil=>intro b;rfl
 |cons x l ih =>
  intro b;rw[List.forIn_cons,h x C2,pure_bind];exact ih (λy hy=>h y (B3 _ hy)) _
theorem MW{scope:Scope}{env:Env}(h:∀y∈scope.names,y.2=.free->∃c,env.cells.lookup y.1=some c):closureFor scope env=pure (RL env scope.names):=by
 simp only[closureFor];rw[RG (g:=Ff env) (λx hx c=>by
  obtain⟨n,k⟩:=x;by_cases hk:k=.free
  ·subst hk;obtain⟨a,ha⟩:=h _ hx rfl;have e:cellOf env n=pure a:=by unfold cellOf;rw[show env.cells.lookup n=some a from ha]
   simp only[Ff,beq_self_eq_true,A1h,e,show env.cells.lookup n=some a from ha,Option.getD_some];rfl
  ·have hb:(k==NameKind.free)=false:=by simpa using hk
   simp only[Ff,hb,F2,Z9])]
 rfl
theorem NX(env:Env){y:Str}{c:Addr}:∀(l:List (Str×NameKind))(a:List (Str×Addr)),(l.foldl (Ff env) a).lookup y=some c->a.lookup y=some c\/((y,NameKind.free)∈l/\c=(env.cells.lookup y).getD 0)
 |[],a,h=>.inl h
 | (n,k)::r,a,h=>by
  rw[V4]at h;rcases NX env r _ h with z|⟨z,e⟩
  ·unfold Ff at z;split at z
   ·rename_i hk;have hk':k=.free:=by simpa using hk
    rw[O4]at z;split at z
    ·rename_i hy;have hy':y=n:=by simpa using hy
     subst hy' hk';exact .inr ⟨C2,(Y5 z).symm⟩
    ·exact .inl z
   ·exact .inl z
  ·exact .inr ⟨B3 _ z,e⟩
theorem QE(env:Env){y:Str}:∀(l:List (Str×NameKind))(a:List (Str×Addr)),(∃c,a.lookup y=some c)->∃c,(l.foldl (Ff env) a).lookup y=some c
 |[],_,h=>h
 | (n,k)::r,a,h=>by
  rw[V4];refine QE env r _ ?_;unfold Ff;split
  ·rw[O4];split
   ·exact⟨_,rfl⟩
   ·exact h
  ·exact h
theorem RK(env:Env){y:Str}:∀(l:List (Str×NameKind))(a:List (Str×Addr)),(y,NameKind.free)∈l->∃c,(l.foldl (Ff env) a).lookup y=some c
 |[],_,h=>by simp at h
 | (n,k)::r,a,h=>by
  rw[V4];rcases B9.mp h with e|h
  ·cases e;refine QE env r _ ⟨(env.cells.lookup y).getD 0,?_⟩;unfold Ff;simp only[beq_self_eq_true,A1h,O4]
  ·exact RK env r _ h
theorem Mr{env:Env}{y:Str}:∀{names:List (Str×NameKind)},(∀z∈names,z.2≠.cell) ->
  ((names.map λ(n,k)=>if(k==NameKind.free && env.scope.kind==.function && env.kindOf n==some .cell)then(n,NameKind.cell)else(n,k)).lookup y=some .cell \/
   (names.map λ(n,k)=>if(k==NameKind.free && env.scope.kind==.function && env.kindOf n==some .cell)then(n,NameKind.cell)else(n,k)).lookup y=some .free)->(y,NameKind.free)∈names
 |[],_,h=>by simp at h
 | (n,k)::r,hc,h=>by
  have ih:=@Mr env y r (λz hz=>hc z (B3 _ hz));have h':List.lookup y ((if(k==NameKind.free && env.scope.kind==.function && env.kindOf n==some .cell)=true then(n,NameKind.cell)else(n,k))::(r.map λ(n,k)=>if(k==NameKind.free && env.scope.kind==.function && env.kindOf n==some .cell)then(n,NameKind.cell)else(n,k)))=some .cell \/
   List.lookup y ((if(k==NameKind.free && env.scope.kind==.function && env.kindOf n==some .cell)=true then(n,NameKind.cell)else(n,k))::(r.map λ(n,k)=>if(k==NameKind.free && env.scope.kind==.function && env.kindOf n==some .cell)then(n,NameKind.cell)else(n,k)))=some .free:=h
  clear h;by_cases hb:(k==NameKind.free && env.scope.kind==.function && env.kindOf n==some .cell)=true
  ·rw[Y4 hb]at h';have hk:k=.free:=by
    simp only[P8,A3f]at hb;exact hb.1.1
   simp only[O4]at h';cases hy:y==n with
   |true =>
    have:y=n:=by simpa using hy
    subst this hk;exact C2
   |false =>
    rw[hy]at h';exact B3 _ (ih h')
  ·rw[Y0 hb]at h';simp only[O4]at h';cases hy:y==n with
   |true =>
    rw[hy]at h';have:y=n:=by simpa using hy
    subst this;rcases h' with z|z
    ·exact absurd (Y5 z) (hc (y,k) C2)
    ·cases Y5 z;exact C2
   |false =>
    rw[hy]at h';exact B3 _ (ih h')
theorem IO{env:Env}{y:Str}:∀{names:List (Str×NameKind)},names.lookup y=some .free ->
  ((names.map λ(n,k)=>if(k==NameKind.free && env.scope.kind==.function && env.kindOf n==some .cell)then(n,NameKind.cell)else(n,k)).lookup y=some .cell \/
   (names.map λ(n,k)=>if(k==NameKind.free && env.scope.kind==.function && env.kindOf n==some .cell)then(n,NameKind.cell)else(n,k)).lookup y=some .free)
 |[],h=>by simp at h
 | (n,k)::r,h=>by
  have ih:=@IO env y r;show List.lookup y ((if(k==NameKind.free && env.scope.kind==.function && env.kindOf n==some .cell)=true then(n,NameKind.cell)else(n,k))::(r.map λ(n,k)=>if(k==NameKind.free && env.scope.kind==.function && env.kindOf n==some .cell)then(n,NameKind.cell)else(n,k)))=some .cell \/
   List.lookup y ((if(k==NameKind.free && env.scope.kind==.function && env.kindOf n==some .cell)=true then(n,NameKind.cell)else(n,k))::(r.map λ(n,k)=>if(k==NameKind.free && env.scope.kind==.function && env.kindOf n==some .cell)then(n,NameKind.cell)else(n,k)))=some .free
  rw[O4]at h;by_cases hb:(k==NameKind.free && env.scope.kind==.function && env.kindOf n==some .cell)=true
  ·rw[Y4 hb];simp only[O4];cases hy:y==n with
   |true=>exact .inl rfl
   |false=>rw[hy]at h;exact ih h
  ·rw[Y0 hb];simp only[O4];cases hy:y==n with
   |true=>rw[hy]at h;exact .inr h
   |false=>rw[hy]at h;exact ih h
section
variable{prog:Program}{w:World}{A:Around}{R:Result->Shared->Prop}{s:Shared}
abbrev RZ(ifs:List Expr)(env:Env):Sem Bool:=forIn ifs true λc r=>if r=true then do let ok <-isTrue c env (eval c env);pure (ForInStep.yield ok)else pure (ForInStep.yield r)
theorem QD{elt target iter:Expr}{ifs:List Expr}{scope:Scope}{pos:Pos}{it acc:Value}{env:Env}(I:Nat->Shared->Prop)
  (turn:∀n s,I n s->wpAny (model prog w) A (pyNext it) (λr s₁=>match r with
   |none=>R (.ok .next) s₁
   |some v=>wpAny (model prog w) A (letOwnedTupleGo target it v) (λ_ s₀=>wpAny (model prog w) A (assign target env v) (λ_ s₂ =>
     wpAny (model prog w) A (RZ ifs env) (λok s₃ =>
      if ok=true then wpAny (model prog w) A (eval elt env) (λx s₄ =>
       wpAny (model prog w) A (call (.builtin "list.append") [acc,x]) (λ_ s₅=>∃m,m<n/\I m s₅) (λ_ _=>False) s₄) (λ_ _=>False) s₃
      else ∃m,m<n/\I m s₃) (λ_ _=>False) s₂) (λ_ _=>False) s₀) (λ_ _=>False) s₁) (λ_ _=>False) s)
  (n:Nat) (h:I n s):codeAny (model prog w) A (.compLoop (.ListComp elt [⟨target,iter,ifs,0⟩] scope pos) 0 it acc env) R s:=by
 refine codeAny_loop rfl I (λn s hI=>?_) n h;show wpAny _ A ((compTurn (.ListComp elt [⟨target,iter,ifs,0⟩] scope pos) 0 it acc env).onRaise (λx=>do noteFrame x env;theTreesLotGoes x)) _ _ s;refine wpAny_noted ?_;rw[compTurn_list];refine W8 (A6a (W8 (X4 (turn n s hI) (λr s₁ h₁=>?_) λ_ _ h'=>h'.elim)));cases r with
 |none=>exact W9 h₁
 |some v =>
  refine W8 (X4 h₁ (λ_ s₀ h₀=>?_) λ_ _ h'=>h'.elim);refine W8 (X4 h₀ (λ_ s₂ h₂=>W8 (X4 h₂ (λok s₃ h₃=>?_) λ_ _ h'=>h'.elim)) λ_ _ h'=>h'.elim);cases ok with
  |false=>exact W9 ⟨rfl,h₃⟩
  |true =>
   exact W8 (W8 (X4 h₃ (λx s₄ h₄=>W8 (X4 h₄ (λ_ s₅ h₅=>W9 (W9 ⟨rfl,h₅⟩)) λ_ _ h'=>h'.elim)) λ_ _ h'=>h'.elim))
end
def Ls(cs:List Nat)(σ:St):St:=cs.map λj=>(σ[j]?).getD none
def cxC(X:Cx)(scope:Scope)(N:List Str)(s:Shared)(H:Hp)(ex:List Addr):Cx :=
 {X with N:=N,s₀:=s,H₀:=H,env:=compEnvC scope (RL X.env scope.names) s.heap.objs.size X.env,outer:=X.stack,stack:=X.stack,ex:=ex,fn:=λ_=>false,pn:=[],xe:=λ_ _=>False}
def PTs(X:Cx)(ifs:List Expr)(t:TT):Prop :=
 ∀(pins:List (Addr×Obj))(s:Shared)(σ:St)(H:Hp)(Q:Bool->Hp->Prop),Inv X pins σ H s->t σ H Q->wpAny (model X.prog X.w) X.A (RZ ifs X.env) (TP X pins σ Q) X.xe s
def tYes:TT:=λ_ H Q=>Q true H
theorem DC{X:Cx}:PTs X [] tYes:=λ_ _ _ H _ I h=>wpAny_tests_nil ⟨H,I,h⟩
theorem Sl{X:Cx}{c:Expr}{t:TT}(h:PT X c t):PTs X [c] t:=λpins s σ H Q I q=>wpAny_tests_one (h pins s σ H Q I q)
structure BX(X:Cx)(scope:Scope)(N:List Str)(k:Nat)(cs:List Nat):Prop where
 cell:∀y∈scope.names,y.2≠.cell
 kind:scope.kind=.function
 names:∀y∈scope.names,y.2=.local->scope.names.lookup y.1=some .local
 free:∀y∈scope.names,y.2=.free->X.env.scope.names.lookup y.1=some .cell\/X.env.scope.names.lookup y.1=some .free
 len:N.length=k+cs.length
 cap:∀j,j<cs.length->∃x,N[k+j]?=some x/\X.N[cs.getD j 0]?=some x/\scope.names.lookup x=some .free
def ET(k:Nat)(cs:List Nat)(g:TG)(tc:TT)(te:TE)(J:It)(σ:St)(H1:Hp)(fin:List V->Hp->Prop):Prop :=
 ∃W:Nat->Nat->List V->Hp->Prop,(∃m,W 0 m [] H1)/\∀i m acc H,W i m acc H ->
  (J.stop i H/\fin acc H)\/(J.go i H/\∃Nx:List V->Hp->Prop,(∀acc' H',Nx acc' H'->∃m',m'<m/\W (i+1) m' acc' H')/\∀x H',J.yld i H x H'->g x (List.replicate k none++Ls cs σ) H' fun σ2 H2=>(∃ts:St,ts.length=k/\σ2=ts++Ls cs σ)/\acc.length<sizeLine /\
   tc σ2 H2 λb H3=>if b=true then te σ2 H3 λv H4=>Nx (acc++[v]) H4 else Nx acc H3)
def tComp(k:Nat)(cs:List Nat)(wi:TI)(g:TG)(tc:TT)(te:TE):TE:=fun σ H Q=>wi σ H λJ H1=>ET k cs g tc te J σ H1 λacc H2=>∀p,H2 p=none->Q (.ref p) (upd H2 p (.lst acc))
section
variable{X:Cx}{tg iter elt:Expr}{ifs:List Expr}{scope:Scope}{pos:Pos}{wi:TI}{g:TG}{tc:TT}{te:TE}{N:List Str}{k:Nat}{cs:List Nat}
theorem Inv.block{pins:List (Addr×Obj)}{σ:St}{H:Hp}{s s':Shared}{ex:List Addr}(S:BX X scope N k cs)(I:Inv X pins σ H s)
  (hex:∀b∈ex,CL X pins H b/\∃o,s.heap.get? b=some o) (hos:s'.os=s.os) (hg:AllBare s'.gens) (hk:∀b o,s.heap.get? b=some o->s'.heap.get? b=some o) (hn:∃m,s'.heap.Ns s.heap.objs.size m) :
  Inv (cxC X scope N s H ex) [] (List.replicate k none++Ls cs σ) H s':=by
 have lk:∀{x c},(RL X.env scope.names).lookup x=some c->X.env.cells.lookup x=some c:=λ{x c} h=>by
  rcases NX X.env _ _ h with z|⟨z,e⟩
  ·simp at z
  ·obtain⟨a,ha⟩:=I.ok.has x (S.free _ z rfl);rw[e,ha];rfl
 have nex:∀b,b∈ex->b≠s.heap.objs.size:=λb hb z=>by
  obtain⟨_,o,ho⟩:=hex b hb;exact absurd (C6 ho) (by rw[z];exact N6 _)
 refine⟨⟨I.ok.mod,S.kind,I.ok.glob,I.ok.blt,B5 _,λx y c h1 h2=>I.ok.inj x y c (lk h1) (lk h2),λx hx=>?_,λx c h _=>(nomatch h),I.ok.hd,I.ok.frames,.inl rfl,λb hb=>⟨nex b hb,λx c h=>?_⟩,I.bs,?_,λb o e hb=>?_,λb hb hf=>?_,I.stack,I.stkFree⟩,
  hos,hg,Un.kept hk,?_,λx c h=>?_,I.hok.fresh (B5 _),λx c h=>I.freeC x c (lk h),λp hp=>absurd (show p∈([]:List (Addr×Obj))from hp) A5,I.hok.kept hk,?_⟩
 ·exact RK X.env _ _ (Mr S.cell hx)
 ·exact(hex b hb).1.2.2.2.2.1 x c (lk h)
 ·exact C4 I.ok.bsz I.sz
 ·rcases(hex b hb).1.2.2.2.1 with z|z
  ·exact I.ok.noex b o e z
  ·exact absurd (F0 (C6 e) (C4 I.ok.bsz z)) (N6 _)
 ·rcases B9.mp (I.stkSub b hf)with z|z
  ·exact(hex b hb).1.2.1 z
  ·exact(hex b hb).1.2.2.1 z
 ·obtain⟨m,hm⟩:=hn;obtain⟨mo,hmo,hlo⟩:=I.loc;refine⟨m,hm,λi x v h1 h2 h3=>?_⟩;have hi:k<=i:=by
   by_cases z:i<k
   ·rw[J8 (by simpa using z),U7,Y4 z]at h2;cases h2
   ·lia
  obtain⟨j,rfl⟩:∃j,i=k+j:=⟨i-k,by lia⟩
  rw[F3 A5,N2,Nat.add_sub_cancel_left]at h2;unfold Ls at h2;rw[B6]at h2;have hj:j<cs.length:=by
   by_cases z:j<cs.length
   ·exact z
   ·rw[M0 A0]at h2;cases h2
  obtain⟨x',e1,e2,e3⟩:=S.cap j hj;rw[show N[k+j]?=some x from h1]at e1;cases e1;rw[C0 hj]at h2;have h2':(σ[cs[j]]?).getD none=some v:=Y5 h2;rw[C1,C0 hj]at e2;have h4:σ[cs[j]]?=some (some v):=by
   cases q:σ[cs[j]]? with
   |none=>rw[q]at h2';cases h2'
   |some w=>rw[q]at h2';rw[show w=some v from h2']
  have kO:=S.free (x,.free) (K1 e3) rfl;obtain⟨u,ru,l⟩:=hlo _ x v e2 h4 (.inr kO);refine⟨u,ru,?_⟩;rcases l with ⟨z,_⟩|⟨_,c,hc',z⟩
  ·have z':X.env.scope.names.lookup x=some .local:=z;rcases kO with q|q<;>· rw[z']at q;cases q
  ·obtain⟨c',h5⟩:=RK X.env _ [] (K1 e3);have h6:=lk h5;rw[hc']at h6;cases h6;obtain⟨o,ho,hd⟩:=z;exact .inr ⟨IO e3,c,h5,o,hk _ _ ho,hd⟩
 ·obtain⟨v,o,ho,hd⟩:=I.cell x c (lk h);exact⟨v,o,hk _ _ ho,hd⟩
 ·show(List.replicate k none++Ls cs σ).length=N.length;rw[B4,N2,S.len];unfold Ls;rw[B0]
end
structure WE(C:Cx->Prop)(P:Program)(w:World)(K:PySem.W.Frag)(tg:Expr)(J:It)(fp:List Addr)(it:Addr)(tn:Nat->Heap->Prop):Prop where
 obj:∀i h,tn i h->∀b∈fp,∃o,h.get? b=some o/\∀v,o.data≠.cell v
 keep:∀i h h',tn i h->(∀b∈fp,∀o,h.get? b=some o->h'.get? b=some o)->tn i h'
 item:∀(X:Cx),C X->X.prog=P->X.w=w->X.K=K->∀(i:Nat)(pins:List (Addr×Obj))(s:Shared)(σ:St)(H:Hp)(E:Value->Shared->Prop),Inv X pins σ H s->(∀b∈fp,CL X pins H b)->tn i s.heap->J.go i H ->
  wpAny (model P w) X.A (pyNext (.ref it)) (λr s1=>∃u,r=some u/\wpAny (model P w) X.A (letOwnedTupleGo tg (.ref it) u) (λ_ s2=>∃x H',Inv X pins σ H' s2/\AX x u/\J.yld i H x H'/\tn (i+1) s2.heap/\∀b∈fp,H' b=none) E s1) E s
 done:∀(X:Cx),C X->X.prog=P->X.w=w->X.K=K->∀(i:Nat)(pins:List (Addr×Obj))(s:Shared)(σ:St)(H:Hp)(E:Value->Shared->Prop),Inv X pins σ H s->(∀b∈fp,CL X pins H b)->tn i s.heap->J.stop i H ->
  wpAny (model P w) X.A (pyNext (.ref it)) (λr s1=>r=none/\Inv X pins σ H s1) E s
 self:∀(A:Around)(i:Nat)(s:Shared)(Q:Value->Shared->Prop)(E:Value->Shared->Prop),tn i s.heap->Q (.ref it) s->wpAny (model P w) A (pyIter (.ref it)) Q E s
theorem Ny.q{P:Program}{w:World}{K:PySem.W.Frag}{tg:Expr}{J:It}{fp:List Addr}{it:Addr}{tn:Nat->Heap->Prop}(T:Ny P w K tg J fp it tn):WE (λX=>X.calm=true) P w K tg J fp it tn :=
 ⟨T.obj,T.keep,λX c p w k=>T.item X p w k c,λX c p w k=>T.done X p w k c,T.self⟩
section
variable{X:Cx}{tg iter elt:Expr}{ifs:List Expr}{scope:Scope}{pos:Pos}{wi:TI}{g:TG}{tc:TT}{te:TE}{N:List Str}{k:Nat}{cs:List Nat}{fin:List V->Hp->Prop}
theorem Uj{pins:List (Addr×Obj)}{σ:St}{H2:Hp}{sD s1:Shared}{it D:Addr}{fp:List Addr}{tn:Nat->Heap->Prop}{J:It}{n0:Nat}{RR:Result->Shared->Prop}{Cq:Cx->Prop}(hc:∀s H ex,Cq (cxC X scope N s H ex))(S:BX X scope N k cs)
  (hg:∀s H ex,PG (cxC X scope N s H ex) tg g) (ht:∀s H ex,PTs (cxC X scope N s H ex) ifs tc) (he:∀s H ex,PE (cxC X scope N s H ex) elt te)
  (ID:Inv X pins σ H2 sD) (hD:sD.heap.get? D=some {cls:=.type "list",data:=.seq ([]:List Value).toArray n0}) (hD0:X.s₀.heap.objs.size<=D) (fD:CL X pins H2 D) (nfp:D∉fp)
  (T:WE Cq X.prog X.w X.K tg J fp it tn) (st:tn 0 sD.heap) (f2:∀b∈fp,CL X pins H2 b) (hb:ET k cs g tc te J σ H2 fin)
  (hos:s1.os=sD.os) (hgn:AllBare s1.gens) (hk:∀b o,sD.heap.get? b=some o->s1.heap.get? b=some o) (hn:∃m,s1.heap.Ns sD.heap.objs.size m)
  (hRR:∀(H':Hp)(acc:List V)(s4:Shared),fin acc H'->H' D=none->Inv X pins σ (upd H' D (.lst acc)) s4->(∃m,s4.heap.Ns sD.heap.objs.size m)->CL X pins (upd H' D (.lst acc)) sD.heap.objs.size->RR (.ok .next) s4) :
  codeAny (model X.prog X.w) X.A (.compLoop (.ListComp elt [⟨tg,iter,ifs,0⟩] scope pos) 0 (.ref it) (.ref D) (compEnvC scope (RL X.env scope.names) sD.heap.objs.size X.env)) RR s1:=by
 obtain⟨W,⟨m0,w0⟩,turn⟩:=hb;have hobj:∀b,b∈D::fp->∃o,sD.heap.get? b=some o:=λb hb=>by
  rcases B9.mp hb with rfl|z
  ·exact⟨_,hD⟩
  ·obtain⟨o,e,_⟩:=T.obj _ _ st b z;exact⟨o,e⟩
 have hexx:∀b∈D::fp,CL X pins H2 b/\∃o,sD.heap.get? b=some o:=λb hb=>⟨by
  rcases B9.mp hb with rfl|z
  ·exact fD
  ·exact f2 b z,hobj b hb⟩
 have neC:∀b,b∈D::fp->b≠sD.heap.objs.size:=λb hb z=>by
  obtain⟨o,e⟩:=hobj b hb;exact absurd (C6 e) (by rw[z];exact N6 _)
 have nfr:∀b,b∈D::fp->b∉frs X.stack:=λb hb hf=>by
  rcases B9.mp (ID.stkSub b hf)with z|z
  ·exact(hexx b hb).1.2.1 z
  ·exact(hexx b hb).1.2.2.1 z
 have I0:=ID.block S hexx hos hgn hk hn;have I0ok:=I0.ok;have cells:∀b,b∈D::fp->∀x c,(RL X.env scope.names).lookup x=some c->c≠b:=λb hb x c h=>(I0ok.exf b hb).2 x c h;have fpok:∀{H':Hp}{pl:List (Addr×Obj)},(∀b∈fp,H' b=none)->(∀p∈pl,p.1=D)->∀b∈fp,CL (cxC X scope N sD H2 (D::fp)) pl H' b:=λhn hp b hb =>
  ⟨hn b hb,neC b (.tail _ hb),nfr b (.tail _ hb),.inl (.tail _ hb),cells b (.tail _ hb),λp hp' z=>nfp (by
   have:=hp p hp';rw[<-this,z];exact hb)⟩
 refine QD (λn s'=>∃(i:Nat)(acc:List V)(its:List Value)(nn:Nat)(H':Hp),Inv (cxC X scope N sD H2 (D::fp)) [] (List.replicate k none++Ls cs σ) H' s'/\tn i s'.heap/\(∀b∈fp,H' b=none)/\H' D=none/\acc.length<=sizeLine/\AH acc its /\
  s'.heap.get? D=some {cls:=.type "list",data:=.seq its.toArray nn}/\W i n acc H') ?_ m0
  ⟨0,[],[],n0,H2,I0,T.keep _ _ _ st (λb _ o e=>hk b o e),λb hb=>(f2 b hb).1,fD.1,J7 _,.nil,hk _ _ hD,w0⟩
 rintro n s3 ⟨i,acc,its,nn,H3,I3,st3,fr3,nD3,hl3,v3,e3,w3⟩;have I3p:Inv (cxC X scope N sD H2 (D::fp)) [(D,{cls:=.type "list",data:=.seq its.toArray nn})] (List.replicate k none++Ls cs σ) H3 s3:=I3.pins_of λp hp=>by
  rw[C5]at hp;subst hp;exact⟨e3,nD3,neC D (.head _),nfr D (.head _),λv z=>by cases z⟩
 have one:∀p∈[((D,{cls:=.type "list",data:=.seq its.toArray nn}):Addr×Obj)],p.1=D:=λp hp=>by
  rw[C5]at hp;subst hp;rfl
 rcases turn i n acc H3 w3 with ⟨stop,qf⟩|⟨go,Nx,hNx,step⟩
 ·refine thn (T.done (cxC X scope N sD H2 (D::fp)) (hc _ _ _) rfl rfl rfl i _ s3 _ H3 _ I3p (fpok fr3 one) st3 stop) λr s4 ⟨hr,I4⟩=>?_;subst hr;have IX:Inv X pins σ H3 s4:=ID.call' (ch:=D::fp) I4.os I4.base I4.hok I4.bare λb hb=>⟨(hexx b hb).1.2.2.2.1,(hexx b hb).1.2.1,(hexx b hb).1.2.2.2.2.1,(hexx b hb).1.2.2.2.2.2⟩
  have p4:=(I4.pin (D,{cls:=.type "list",data:=.seq its.toArray nn}) (by show _∈[]++[_];simp)).1;have IY:Inv X pins σ (upd H3 D (.lst acc)) s4:=by
   refine IX.track nD3 (N7 hD0) (N7 (C4 ID.ok.bsz hD0)) (Z4 fD.2.1) fD.2.2.2.2.1 fD.2.2.2.2.2 (λb hb z=>fD.2.2.1 (z▸hb)) ?_;exact⟨hl3,its,nn,v3,p4⟩
  refine hRR H3 acc s4 qf nD3 IY ?_ (ID.fpOk (B5 _) ?_)
  ·obtain⟨m,hm,_⟩:=I4.loc;exact⟨m,hm⟩
  ·rw[Al (Z4 (neC D (.head _)))];exact I4.free
 ·refine thn (T.item (cxC X scope N sD H2 (D::fp)) (hc _ _ _) rfl rfl rfl i _ s3 _ H3 (λ_ _=>False) I3p (fpok fr3 one) st3 go) λr s4 ⟨u,hr,h4⟩=>?_;subst hr;refine thn h4 λ_ s5 ⟨x,H5,I5,r5,y5,st5,fr5⟩=>?_;have I5':=I5.pinned (fpok fr5 one) (T.obj _ _ st5);refine thn (hg sD H2 (D::fp) _ s5 _ H5 x u _ I5' r5 (step x H5 y5)) λ_ s6 ⟨σ6,H6,I6,⟨ts,tl,eσ⟩,hz6,q6⟩=>?_;refine thn (ht sD H2 (D::fp) _ s6 σ6 H6 _ I6 q6) λb s7 ⟨H7,I7,q7⟩=>?_;have weak:∀{pl:List (Addr×Obj)}{H':Hp}{s':Shared},Inv (cxC X scope N sD H2 (D::fp)) pl σ6 H' s'->Inv (cxC X scope N sD H2 (D::fp)) [] (List.replicate k none++Ls cs σ) H' s':=λ{pl H' s'} J=>by
   refine(J.weak (σ':=List.replicate k none++Ls cs σ) ?_ λj v e=>?_).pins_of λp hp=>absurd hp A5
   ·rw[eσ,B4,B4,N2,tl]
   ·by_cases z:j<k
    ·rw[J8 (by simpa using z),U7,Y4 z]at e;cases e
    ·rw[F3 (by rw[N2];lia),N2]at e;rw[eσ,F3 A0,tl];exact e
  have later:∀{pl:List (Addr×Obj)}{σ':St}{H':Hp}{s':Shared},Inv (cxC X scope N sD H2 (D::fp)) (pl++Jx fp s5.heap) σ' H' s'->tn (i+1) s'.heap/\∀b∈fp,H' b=none:=λ{pl σ' H' s'} J =>
   ⟨T.keep _ _ _ st5 λb hb o e=>(J.pin (b,o) (D3 _ (D3 _ (FT hb e)))).1,λb hb=>by
    obtain⟨o,e,_⟩:=T.obj _ _ st5 b hb;exact(J.pin (b,o) (D3 _ (D3 _ (FT hb e)))).2.1⟩
  cases b with
  |false =>
   have q7':Nx acc H7:=by simpa using q7
   obtain⟨m',hm,w7⟩:=hNx _ _ q7';rw[Y0 C9];have p7:=I7.pin (D,{cls:=.type "list",data:=.seq its.toArray nn}) (D3 _ (L8 _ (C5.mpr rfl)));exact⟨m',hm,i+1,acc,its,nn,H7,weak I7,(later I7).1,(later I7).2,p7.2.1,hl3,v3,p7.1,w7⟩
  |true =>
   rw[Y4 rfl]at q7;rw[Y4 rfl];refine thn (he sD H2 (D::fp) _ s7 σ6 H7 _ I7 q7) λy s8 ⟨v,H8,I8,r8,q8⟩=>?_;obtain⟨m',hm,w8⟩:=hNx _ _ q8;have p8:=I8.pin (D,{cls:=.type "list",data:=.seq its.toArray nn}) (D3 _ (L8 _ (C5.mpr rfl)));have hlen:=v3.length;refine call_meets F.slot_list_append ⟨_,p8.1,rfl⟩ F.entry_list_append (F.args_list_append_2 _ _) (PySem.list_append D its.toArray nn y (by rw[C7];lia)) ⟨p8.1,?_⟩;have q:=PySem.IsL.update p8.1 (·.push y);have eq:its.toArray.push y=(its++[y]).toArray:=by simp
   dsimp only at q;rw[eq]at q;have I8':Inv (cxC X scope N sD H2 (D::fp)) ([]++Jx fp s5.heap) σ6 H8 s8:=I8.pins_of λp hp=>I8.pin p (D3 _ (D3 _ hp));have I9:=I8'.turned (t':=s8.toks) (it:=D) (h':=s8.heap.update D (Obj.mapSeq (·.push y))) (λb o hb e=>(M2 s8.heap (Obj.mapSeq (·.push y)) (Z4 hb)).trans e) p8.2.1 (neC D (.head _)) (.inl (.head _)) (cells D (.head _))
    (λp hp z=>nfp (by
     have:=(NN (fp:=fp) (h:=s5.heap) (p:=p) (by simpa[cxC] using hp)).1;rw[z]at this;exact this))
   refine⟨m',hm,i+1,acc++[v],its++[y],_,H8,weak I9,(later I9).1,(later I9).2,p8.2.1,?_,v3.append (.cons r8 .nil),q,w8⟩;rw[B4,G9];lia
theorem MU{pins:List (Addr×Obj)}{σ:St}{H2:Hp}{s2:Shared}{it:Addr}{fp:List Addr}{tn:Nat->Heap->Prop}{J:It}{RR:Value->Addr->Result->Shared->Prop}{E:Value->Shared->Prop}{Cq:Cx->Prop}(hc:∀s H ex,Cq (cxC X scope N s H ex))(S:BX X scope N k cs)
  (hg:∀s H ex,PG (cxC X scope N s H ex) tg g) (ht:∀s H ex,PTs (cxC X scope N s H ex) ifs tc) (he:∀s H ex,PE (cxC X scope N s H ex) elt te)
  (I2:Inv X pins σ H2 s2) (T:WE Cq X.prog X.w X.K tg J fp it tn) (st:tn 0 s2.heap) (f2:∀b∈fp,CL X pins H2 b) (hb:ET k cs g tc te J σ H2 fin)
  (hRR:∀(D C:Addr)(H':Hp)(acc:List V)(s4:Shared),fin acc H'->H' D=none->Inv X pins σ (upd H' D (.lst acc)) s4->(∃m,s4.heap.Ns C m)->CL X pins (upd H' D (.lst acc)) C->RR (.ref D) C (.ok .next) s4) :
  wpAny (model X.prog X.w) X.A (newList []) (λacc s₃=>wpAny (model X.prog X.w) X.A (newFunctionEnv scope X.env.globals (RL X.env scope.names) [] X.env.qual none .none (some X.env)) (λcenv s₄ =>
   codeAny (model X.prog X.w) X.A (.compStart (.ListComp elt [⟨tg,iter,ifs,0⟩] scope pos) 0 (.ref it) acc {cenv with scope:=relabel scope X.env}) (RR acc cenv.locals) s₄) E s₃) E s2:=by
 refine Z7 (wpAny_newFunctionEnv S.cell (by intro y hy;simp at hy) (λh₁ hns₁ hsb₁=>?_) S.kind);dsimp only at hns₁ hsb₁⊢;have keepD:∀b o,s2.heap.get? b=some o->(s2.heap.push {cls:=.type "list",dict:=none,data:=.seq ([]:List Value).toArray}).get? b=some o:=λb o e=>B1 _ e;have ID:Inv X pins σ H2 {s2 with heap:=s2.heap.push {cls:=.type "list",dict:=none,data:=.seq ([]:List Value).toArray} }:=I2.kept (t':=s2.toks) keepD;have hD:(s2.heap.push {cls:=.type "list",dict:=none,data:=.seq ([]:List Value).toArray}).get? s2.heap.objs.size=some {cls:=.type "list",data:=.seq ([]:List Value).toArray}:=C3 _ rfl;have nfp:s2.heap.objs.size∉fp:=λz=>by
  obtain⟨o,e,_⟩:=T.obj _ _ st _ z;exact absurd (C6 e) (N6 _)
 have stD:tn 0 (s2.heap.push {cls:=.type "list",dict:=none,data:=.seq ([]:List Value).toArray}):=T.keep _ _ _ st λb _ o e=>keepD b o e;have hk:∀b o,(s2.heap.push {cls:=.type "list",dict:=none,data:=.seq ([]:List Value).toArray}).get? b=some o->h₁.get? b=some o:=λb o e=>hsb₁.extBut b o (D8 (C6 e)) (B1 _ e);have loop:∀s₃:Shared,s₃={s2 with heap:=h₁,toks:=s2.toks+([]:List (Str×Value)).length} ->
   codeAny (model X.prog X.w) X.A (.compLoop (.ListComp elt [⟨tg,iter,ifs,0⟩] scope pos) 0 (.ref it) (.ref s2.heap.objs.size) (compEnvC scope (RL X.env scope.names) (s2.heap.push {cls:=.type "list",dict:=none,data:=.seq ([]:List Value).toArray}).objs.size X.env))
    (RR (.ref s2.heap.objs.size) (s2.heap.push {cls:=.type "list",dict:=none,data:=.seq ([]:List Value).toArray}).objs.size) s₃:=by
  rintro s₃ rfl;exact Uj (sD:={s2 with heap:=s2.heap.push {cls:=.type "list",dict:=none,data:=.seq ([]:List Value).toArray} }) hc S hg ht he ID hD I2.sz (I2.fpOk (B5 _) I2.fresh) nfp T stD f2 hb rfl I2.bare hk ⟨_,hns₁⟩ λH' acc s4=>hRR _ _ H' acc s4
 exact codeAny_compStart_list (loop _ rfl) (T.self _ 0 _ _ _ (T.keep _ _ _ stD λb _ o e=>hk b o e) (loop _ rfl))
theorem Dk(hc:X.calm=true)(S:BX X scope N k cs)(hi:PI X tg iter wi)(hg:∀s H ex,PG (cxC X scope N s H ex) tg g)(ht:∀s H ex,PTs (cxC X scope N s H ex) ifs tc)(he:∀s H ex,PE (cxC X scope N s H ex) elt te)
  (hs:∀x,foldedSetIterable iter X.env x=pure x:=by intro _;rfl):PE X (.ListComp elt [⟨tg,iter,ifs,0⟩] scope pos) (tComp k cs wi g tc te):=by
 intro pins s σ H Q I h;rw[eval_ListComp];refine wpAny_comprehension_free (use:=none) rfl hs (MW λy hy hf=>I.ok.has _ (S.free y hy hf)) S.kind S.names (thn (hi pins s σ H _ I h) λv s1 h1=>thn h1 λitv s2 h2=>?_);obtain⟨it,fp,tn,J,H2,rfl,I2,T,st2,f2,hb⟩:=h2;refine MU (RR:=λacc C=>compPost (model X.prog X.w) X.A X.xe none (EP X pins σ Q) acc C) (Cq:=λX=>X.calm=true) (λ_ _ _=>hc) S hg ht he I2 T.q st2 f2 hb λD C H' acc s4 qf nD J4 hn fC=>?_;obtain⟨m,hm⟩:=hn;refine⟨m,hm,λh' sb=>⟨.ref D,upd H' D (.lst acc),?_,rfl,qf D nD⟩⟩;exact J4.turned (t':=s4.toks) (it:=C) (λb o hb e=>(sb.2 b hb).trans e) fC.1 fC.2.1 fC.2.2.2.1 fC.2.2.2.2.1 fC.2.2.2.2.2
def UB(i k:Nat)(cs:List Nat)(wi:TI)(g:TG)(tc:TT)(te:TE):TS:=λD σ H=>wi σ H λJ H1=>ET k cs g tc te J σ H1 λacc H2=>∀p,H2 p=none->D.nx (σ.set i (some (.ref p))) (upd H2 p (.lst acc))
theorem Rc{i:Nat}{y:Str}{py spos:Pos}(hc:X.calm=true)(hN:X.N.Nodup)(hi':X.N[i]?=some y)(hy:X.env.scope.names.lookup y=some .local)(S:BX X scope N k cs)(hi:PI X tg iter wi)
  (hg:∀s H ex,PG (cxC X scope N s H ex) tg g) (ht:∀s H ex,PTs (cxC X scope N s H ex) ifs tc) (he:∀s H ex,PE (cxC X scope N s H ex) elt te)
  (hsw:swapsWith (.ListComp elt [⟨tg,iter,ifs,0⟩] scope pos) (some (.Name y py)) spos.line X.env=pure true:=by rfl) (hs:∀x,foldedSetIterable iter X.env x=pure x:=by intro _;rfl) :
  PS X (.Assign [.Name y py] (.ListComp elt [⟨tg,iter,ifs,0⟩] scope pos) spos) (UB i k cs wi g tc te):=by
 intro pins s σ H D I h;rw[exec_Assign_Name_used _ _ _ _ hsw];refine W8 (A6a (W8 ?_));show wpAny _ X.A (do let _ <-comprehension (.ListComp elt [⟨tg,iter,ifs,0⟩] scope pos) scope X.env _ (newList []) false (eval iter X.env) (some (assign (.Name y py) X.env))) _ _ s;refine W8 (X4 (wpAny_comprehension_free (use:=some (assign (.Name y py) X.env)) (Q:=λ_ s'=>SP X pins D .next s') rfl hs (MW λy hy hf=>I.ok.has _ (S.free y hy hf)) S.kind S.names
  (thn (hi pins s σ H _ I h) λv s1 h1=>thn h1 λitv s2 h2=>?_)) (λ_ s' hq=>W9 (W9 hq)) λ_ _ e=>e)
 obtain⟨it,fp,tn,J,H2,rfl,I2,T,st2,f2,hb⟩:=h2;refine MU (RR:=λacc C=>compPost (model X.prog X.w) X.A X.xe (some (assign (.Name y py) X.env)) (λ_ s'=>SP X pins D .next s') acc C) (Cq:=λX=>X.calm=true) (λ_ _ _=>hc) S hg ht he I2 T.q st2 f2 hb λL C H' acc s4 qf nD J4 hn fC=>?_;obtain⟨m,hm⟩:=hn;show wpAny _ X.A (assign (.Name y py) X.env (.ref L)) _ _ _;refine wpAny_assign_Name (NG J4 hN hi' (.inl hy) (v:=.ref L) rfl (λs5 J5 hsb=>?_) (.inr hy));obtain⟨a,sb,ha⟩:=hsb;have nCa:C≠a:=by
  rcases ha with z|z
  ·rw[z];exact fC.2.1
  ·exact λq=>fC.2.2.2.2.1 y a z q.symm
 refine⟨m,hm.sameBut sb nCa,λh' sb'=>⟨σ.set i (some (.ref L)),upd H' L (.lst acc),?_,qf L nD⟩⟩;exact J5.turned (t':=s5.toks) (it:=C) (λb o hb e=>(sb'.2 b hb).trans e) fC.1 fC.2.1 fC.2.2.2.1 fC.2.2.2.2.1 fC.2.2.2.2.2
end
section
variable{K:PySem.W.Frag}{k:Nat}{cs:List Nat}{g:TG}{tc:TT}{te:TE}{σ:St}{H:Hp}{fin:List V->Hp->Prop}
abbrev Bt(k:Nat)(cs:List Nat)(g:TG)(tc:TT)(te:TE)(σ:St)(x:V)(acc:List V)(H:Hp)(Nx:List V->Hp->Prop):Prop :=
 g x (List.replicate k none++Ls cs σ) H fun σ2 H2=>(∃ts:St,ts.length=k/\σ2=ts++Ls cs σ)/\acc.length<sizeLine/\tc σ2 H2 λb H3=>if b=true then te σ2 H3 λv H4=>Nx (acc++[v]) H4 else Nx acc H3
theorem Jj{a:Addr}{xs:List V}(Pv:Nat->List V->Hp->Prop)(h0:Pv 0 [] H)(hl:∀i acc H,i<=xs.length->Pv i acc H->SqL K H a xs)
  (hs:∀i x acc H,xs[i]?=some x->Pv i acc H->Bt k cs g tc te σ x acc H (Pv (i+1))) (hd:∀acc H,Pv xs.length acc H->fin acc H):ET k cs g tc te (Itl K a) σ H fin:=by
 refine⟨λi m acc H=>m=xs.length-i/\i<=xs.length/\Pv i acc H,⟨xs.length,by simp,J7 _,h0⟩,?_⟩;rintro i m acc H ⟨rfl,hi,p⟩;have q:=hl i acc H hi p;by_cases hlt:i<xs.length
 ·refine .inr ⟨⟨xs,xs[i],q,by simp[hlt]⟩,Pv (i+1),λacc' H' p'=>⟨xs.length-(i+1),by lia,rfl,hlt,p'⟩,λx H' y=>?_⟩;obtain⟨e,y⟩:=y;subst e;exact hs i x acc _ (y xs q) p
 ·have e:i=xs.length:=by lia
  subst e;exact .inl ⟨⟨xs,q,B5 _⟩,hd acc H p⟩
theorem SS{a:Addr}{xs:List V}(Pv:Nat->List V->Hp->Prop)(h0:Pv 0 [] H)(hl:∀i acc H,i<=xs.length->Pv i acc H->SqT K H a xs)
  (hs:∀i x acc H,xs[i]?=some x->Pv i acc H->Bt k cs g tc te σ x acc H (Pv (i+1))) (hd:∀acc H,Pv xs.length acc H->fin acc H):ET k cs g tc te (Itt K a) σ H fin:=by
 refine⟨λi m acc H=>m=xs.length-i/\i<=xs.length/\Pv i acc H,⟨xs.length,by simp,J7 _,h0⟩,?_⟩;rintro i m acc H ⟨rfl,hi,p⟩;have q:=hl i acc H hi p;by_cases hlt:i<xs.length
 ·refine .inr ⟨⟨xs,xs[i],q,by simp[hlt]⟩,Pv (i+1),λacc' H' p'=>⟨xs.length-(i+1),by lia,rfl,hlt,p'⟩,λx H' y=>?_⟩;obtain⟨e,y⟩:=y;subst e;exact hs i x acc _ (y xs q) p
 ·have e:i=xs.length:=by lia
  subst e;exact .inl ⟨⟨xs,q,B5 _⟩,hd acc H p⟩
end
section
variable{prog:Program}{w:World}{A:Around}{E:Value->Shared->Prop}{s:Shared}
theorem IV{I t:Addr}{k:Nat}{vs:Array Value}{v:Value}{Q:Value->Shared->Prop}(hI:s.heap.IsTupleIter I t k)(hV:s.heap.IsTuple t vs)(hv:vs[k]?=some v)
  (q:∀g,g.IsTupleIter I t (k+1)->Heap.SameBut I s.heap g->Q v {s with heap:=g}):wpAny (model prog w) A (Builtin.SmallTypes.nextOf (.ref I)) Q E s:=by
 obtain⟨oI,eI,cI,dI⟩:=id hI;obtain⟨oV,eV,_,nV,dV⟩:=hV;unfold Builtin.SmallTypes.nextOf;refine W8 (wpAny_callSpecial?_slot (name:=Str.ofString "__next__") hI.typeIs A1f (Z6 A1f hI.typeIs F.entry_tuple_iterator_next ?_ (F.args_tuple_iterator_next_1 _)));show wpAny _ _ (field (.ref I) 0 >>= _) _ _ s;refine W8 (K7 eI dI (x:=.ref t) rfl ?_);show wpAny _ _ (if(Value.ref t==Value.none)=true then _ else _) _ _ s;rw[Y0 (λz:(Value.ref t==Value.none)=true=>C9 z)];show wpAny _ _ (field (.ref I) 1 >>= _) _ _ s;refine W8 (K7 eI dI (x:=.int k 0) rfl ?_);show wpAny _ _ (seqItems? (.ref t) >>= _) _ _ s;refine W8 (A4c eV dV ?_);simp only[F1,hv];refine W8 (K9 eI dI A5 (W9 ⟨v,rfl,W9 (q _ ?_ (A2c ..))⟩));exact⟨_,O5 _ eI (A1d (X5 dI _)),(Obj.cls_mapFields ..).trans cI,by rw[X5 dI];simp[rawInt]⟩
theorem JF{I t:Addr}{k:Nat}{vs:Array Value}{Q:Value->Shared->Prop}(hA:A.handled=none)(hI:s.heap.IsTupleIter I t k)(hV:s.heap.IsTuple t vs)(hv:vs[k]?=none)
  (q:∀g e,Heap.ExtBut I s.heap g->(∃o,g.get? e=some o/\o.cls=.type "StopIteration")->E (.ref e) {s with heap:=g}):wpAny (model prog w) A (Builtin.SmallTypes.nextOf (.ref I)) Q E s:=by
 obtain⟨oI,eI,cI,dI⟩:=id hI;obtain⟨oV,eV,_,nV,dV⟩:=hV;unfold Builtin.SmallTypes.nextOf;refine W8 (wpAny_callSpecial?_slot (name:=Str.ofString "__next__") hI.typeIs A1f (Z6 A1f hI.typeIs F.entry_tuple_iterator_next ?_ (F.args_tuple_iterator_next_1 _)));show wpAny _ _ (field (.ref I) 0 >>= _) _ _ s;refine W8 (K7 eI dI (x:=.ref t) rfl ?_);show wpAny _ _ (if(Value.ref t==Value.none)=true then _ else _) _ _ s;rw[Y0 (λz:(Value.ref t==Value.none)=true=>C9 z)];show wpAny _ _ (field (.ref I) 1 >>= _) _ _ s;refine W8 (K7 eI dI (x:=.int k 0) rfl ?_);show wpAny _ _ (seqItems? (.ref t) >>= _) _ _ s;refine W8 (A4c eV dV ?_);simp only[F1,hv];refine W8 (wpAny_rule (W8 (K9 eI dI A5 ?_)));show wpAny _ _ (newExc (.type "StopIteration") [] >>= _) _ _ _;refine W8 ?_;simp only[newExc,newTuple];refine W8 (Z7 ?_ (by size_fits));refine W8 (m:=firstArgMember _ _) (A5f (a:=Value.none) (by first|rfl|(simp only[firstArgMember];rfl)) (Z7 ?_ (by size_fits)));simp only[raiseNew];refine W8 (wpAny_handled ?_)
 first|rw[show A.in1.handled=none from hA]|rw[hA]
 refine W8 (W9 (wpAny_throw (q _ _ (((A2c ..).extBut.push _).push _) ⟨_,C3 _ rfl,rfl⟩)))
def Fu:Bool->Heap->Addr->Addr->Nat->Prop
 |true,h,I,l,k=>h.IsTupleIter I l k
 |false,h,I,l,k=>h.IsListIter I l k
def Ft:Bool->Heap->Addr->Array Value->Prop
 |true,h,l,vs=>h.IsTuple l vs
 |false,h,l,vs=>h.IsList l vs
def SqX(K:PySem.W.Frag):Bool->Hp->Addr->List V->Prop
 |true,H,a,xs=>SqT K H a xs
 |false,H,a,xs=>SqL K H a xs
theorem Fu.move{b:Bool}{h g:Heap}{I l:Addr}{k:Nat}(x:Fu b h I l k)(e:∀o,h.get? I=some o->g.get? I=some o):Fu b g I l k:=by
 cases b with
 |true=>obtain⟨o,ho,r⟩:=x;exact⟨o,e _ ho,r⟩
 |false=>obtain⟨o,ho,r⟩:=x;exact⟨o,e _ ho,r⟩
theorem Fu.there{b:Bool}{h:Heap}{I l:Addr}{k:Nat}(x:Fu b h I l k):∃o,h.get? I=some o/\∀v,o.data≠.cell v:=by
 cases b with
 |true=>obtain⟨o,ho,_,d⟩:=x;exact⟨o,ho,λv z=>by rw[d]at z;cases z⟩
 |false=>obtain⟨o,ho,_,d⟩:=x;exact⟨o,ho,λv z=>by rw[d]at z;cases z⟩
theorem Ft.move{b:Bool}{h g:Heap}{l:Addr}{vs:Array Value}(x:Ft b h l vs)(e:∀o,h.get? l=some o->g.get? l=some o):Ft b g l vs:=by
 cases b with
 |true=>obtain⟨o,ho,r⟩:=x;exact⟨o,e _ ho,r⟩
 |false=>obtain⟨o,ho,r⟩:=x;exact⟨o,e _ ho,r⟩
theorem Lk{b:Bool}{I l:Addr}{k:Nat}{vs:Array Value}{v:Value}{Q:Value->Shared->Prop}(hI:Fu b s.heap I l k)(hV:Ft b s.heap l vs)(hv:vs[k]?=some v)
  (q:∀g,Fu b g I l (k+1)->Heap.SameBut I s.heap g->Q v {s with heap:=g}):wpAny (model prog w) A (Builtin.SmallTypes.nextOf (.ref I)) Q E s:=by
 cases b with
 |true=>exact IV hI hV hv q
 |false=>exact wpAny_nextOf_list_item hI hV hv q
theorem ME{b:Bool}{I l:Addr}{k:Nat}{vs:Array Value}{Q:Value->Shared->Prop}(hA:A.handled=none)(hI:Fu b s.heap I l k)(hV:Ft b s.heap l vs)(hv:vs[k]?=none)
  (q:∀g e,Heap.ExtBut I s.heap g->(∃o,g.get? e=some o/\o.cls=.type "StopIteration")->E (.ref e) {s with heap:=g}):wpAny (model prog w) A (Builtin.SmallTypes.nextOf (.ref I)) Q E s:=by
 cases b with
 |true=>exact JF hA hI hV hv q
 |false=>exact wpAny_nextOf_list_end hA hI hV hv q
theorem Iw{b:Bool}{l:Addr}{vs:Array Value}{Q:Value->Shared->Prop}(hV:Ft b s.heap l vs)
  (q:∀g,Fu b g s.heap.objs.size l 0->g.objs.size=s.heap.objs.size+1->(∀c o,s.heap.get? c=some o->g.get? c=some o)->Q (.ref s.heap.objs.size) {s with heap:=g}):wpAny (model prog w) A (pyIter (.ref l)) Q E s:=by
 cases b with
 |true=>exact wpAny_pyIter_tuple hV (q _ ⟨_,C3 _ rfl,rfl,rfl⟩ (Q9 ..) λc o e=>B1 _ e)
 |false=>exact K8 hV (q _ ⟨_,C3 _ rfl,rfl,rfl⟩ (Q9 ..) λc o e=>B1 _ e)
theorem Inv.turnedL{X:Cx}{pins:List (Addr×Obj)}{σ:St}{H:Hp}{s:Shared}{g:Heap}{tk:Nat}{ch:List Addr}(I:Inv X pins σ H s)(k:∀b o,b∉ch->s.heap.get? b=some o->g.get? b=some o)(hch:∀b∈ch,CL X pins H b):Inv X pins σ H {s with heap:=g,toks:=tk}:=by
 have nch:∀b u,H b=some u->b∉ch:=λb u e z=>by rw[(hch b z).1]at e;cases e
 refine I.step (g':=s.gens) (d':=s.drawn) (ch:=ch) (λb hb=>⟨(hch b hb).2.2.2.1,(hch b hb).2.1,(hch b hb).2.2.2.2.1,(hch b hb).2.2.2.2.2⟩) (λb o _ _ hc e _=>k b o hc e) (λb o _ _ hc e _=>⟨o.slots,k b o hc e⟩) (λ_ _ _ _ n=>n)
  (λb o hc e=>⟨o,k b o hc e⟩) (λ_ _ e=>e) (λ_ _ _ e=>e) (λb ps e=>⟨#[],by rw[e];simp⟩) (λm hm=>?_) (λb u e=>?_) I.bare
 ·obtain⟨o,es,ep,ho,r⟩:=hm;exact⟨o,es,ep,k _ o (λz=>(hch _ z).2.1 rfl) ho,r⟩
 ·refine(I.hok b u e).stay (λc v hc q=>k c v ?_ q) (λ_ q=>q) λ_ _ q=>q;rcases hc with z|z
  ·rw[z];exact nch b u e
  ·exact nch c _ z
theorem Inv.pair{X:Cx}{pins:List (Addr×Obj)}{σ:St}{H:Hp}{s:Shared}{g:Heap}{tk n:Nat}{ch:List Addr}{x y:V}{u v:Value}(I:Inv X pins σ H s)(k:∀b o,b∉ch->s.heap.get? b=some o->g.get? b=some o)(hch:∀b∈ch,CL X pins H b)
  (rx:AX x u) (ry:AX y v) (e:g.get? s.heap.objs.size=some {cls:=.type "tuple",data:=.seq #[u,v] n}):H s.heap.objs.size=none/\Inv X pins σ (upd H s.heap.objs.size (.tup [x,y])) {s with heap:=g,toks:=tk}:=by
 have f:=I.fpOk (B5 _) I.fresh;refine⟨f.1,(I.turnedL (tk:=tk) k hch).track f.1 (N7 I.sz) (N7 (C4 I.ok.bsz I.sz)) (Z4 f.2.1) f.2.2.2.2.1 f.2.2.2.2.2 (λb hb z=>f.2.2.1 (z▸hb)) ?_⟩;exact⟨by show 2<=sizeLine;decide,[u,v],.cons rx (.cons ry .nil),_,e,rfl,n,rfl⟩
theorem Inv.sq{X:Cx}{pins:List (Addr×Obj)}{σ:St}{H:Hp}{s:Shared}{b:Bool}{a:Addr}{xs:List V}(I:Inv X pins σ H s)(h:SqX X.K b H a xs):∃its:List Value,AH xs its/\Ft b s.heap a its.toArray:=by
 cases b with
 |true =>
  obtain⟨its,r,p,_⟩:=I.tuple h;exact⟨its,r,p⟩
 |false =>
  obtain⟨its,r,p,_⟩:=I.list h;exact⟨its,r,p.isList⟩
theorem Inv.sq_inj{X:Cx}{pins:List (Addr×Obj)}{σ:St}{H:Hp}{s:Shared}{b:Bool}{a:Addr}{xs ys:List V}(I:Inv X pins σ H s)(h:SqX X.K b H a xs)(h':SqX X.K b H a ys):xs=ys:=by
 cases b with
 |true=>exact I.tuple_inj h h'
 |false=>exact I.list_inj h h'
end
theorem Ft.obj{b:Bool}{h:Heap}{l:Addr}{vs:Array Value}(x:Ft b h l vs):∃o,h.get? l=some o:=by
 cases b with
 |true=>obtain⟨o,e,_⟩:=x;exact⟨o,e⟩
 |false=>obtain⟨o,e,_⟩:=x;exact⟨o,e⟩
theorem Ue(g1:Heap)(n:Nat)(e1:g1.objs.size=n+1):∃g2,g2=g1.push {cls:=.type "enumerate",data:=.fields #[.none,.bool false,.ref n,rawInt 0,.none,.none]}/\IsEnum g2 (n+1) n 0 .none/\∀a o,g1.get? a=some o->g2.get? a=some o:=by
 refine⟨_,rfl,?_,λa o e=>B1 _ e⟩;have q:=C3 g1 (o:={cls:=.type "enumerate",data:=.fields #[.none,.bool false,.ref n,rawInt 0,.none,.none]}) rfl;rw[e1]at q;exact q
set_option maxHeartbeats 1000000 in
theorem Ru{b:Bool}(l:Addr)(xs:Array Value):Meets (Builtin.«enumerate.__new__» ⟨[.type "enumerate",.ref l],[]⟩) (λ_ R s=>Ft b s.heap l xs /\
   ∀g,IsEnum g (s.heap.objs.size+1) s.heap.objs.size 0 .none->Fu b g s.heap.objs.size l 0->(∀a o,s.heap.get? a=some o->g.get? a=some o)->R (.ok (.ret (.ref (s.heap.objs.size+1)))) {s with heap:=g}) :=
 .of_wp λprog w A R s h=>by
  obtain⟨hp,g,d,tk,os⟩:=s;obtain⟨hl,h⟩:=h;obtain⟨ol,eol⟩:=hl.obj;have hsub:=sub_enumerate;have fin:∀g1,Fu b g1 hp.objs.size l 0->g1.objs.size=hp.objs.size+1->(∀c o,hp.get? c=some o->g1.get? c=some o)->∃v,Fin.done (Flow.ret (.ref g1.objs.size))=Fin.done (Flow.ret v)/\R (.ok (.ret v)) ⟨g1.push {cls:=.type "enumerate",data:=.fields #[.none,.bool false,.ref hp.objs.size,rawInt 0,.none,.none]},g,d,tk,os⟩:=λg1 i1 z1 k1=>by
   obtain⟨g2,e2,a1,k2⟩:=Ue g1 hp.objs.size z1;refine⟨_,rfl,?_⟩;have key:=h g2 a1 (i1.move λo e=>k2 _ o e) λa o e=>k2 _ _ (k1 _ _ e);dsimp only at key;rw[e2,<-z1]at key;exact key
  wp_walk using AutoSeq1.wpAny_loadPart' eol
  refine wpAny_stack_any λst=>W9 ?_;split
  ·rename_i c' _ _ _ _ _;cases(c'==Value.type "enumerate")
   ·wp_walk using AutoSeq1.wpAny_loadPart' eol,Iw hl
    intro g1 i1 z1 k1
    wp_walk
    exact fin g1 i1 z1 k1
   ·wp_walk using AutoSeq1.wpAny_loadPart' eol,Iw hl
    intro g1 i1 z1 k1
    wp_walk
    exact fin g1 i1 z1 k1
  ·wp_walk using AutoSeq1.wpAny_loadPart' eol,Iw hl
   intro g1 i1 z1 k1
   wp_walk
   exact fin g1 i1 z1 k1
theorem NV{prog:Program}{w:World}{A:Around}{b:Bool}(hA:A.handled=none)(I l:Addr)(ne:l≠I)(vs:Array Value) :
  Draws prog w A I [I,l] vs.size (λk v=>vs[k]?=some v) (λk h=>Fu b h I l k/\Ft b h l vs) where
 live:=λ_ _ st=>let ⟨o,ho,_⟩:=st.1.there;⟨o,ho⟩
 frame:=λ_ _ _ st hk=>⟨st.1.move λo e=>hk I A5 o e,st.2.move λo e=>hk l A5 o e⟩
 item:=λk s Q E hi st hQ=>Lk st.1 st.2 (v:=vs[k]) (by simp[hi]) λg hI sb=>hQ _ g s.toks (by simp[hi]) ⟨hI,st.2.move λo e=>(sb.2 l ne).trans e⟩ sb
 done:=λs Q E st hE=>ME hA st.1 st.2 A5 hE
def Ite(K:PySem.W.Frag)(b:Bool)(l:Addr):It :=
 ⟨λi H=>∃xs x,SqX K b H l xs/\xs[i]?=some x,
  λi H v H'=>∃(T:Addr)(x:V),v=.ref T/\H T=none/\H'=upd H T (.tup [.int i,x])/\∀xs,SqX K b H l xs->xs[i]?=some x,
  λi H=>∃xs,SqX K b H l xs/\xs.length=i⟩
theorem Tg{P:Program}{w:World}{K:PySem.W.Frag}{es:List Expr}{n:Nat}{tpos:Pos}{b:Bool}{e I l:Addr}(eI:e≠I)(le:l≠e)(lI:l≠I) :
  Ny P w K (.Tuple es n tpos) (Ite K b l) [e,I] e (λk h=>(∃old,IsEnum h e I k old)/\Fu b h I l k) where
 mem:=by simp
 obj:=λk h st a ha=>by
  obtain⟨⟨old,he⟩,hI⟩:=st;simp only[B9,J9,A0a]at ha;rcases ha with rfl|rfl
  ·exact⟨_,he,λv t=>by cases t⟩
  ·exact hI.there
 keep:=λk h h' st kp=>by
  obtain⟨⟨old,he⟩,hI⟩:=st;exact⟨⟨old,kp e A5 _ he⟩,hI.move λo t=>kp I A5 o t⟩
 item:=by
  intro X hP hw hK hc k pins s σ H E J hf st hg;subst hP hw hK;obtain⟨⟨old,he⟩,hI⟩:=st;obtain⟨xs,x,sx,hx⟩:=hg;obtain⟨us,ru,ou⟩:=J.sq sx;have lu:=ru.length;have hk:k<xs.length:=(B7.mp hx).1;refine wpAny_pyNext_enum_itemD (NV (b:=b) (A:=X.A.in1) (J.ok.hd hc) I l lI us.toArray) he ⟨hI,ou⟩ (by simp;lia) eI (by simp[eI,Z4 le]) λu g tk hu gE gS gT gs gk=>⟨_,rfl,?_⟩
  obtain⟨u',hu',rxu⟩:=ru.get hx;have eu:u=u':=by
   have:us[k]?=some u:=by simpa using hu
   rw[hu']at this;exact(Y5 this).symm
  subst eu;refine wpAny_letOwnedTupleGo_enum (s:={s with heap:=g,toks:=tk+1}) gE λg2 gE2 sb=>?_;have elt:e<s.heap.objs.size:=C6 he;have kk:∀a o,a∉[e,I]->s.heap.get? a=some o->g2.get? a=some o:=λa o ha t=>(sb.2 a (λz=>ha (by simp[z]))).trans (gk a o (λz=>ha (by simp[z])) (λz=>ha (by simp[z])) t);obtain⟨nT,J2⟩:=J.pair (tk:=tk+1) (x:=.int k) (u:=.int k tk) kk hf ⟨tk,rfl⟩ rxu ((sb.2 _ (U1 elt)).trans gT);refine⟨.ref s.heap.objs.size,_,J2,rfl,⟨_,x,rfl,nT,rfl,λxs' q'=>by rw[J.sq_inj q' sx];exact hx⟩,⟨⟨_,by simpa using gE2⟩,gS.1.move λo t=>(sb.2 I (Z4 eI)).trans t⟩,λa ha=>?_⟩;have t:=(hf a ha).1;have lt:a≠s.heap.objs.size:=by
   simp only[B9,J9,A0a]at ha;rcases ha with z|z<;>subst z
   ·exact D8 elt
   ·obtain⟨o,t,_⟩:=hI.there;exact D8 (C6 t)
  rw[Al lt];exact t
 done:=by
  intro X hP hw hK hc k pins s σ H E J hf st hg;subst hP hw hK;obtain⟨⟨old,he⟩,hI⟩:=st;obtain⟨xs,sx,hend⟩:=hg;obtain⟨us,ru,ou⟩:=J.sq sx;have lu:=ru.length;have ek:k=us.toArray.size:=by simp;lia
  refine wpAny_pyNext_enum_endD (NV (b:=b) (A:=X.A.in1) (J.ok.hd hc) I l lI us.toArray) he ⟨ek▸hI,ou⟩ λg gk=>⟨rfl,?_⟩
  exact J.turnedL (tk:=s.toks) (ch:=[e,I]) (λa o ha t=>gk a o (λz=>ha (by simp[z])) t) hf
 self:=λA i s Q E st h=>by
  obtain⟨⟨old,he⟩,_⟩:=st;exact wpAny_pyIter_enum he h
section
variable{X:Cx}{es:List Expr}{n:Nat}{tpos p pos:Pos}{e1 e2:Expr}{t:TA}
theorem Ft.lt{b:Bool}{h:Heap}{l:Addr}{vs:Array Value}(x:Ft b h l vs):l<h.objs.size:=by
 cases b with
 |true=>obtain⟨o,e,_⟩:=x;exact C6 e
 |false=>obtain⟨o,e,_⟩:=x;exact C6 e
def iEnum(b:Bool)(K:PySem.W.Frag)(t:TA):TI:=fun σ H R=>t σ H λvs H1=>∃(l:Addr),vs=[.ref l]/\(∃xs,SqX K b H1 l xs)/\R (Ite K b l) H1
theorem LJ(b:Bool)(hg:Gl X "enumerate")(hm:X.mg "enumerate" = none)(ha:PA X [e1] t)(hs:starEach [e1] X.env=[(false,eval e1 X.env)]:=by rfl) :
  PI X (.Tuple es n tpos) (.Call (.Name "enumerate" p) [e1] [] pos) (iEnum b X.K t):=by
 intro pins s σ H R I h;refine Call_ (IA I hg hm PyProof.Rows.boot_enumerate (A0f (thn (ha pos pins s σ H _ I h) λus s1 ⟨vs,H1,I1,r1,q1⟩=>?_) hs rfl));obtain⟨l,rfl,⟨xs,sx⟩,q⟩:=q1;obtain⟨u,rfl,ru⟩:=r1.one;cases(show u=Value.ref l from ru);obtain⟨ul,_,ol⟩:=I1.sq sx;refine callType_new F.called_enumerate A3 (F.typeCall_enumerate_1 _) (F.newCall_enumerate_1 _) (λobj=>F.args_object_init_2 obj _) F.entry_enumerate_new (Ru (b:=b) l ul.toArray) ⟨ol,λg gE gi gk=>?_⟩;refine⟨⟨_,gE,rfl⟩,wpAny_pyIter_enum (s:={s1 with heap:=g}) gE ?_⟩;have ll:=ol.lt;refine⟨s1.heap.objs.size+1,_,_,_,H1,rfl,I1.kept (t':=s1.toks) gk,Tg (e:=s1.heap.objs.size+1) (I:=s1.heap.objs.size) (l:=l) (Nat.succ_ne_self _) (D8 (S3 ll)) (D8 ll),⟨⟨_,gE⟩,gi⟩,λa ha=>?_,q⟩;have le:s1.heap.objs.size<=a:=by
  simp only[B9,J9,A0a]at ha;rcases ha with t|t<;>rw[t]<;>first|exact B5 _|exact Nat.le_add_right _ _
 exact I1.fpOk le (I1.hok.fresh le)
end
section
variable{K:PySem.W.Frag}{b c:Bool}{l m:Addr}{xs ys:List V}{σ:St}{H:Hp}
theorem Le{K:PySem.W.Frag}{i j:Nat}{T:Addr}{x y:V}{σ:St}{H:Hp}{Q:St->Hp->Prop}(h:H T=some (.tup [x,y]))(q:Q ((σ.set i (some x)).set j (some y)) H):gTup K 2 (Lf (Ie i) (Lf (Ie j) gNil)) (.ref T) σ H Q :=
 ⟨T,_,rfl,SqT.of h,rfl,x,_,rfl,y,_,rfl,rfl,q⟩
theorem Jf{g:TG}{tb:TS}{D:JT}(Pv:Nat->St->Hp->Prop)(h0:Pv 0 σ H)(hl:∀i σ H,i<=xs.length->Pv i σ H->SqX K b H l xs)
  (hs:∀i x σ H T,xs[i]?=some x->Pv i σ H->H T=none->g (.ref T) σ (upd H T (.tup [.int i,x])) fun σ2 H2=>tb {D with nx:=Pv (i+1),ct:=Pv (i+1),bk:=D.nx} σ2 H2) (hd:∀σ H,Pv xs.length σ H->D.nx σ H) :
  ∃W:Nat->Nat->St->Hp->Prop,(∃m,W 0 m σ H)/\∀i m σ H,W i m σ H ->
   ((Ite K b l).stop i H/\D.nx σ H)\/((Ite K b l).go i H/\∃N:St->Hp->Prop,(∀σ' H',N σ' H'->∃m',m'<m/\W (i+1) m' σ' H')/\∀x H',(Ite K b l).yld i H x H'->g x σ H' fun σ2 H2=>tb {D with nx:=N,ct:=N,bk:=D.nx} σ2 H2):=by
 refine⟨λi m σ H=>m=xs.length-i/\i<=xs.length/\Pv i σ H,⟨xs.length,by simp,J7 _,h0⟩,?_⟩;rintro i m σ H ⟨rfl,hi,p⟩;have q:=hl i σ H hi p;by_cases hlt:i<xs.length
 ·refine .inr ⟨⟨xs,xs[i],q,by simp[hlt]⟩,Pv (i+1),fun σ' H' p'=>⟨xs.length-(i+1),by lia,rfl,hlt,p'⟩,λx H' y=>?_⟩;obtain⟨T,z,rfl,nT,rfl,hz⟩:=y;exact hs i z σ _ T (hz xs q) p nT
 ·have e:i=xs.length:=by lia
  subst e;exact .inl ⟨⟨xs,q,rfl⟩,hd σ H p⟩
variable{k:Nat}{cs:List Nat}{g:TG}{tc:TT}{te:TE}{fin:List V->Hp->Prop}
theorem blk_str{x:Str}(Pv:Nat->List V->Hp->Prop)(h0:Pv 0 [] H)(hs:∀i ch acc H,x.cps.toList[i]?=some ch->Pv i acc H->Bt k cs g tc te σ (.str ⟨#[ch]⟩) acc H (Pv (i+1)))(hd:∀acc H,Pv x.cps.toList.length acc H->fin acc H):ET k cs g tc te (Its x) σ H fin:=by
 have e0:x.cps.toList.length=x.cps.size:=by simp
 refine⟨λi m acc H=>m=x.cps.size-i/\i<=x.cps.size/\Pv i acc H,⟨x.cps.size,by simp,J7 _,h0⟩,?_⟩;rintro i m acc H ⟨rfl,hi,p⟩;by_cases hlt:i<x.cps.size
 ·refine .inr ⟨hlt,Pv (i+1),λacc' H' p'=>⟨x.cps.size-(i+1),by lia,rfl,hlt,p'⟩,λv H' y=>?_⟩;obtain⟨e,ch,hch,rfl⟩:=y;subst e;exact hs i ch acc _ (by simpa using hch) p
 ·have e:i=x.cps.size:=by lia
  subst e;exact .inl ⟨rfl,hd acc H (by rw[e0];exact p)⟩
end
theorem rm{a b:Nat}{A:Around}(h:Cr b A)(hle:a<=b:=by first|decide|lia):Cr a A:=h.mono hle
structure Cal(P:Program)(w:World)(K:PySem.W.Frag)(mg:Str->Option Value)(base:Heap)(CX:CXT)(k:Nat)(x:Str)(ps:List Str)(sp:Sp):Prop where
 ex:∃(f:Addr)(fd:FuncData),AI P w K mg base CX k f fd ps sp/\mg x=some (.ref f)/\keepIn K (.ref f)=true/\Ci K fd ps []
structure Dp(P:Program)(w:World)(K:PySem.W.Frag)(mg:Str->Option Value)(base:Heap)(CX:CXT)(k:Nat)(C:Addr)(m:Str)(ps:List Str)(sp:Sp):Prop where
 ex:∃(f:Addr)(fd:FuncData),AI P w K mg base CX k f fd ps sp/\QL K C m f/\Ci K fd ps []
 cl:Cls K C
structure CalC(P:Program)(w:World)(K:PySem.W.Frag)(mg:Str->Option Value)(base:Heap)(CX:CXT)(k:Nat)(x:Str)(C:Addr)(ps:List Str)(sp:Sp):Prop where
 ex:∃(f:Addr)(fd:FuncData),AI P w K mg base CX k f fd ps sp/\Mk K C f/\mg x=some (.ref C)/\Ci K fd ps []
section
variable{X:Cx}{CX:CXT}{k:Nat}{C:Addr}{ps:List Str}{sp:Sp}{E:XK}{x m:Str}{p pos apos:Pos}{e o:Expr}{es:List Expr}{ta:TE}{t:TA}
theorem Aq(c:Cal X.prog X.w X.K X.mg X.base CX k x ps sp)(hr:Cr k X.A)(hg:Gl X x)(hx:Ga CX X E)(ha:PA X (e::es) t)(hdb:(x==("__debug__" : Str))=false:=by decide)
  (he:starEach (e::es) X.env=(false,eval e X.env)::starEach es X.env:=by rfl) (hpl:(backTo pos (starEach es X.env)).any (·.1)=false:=by rfl):PE X (.Call (.Name x p) (e::es) [] pos) (tCall sp [] E t):=by
 obtain⟨f,fd,F,hm,hk,hb⟩:=c.ex;exact pe_call F hr hg hm hk hb .nil hx ha hdb he hpl
theorem AK{pl:Sem Bool}(he:PE X o ta)(c:Dp X.prog X.w X.K X.mg X.base CX k C m ps sp)(hr:Cr k X.A)(hx:Ga CX X E)(ha:PA X (e::es) t)
  (hst:starEach (e::es) X.env=(false,eval e X.env)::starEach es X.env:=by rfl) (hpl:(backTo pos (starEach es X.env)).any (·.1)=false:=by rfl)
  (ht:eval (.Call (.Attribute o m apos) (e::es) [] pos) X.env=(do
   let ov <-eval o X.env;standAt apos.atName;let (f,first) <-holding [ov] (getMethod ov m pl);callWith pos f first (backTo pos (starEach (e::es) X.env)) (backToKw pos (keywordEach [] X.env))):=by rfl):PE X (.Call (.Attribute o m apos) (e::es) [] pos) (tMeth C m sp [] E ta t):=by
 obtain⟨f,fd,F,hm,hb⟩:=c.ex;exact pe_meth he c.cl hm F hr hb .nil hx ha hst hpl ht
theorem PV(c:CalC X.prog X.w X.K X.mg X.base CX k x C ps sp)(hr:Cr (k+1) X.A)(hg:Gl X x)(hx:Ga CX X E)(hdb:(x==("__debug__" : Str))=false:=by decide):PE X (.Call (.Name x p) [] [] pos) (tMake C sp [] E tNil):=by
 obtain⟨f,fd,F,M,hm,hb⟩:=c.ex;exact Vn M F hr hg hm hb .nil hx hdb
theorem BU{i:Int}(hg:Gl X x)(hm:∃tk,X.mg x=some (.int i tk))(hd:(x==("__debug__" : Str))=false:=by decide):PE X (.Name x pos) (tC (.int i)):=by
 obtain⟨tk,hm⟩:=hm;exact OC hg hm ⟨tk,rfl⟩ hd
theorem Ed{z:Str}(hg:Gl X x)(hm:∃tk,X.mg x=some (.str z tk))(hd:(x==("__debug__" : Str))=false:=by decide):PE X (.Name x pos) (tC (.str z)):=by
 obtain⟨tk,hm⟩:=hm;exact OC hg hm ⟨tk,rfl⟩ hd
theorem pe_gref{a:Addr}(hg:Gl X x)(hm:X.mg x=some (.ref a))(hd:(x==("__debug__" : Str))=false:=by decide):PE X (.Name x pos) (tC (.ref a)):=OC hg hm rfl hd
end
def cOk(So:Scope)(No:List Str)(scope:Scope)(N:List Str)(k:Nat)(cs:List Nat):Bool :=
 scope.names.all (λy=>y.2 != .cell) && (scope.kind==.function && (scope.names.all (λy=>y.2 != .local || scope.names.lookup y.1==some .local) && (scope.names.all (λy=>y.2 != .free || (So.names.lookup y.1==some .cell || So.names.lookup y.1==some .free)) &&
  (N.length==k+cs.length && (List.range cs.length).all λj=>match N[k+j]?,No[cs.getD j 0]? with
   |some x,some y=>x==y && scope.names.lookup x==some .free
   |_,_=>false))))
theorem BX.of{X:Cx}{So:Scope}{No:List Str}{scope:Scope}{N:List Str}{k:Nat}{cs:List Nat}(hS:X.env.scope=So)(hN:X.N=No)(h:cOk So No scope N k cs=true):BX X scope N k cs:=by
 subst hS hN;unfold cOk at h;simp only[P8,N5,bne_iff_ne,ne_eq,Bool.or_eq_true,A3f,L9]at h;obtain⟨h1,h2,h3,h4,h5,h6⟩:=h;refine⟨h1,h2,λy hy e=>?_,λy hy e=>?_,h5,λj hj=>?_⟩
 ·rcases h3 y hy with z|z
  ·exact absurd e z
  ·exact z
 ·rcases h4 y hy with z|z
  ·exact absurd e z
  ·exact z
 ·have z:=h6 j hj;split at z
  ·rename_i x y e1 e2;simp only[P8,A3f]at z;obtain⟨z1,z2⟩:=z;subst z1;exact⟨x,e1,e2,z2⟩
  ·cases z
theorem Nb{σ:St}{H:Hp}{A B:Hp->Prop}(h:A H):tYes σ H λb H3=>if b=true then A H3 else B H3:=by
 show if true=true then A H else B H;exact BH h
theorem Pl{tb:TE}{σ:St}{H:Hp}{Q:VK}{b1 b2:Bool}(h2:b1=true->∀Q':VK,Q' (.bl b2) H->tb σ H Q')(q:Q (.bl (b1 && b2)) H):∃c,V.bl b1=.bl c/\if c=true then tb σ H Q else Q (.bl false) H:=by
 cases b1 with
 |true=>exact⟨true,rfl,BH (h2 rfl Q q)⟩
 |false=>exact⟨false,rfl,AT q⟩
theorem UA{u:TT}{σ:St}{H:Hp}{Q:Bool->Hp->Prop}{b1 b2:Bool}(h2:b1=true->∀Q':Bool->Hp->Prop,Q' b2 H->u σ H Q')(q:Q (b1 && b2) H):if b1=true then u σ H Q else Q false H:=by
 cases b1 with
 |true=>exact BH (h2 rfl Q q)
 |false=>exact AT q
section
variable{X:Cx}{scope:Scope}{N:List Str}{s:Shared}{H:Hp}{ex:List Addr}{x y:Str}{px py pos:Pos}{k:Nat}
theorem BQ{i:Nat}(hN:N.Nodup)(hi:N[i]?=some x)(hl:(relabel scope X.env).names.lookup x=some .local):PG (cxC X scope N s H ex) (.Name x pos) (Ie i):=AF (X:=cxC X scope N s H ex) hN hi (.inl hl) (.inr hl)
theorem Vm{i j:Nat}(hc:X.calm=true)(hN:N.Nodup)(hi:N[i]?=some x)(hj:N[j]?=some y)(hl:(relabel scope X.env).names.lookup x=some .local)(hm:(relabel scope X.env).names.lookup y=some .local) :
  PG (cxC X scope N s H ex) (.Tuple [.Name x px,.Name y py] k pos) (gTup X.K 2 (Lf (Ie i) (Lf (Ie j) gNil))) :=
 Ey (X:=cxC X scope N s H ex) hc (AN (BQ hN hi hl) (AN (BQ hN hj hm) Di))
end
section
variable{X:Cx}
theorem Ja:MtR X "str.partition" (λx xs H Q=>∃a b,x=.str a/\xs=[.str b]/\(b.length==0)=false/\a.length<=100000/\∀p,H p=none->Q (.ref p) (upd H p (.tup [.str (Txt.partition a b).1,.str (Txt.partition a b).2.1,.str (Txt.partition a b).2.2]))):=by
 intro pins s σ H x xs v us Q I rx r h;obtain⟨a,b,rfl,rfl,hb,ha,q⟩:=h;obtain⟨t,rfl⟩:=rx;obtain⟨u,rfl,hu⟩:=r.one;obtain⟨tb,rfl⟩:=hu;have fin:∀(its:List Value)(tk:Nat),AH [.str (Txt.partition a b).1,.str (Txt.partition a b).2.1,.str (Txt.partition a b).2.2] its->EP X pins σ Q (.ref s.heap.objs.size) {s with heap:=s.heap.push {cls:=.type "tuple",data:=.seq its.toArray},toks:=tk}:=λits tk hv =>
  ⟨.ref _,_,I.laid (t':=tk) (o:=.tup [.str (Txt.partition a b).1,.str (Txt.partition a b).2.1,.str (Txt.partition a b).2.2]) (λ_ _ e=>B1 _ e) (B5 _) ⟨by show 3<=sizeLine;decide,its,hv,_,C3 _ rfl,rfl,_,rfl⟩,rfl,q _ I.fresh⟩
 refine call_meets F.slot_str_partition (typeIs_str _ _ _) F.entry_str_partition (F.args_str_partition_2 _ _) (meets_str_partition a b t tb hb (C4 ha A3)) ?_;show EP X pins σ Q _ _;cases e:Builtin.Str.occurrences a b 0 a.length 1 with
 |nil =>
  refine fin _ _ ?_;unfold Txt.partition;rw[e];exact .cons ⟨_,rfl⟩ (.cons ⟨_,rfl⟩ (.cons ⟨_,rfl⟩ .nil))
 |cons i l =>
  refine fin _ _ ?_;unfold Txt.partition;rw[e];exact .cons ⟨_,rfl⟩ (.cons ⟨_,rfl⟩ (.cons ⟨_,rfl⟩ .nil))
theorem AH.tstrs:∀{l:List Str}{its:List Value},AH (l.map V.str) its->∃ts:List (Str×Tok),its=strValues ts/\ts.map (·.1)=l
 |[],_,.nil=>⟨[],rfl,rfl⟩
 |x::r,_,.cons ⟨t,e⟩ rr=>by
  obtain⟨ts,e1,e2⟩:=AH.tstrs rr;subst e e1;exact⟨(x,t)::ts,rfl,by rw[D5,e2]⟩
theorem Sy:MtR X "str.join" (λx xs H Q=>∃(sep:Str)(p:Addr)(l:List Str),x=.str sep/\xs=[.ref p]/\SqL X.K H p (l.map V.str)/\JoinOk sep l=true/\Q (.str (Str.join sep l)) H):=by
 intro pins s σ H x xs v us Q I rx r h;obtain⟨sep,p,l,rfl,rfl,hl,hok,q⟩:=h;obtain⟨t,rfl⟩:=rx;obtain⟨u,rfl,hu⟩:=r.one;cases(show u=Value.ref p from hu);obtain⟨its,rv,pl,_⟩:=I.list hl;obtain⟨ts,rfl,e⟩:=AH.tstrs rv;refine SC.join (texts:=l) pl.isList e hok λt' k=>⟨.str _,H,I.tok k,⟨t',rfl⟩,?_⟩
 have:Txt.join sep l=Str.join sep l:=StrLaws.glued_eq_join sep l;rw[this];exact q
end
end L2
namespace L2
open PySem
section
variable{X:Cx}{es es':List Expr}{t t':TA}{pos:Pos}
theorem Bh{i:Int}{j}(hr:PA X es t):PA X (.Constant (.int i) j pos::es) (NF (tC (.int i)) t):=Aa Af hr
theorem OD{z:Str}{j}(hr:PA X es t):PA X (.Constant (.str z) j pos::es) (NF (tC (.str z)) t):=Aa BM hr
theorem BJ{x1}(h:PA X es' t')(hr:PA X es t):PA X (.Tuple es' x1 pos::es) (NF (tTup t') t):=Aa (Cn h) hr
theorem Bv{op:Operator}{r:R2}{a b:Expr}{ta tb:TE}(ho:OpR X (binaryOp op) r)(ha:PE X a ta)(hb:PE X b tb)(hr:PA X es t):PA X (.BinOp a op b pos::es) (NF (tOp r ta tb) t):=Aa (Ay ho ha hb) hr
theorem CA{K:PySem.W.Frag}(h:X.K=K):IxR X (PN K):=h▸Av
theorem Qr{K:PySem.W.Frag}(h:X.K=K):IxR X (rIxL K):=h▸AB
end
theorem GC{P:Prop}(h:∀G:Prop,(P->G)->G):P:=h P id
theorem xq1{α:Sort _}{a:α}{P Q:α->Prop}(h:P a)(k:Q a):∃x,P x/\Q x:=⟨a,h,k⟩
theorem xq2{α β:Sort _}{a:α}{b:β}{P Q R:α->β->Prop}(h:P a b)(h':Q a b)(k:R a b):∃x y,P x y/\Q x y/\R x y:=⟨a,b,h,h',k⟩
theorem xq4{α β γ δ:Sort _}{a:α}{b:β}{c:γ}{d:δ}{P Q R S T:α->β->γ->δ->Prop}(h:P a b c d)(h':Q a b c d)(h'':R a b c d)(h3:S a b c d)(k:T a b c d):∃x y z w,P x y z w/\Q x y z w/\R x y z w/\S x y z w/\T x y z w:=⟨a,b,c,d,h,h',h'',h3,k⟩
theorem xq5{K:PySem.W.Frag}{f:Str}{H:Hp}{a C dx:Addr}{fs:List (Str×V)}{v:V}{Q:V->Prop}(h:H a=some (.ins C dx fs))(h2:Cls K C)(h3:Dm K C f)(h4:fs.lookup f=some v)(k:Q v):∃b C dx fs w,V.ref a=.ref b/\H b=some (.ins C dx fs)/\Cls K C/\Dm K C f/\fs.lookup f=some w/\Q w:=⟨a,C,dx,fs,v,rfl,h,h2,h3,h4,k⟩
theorem xw2{α β:Sort _}{a:α}{b:β}{P:α->Prop}{Q:α->β->Prop}{K:α->β->Prop}(h1:P a)(h2:Q a b)(k:K a b):∃x0,P x0/\∃x1,Q x0 x1/\K x0 x1:=⟨a,h1,b,h2,k⟩
theorem xw3{α β γ:Sort _}{a:α}{b:β}{c:γ}{P:α->Prop}{Q:α->β->Prop}{R:α->β->γ->Prop}{K:α->β->γ->Prop}(h1:P a)(h2:Q a b)(h3:R a b c)(k:K a b c):∃x0,P x0/\∃x1,Q x0 x1/\∃x2,R x0 x1 x2/\K x0 x1 x2:=⟨a,h1,b,h2,c,h3,k⟩
theorem xwb{α β γ:Sort _}{a:α}{b:β}{c:γ}{P:α->Prop}{Q:α->β->γ->Prop}{R:α->β->γ->Prop}{K:α->β->γ->Prop}(h1:P a)(h2:Q a b c)(h3:R a b c)(k:K a b c):∃x0,P x0/\∃x1 x2,Q x0 x1 x2/\R x0 x1 x2/\K x0 x1 x2:=⟨a,h1,b,c,h2,h3,k⟩
theorem xwi{α β γ δ ε:Sort _}{a:α}{b:β}{c:γ}{d:δ}{e:ε}{P:α->Prop}{Q:α->β->γ->δ->ε->Prop}{R:α->β->γ->δ->ε->Prop}{S:α->β->γ->δ->ε->Prop}{T:α->β->γ->δ->ε->Prop}{K:α->β->γ->δ->ε->Prop}(h1:P a)(h2:Q a b c d e)(h3:R a b c d e)(h4:S a b c d e)(h5:T a b c d e)(k:K a b c d e):∃x0,P x0/\∃x1 x2 x3 x4,Q x0 x1 x2 x3 x4/\R x0 x1 x2 x3 x4/\S x0 x1 x2 x3 x4/\T x0 x1 x2 x3 x4/\K x0 x1 x2 x3 x4:=⟨a,h1,b,c,d,e,h2,h3,h4,h5,k⟩
theorem xwf{α β γ δ ε ζ:Sort _}{a:α}{b:β}{c:γ}{d:δ}{e:ε}{f:ζ}{P:α->Prop}{Q:α->β->γ->δ->ε->ζ->Prop}{R:α->β->γ->δ->ε->ζ->Prop}{S:α->β->γ->δ->ε->ζ->Prop}{T:α->β->γ->δ->ε->ζ->Prop}{U:α->β->γ->δ->ε->ζ->Prop}{K:α->β->γ->δ->ε->ζ->Prop}(h1:P a)(h2:Q a b c d e f)(h3:R a b c d e f)(h4:S a b c d e f)(h5:T a b c d e f)(h6:U a b c d e f)(k:K a b c d e f):∃x0,P x0/\∃x1 x2 x3 x4 x5,Q x0 x1 x2 x3 x4 x5/\R x0 x1 x2 x3 x4 x5/\S x0 x1 x2 x3 x4 x5/\T x0 x1 x2 x3 x4 x5/\U x0 x1 x2 x3 x4 x5/\K x0 x1 x2 x3 x4 x5:=⟨a,h1,b,c,d,e,f,h2,h3,h4,h5,h6,k⟩
theorem xwn{α β γ δ ε:Sort _}{a:α}{b:β}{c:γ}{d:δ}{e:ε}{P:α->Prop}{Q:α->β->γ->δ->Prop}{R:α->β->γ->δ->Prop}{S:α->β->γ->δ->Prop}{T:α->β->γ->δ->ε->Prop}{K:α->β->γ->δ->ε->Prop}(h1:P a)(h2:Q a b c d)(h3:R a b c d)(h4:S a b c d)(h5:T a b c d e)(k:K a b c d e):∃x0,P x0/\∃x1 x2 x3,Q x0 x1 x2 x3/\R x0 x1 x2 x3/\S x0 x1 x2 x3/\∃x4,T x0 x1 x2 x3 x4/\K x0 x1 x2 x3 x4:=⟨a,h1,b,c,d,h2,h3,h4,e,h5,k⟩
theorem xwj{α β γ δ ε ζ:Sort _}{a:α}{b:β}{c:γ}{d:δ}{e:ε}{f:ζ}{P:α->Prop}{Q:α->β->Prop}{R:α->β->γ->δ->ε->ζ->Prop}{S:α->β->γ->δ->ε->ζ->Prop}{T:α->β->γ->δ->ε->ζ->Prop}{U:α->β->γ->δ->ε->ζ->Prop}{K:α->β->γ->δ->ε->ζ->Prop}(h1:P a)(h2:Q a b)(h3:R a b c d e f)(h4:S a b c d e f)(h5:T a b c d e f)(h6:U a b c d e f)(k:K a b c d e f):∃x0,P x0/\∃x1,Q x0 x1/\∃x2 x3 x4 x5,R x0 x1 x2 x3 x4 x5/\S x0 x1 x2 x3 x4 x5/\T x0 x1 x2 x3 x4 x5/\U x0 x1 x2 x3 x4 x5/\K x0 x1 x2 x3 x4 x5:=⟨a,h1,b,h2,c,d,e,f,h3,h4,h5,h6,k⟩
theorem Bs{A B:TS}{D:JT}{σ:St}{H:Hp}(h:let r:=B D;let s:=σ;∀k:St->Hp->Prop,(∀{σ H},r σ H->k σ H)->let E:JT:={D with nx:=k};A E s H):UC A B D σ H:=h _ λz=>z
end L2
namespace Nu
open PySem PySem.NumText PyProof.Rows
theorem ext{a b:Str}(h:a.cps.toList=b.cps.toList):a=b:=by
 obtain⟨⟨l⟩⟩:=a;obtain⟨⟨r⟩⟩:=b;cases h;rfl
theorem len(x:Str):x.length=x.cps.toList.length:=by simp[Str.length]
theorem cutFrom(x:Str)(i:Int)(h0:0<=i):(Txt.slice x (some i) none).cps.toList=x.cps.toList.drop i.toNat:=by
 by_cases h:i<=x.length
 ·rw[slice_from_eq (x:=x) (i:=i) (b:=(x.length:Int)) h0 h rfl];show((x.cps.toList.drop i.toNat).take _)=_;refine V0 ?_;rw[S8,<-len];omega
 ·rw[slice_beyond (x:=x) (i:=i) A6];rw[List.drop_eq_nil_of_le (by rw[<-len];omega)];rfl
theorem cut1'(x:Str):(Txt.slice x (some 1) none).cps.toList=x.cps.toList.drop 1:=cutFrom x 1 A3
def neg:List Nat->Bool
 |45::_=>true
 |_=>false
def fig:List Nat->List Nat
 |45::r=>r
 |cs=>cs
theorem OI(cs:List Nat):neg cs=true↔cs.take 1=[45]:=by
 cases cs with
 |nil=>simp[neg]
 |cons c r =>
  by_cases h:c=45
  ·subst h;simp[neg]
  ·simp[neg,h]
theorem MS{cs:List Nat}(h:neg cs=true):fig cs=cs.drop 1/\cs=45::fig cs:=by
 cases cs with
 |nil=>simp[neg]at h
 |cons c r =>
  by_cases z:c=45
  ·subst z;exact⟨rfl,rfl⟩
  ·simp[neg,z]at h
theorem FV{cs:List Nat}(h:neg cs=false):fig cs=cs:=by
 cases cs with
 |nil=>rfl
 |cons c r =>
  by_cases z:c=45
  ·subst z;simp[neg]at h
  ·simp[fig,z]
def dig(c:Nat):Bool:=decide (48<=c) && decide (c<=57)
def due(cs:List Nat):Option Int :=
 if fig cs=[]\/30<(fig cs).length\/((fig cs).head?=some 48/\cs≠[48])then none
 else if(fig cs).all dig=true then some (if neg cs=true then -((digitsVal (fig cs):Nat):Int)else((digitsVal (fig cs):Nat):Int))else none
theorem all_dig{cs:List Nat}(h:cs.all dig=true):AllDigits cs:=λc hc=>by
 have:=N5.mp h c hc;simp[dig]at this;exact this
theorem Wf{x:Str}{n:Int}(h:due x.cps.toList=some n):PySem.intText? x=some n:=by
 unfold due at h;split at h
 ·cases h
 ·rename_i hc;split at h
  ·rename_i ha;have hd:=all_dig ha;have hne:fig x.cps.toList≠[]:=λz=>hc (.inl z);have hl:(fig x.cps.toList).length<=30:=R3 λz=>hc (.inr (.inl z));cases hn:neg x.cps.toList with
   |true =>
    rw[hn]at h;obtain⟨_,e⟩:=MS hn;have:=intText_neg (x:=x) e hd hne (by rw[len,e,D0];omega);rw[this]
    simpa using h
   |false =>
    rw[hn]at h;rw[FV hn]at hd hne hl h;rw[intText_digits (x:=x) hd hne (by rw[len];omega)]
    simpa using h
  ·cases h
theorem Uf(c:Nat):decide (c∈(Str.ofString "0123456789").cps.toList)=dig c:=by
 have e:(Str.ofString "0123456789").cps.toList=[48,49,50,51,52,53,54,55,56,57]:=by decide +kernel
 rw[e,O0];simp[dig];omega
theorem NT(c:Nat):(!(Builtin.Str.occurrences (Str.ofString "0123456789") ⟨#[c]⟩ 0 (Str.ofString "0123456789").length 1).isEmpty)=dig c:=by
 rw[StrLaws.found_one,Uf]
theorem starts(x:Str):Txt.startswith x (Str.ofString "-")=neg x.cps.toList:=by
 have e1:(Str.ofString "-").cps=#[45]:=by decide +kernel
 have e2:(Str.ofString "-").length=1:=by decide +kernel
 unfold Txt.startswith Builtin.Str.subAt;rw[e1,e2];obtain⟨⟨l⟩⟩:=x;cases l with
 |nil=>rfl
 |cons c r =>
  have h1:(decide (0+1<=(⟨⟨c::r⟩⟩:Str).length))=true:=by simp[Str.length]
  rw[h1,Bool.true_and,O0,OI,A3f];constructor
  ·intro z;have:=Z5 Array.toList z
   simpa using this
  ·intro z;apply Array.toList_inj.mp
   simpa using z
end Nu
namespace Tx
open PySem PySem.Builtin PySem.Builtin.Str PyProof.Rows
theorem AU(a b:Str):(a++b).cps.toList=a.cps.toList++b.cps.toList:=cps_toList_append a b
def jl(sep:List Nat):List (List Nat)->List Nat
 |[]=>[]
 |[x]=>x
 |x::y::r=>x++sep++jl sep (y::r)
theorem QC(sep:Str):∀ts:List Str,(Str.join sep ts).cps.toList=jl sep.cps.toList (ts.map λt=>t.cps.toList)
 |[]=>rfl
 |[x]=>rfl
 |x::y::r=>by
  have e:Str.join sep (x::y::r)=x++sep++Str.join sep (y::r):=rfl;rw[e,AU,AU,QC sep (y::r)];rfl
theorem ST{c:Nat}:∀{x y A B:List Nat},c∉x->c∉y->x++c::A=y++c::B->x=y/\A=B
 |[],[],A,B,_,_,h=>⟨rfl,by simpa using h⟩
 |[],y::ys,A,B,_,hy,h=>by
  simp at h;exact absurd (by rw[h.1];exact C2) hy
 |x::xs,[],A,B,hx,_,h=>by
  simp at h;exact absurd (by rw[<-h.1];exact C2) hx
 |x::xs,y::ys,A,B,hx,hy,h=>by
  simp at h;obtain⟨e,h⟩:=h;obtain⟨e2,e3⟩:=ST (x:=xs) (y:=ys) (λz=>hx (B3 _ z)) (λz=>hy (B3 _ z)) h;exact⟨by rw[e,e2],e3⟩
theorem Ee(c:Nat)(a b:Str)(h:c∉a.cps.toList):Txt.partition (a++⟨#[c]⟩++b) ⟨#[c]⟩=(a,⟨#[c]⟩,b):=by
 have hin:c∈(a++⟨#[c]⟩++b).cps.toList:=by rw[AU,AU];simp
 have hs:=StrLaws.partition_sum (a++⟨#[c]⟩++b) ⟨#[c]⟩;have hh:=partition_head (a++⟨#[c]⟩++b) ⟨#[c]⟩;have ho:=StrLaws.found_one (a++⟨#[c]⟩++b) c;rw[Y1 hin]at ho;have hp2:(Txt.partition (a++⟨#[c]⟩++b) ⟨#[c]⟩).2.1=⟨#[c]⟩:=by
  unfold Txt.partition;cases e:occurrences (a++⟨#[c]⟩++b) ⟨#[c]⟩ 0 (a++⟨#[c]⟩++b).length 1 with
  |nil=>rw[e]at ho;simp at ho
  |cons i l=>rfl
 have hp1:c∉(Txt.partition (a++⟨#[c]⟩++b) ⟨#[c]⟩).1.cps.toList:=by
  rcases hh with ⟨_,no⟩|⟨i,e,hA,no⟩
  ·obtain⟨j,hj⟩:=List.getElem?_of_mem hin;exact absurd ((StrLaws.subAt_one _ c j).mpr hj) (no j)
  ·rw[e];exact StrLaws.part_free _ c 0 i (by have:i+1<=_:=hA.1;lia) λk _ hk=>no k hk
 have e:(Txt.partition (a++⟨#[c]⟩++b) ⟨#[c]⟩).1.cps.toList++(Txt.partition (a++⟨#[c]⟩++b) ⟨#[c]⟩).2.1.cps.toList++(Txt.partition (a++⟨#[c]⟩++b) ⟨#[c]⟩).2.2.cps.toList=a.cps.toList++[c]++b.cps.toList:=by
  have e0:=Z5 (λz:Str=>z.cps.toList) hs;rw[AU,AU,AU,AU]at e0;exact e0
 rw[hp2]at e;have e':(Txt.partition (a++⟨#[c]⟩++b) ⟨#[c]⟩).1.cps.toList++c::(Txt.partition (a++⟨#[c]⟩++b) ⟨#[c]⟩).2.2.cps.toList=a.cps.toList++c::b.cps.toList:=by simpa using e
 obtain⟨e1,e2⟩:=ST hp1 h e';exact Prod.ext (Nu.ext e1) (Prod.ext hp2 (Nu.ext e2))
end Tx
namespace Tx
open PySem PySem.Builtin PySem.Builtin.Str PyProof.Rows
theorem We:∀ts:List (List Nat),jl [] ts=ts.flatten
 |[]=>rfl
 |[x]=>by simp[jl]
 |x::y::r=>by
  show x++[]++jl [] (y::r)=_;rw[We (y::r)];simp
theorem SJ(sep:Str)(m:Nat):∀(l:List Str)(acc:Nat),(∀t∈l,t.length<=m)->l.foldl (λa t=>a+t.length+sep.length) acc<=acc+l.length*(m+sep.length)
 |[],acc,_=>by simp
 |t::r,acc,h=>by
  have h1:=h t C2;have h2:=SJ sep m r (acc+t.length+sep.length) λz hz=>h z (B3 _ hz);rw[V4,D0,Nat.succ_mul];lia
theorem join_ok{sep:Str}{l:List Str}(m:Nat)(h:∀t∈l,t.length<=m)(hs:l.length*(m+sep.length)<=100000):JoinOk sep l=true:=by
 unfold JoinOk;have h2:=SJ sep m l 0 h;have e:l.toArray.foldl (λa t=>a+t.length+sep.length) 0=l.foldl (λa t=>a+t.length+sep.length) 0:=by simp
 rw[e];have:tooLong (l.foldl (λa t=>a+t.length+sep.length) 0)=false:=by
  unfold tooLong;refine Y3 ?_;have:(100000:Nat)<=sizeLine:=by decide
  lia
 rw[this];rfl
theorem LT(a b:Str):(a++b).length=a.length+b.length:=by
 rw[Nu.len,Nu.len,Nu.len,AU,B4]
end Tx
namespace Tx
open PySem PySem.Builtin PySem.Builtin.Str PyProof.Rows
end Tx
namespace Tn
open PySem PySem.Builtin PySem.NumText PyProof.Rows
def dg(m:Nat):List Nat:=(Nat.toDigits 10 m).map Char.toNat
theorem dchar:∀d:Nat,d<10->(Nat.digitChar d).toNat=48+d:=by decide
theorem GE{m:Nat}(h:m<10):dg m=[48+m]:=by
 unfold dg;rw[Nat.toDigits_of_lt_base h,D5,dchar m h];rfl
theorem RJ{m:Nat}(h:10<=m):dg m=dg (m/10)++[48+m%10]:=by
 have hm:m%10<10:=F4 m A3;have t:Nat.toDigits 10 (m/10)++Nat.toDigits 10 (m%10)=Nat.toDigits 10 (10*(m/10)+m%10):=Nat.toDigits_append_toDigits A3 A6 hm;rw[M8]at t;have e:dg m=dg (m/10)++dg (m%10):=by
  unfold dg;rw[<-t,B8]
 rw[e,GE hm]
theorem JP(m:Nat):(dg m).all Nu.dig=true:=by
 induction m using Nat.strongRecOn with
 |_ m ih =>
  by_cases h:m<10
  ·rw[GE h];simp[Nu.dig];omega
  ·have hm:m%10<10:=F4 m A3;rw[RJ A6,List.all_append,ih (m/10) A6];simp[Nu.dig];omega
theorem Fe:∀(k m:Nat),m<10^(k+1)->(dg m).length<=k+1
 |0,m,h=>by
  rw[GE (by simpa using h)];exact B5 1
 |k+1,m,h=>by
  by_cases h10:m<10
  ·rw[GE h10];show 1<=_;omega
  ·rw[RJ A6,B4];have:=Fe k (m/10) (by rw[S5 A3,<-U9];exact h);show _+1<=_;omega
theorem GS(m:Nat)(h:1<=m):∃c r,dg m=c::r/\c≠48/\c≠45:=by
 induction m using Nat.strongRecOn with
 |_ m ih =>
  by_cases h10:m<10
  ·exact⟨48+m,[],GE h10,by omega,by omega⟩
  ·obtain⟨c,r,e,n1,n2⟩:=ih (m/10) A6 A6;exact⟨c,r++[48+m%10],by rw[RJ A6,e];rfl,n1,n2⟩
theorem Pg(m:Nat):digitsVal (dg m)=m:=PySem.W.KIN.val_back m
theorem QR(m:Nat):(Str.ofString (toString ((m:Nat):Int))).cps.toList=dg m:=PySem.W.KIN.signs_num m
theorem dg_inj{m n:Nat}(h:dg m=dg n):m=n:=by rw[<-Pg m,h,Pg]
theorem dg_due{m:Nat}(h1:1<=m)(h2:m<10^13):Nu.due (dg m)=some (m:Int):=by
 obtain⟨c,r,e,n1,n2⟩:=GS m h1;have hn:Nu.neg (dg m)=false:=by
  rw[e];cases hh:Nu.neg (c::r)with
  |false=>rfl
  |true =>
   have:=(Nu.OI (c::r)).mp hh;simp at this;exact absurd this n2
 have hl:=Fe 12 m h2;unfold Nu.due;rw[Nu.FV hn,Y0,Y4 (JP m),hn,Y0 A3,Pg];rintro(z|z|⟨z,_⟩)
 ·rw[e]at z;cases z
 ·omega
 ·rw[e]at z;injection z with z
  exact n1 z
theorem NP{m:Nat}(h:m<10^30):((m:Nat):Int).natAbs.log2<1920:=by
 rw[Int.natAbs_natCast];by_cases h0:m=0
 ·subst h0;decide
 ·have:m.log2<100:=(Nat.log2_lt h0).mpr (F0 h A3);omega
end Tn
namespace L2
open PySem PySem.Spec PyProof.Rows
def tFstr2(ta tb:TE):TE:=fun σ H Q=>ta σ H λx H1=>∃i:Int,x=.int i/\i.natAbs.log2<1920/\tb σ H1 λy H2=>∃z:Str,y=.str z/\z.length<=100000/\Q (.str (Str.ofString (toString i)++z)) H2
section
variable{X:Cx}
theorem Jl(x:Str):Str.empty++x=x:=Nu.ext (by rw[cps_toList_append];rfl)
theorem Vq{a b:Expr}{ta tb:TE}{p q pos:Pos}(ha:PE X a ta)(hb:PE X b tb):PE X (.JoinedStr [.FormattedValue a (-1) none p,.FormattedValue b (-1) none q] pos) (tFstr2 ta tb):=by
 intro pins s σ H Q I h;refine JoinedStr_many (K0 (K4 (thn (ha pins s σ H _ I h) λv s1 ⟨x,H1,I1,rx,i,ex,hz,q1⟩=>?_)));subst ex;obtain⟨t,rfl⟩:=rx;have hl:(Str.ofString (toString i)).length<=1921:=X8 hz;refine A2a hz ⟨?_,?_⟩
 ·rw[Jl];exact C4 hl A3
 ·refine K0 (K4 (thn (hb pins _ σ H1 _ (I1.tok _) q1) λv s2 ⟨y,H2,I2,ry,z,ez,hz2,q2⟩=>?_));subst ez;obtain⟨t',rfl⟩:=ry;have hs:(Str.empty++Str.ofString (toString i)++z).length<=sizeLine:=by
   rw[Jl,A1c];exact C4 (P6 hl hz2) A3
  refine formatField_str (λt2 tk=>⟨hs,joinParts_nil ?_ hs⟩) (C4 hz2 A3);rw[Jl];exact⟨.str _,H2,(I2.tok _).tok _,⟨_,rfl⟩,q2⟩
end
def tFstr4(ta tc tb td:TE):TE:=fun σ H Q=>ta σ H λx H1=>∃i:Int,x=.int i/\i.natAbs.log2<1920/\tc σ H1 λy H2=>∃z:Str,y=.str z/\z.length<=1000/\tb σ H2 λx2 H3=>∃j:Int,x2=.int j/\j.natAbs.log2<1920/\td σ H3 λy2 H4=>∃z2:Str,y2=.str z2/\z2.length<=1000/\Q (.str (Str.ofString (toString i)++z++Str.ofString (toString j)++z2)) H4
section
variable{X:Cx}
theorem Vp{a b c d:Expr}{ta tb tc td:TE}{p q pos:Pos}(ha:PE X a ta)(hc:PE X c tc)(hb:PE X b tb)(hd:PE X d td):PE X (.JoinedStr [.FormattedValue a (-1) none p,c,.FormattedValue b (-1) none q,d] pos) (tFstr4 ta tc tb td):=by
 intro pins s σ H Q I h;refine JoinedStr_many (K0 (K4 (thn (ha pins s σ H _ I h) λv s1 ⟨x,H1,I1,rx,i,ex,hz,q1⟩=>?_)));subst ex;obtain⟨t,rfl⟩:=rx;have hl:(Str.ofString (toString i)).length<=1921:=X8 hz;refine A2a hz ⟨?_,?_⟩
 ·rw[Jl];exact C4 hl A3
 refine K0 (thn (hc pins _ σ H1 _ (I1.tok _) q1) λv s2 ⟨y,H2,I2,ry,z,ez,hz2,q2⟩=>?_);subst ez;obtain⟨t',rfl⟩:=ry;have hs:(Str.empty++Str.ofString (toString i)++z).length<=3000:=by
  rw[Jl,A1c];exact C4 (P6 hl hz2) A3
 refine⟨C4 hs A3,?_⟩;refine K0 (K4 (thn (hb pins _ σ H2 _ I2 q2) λv s3 ⟨x3,H3,I3,rx3,j,ex3,hz3,q3⟩=>?_));subst ex3;obtain⟨t3,rfl⟩:=rx3;have hl3:(Str.ofString (toString j)).length<=1921:=X8 hz3;have hs3:(Str.empty++Str.ofString (toString i)++z++Str.ofString (toString j)).length<=5000:=by
  rw[A1c];exact C4 (P6 hs hl3) A3
 refine A2a hz3 ⟨C4 hs3 A3,?_⟩;refine K0 (thn (hd pins _ σ H3 _ (I3.tok _) q3) λv s4 ⟨y4,H4,I4,ry4,z4,ez4,hz4,q4⟩=>?_);subst ez4;obtain⟨t4,rfl⟩:=ry4;have hs4:(Str.empty++Str.ofString (toString i)++z++Str.ofString (toString j)++z4).length<=sizeLine:=by
  rw[A1c];exact C4 (P6 hs3 hz4) A3
 refine⟨hs4,joinParts_nil ?_ hs4⟩;rw[Jl];exact⟨.str _,H4,I4.tok _,⟨_,rfl⟩,q4⟩
theorem VQ:MtR X "str.index" (λx xs H Q=>∃(a b:Str)(i:Nat)(r:List Nat),x=.str a/\xs=[.str b]/\Builtin.Str.occurrences a b 0 a.length 1=i::r/\Q (.int (i:Int)) H):=by
 intro pins s σ H x xs v us Q I rx r h;obtain⟨a,b,i,rr,rfl,rfl,ho,q⟩:=h;obtain⟨t,rfl⟩:=rx;cases r with
 |cons r1 r2 =>
  cases r2;obtain⟨u,rfl⟩:=r1;exact call_gives PySem.F.slot_str_index (typeIs_str _ _ _) PySem.F.entry_str_index (PySem.F.args_str_index_2 _ _) (gives_str_index a b t u i rr ho) ⟨.int _,H,I.tok _,⟨_,rfl⟩,q⟩
end
section
variable{K:PySem.W.Frag}{b:Bool}{l:Addr}{xs:List V}{σ:St}{H:Hp}{k:Nat}{cs:List Nat}{g:TG}{tc:TT}{te:TE}{fin:List V->Hp->Prop}
end
section
variable{X:Cx}
theorem pe_fldK{K:PySem.W.Frag}{e:Expr}{f:Str}{ta:TE}{pos:Pos}(hK:X.K=K)(he:PE X e ta)(hb:attributeBase e f X.env (eval e X.env)=eval e X.env):PE X (.Attribute e f pos) (tFld K ta f):=hK▸AO he hb
end
section
variable{X:Cx}
theorem JX(ns:List Int):∀k,k<=ns.length->preSum (λi=>ns.getD i 0) k=(ns.take k).sum
 |0,_=>by simp[preSum]
 |k+1,h=>by
  have h':k<ns.length:=h;show preSum _ k+ns.getD k 0=_;rw[JX ns k (O2 h'),D1,C0 h',C1,C0 h',Q0];show _+ns[k]=_+(ns[k]+0)
  rw[V2]
theorem EI{ns:List Int}{its:List Value}(rv:AH (ns.map V.int) its):∀(i:Nat) v,its.toArray[i]?=some v->∃t,v=.int (ns.getD i 0) t:=λi v e=>by
 have e:its[i]?=some v:=by simpa using e
 cases eb:ns[i]? with
 |none =>
  have:its[i]?=none:=rv.none_of (by rw[B6,eb];rfl);rw[e]at this;cases this
 |some b =>
  obtain⟨u,hu,ru⟩:=rv.get (i:=i) (x:=V.int b) (by rw[B6,eb];rfl);rw[e]at hu;cases hu;rw[C1,eb];obtain⟨t,rfl⟩:=ru;exact⟨t,rfl⟩
theorem Wv(hc:X.calm=true):Do X (.builtin "sum") (λxs H Q=>∃(p:Addr)(ns:List Int),xs=[.ref p]/\SqL X.K H p (ns.map V.int)/\Q (.int ns.sum) H):=by
 intro pins s σ H xs us Q I r h;obtain⟨p,ns,rfl,hq,q⟩:=h;cases r with
 |cons r1 r2 =>
  cases r2;cases(show _=Value.ref p from r1);obtain⟨its,rv,pl,hz⟩:=I.list hq;have hlt:p<s.heap.objs.size:=by obtain⟨o,n,e,_⟩:=pl;exact C6 e
  have hne:p≠s.heap.objs.size:=D8 hlt;have len:its.toArray.size=ns.length:=by rw[C7,<-rv.length,B0]
  refine call_sum_walkAnyS (K8 pl.isList ?_);refine⟨s.heap.objs.size,_,_,_,_,_,_,λi=>ns.getD i 0,rfl,(Walks.list (A:=X.A.in1) (I.ok.hd hc) s.heap.objs.size p hne its.toArray).toS,⟨⟨_,C3 _ rfl,rfl,rfl⟩,?_⟩,?_,EI rv,?_⟩
  ·exact pl.isList.at λo e=>B1 _ e
  ·intro b hb;show b<(s.heap.push _).objs.size;rw[Q9];rcases B9.mp hb with rfl|hb
   ·exact S7 _
   ·rcases B9.mp hb with rfl|hb
    ·exact S3 hlt
    ·cases hb
  ·intro s' t' mv;have I2:Inv X pins σ H {s with heap:=s'.heap,toks:=s'.toks}:=I.kept λb o e=>mv.heap b o (by intro z;exact D8 (C6 e) (by simpa using z)) (B1 _ e);have es:s'={s with heap:=s'.heap,toks:=s'.toks}:=by
    obtain⟨m1,m2,m3,m4,m5⟩:=mv;cases s';simp only at m2 m3 m4;subst m2;subst m3;subst m4;rfl
   rw[es,len,JX ns _ (B5 _),D9];exact⟨.int ns.sum,H,I2,⟨t',rfl⟩,q⟩
theorem JR(hc:X.calm=true):Do X (.builtin "min") (λxs H Q=>∃(p:Addr)(ns:List Int),xs=[.ref p]/\SqL X.K H p (ns.map V.int)/\ns≠[]/\∀m∈ns,(∀x∈ns,m<=x)->Q (.int m) H):=by
 intro pins s σ H xs us Q I r h;obtain⟨p,ns,rfl,hq,ne,q⟩:=h;cases r with
 |cons r1 r2 =>
  cases r2;cases(show _=Value.ref p from r1);obtain⟨its,rv,pl,hz⟩:=I.list hq;have hlt:p<s.heap.objs.size:=by obtain⟨o,n,e,_⟩:=pl;exact C6 e
  have hne:p≠s.heap.objs.size:=D8 hlt;have len:its.toArray.size=ns.length:=by rw[C7,<-rv.length,B0]
  have pos:0<ns.length:=List.length_pos_iff.mpr ne;refine call_min_walk (K8 pl.isList ?_);refine⟨s.heap.objs.size,_,_,_,_,_,_,rfl,(Walks.list (A:=X.A.in1) (I.ok.hd hc) s.heap.objs.size p hne its.toArray),⟨⟨_,C3 _ rfl,rfl,rfl⟩,?_⟩,?_,by rw[len];exact pos,CmpOf.ints_lt (λi=>ns.getD i 0) (EI rv),?_⟩
  ·exact pl.isList.at λo e=>B1 _ e
  ·intro b hb;show b<(s.heap.push _).objs.size;rw[Q9];rcases B9.mp hb with rfl|hb
   ·exact S7 _
   ·rcases B9.mp hb with rfl|hb
    ·exact S3 hlt
    ·cases hb
  ·intro v h' tk hP kk;have I2:Inv X pins σ H {s with heap:=h',toks:=tk}:=I.kept λb o e=>kk b o (by intro z;exact D8 (C6 e) (by simpa using z)) (B1 _ e);obtain⟨t,rfl⟩:=EI rv _ _ hP;obtain⟨b1,b2⟩:=argBest_lt (λi=>ns.getD i 0) (its.toArray.size-1);generalize argBest (λi j=>decide (ns.getD i 0<ns.getD j 0)) (its.toArray.size-1)=z at b1 b2 hP⊢;rw[len]at b1 b2;have hz2:z<ns.length:=by lia
   have ez:ns.getD z 0=ns[z]:=by rw[C1,C0 hz2];rfl
   refine⟨.int _,H,I2,⟨t,rfl⟩,q _ (by rw[ez];exact N4 hz2) λx hx=>?_⟩;obtain⟨j,hj,e⟩:=V5.mp hx;have:=b2 j A0;have ej:ns.getD j 0=x:=by rw[C1,C0 hj,<-e];rfl
   rw[<-ej];exact this
theorem NY(hc:X.calm=true):Do X (.builtin "max") (λxs H Q=>∃(p:Addr)(ns:List Int),xs=[.ref p]/\SqL X.K H p (ns.map V.int)/\ns≠[]/\∀m∈ns,(∀x∈ns,x<=m)->Q (.int m) H):=by
 intro pins s σ H xs us Q I r h;obtain⟨p,ns,rfl,hq,ne,q⟩:=h;cases r with
 |cons r1 r2 =>
  cases r2;cases(show _=Value.ref p from r1);obtain⟨its,rv,pl,hz⟩:=I.list hq;have hlt:p<s.heap.objs.size:=by obtain⟨o,n,e,_⟩:=pl;exact C6 e
  have hne:p≠s.heap.objs.size:=D8 hlt;have len:its.toArray.size=ns.length:=by rw[C7,<-rv.length,B0]
  have pos:0<ns.length:=List.length_pos_iff.mpr ne;refine call_max_walk (K8 pl.isList ?_);refine⟨s.heap.objs.size,_,_,_,_,_,_,rfl,(Walks.list (A:=X.A.in1) (I.ok.hd hc) s.heap.objs.size p hne its.toArray),⟨⟨_,C3 _ rfl,rfl,rfl⟩,?_⟩,?_,by rw[len];exact pos,CmpOf.ints_gt (λi=>ns.getD i 0) (EI rv),?_⟩
  ·exact pl.isList.at λo e=>B1 _ e
  ·intro b hb;show b<(s.heap.push _).objs.size;rw[Q9];rcases B9.mp hb with rfl|hb
   ·exact S7 _
   ·rcases B9.mp hb with rfl|hb
    ·exact S3 hlt
    ·cases hb
  ·intro v h' tk hP kk;have I2:Inv X pins σ H {s with heap:=h',toks:=tk}:=I.kept λb o e=>kk b o (by intro z;exact D8 (C6 e) (by simpa using z)) (B1 _ e);obtain⟨t,rfl⟩:=EI rv _ _ hP;obtain⟨b1,b2⟩:=argBest_gt (λi=>ns.getD i 0) (its.toArray.size-1);generalize argBest (λi j=>decide (ns.getD i 0 > ns.getD j 0)) (its.toArray.size-1)=z at b1 b2 hP⊢;rw[len]at b1 b2;have hz2:z<ns.length:=by lia
   have ez:ns.getD z 0=ns[z]:=by rw[C1,C0 hz2];rfl
   refine⟨.int _,H,I2,⟨t,rfl⟩,q _ (by rw[ez];exact N4 hz2) λx hx=>?_⟩;obtain⟨j,hj,e⟩:=V5.mp hx;have:=b2 j A0;have ej:ns.getD j 0=x:=by rw[C1,C0 hj,<-e];rfl
   rw[<-ej];exact this
theorem Tv(hu:X.A.units+64<cLine):OpR X (compareOp .Eq) (λx y H Q=>∃(a b:Addr)(xs:List V),x=.ref a/\y=.ref b/\SqL X.K H a xs/\SqL X.K H b []/\Q (.bl (decide (xs.length=0))) H):=by
 intro pins s σ H x y v u Q I rx ry h;obtain⟨a,b,xs,rfl,rfl,h1,h2,q⟩:=h;cases rx;cases ry;obtain⟨is,r1,p1,_⟩:=I.list h1;obtain⟨ys,r2,p2,_⟩:=I.list h2;cases r2;have hl:=r1.length;cases xs with
 |nil =>
  cases r1;exact PySem.SeqAt.eq_listAt (e:=λ_=>true) p1.isList p2.isList rfl A0 (λj h1 h2=>absurd h1 (F5 _)) ⟨.bl _,H,I,rfl,q⟩
 |cons x xs =>
  cases is with
  |nil=>cases hl
  |cons i is=>exact PySem.SeqAt.eq_list_lengthsAt p1.isList p2.isList rfl A0 ⟨.bl _,H,I,rfl,q⟩
end
theorem WD(ns ms:List Int):((List.range (min ns.length ms.length)).all (λj=>ns.getD j 0==ms.getD j 0) && ns.length==ms.length)=decide (ns=ms):=by
 rw[O0,P8,N5,A3f,decide_eq_true_iff];constructor
 ·rintro⟨h1,h2⟩;refine List.ext_getElem h2 λi h3 h4=>?_;have:=h1 i (L9.mpr A0);rw[A3f,C1,C1,C0 h3,C0 h4]at this;exact this
 ·rintro rfl;exact⟨λx _=>beq_iff_eq.mpr rfl,rfl⟩
section
variable{X:Cx}
theorem Th{H:Hp}{ns:List Int}{its:List Value}(rv:AH (ns.map V.int) its){A:Around}{s:Shared}{ms:List Int}{jts:List Value}(rw':AH (ms.map V.int) jts)(j:Nat)(h1:j<its.toArray.size)(h2:j<jts.toArray.size):PySem.SeqAt.EqAt A s its.toArray[j] jts.toArray[j] (ns.getD j 0==ms.getD j 0):=by
 obtain⟨t,e⟩:=EI rv j _ (M9 h1);obtain⟨u,e2⟩:=EI rw' j _ (M9 h2);rw[e,e2];exact PySem.SeqAt.EqAt.int_int _ t _ u
theorem Tu(hu:X.A.units+64<cLine):OpR X (compareOp .Eq) (λx y H Q=>∃(a b:Addr)(ns ms:List Int),x=.ref a/\y=.ref b/\SqT X.K H a (ns.map V.int)/\SqT X.K H b (ms.map V.int)/\Q (.bl (decide (ns=ms))) H):=by
 intro pins s σ H x y v u Q I rx ry h;obtain⟨a,b,ns,ms,rfl,rfl,h1,h2,q⟩:=h;cases rx;cases ry;obtain⟨xs,r1,p1,_⟩:=I.tuple h1;obtain⟨ys,r2,p2,_⟩:=I.tuple h2;refine PySem.SeqAt.eq_tupleAt p1 p2 A0 (λj k1 k2=>Th (H:=H) r1 r2 j k1 k2) ?_;rw[C7,C7,<-r1.length,<-r2.length,B0,B0,WD];exact⟨.bl _,H,I,rfl,q⟩
end
section
variable{prog:Program}{w:World}{κ:Type}[DecidableEq κ]{knd:HeapKind prog w κ}{A:Around}{E:Value->Shared->Prop}{s:Shared}
end
section
variable{X:Cx}{pins:List (Addr×Obj)}{σ:St}{H:Hp}{s:Shared}{a:Addr}{y v:V}{u r:Value}{o:Option V}{A:Around}{E:Value->Shared->Prop}
end
section
variable{X:Cx}{o e f:Expr}{apos cpos:Pos}{td ty tx:TE}
end
section
variable{prog:Program}{w:World}{A:Around}{E:Value->Shared->Prop}{s:Shared}{d it:Addr}{o:Obj}{es:Array DictEntry}{ep i:Nat}
theorem PL{Q:Value->Shared->Prop}(hd:(d==sysModules)=false)(ho:s.heap.get? d=some o)(hc:o.ExactDict)(da:o.data=.dict es ep)
  (q:Q (.ref s.heap.objs.size) {s with heap:=s.heap.push {cls:=.type "dict_keyiterator",data:=.fields #[.ref d,.int 0 0,.int es.size 0,.int ep 0]} }):wpAny (model prog w) A (pyIter (.ref d)) Q E s:=by
 have hT:s.TypeIs (.ref d) "dict" := ⟨o,ho,hc.1⟩
 refine wpAny_pyIter_slot hT F.slot_dict_iter (Z6 F.slot_dict_iter hT F.entry_dict_iter ?_ (F.args_dict_iter_1 _));unfold Builtin.«dict.__iter__»;refine W8 ?_;unfold Builtin.Dict.dictSlotNone;refine W8 (A5b hT ?_);show wpAny _ _ (pure (Value.ref d)) _ _ s;refine W9 ?_;show wpAny _ _ (Builtin.Dict.showsAll d >>= _) _ _ s;unfold Builtin.Dict.showsAll;rw[Y0 (by rw[hd];exact C9)];refine W8 (W9 ?_);refine W8 (A1e ho da ?_);refine W8 (A2f ho da ?_);refine W8 (Z7 (W9 ⟨_,rfl,"dict_keyiterator",_,⟨_,C3 _ rfl,rfl⟩,F.slot_dict_keyiterator_next.lookup,?_⟩));simpa[rawInt] using q
theorem Vd{Q:Option Value->Shared->Prop}(hit:s.heap.IsKeyIter it d i es.size ep)(ho:s.heap.get? d=some o)(da:o.data=.dict es ep)(hi:i<es.size)
  (q:∀h',h'.IsKeyIter it d (i+1) es.size ep->Heap.SameBut it s.heap h'->Q (some es[i].key) {s with heap:=h'}):wpAny (model prog w) A (pyNext (.ref it)) Q E s:=by
 obtain⟨io,hio,ic,idt⟩:=id hit;unfold pyNext;refine W8 (A2d (wpAny_callSpecial?_slot (name:=Str.ofString "__next__") hit.typeIs A1b (Z6 A1b hit.typeIs F.entry_dict_keyiterator_next ?_ (F.args_dict_keyiterator_next_1 _))));refine W8 (W9 ?_);refine W8 ?_;refine W8 ?_
 (first|refine W8 (A0g hit.typeIs (W9 ?_))|refine W8 (A2e hit.typeIs (W9 ?_)));refine W8 (A5g hio idt ?_)
 have hown:Builtin.Dict_items.ownsTuple "dict_keyiterator" = false:=A3;simp only[hown,F2,Z9];show wpAny _ _ (if(Value.ref d==Value.none)=true then _ else _) _ _ s;rw[Y0 (show ¬((Value.ref d==Value.none)=true)from C9)];refine W8 (W9 ?_);refine W8 (A1e ho da ?_);rw[Y0 A5];refine W8 (W9 ?_);refine W8 (A2f ho da ?_);rw[Y0 A5];refine W9 ?_;simp only[show ¬((i:Int)<0)from by lia,Z9,F1,M9 hi];refine W8 ?_
 (first|refine W8 (A0g hit.typeIs (W9 ?_))|refine W8 (A2e hit.typeIs (W9 ?_)));refine W8 (wpAny_isOneOf_keyiter hit.typeIs ?_)
 show wpAny _ _ (setField (.ref it) 1 (rawInt ((i:Int)+1)) >>= _) _ _ s;refine W8 (K9 hio idt A5 ?_);have next:(s.heap.update it (Obj.mapFields (·.setIfInBounds 1 (rawInt ((i:Int)+1))))).IsKeyIter it d (i+1) es.size ep:=⟨_,O5 _ hio (A1d (X5 idt _)),(Obj.cls_mapFields ..).trans ic,by rw[X5 idt];simp[rawInt]⟩
 refine W8 (X0 ?_);refine W8 (wpAny_isOneOf_keyiter (s:={s with heap:=s.heap.update it (Obj.mapFields (·.setIfInBounds 1 (rawInt ((i:Int)+1))))}) next.typeIs ?_);show wpAny _ _ (pure es[i].key) _ _ _;exact W9 (W9 ⟨_,rfl,W9 (q _ next (A2c ..))⟩)
theorem raw_end{Q:Option Value->Shared->Prop}(hh:A.handled=none)(hit:s.heap.IsKeyIter it d i es.size ep)(ho:s.heap.get? d=some o)(da:o.data=.dict es ep)(hi:es.size<=i)
  (q:∀h',Heap.ExtBut it s.heap h'->Q none {s with heap:=h'}):wpAny (model prog w) A (pyNext (.ref it)) Q E s:=by
 obtain⟨io,hio,ic,idt⟩:=id hit;unfold pyNext;refine W8 (A2d (wpAny_callSpecial?_slot (name:=Str.ofString "__next__") hit.typeIs A1b (Z6 A1b hit.typeIs F.entry_dict_keyiterator_next ?_ (F.args_dict_keyiterator_next_1 _))));refine W8 (W9 ?_);refine W8 ?_;refine W8 ?_
 (first|refine W8 (A0g hit.typeIs (W9 ?_))|refine W8 (A2e hit.typeIs (W9 ?_)));refine W8 (A5g hio idt ?_)
 have hown:Builtin.Dict_items.ownsTuple "dict_keyiterator" = false:=A3;simp only[hown,F2,Z9];show wpAny _ _ (if(Value.ref d==Value.none)=true then _ else _) _ _ s;rw[Y0 (show ¬((Value.ref d==Value.none)=true)from C9)];refine W8 (W9 ?_);refine W8 (A1e ho da ?_);rw[Y0 A5];refine W8 (W9 ?_);refine W8 (A2f ho da ?_);rw[Y0 A5];refine W9 ?_;simp only[show ¬((i:Int)<0)from by lia,Z9,F1,Array.getElem?_eq_none hi];refine W8 ?_
 (first|refine W8 (A0g hit.typeIs (W9 ?_))|refine W8 (A2e hit.typeIs (W9 ?_)))
 show wpAny _ _ (setField (.ref it) 0 .none >>= _) _ _ s;refine W8 (K9 hio idt A5 ?_);show wpAny _ _ (newExc (.type "StopIteration") [] >>= _) _ _ _;refine W8 ?_;simp only[newExc,newTuple];refine W8 (Z7 ?_ (by size_fits));refine W8 (m:=firstArgMember _ _) (A5f (a:=Value.none) (by first|rfl|(simp only[firstArgMember];rfl)) ?_);refine Z7 ?_ (by size_fits);simp only[raiseNew];refine W8 (wpAny_handled ?_);rw[show A.in1.handled=none from hh];refine W8 (W9 (wpAny_throw ?_));refine W8 (A3e (T:="StopIteration") (b:=true) ⟨_,C3 _ rfl,rfl⟩ isSubtype_stop ?_);exact W9 (q _ (((A2c ..).extBut.push _).push _))
end
def Itd(a:Addr)(o:Obj)(kvs:List (List Key×V)):It :=
 ⟨λi H=>H a=some (.frz o (.dT kvs))/\i<kvs.length,λi H x H'=>H'=H/\∃b k v,x=.ref b/\kvs[i]?=some (k,v)/\H b=some (.tup (k.map kV)),λi H=>H a=some (.frz o (.dT kvs))/\kvs.length<=i⟩
theorem Pf{P:Program}{w:World}{H:Hp}{h:Heap}{a:Addr}{o:Obj}{kvs:List (List Key×V)}(ok:HOk P w H h)(e:H a=some (.frz o (.dT kvs))) :
  h.get? a=some o/\∃(xs:List (List Key×Addr×Value))(es:Array DictEntry)(ep:Nat),KT H kvs xs/\o.data=.dict es ep/\es.toList=xs.map (entryOfKey (tupleKind (BG P w))):=by
 obtain⟨e1,z,y,xs,r,o',es,ep,h1,h2,h3,h4,h5⟩:=(show Be P w H h a (.frz o (.dT kvs))from ok a _ e)
 rw[e1]at h1;cases h1;exact⟨e1,xs,es,ep,r,h3,h4⟩
theorem KT.at_{H:Hp}:∀{kvs:List (List Key×V)}{xs:List (List Key×Addr×Value)}{i:Nat}{x:List Key×Addr×Value},KT H kvs xs->xs[i]?=some x->∃v,kvs[i]?=some (x.1,v)/\H x.2.1=some (.tup (x.1.map kV)):=by
 intro kvs xs i x r;induction r generalizing i with
 |nil=>intro e;simp at e
 |@cons p q ps qs h t ih =>
  intro e;cases i with
  |zero =>
   have e:q=x:=by simpa using e
   subst e;obtain⟨h1,h2,_⟩:=h;exact⟨p.2,by rw[List.getElem?_cons_zero,<-h1],by rw[<-h1];exact h2⟩
  |succ i =>
   obtain⟨v,e1,e2⟩:=ih (i:=i) (by simpa using e);exact⟨v,by simpa using e1,e2⟩
theorem LU{P:Program}{w:World}{K:PySem.W.Frag}{tg:Expr}(a it:Addr)(o:Obj)(kvs:List (List Key×V))(es:Array DictEntry)(ep:Nat)(da:o.data=.dict es ep)(hz:es.size=kvs.length):Ny P w K tg (Itd a o kvs) [it] it (λi h=>h.IsKeyIter it a i es.size ep) where
 mem:=by simp
 obj:=λi h st b hb=>by
  obtain rfl:b=it:=by simpa using hb
  obtain⟨o,e,c,d⟩:=st;exact⟨o,e,λv z=>(by rw[d]at z;cases z)⟩
 keep:=λi h h' st k=>st.at λo e=>k it A5 o e
 item:=by
  intro X hP hw hK hc i pins s σ H E I hf st hg;subst hP hw hK;obtain⟨hq,hi⟩:=hg;obtain⟨ga,xs,es',ep',kt,da',el⟩:=Pf I.hok hq;rw[da]at da';cases da';have hi':i<es.size:=by lia
  obtain⟨f0,f1,f2,f3,f4,f5⟩:=hf it A5;refine Vd st ga da hi' λh' st' sb=>?_;have I1:Inv X pins σ H {s with heap:=h'}:=I.turned (t':=s.toks) (λb o hb e=>(sb.2 b hb).trans e) f0 f1 f3 f4 f5
  have lx:i<xs.length:=by rw[<-A4a el];exact hi'
  obtain⟨v,e1,e2⟩:=KT.at_ kt (C0 lx);have ek:es[i].key=.ref xs[i].2.1:=by
   have:=entry_at el i;rw[M9 hi',C0 lx]at this;rw[Y5 this];rfl
  obtain⟨q,e,c,d⟩:=id st';exact⟨_,rfl,Qu (s:={s with heap:=h'}) e c d A3 ⟨.ref xs[i].2.1,H,I1,ek,⟨rfl,_,_,v,rfl,e1,e2⟩,st',λb hb=>(hf b hb).1⟩⟩
 done:=by
  intro X hP hw hK hc i pins s σ H E I hf st hg;subst hP hw hK;obtain⟨hq,hi⟩:=hg;obtain⟨ga,_⟩:=Pf I.hok hq;obtain⟨f0,f1,f2,f3,f4,f5⟩:=hf it A5;exact raw_end (I.ok.hd hc) st ga da A0 λh' eb=>⟨rfl,I.turned (t':=s.toks) (λb o hb e=>eb b o hb e) f0 f1 f3 f4 f5⟩
 self:=λ_ _ _ _ _ st h=>wpAny_pyIter_keyiter st h
section
variable{X:Cx}
def CDivB(i j:Int):Prop:=0<j/\j<2^64
theorem PX:OpR X (binaryOp .FloorDiv) (rI CDivB λi j=>.int (i/j)):=opI λi j _ _ _ _ _ hc q=>by
 have h1:(0:Int)<j:=hc.1;have h2:j<2^64:=hc.2;refine floordiv_int A0 (by rw[Int.fdiv_eq_ediv_of_nonneg i A0];exact q) (.inl (PyProof.noPylong_of_log2 ?_));have h3:j.natAbs<2^64:=by lia
 exact F0 ((Nat.log2_lt A0).mpr h3) A3
end
theorem gtriple{K:PySem.W.Frag}{i j k:Nat}{T:Addr}{x y z:V}{σ:St}{H:Hp}{Q:St->Hp->Prop}(h:H T=some (.tup [x,y,z]))(q:Q (((σ.set i (some x)).set j (some y)).set k (some z)) H):gTup K 3 (Lf (Ie i) (Lf (Ie j) (Lf (Ie k) gNil))) (.ref T) σ H Q :=
 ⟨T,_,rfl,SqT.of h,rfl,x,_,rfl,y,_,rfl,z,_,rfl,rfl,q⟩
abbrev NE:=Sum Int (List Int)
abbrev NK:=List NE
def isR:NE->Bool
 |.inl _=>false
 |.inr _=>true
section
variable(P:Program)(w:World)
inductive BW(h:Heap):NK->List Value->Prop
 |nil:BW h [] []
 |int {i:Int} {v:Value} {ks:NK} {vs:List Value} (e:(intKind P w).is i v=true) (r:BW h ks vs):BW h (.inl i::ks) (v::vs)
 |tup {ps:List Int} {b:Addr} {ks:NK} {vs:List Value} (e:IsTupleKey (intKind P w) h ps b) (r:BW h ks vs):BW h (.inr ps::ks) (.ref b::vs)
structure Fk(sh:List Bool)(h:Heap)(k:NK)(a:Addr):Prop where
 shape:k.map isR=sh
 ex:∃o its n,h.get? a=some o/\o.cls=.type "tuple" /\ o.data=.seq its n/\BW P w h k its.toList
def Lg:NE->Int
 |.inl i=>(intKind P w).hash i
 |.inr ps=>tupleKeyHash (intKind P w) ps
def Lh:NE->Nat
 |.inl _=>1
 |.inr ps=>ps.length+1
def VN(k:NK):Int:=reduceHash (Builtin.Tuple.tupleHashOf (k.map (Lg P w)))
def VO(k:NK):Nat:=(k.map Lh).sum+1
end
section
variable{P:Program}{w:World}{sh:List Bool}{h h':Heap}
theorem BW.inj{x y:NK}{vs:List Value}(hx:BW P w h x vs):BW P w h y vs->x.map isR=y.map isR->x=y:=by
 induction hx generalizing y with
 |nil=>intro hy _;cases hy;rfl
 |int e r ih =>
  intro hy hs;cases hy with
  |int e' r' =>
   rw[D5,D5]at hs;rw[(intKind P w).inj _ _ _ e e',ih r' (A0c hs).2]
  |tup e' r'=>cases hs
 |tup e r ih =>
  intro hy hs;cases hy with
  |int e' r'=>cases hs
  |tup e' r' =>
   rw[D5,D5]at hs;rw[e.inj e',ih r' (A0c hs).2]
theorem BW.keep{x:NK}{vs:List Value}(hx:BW P w h x vs)(k:∀ps b,IsTupleKey (intKind P w) h ps b->IsTupleKey (intKind P w) h' ps b):BW P w h' x vs:=by
 induction hx with
 |nil=>exact .nil
 |int e r ih=>exact .int e ih
 |tup e r ih=>exact .tup (k _ _ e) ih
theorem Fk.ty{s:Shared}{k:NK}{a:Addr}(x:Fk P w sh s.heap k a):s.TypeIs (.ref a) "tuple" := by
 obtain⟨o,_,_,ho,hc,_⟩:=x.ex;exact⟨o,ho,hc⟩
variable{A:Around}{E:Value->Shared->Prop}{s:Shared}
theorem Ty{k:NK}{a:Addr}{Q:Int->Shared->Prop}(hu:A.units+1<cLine)(hk:Fk P w sh s.heap k a)(q:Q (VN P w k) {s with toks:=s.toks+VO k}):wpAny (model P w) A (pyHash (.ref a)) Q E s:=by
 have ty:=hk.ty;obtain⟨_,o,its,n,ho,_,hd,hi⟩:=hk;unfold pyHash
 first|unfold pyHashByItsType|skip
 first|refine W8 (wpAny_cRoomFor_or (.inr A0) ?_)|skip
 refine W8 (A3h ty PySem.F.slot_tuple_hash.lookup ?_);show wpAny _ _ (if(some (Value.builtin "tuple.__hash__")==some Value.none)=true then _ else _) Q E s;rw[Y0 (by rw[beq_builtin_none];exact C9)];refine W8 (A3h ty PySem.F.slot_tuple_hash.lookup ?_);show wpAny _ _ (callSpecialIfBoundUnlessNone? (.ref a) "__hash__" _ >>= _) Q E s;refine W8 (wpAny_callSpecialIfBoundUnlessNone?_slot ty PySem.F.slot_tuple_hash (Z6 PySem.F.slot_tuple_hash ty PySem.F.entry_tuple_hash ?_ (PySem.F.args_tuple_hash_1 _)));show wpAny _ _ (Builtin.Tuple.tupleItemsOf (.ref a) >>= _) _ _ s;refine W8 (A6e ho hd (W8 ?_));rw[<-W4];refine A4e _ (λrest (b:Array Int) s'=>∃dn lf,k=dn++lf/\BW P w s.heap lf rest/\b.toList=dn.map (Lg P w)/\s'={s with toks:=s.toks+(dn.map Lh).sum}) _ ?_ ?_ _ _ ⟨[],k,rfl,hi,rfl,rfl⟩
 ·rintro x rest b s' ⟨dn,lf,rfl,hl,hb,rfl⟩;cases hl with
  |@int i v ks vs e r =>
   refine W8 ((intKind P w).pyHash e ?_);have fin:∃d l,dn++Sum.inl i::ks=d++l/\BW P w s.heap l rest/\(b.push ((intKind P w).hash i)).toList=d.map (Lg P w)/\({s with toks:=s.toks+(dn.map Lh).sum+1}:Shared)={s with toks:=s.toks+(d.map Lh).sum}:=⟨dn++[.inl i],ks,by simp,r,by simp[hb,Lg],by simp[Lh,V9]⟩
   first|exact W9 fin|exact W8 (W9 (W9 fin))
  |@tup ps c ks vs e r =>
   refine W8 (wpAny_pyHash_tuple (by show A.units+1<cLine;exact hu) e ?_);have fin:∃d l,dn++Sum.inr ps::ks=d++l/\BW P w s.heap l rest/\(b.push (tupleKeyHash (intKind P w) ps)).toList=d.map (Lg P w)/\({s with toks:=s.toks+(dn.map Lh).sum+(ps.length+1)}:Shared)={s with toks:=s.toks+(d.map Lh).sum}:=⟨dn++[.inr ps],ks,by simp,r,by simp[hb,Lg],by simp[Lh,V9]⟩
   first|exact W9 fin|exact W8 (W9 (W9 fin))
 ·rintro b s' ⟨dn,lf,rfl,hl,hb,rfl⟩;cases hl;rw[L5]at q;show wpAny _ _ (retInt (Builtin.Tuple.tupleHashOf b.toList)) _ _ _;rw[hb];refine wpAny_ret_mkInt ?_;unfold VN VO reduceHash at q;show wpAny _ _ (if(decide (-(2:Int)^63<=Builtin.Tuple.tupleHashOf (dn.map (Lg P w))) && decide (Builtin.Tuple.tupleHashOf (dn.map (Lg P w))<2^63))=true then _ else _) Q E _;split at q
  ·rename_i z;rw[Y4 z];exact W9 (by simpa[V9] using q)
  ·rename_i z;rw[Y0 z];exact W8 (wpAny_rule (W9 (by simpa[V9] using q)))
theorem OH{x y:NK}{a b:Addr}{R:Fin->Shared->Prop}(hu:A.units<cLine)(hx:Fk P w sh s.heap x a)(hy:Fk P w sh s.heap y b)(q:R (.done (.ret (.bool (decide (x=y))))) s):wpAny (model P w) A (Builtin.«tuple.__eq__» ⟨[.ref a,.ref b],[]⟩) R E s:=by
 have tb:=hy.ty;obtain⟨sx,oa,xs,na,hoa,_,hda,hia⟩:=hx;obtain⟨sy,ob,ys,nb,hob,_,hdb,hib⟩:=hy;show wpAny _ _ (isInstance (.ref b) (.type "tuple") >>= _) _ _ s;refine W8 (A3e tb A5c ?_);simp only[Q5,F2,Z9];refine W8 (A6e hoa hda (W8 (A6e hob hdb (W8 ?_))));refine A4e _ (λrest r s'=>r.1=none/\s'=s/\∃x' y' us vs,rest=List.zip us vs/\BW P w s.heap x' us/\BW P w s.heap y' vs/\x'.map isR=y'.map isR/\decide (x'=y')=decide (x=y)/\(us.length==vs.length)=(xs.size==ys.size)) _ ?_ ?_ _ _ ⟨rfl,rfl,x,y,xs.toList,ys.toList,rfl,hia,hib,sx.trans sy.symm,rfl,by simp⟩
 ·rintro⟨u,v⟩ rest r s' ⟨hr,rfl,x',y',us,vs,hz,hx',hy',hsh,hdec,hlen⟩;cases hx' with
  |nil=>simp at hz
  |@int i1 u' ks us' e1 r1 =>
   cases hy' with
   |nil=>simp at hz
   |@int i2 v' ks' vs' e2 r2 =>
    simp only[List.zip_cons_cons,List.cons.injEq,Prod.mk.injEq]at hz;obtain⟨⟨rfl,rfl⟩,rfl⟩:=hz;rw[D5,D5]at hsh;refine W8 ((intKind P w).eqBool e1 e2 ?_);by_cases hk:i1=i2
    ·subst hk;rw[Y1 rfl];simp only[Q5,F2,Z9];refine W9 ⟨rfl,rfl,ks,ks',us',vs',rfl,r1,r2,(A0c hsh).2,?_,by simpa using hlen⟩;rw[<-hdec];exact decide_eq_decide.mpr ⟨λz=>by rw[z],λz=>(A0c z).2⟩
    ·rw[Y3 hk];simp only[Bool.not_false,A1h];have hf:decide (x=y)=false:=by rw[<-hdec];exact Y3 λz=>hk (Sum.inl.inj (A0c z).1)
     rw[hf]at q;exact W8 (W9 (W9 (W9 q)))
   |tup e2 r2=>cases hsh
  |@tup ps1 c1 ks us' e1 r1 =>
   cases hy' with
   |nil=>simp at hz
   |int e2 r2=>cases hsh
   |@tup ps2 c2 ks' vs' e2 r2 =>
    simp only[List.zip_cons_cons,List.cons.injEq,Prod.mk.injEq]at hz;obtain⟨⟨rfl,rfl⟩,rfl⟩:=hz;rw[D5,D5]at hsh;refine W8 (wpAny_eqBool_tuple hu e1 e2 ?_);by_cases hk:ps1=ps2
    ·subst hk;rw[Y1 rfl];simp only[Q5,F2,Z9];refine W9 ⟨rfl,rfl,ks,ks',us',vs',rfl,r1,r2,(A0c hsh).2,?_,by simpa using hlen⟩;rw[<-hdec];exact decide_eq_decide.mpr ⟨λz=>by rw[z],λz=>(A0c z).2⟩
    ·rw[Y3 hk];simp only[Bool.not_false,A1h];have hf:decide (x=y)=false:=by rw[<-hdec];exact Y3 λz=>hk (Sum.inr.inj (A0c z).1)
     rw[hf]at q;exact W8 (W9 (W9 (W9 q)))
 ·rintro⟨r1,r2⟩ s' ⟨hr,rfl,x',y',us,vs,hz,hx',hy',hsh,hdec,hlen⟩;simp only at hr;subst hr;refine W9 ?_;have hfin:(xs.size==ys.size)=decide (x=y):=by
   rw[<-hdec,<-hlen];cases hx' with
   |nil =>
    cases hy' with
    |nil=>simp
    |int _ _=>cases hsh
    |tup _ _=>cases hsh
   |int _ _ =>
    cases hy' with
    |nil=>cases hsh
    |int _ _=>simp at hz
    |tup _ _=>cases hsh
   |tup _ _ =>
    cases hy' with
    |nil=>cases hsh
    |int _ _=>cases hsh
    |tup _ _=>simp at hz
  show R (.done (.ret (.bool (xs.size==ys.size)))) s';rw[hfin];exact q
theorem nest_eq{x y:NK}{a b:Addr}{Q:Bool->Shared->Prop}(hu:A.units+1<cLine)(hx:Fk P w sh s.heap x a)(hy:Fk P w sh s.heap y b)(q:Q (decide (x=y)) s):wpAny (model P w) A (eqBool (.ref a) (.ref b)) Q E s:=by
 unfold eqBool
 try with_reducible refine X0 ?_
 show wpAny _ _ (if(Value.ref a==Value.ref b)=true then _ else _) Q E s;by_cases hab:(Value.ref a==Value.ref b)=true
 ·rw[Y4 hab];have e:a=b:=by have:=eq_of_beq hab;injection this
  subst e;have:x=y:=by
   obtain⟨s1,o,its,n,ho,_,hd,hi⟩:=hx;obtain⟨s2,o',its',n',ho',_,hd',hi'⟩:=hy;obtain rfl:o=o':=Y5 (ho.symm.trans ho');rw[hd]at hd';injection hd' with h1 _
   subst h1;exact hi.inj hi' (s1.trans s2.symm)
  subst this;exact W8 (wpAny_rule (W9 (by simpa using q)))
 ·rw[Y0 hab];exact W8 (wpAny_richCompare_same_room (op:=.Eq) hx.ty hy.ty PySem.F.slot_tuple_eq (Z6 PySem.F.slot_tuple_eq hx.ty PySem.F.entry_tuple_eq (OH (by show A.units+1<cLine;exact hu) hx hy ⟨_,rfl,(λe=>nomatch e),X7 q⟩) (PySem.F.args_tuple_eq_2 _ _)) A0)
theorem Tp{n:Nat}{ps:List Int}{a:Addr}{Q:Bool->Shared->Prop}(hk:IsTupleKey (intKind P w) s.heap ps a)(q:Q true s):wpAny (model P w) A (eqIsQuiet (n+1) (.ref a)) Q E s:=by
 have ty:=hk.typeIs;obtain⟨o,its,m,ho,_,hd,hi⟩:=hk;unfold eqIsQuiet;refine W8 (A3h ty PySem.F.slot_tuple_eq.lookup ?_);show wpAny _ _ (isInstance (.ref a) (.type "tuple") >>= _) _ _ s;refine W8 (A3e ty A5c ?_);simp only[Q5,F2,Z9];refine W8 (A4c ho hd (W8 ?_));show wpAny _ _ (forIn its _ _) _ _ s;rw[<-W4];refine A4e _ (λrest r s'=>r.1=none/\s'=s/\∀v∈rest,carriedByValue v=true) _ ?_ ?_ _ _ ⟨rfl,rfl,hi.byValue⟩
 ·rintro v rest r s' ⟨hr,rfl,hall⟩;rw[eqIsQuiet_byValue _ (hall v C2)];refine W8 (W9 ?_);simp only[Q5,F2,Z9];exact W9 ⟨rfl,rfl,λu hv=>hall u (B3 _ hv)⟩
 ·rintro⟨r1,r2⟩ s' ⟨hr,rfl,_⟩;simp only at hr;subst hr;exact W9 q
theorem Rj{x:NK}{a:Addr}{Q:Bool->Shared->Prop}(hk:Fk P w sh s.heap x a)(q:Q true s):wpAny (model P w) A (eqIsQuiet 8 (.ref a)) Q E s:=by
 have ty:=hk.ty;obtain⟨_,o,its,m,ho,_,hd,hi⟩:=hk;unfold eqIsQuiet;refine W8 (A3h ty PySem.F.slot_tuple_eq.lookup ?_);show wpAny _ _ (isInstance (.ref a) (.type "tuple") >>= _) _ _ s;refine W8 (A3e ty A5c ?_);simp only[Q5,F2,Z9];refine W8 (A4c ho hd (W8 ?_));show wpAny _ _ (forIn its _ _) _ _ s;rw[<-W4];refine A4e _ (λrest r s'=>r.1=none/\s'=s/\∃x',BW P w s.heap x' rest) _ ?_ ?_ _ _ ⟨rfl,rfl,x,hi⟩
 ·rintro v rest r s' ⟨hr,rfl,x',hx'⟩;cases hx' with
  |int e r1 =>
   rw[eqIsQuiet_byValue _ ((intKind P w).byValue _ _ e)];refine W8 (W9 ?_);simp only[Q5,F2,Z9];exact W9 ⟨rfl,rfl,_,r1⟩
  |tup e r1 =>
   refine W8 (Tp (n:=6) e ?_);simp only[Q5,F2,Z9];exact W9 ⟨rfl,rfl,_,r1⟩
 ·rintro⟨r1,r2⟩ s' ⟨hr,rfl,_⟩;simp only at hr;subst hr;exact W9 q
end
def IW(P:Program)(w:World)(sh:List Bool):HeapKind P w NK where
 is:=Fk P w sh
 hash:=VN P w
 draws:=VO
 room:=λA=>A.units+1<cLine
 inj:=λhx hy=>by
  obtain⟨s1,o,its,n,ho,_,hd,hi⟩:=hx;obtain⟨s2,o',its',n',ho',_,hd',hi'⟩:=hy;obtain rfl:o=o':=Y5 (ho.symm.trans ho');rw[hd]at hd';injection hd' with h1 _
  subst h1;exact hi.inj hi' (s1.trans s2.symm)
 keeps:=λ{h h' k a d o es ep} hx ho hd hs=>by
  obtain⟨s1,o',its,n,ho',hc,hd',hi⟩:=hx;have ne:a≠d:=by
   rintro rfl;obtain rfl:o'=o:=Y5 (ho'.symm.trans ho);rw[hd]at hd';exact nomatch hd'
  exact⟨s1,o',its,n,(hs.2 a ne).trans ho',hc,hd',hi.keep λps b e=>e.keeps ho hd hs⟩
 pyHash:=λhu hk q=>Ty hu hk q
 eqBool:=λhu hx hy q=>nest_eq hu hx hy q
 quiet:=λhk q=>Rj hk q
def NEl(H:Hp):NE->V->Prop
 |.inl i,v=>v=.int i
 |.inr ps,v=>∃t,v=.ref t/\H t=some (.tup (ps.map V.int))
def Fh(H:Hp)(b:Addr)(k:NK):Prop:=∃vs,H b=some (.tup vs)/\Paired (NEl H) k vs
abbrev KN(H:Hp):List (NK×V)->List (NK×Addr×Value)->Prop:=Paired λp q=>p.1=q.1/\Fh H q.2.1 p.1/\AX p.2 q.2.2
def To(P:Program)(w:World)(sh:List Bool)(a:Addr)(xs:List (NK×Addr×Value)):Heap->Prop:=λh=>∃o es ep,h.get? a=some o/\o.ExactDict/\o.data=.dict es ep/\es.toList=xs.map (entryOfKey (IW P w sh))
structure Bm(P:Program)(w:World)(sh:List Bool)(H:Hp)(a:Addr)(kvs:List (NK×V)):Prop where
 ex:∃xs,H a=some (.ext (To P w sh a xs))/\KN H kvs xs/\(xs.map (·.1)).Nodup/\(∀x∈xs,x.1.map isR=sh)/\kvs.length<=sizeLine/\(a==sysModules)=false
section
variable{P:Program}{w:World}{sh:List Bool}{H H':Hp}{h h':Heap}{a b:Addr}{k:NK}{kvs:List (NK×V)}
theorem Fh.keep(ht:∀b ys,H b=some (.tup ys)->H' b=some (.tup ys))(e:Fh H b k):Fh H' b k:=by
 obtain⟨vs,e,r⟩:=e;refine⟨vs,ht _ _ e,Paired.imp' (λx v z=>?_) r⟩;cases x with
 |inl i=>exact z
 |inr ps =>
  obtain⟨t,z1,z2⟩:=z;exact⟨t,z1,ht _ _ z2⟩
theorem KN.keep{xs:List (NK×Addr×Value)}(ht:∀b ys,H b=some (.tup ys)->H' b=some (.tup ys))(r:KN H kvs xs):KN H' kvs xs:=Paired.imp' (λp q z=>⟨z.1,z.2.1.keep ht,z.2.2⟩) r
theorem Bm.keep(n:Bm P w sh H a kvs)(ht:∀b ys,H b=some (.tup ys)->H' b=some (.tup ys))(ha:∀o,H a=some o->H' a=some o):Bm P w sh H' a kvs:=by
 obtain⟨xs,e,r,z⟩:=n.ex;exact⟨xs,ha _ e,KN.keep ht r,z⟩
theorem TY{ps:List Int}{us:List Value}(r:AH (ps.map V.int) us):ItemsAre (intKind P w) ps us:=by
 induction ps generalizing us with
 |nil=>cases r;exact .nil
 |cons i ps ih =>
  cases r with
  |cons r1 r2 =>
   obtain⟨t,rfl⟩:=(show ∃t,_=Value.int i t from r1)
   exact .cons (by show Value.isInt i (.int i t)=true;simp[Value.isInt]) (ih r2)
theorem int_key(ok:HOk P w H h){ps:List Int}(e:H a=some (.tup (ps.map V.int))):IsTupleKey (intKind P w) h ps a:=by
 obtain⟨_,its,r,o,h1,h2,n,h3⟩:=(show Be P w H h a (.tup (ps.map V.int))from ok a _ e)
 exact⟨o,its.toArray,n,h1,h2,h3,by simpa using TY r⟩
theorem OF(ok:HOk P w H h)(e:Fh H b k)(hs:k.map isR=sh):Fk P w sh h k b:=by
 obtain⟨vs,e,r⟩:=e;obtain⟨_,its,rv,o,h1,h2,n,h3⟩:=(show Be P w H h b (.tup vs)from ok b _ e)
 refine⟨hs,o,its.toArray,n,h1,h2,h3,?_⟩;have go:∀{k:NK}{vs:List V}{us:List Value},Paired (NEl H) k vs->AH vs us->BW P w h k us:=by
  intro k vs us r;induction r generalizing us with
  |nil=>intro rv;cases rv;exact .nil
  |@cons x v ks vs hx t ih =>
   intro rv;cases rv with
   |cons r1 r2 =>
    cases x with
    |inl i =>
     have hx:v=.int i:=hx;subst hx;obtain⟨tk,rfl⟩:=(show ∃t,_=Value.int i t from r1)
     exact .int (by show Value.isInt i (.int i tk)=true;simp[Value.isInt]) (ih r2)
    |inr ps =>
     obtain⟨tt,rfl,h4⟩:=hx;cases(show _=Value.ref tt from r1);exact .tup (int_key ok h4) (ih r2)
 simpa using go r rv
theorem OG(ok:HOk P w H h)(n:Bm P w sh H a kvs):∃xs,H a=some (.ext (To P w sh a xs))/\KN H kvs xs/\h.DictOfH (IW P w sh) a xs/\(∀x∈xs,x.1.map isR=sh)/\kvs.length<=sizeLine/\(a==sysModules)=false:=by
 obtain⟨xs,e,r,nd,hs,z,y⟩:=n.ex;obtain⟨⟨o,es,ep,h1,h2,h3,h4⟩,_⟩:=(show Be P w H h a (.ext _)from ok a _ e)
 refine⟨xs,e,r,⟨o,es,ep,h1,h2,h3,h4,λx hx=>?_,nd⟩,hs,z,y⟩;have all:∀{l:List (NK×V)}{m:List (NK×Addr×Value)},KN H l m->∀x∈m,Fh H x.2.1 x.1:=by
  intro l m q;induction q with
  |nil=>intro x hx;exact nomatch hx
  |@cons p q ps qs hq t ih =>
   intro x hx;rcases B9.mp hx with e|hx
   ·subst e;rw[<-hq.1];exact hq.2.1
   ·exact ih x hx
 exact OF ok (all r x hx) (hs x hx)
theorem KN.val{xs:List (NK×Addr×Value)}(r:KN H kvs xs)(k:NK):FY (Bw kvs k) ((atKey xs k).map (·.2)):=by
 induction r with
 |nil=>exact True.intro
 |@cons p q ps qs h t ih =>
  obtain⟨h1,_,h2⟩:=h;by_cases e:p.1=k
  ·rw[Bu e,show atKey (q::qs) k=some q.2 by simp[atKey,O7,h1.symm.trans e]];exact h2
  ·have e':¬q.1=k:=λz=>e (h1.trans z);rw[Bf e,show atKey (q::qs) k=atKey qs k by simp[atKey,O7,e']];exact ih
theorem KN.put{xs:List (NK×Addr×Value)}(r:KN H kvs xs)(k:NK){y:V}{u:Value}(hb:Fh H b k)(ry:AX y u):KN H (Cc kvs k y) (storedH xs k b u):=by
 have e:(kvs.any λkv=>decide (kv.1=k))=(atKey xs k).isSome:=by rw[Ep,(r.val k).isSome_eq,Option.isSome_map]
 unfold Cc storedH;rw[e];by_cases q:(atKey xs k).isSome=true
 ·rw[Y4 q,Y4 q];clear e q;induction r with
  |nil=>exact .nil
  |@cons p q ps qs h t ih =>
   refine .cons ?_ ih;obtain⟨h1,h2,h3⟩:=h;unfold putAt;dsimp only;by_cases z:p.1=k
   ·rw[Y4 z,Y4 (h1.symm.trans z)];exact⟨h1,h2,ry⟩
   ·rw[Y0 z,Y0 λq=>z (h1.trans q)];exact⟨h1,h2,h3⟩
 ·rw[Y0 q,Y0 q];exact K2 r ⟨rfl,hb,ry⟩
end
def tDNewN(P:Program)(w:World)(sh:List Bool):TE:=λ_ H Q=>∀p H',H p=none->Az H H'->Bm P w sh H' p []->Q (.ref p) H'
def tDGetN(P:Program)(w:World)(sh:List Bool)(td ty:TE):TE:=fun σ H Q=>td σ H λx H1=>∃a,x=.ref a/\(∃kvs,Bm P w sh H1 a kvs)/\ty σ H1 λy H2=>∃b k kvs,y=.ref b/\Bm P w sh H2 a kvs/\Fh H2 b k/\k.map isR=sh/\Q ((Bw kvs k).getD .non) H2
def sDPutN(P:Program)(w:World)(sh:List Bool)(td ty tv:TE):TS:=λD σ H=>tv σ H λv H1=>td σ H1 λx H2=>ty σ H2 λy H3=>∃a b k kvs,x=.ref a/\y=.ref b/\Bm P w sh H3 a kvs/\Fh H3 b k/\k.map isR=sh/\kvs.length<sizeLine/\∀H4,(∀c o,H3 c=some o->c≠a->H4 c=some o)->Bm P w sh H4 a (Cc kvs k v)->D.nx σ H4
section
variable{X:Cx}{sh:List Bool}
theorem Qb{xs:List (NK×Addr×Value)}{H:Hp}{h:Heap}{a:Addr}(r:To X.prog X.w sh a xs h):Be X.prog X.w H h a (.ext (To X.prog X.w sh a xs)):=by
 obtain⟨o,es,ep,h1,h2,h3,h4⟩:=id r;refine⟨r,⟨o,h1⟩,λg1 g2 hp hk=>?_⟩;obtain⟨o',es',ep',i1,i2,i3,i4⟩:=hp;exact⟨o',es',ep',hk o' i1,i2,i3,i4⟩
theorem Vr{pos:Pos}:PE X (.Dict [] [] pos) (tDNewN X.prog X.w sh):=λpins s σ H Q I h=>by
 have fr:=I.hok.fresh (B5 s.heap.objs.size);have lo:(s.heap.objs.size==sysModules)=false:=beq_eq_false_iff_ne.mpr (Z4 (D8 I.big));refine wpAny_Dict_empty ⟨.ref s.heap.objs.size,upd H s.heap.objs.size (.ext (To X.prog X.w sh s.heap.objs.size [])),I.laid (a:=s.heap.objs.size) (t':=s.toks) (λ_ _ q=>B1 _ q) (B5 _) (Qb ⟨_,#[],0,C3 _ rfl,⟨rfl,rfl,rfl⟩,rfl,rfl⟩),rfl,h _ _ fr (λb o e=>by rw[Al (An e fr)];exact e) ⟨[],upd_same,.nil,U2,(λx hx=>by simp at hx),J7 _,lo⟩⟩
variable{o e:Expr}{apos cpos:Pos}{td ty:TE}
theorem Vs(hu:X.A.units+64<cLine)(ho:PE X o td)(he:PE X e ty)(m:M1 X o "get" apos e cpos):PE X (.Call (.Attribute o "get" apos) [e] [] cpos) (tDGetN X.prog X.w sh td ty):=by
 intro pins s σ H Q I h;refine wpAny_Call_method m.base m.few m.line PySem.F.plainAttrs_dict A0d PySem.F.type_dict_get (thn (ho pins s σ H _ I h) λu s1 ⟨x,H1,I1,rx,a,ex,⟨kvs,d⟩,q1⟩=>?_);subst ex;obtain rfl:u=Value.ref a:=rx;obtain⟨xs,_,_,dd,_⟩:=OG I1.hok d;refine⟨dd.typeIs,λb q=>?_,?_⟩
 ·cases q;obtain⟨ob,_,_,h1,h2,_⟩:=dd;exact⟨ob,h1,h2.2.1⟩
 rw[m.trees];refine A3c rfl (A5d (A6c (thn (he pins s1 σ H1 _ I1 q1) λiv s2 ⟨y,H2,I2,ry,b,k,kvs2,ey,n2,kb,hs,q2⟩=>Calls.spliced_nil ?_)));subst ey;cases(show iv=Value.ref b from ry);obtain⟨xs2,_,r2,d2,_,_,lo⟩:=OG I2.hok n2;refine call_meetsIn A0d d2.typeIs A4d (A4b _ _) (meetsH_dict_get (IW X.prog X.w sh) a b lo) ⟨by show X.A.units+1+1<cLine;lia,k,xs2,OF I2.hok kb hs,d2,_,H2,I2.tok _,(KN.val r2 k).getD (d:=.non) rfl,q2⟩
variable{i value:Expr}{pos pos':Pos}{tv:TE}
theorem Vg(hu:X.A.units+64<cLine)(ho:PE X o td)(hi:PE X i ty)(hv:PE X value tv)(hs:swapsWith value (some (.Subscript o i pos')) pos.line X.env=pure false):PS X (.Assign [.Subscript o i pos'] value pos) (sDPutN X.prog X.w sh td ty tv):=by
 intro pins s σ H D I h;refine wpAny_Assign_Subscript (thn (hv pins s σ H _ I h) λr s1 ⟨v,H1,I1,rv,q1⟩=>thn (ho pins s1 σ H1 _ I1 q1) λu s2 ⟨x,H2,I2,rx,q2⟩=>thn (hi pins s2 σ H2 _ I2 q2) λiv s3 ⟨y,H3,I3,ry,a,b,k,kvs,ex,ey,n3,kb,ks,lt,q3⟩=>?_) hs;subst ex ey;obtain rfl:u=Value.ref a:=rx;cases(show iv=Value.ref b from ry);obtain⟨xs,e3,rel,dd,hsh,z,lo⟩:=OG I3.hok n3;have hz:xs.length<=sizeLine:=by rw[<-Y6 rel];exact z
 have hl:(Cc kvs k v).length<=sizeLine:=by have:=DH kvs k v;lia
 refine wpAny_setItem_heap (knd:=IW X.prog X.w sh) (hsz:=hz) (by show X.A.units+1+1<cLine;lia) (OF I3.hok kb ks) dd λh' dd' hsb=>?_;obtain⟨ob,es,ep,hq,h2,h3,h4,_,h5⟩:=dd';have tk:∀c ys,H3 c=some (.tup ys)->upd H3 a (.ext (To X.prog X.w sh a (storedH xs k b r))) c=some (.tup ys):=λc ys ec=>by
  rw[Al (AS ec e3 (λz=>nomatch z))];exact ec
 refine⟨σ,_,GU I3 (by rw[e3];exact True.intro) hsb ⟨ob,hq⟩ (Qb ⟨ob,es,ep,hq,h2,h3,h4⟩),q3 _ (λc o ec ne=>by rw[Al ne];exact ec) ⟨_,upd_same,KN.keep tk (KN.put rel k kb rv),h5,λx hx=>?_,hl,lo⟩⟩;unfold storedH at hx;split at hx
 ·obtain⟨y,hy,rfl⟩:=D4.mp hx;unfold putAt;split
  ·exact hsh y hy
  ·exact hsh y hy
 ·rcases C8.mp hx with w|w
  ·exact hsh x w
  ·rw[C5]at w;subst w;exact ks
end
end L2
namespace L2
open PySem PySem.W PyProof.Rows
section
variable{rk:Nat->Int}{n:Nat}
def rkC(rk:Nat->Int)(n i j:Nat)(C:Bool->Shared->Prop)(s:Shared):Prop:=i<n/\j<n/\C (decide (rk i<rk j)) s
structure Bz(n:Nat)(p:Array Nat):Prop where
 sz:p.size=n
 pm:p.Perm (List.range n).toArray
def kk(rk:Nat->Int)(p:Array Nat)(i:Nat):Int:=rk (p.getD i 0)
theorem Bz.lt{p:Array Nat}(h:Bz n p){i:Nat}(hi:i<n):p.getD i 0<n:=by
 have hs:i<p.size:=by rw[h.sz];exact hi
 have e:p.getD i 0=p[i]:=by simp[Array.getD,hs]
 have m:p[i]∈p:=Array.getElem_mem hs;have:=(Array.Perm.mem_iff h.pm).mp m;rw[e]
 simpa using this
theorem Bz.rev{p:Array Nat}(h:Bz n p)(i j:Nat):Bz n (kas_rev p i j):=⟨(mirror_size _ _ _ _).trans h.sz,(mirror_perm _ _ _ _).trans h.pm⟩
theorem Bz.bub{p:Array Nat}(h:Bz n p)(i j:Nat):Bz n (bubble p i j):=⟨(bubble_size _ _ _).trans h.sz,(bubble_perm _ _ _).trans h.pm⟩
theorem gd(p:Array Nat)(i:Nat):p.getD i 0=p[i]?.getD 0:=by
 simp
theorem OW{p:Array Nat}(h:Bz n p){i j:Nat}(hj:j<=n)(k:Nat):kk rk (kas_rev p i j) k=if i<=k/\k<j then kk rk p (i+j-1-k)else kk rk p k:=by
 have e:=getElem?_mirror_all (xs:=p) (i:=i) (by rw[h.sz];exact hj) k;unfold kk kas_rev;rw[gd,e];split<;>rw[gd]
theorem Wa{p:Array Nat}(h:Bz n p){src d:Nat}(hs:src<n)(hd:d<=src)(k:Nat):kk rk (bubble p src d) k=if k=src-d then kk rk p src else if src-d<k/\k<=src then kk rk p (k-1)else kk rk p k:=by
 have e:=getElem?_bubble (xs:=p) (by rw[h.sz];exact hs) d hd k;unfold kk;rw[gd,e];split
 ·rw[gd]
 ·split<;>rw[gd]
def Up(rk:Nat->Int)(p:Array Nat)(m:Nat):Prop:=∀i j,i<=j->j<m->kk rk p i<=kk rk p j
def Dn(rk:Nat->Int)(p:Array Nat)(m:Nat):Prop:=∀i j,i<=j->j<m->kk rk p j<=kk rk p i
theorem Up.step{p:Array Nat}{m:Nat}(h:Up rk p m)(h1:1<=m)(q:kk rk p (m-1)<=kk rk p m):Up rk p (m+1):=λi j ij hj=>by
 rcases P2.mp hj with z|z
 ·exact h i j ij z
 ·subst z;rcases Nat.lt_or_ge i j with y|y
  ·exact Int.le_trans (h i (j-1) A0 A0) q
  ·have:i=j:=by lia
   subst this;exact L6 _
theorem Dn.step{p:Array Nat}{m:Nat}(h:Dn rk p m)(h1:1<=m)(q:kk rk p m<=kk rk p (m-1)):Dn rk p (m+1):=λi j ij hj=>by
 rcases P2.mp hj with z|z
 ·exact h i j ij z
 ·subst z;rcases Nat.lt_or_ge i j with y|y
  ·exact Int.le_trans q (h i (j-1) A0 A0)
  ·have:i=j:=by lia
   subst this;exact L6 _
theorem RO{p:Array Nat}(pn:Bz n p):∀{f m:Nat}{s:Shared}{Q:Nat->Shared->Prop},1<=m->m+f<=n->Up rk p m->(∀r,m<=r->r<=m+f->Up rk p r->(r<m+f->kk rk p r<kk rk p (r-1))->Q r s)->(kas_asc p f m).kasWp (rkC rk n) Q s
 |0,m,s,Q,h1,hf,up,k=>k m (B5 _) (B5 _) up λz=>absurd z (N6 _)
 |f+1,m,s,Q,h1,hf,up,k=>by
  refine⟨pn.lt A0,pn.lt A0,?_⟩;by_cases c:kk rk p m<kk rk p (m-1)
  ·rw[Y1 (show rk (p.getD m 0)<rk (p.getD (m-1) 0)from c)];dsimp only;rw[Y4 rfl];exact k m (B5 _) A0 up λ_=>c
  ·rw[Y3 (show ¬rk (p.getD m 0)<rk (p.getD (m-1) 0)from c)];dsimp only;rw[Y0 A5];exact RO pn A0 A0 (up.step h1 A0) λr h2 h3 h4 h5=>k r A0 A0 h4 λz=>h5 A0
theorem Mq{p:Array Nat}(pn:Bz n p){m q:Nat}(hm:m<=n)(hq:q+1<=m)(eq:∀i,m-(q+1)<=i->i<m->kk rk p i=kk rk p (m-1))(k:Nat):kk rk (kas_rev p (m-(q+1)) m) k=kk rk p k:=by
 rw[OW pn hm];split
 ·rename_i z;rw[eq _ A0 A0,eq k z.1 z.2]
 ·rfl
theorem LQ:∀{f m q:Nat}{p:Array Nat}{s:Shared}{Q:Array Nat×Nat×Nat->Shared->Prop},Bz n p->q+1<=m->m+f<=n->Dn rk p m->(∀i,m-(q+1)<=i->i<m->kk rk p i=kk rk p (m-1)) ->
  (∀p' m' q',Bz n p'->q'+1<=m'->m'<=n->Dn rk p' m'->(∀i,m'-(q'+1)<=i->i<m'->kk rk p' i=kk rk p' (m'-1))->Q (p',m',q') s)->(kas_desc f p m q).kasWp (rkC rk n) Q s
 |0,m,q,p,s,Q,pn,hq,hf,dn,eq,k=>k p m q pn hq hf dn eq
 |f+1,m,q,p,s,Q,pn,hq,hf,dn,eq,k=>by
  refine⟨pn.lt A0,pn.lt A0,?_⟩;have one:∀{p':Array Nat},∀i,m+1-(0+1)<=i->i<m+1->kk rk p' i=kk rk p' (m+1-1):=λi h1 h2=>by
   have:i=m+1-1:=by lia
   rw[this]
  by_cases c:kk rk p m<kk rk p (m-1)
  ·rw[Y1 (show rk (p.getD m 0)<rk (p.getD (m-1) 0)from c)];dsimp only;rw[Y4 rfl];by_cases hq0:q > 0
   ·rw[Y4 hq0];have same:=Mq pn A0 hq eq;refine LQ (pn.rev _ _) A0 A0 ?_ one k;refine Dn.step (λi j ij hj=>?_) A0 ?_
    ·rw[same i,same j];exact dn i j ij hj
    ·rw[same m,same (m-1)];lia
   ·rw[Y0 hq0];exact LQ pn A0 A0 (dn.step A0 A0) one k
  ·rw[Y3 (show ¬rk (p.getD m 0)<rk (p.getD (m-1) 0)from c)];dsimp only;rw[Y0 A5];refine⟨pn.lt A0,pn.lt A0,?_⟩;by_cases d:kk rk p (m-1)<kk rk p m
   ·rw[Y1 (show rk (p.getD (m-1) 0)<rk (p.getD m 0)from d)];dsimp only;rw[Y4 rfl];exact k p m q pn hq A0 dn eq
   ·rw[Y3 (show ¬rk (p.getD (m-1) 0)<rk (p.getD m 0)from d)];dsimp only;rw[Y0 A5];have e:kk rk p m=kk rk p (m-1):=by lia
    refine LQ pn A0 A0 (dn.step A0 A0) (λi h1 h2=>?_) k;rw[Nat.add_sub_cancel];by_cases z:i=m
    ·rw[z]
    ·rw[eq i A0 A0,e]
theorem Sa{m:Nat}{p:Array Nat}{s:Shared}{Q:Nat×Array Nat->Shared->Prop}(pn:Bz n p)(h1:1<=m)(hm:m<=n)(dn:Dn rk p m)(k:∀r p',Bz n p'->r<=n->1<=r->Up rk p' r->Q (r,p') s):(kas_tail3 m n p).kasWp (rkC rk n) Q s:=by
 unfold kas_tail3;rw[KasT.kasWp_bind];refine RO (pn.rev _ _) h1 A0 (λi j ij hj=>?_) λr h2 h3 h4 _=>k r _ (pn.rev _ _) A0 A0 h4;rw[OW pn hm,OW pn hm,Y4 ⟨by lia,by lia⟩,Y4 ⟨by lia,by lia⟩];exact dn _ _ A0 A0
theorem Ss{m:Nat}{p:Array Nat}{s:Shared}{Q:Nat×Array Nat->Shared->Prop}(pn:Bz n p)(hm:m+1<=n)(dn:Dn rk p (m+1))(k:∀r p',Bz n p'->r<=n->1<=r->Up rk p' r->Q (r,p') s):(kas_descPart m n p).kasWp (rkC rk n) Q s:=by
 unfold kas_descPart;rw[KasT.kasWp_bind];refine LQ pn A0 A0 dn (λi h1 h2=>?_) λp' m' q' pn' hq hm' dn' eq=>?_
 ·have:i=m+1-1:=by lia
  rw[this]
 ·dsimp only;split
  ·refine Sa (pn'.rev _ _) A0 hm' (λi j ij hj=>?_) k;rw[Mq pn' hm' hq eq,Mq pn' hm' hq eq];exact dn' i j ij hj
  ·exact Sa pn' A0 hm' dn' k
theorem Wr{p:Array Nat}{s:Shared}{Q:Nat×Array Nat->Shared->Prop}(pn:Bz n p)(hn:1<=n)(k:∀r p',Bz n p'->r<=n->1<=r->Up rk p' r->Q (r,p') s):(kas_count n p).kasWp (rkC rk n) Q s:=by
 unfold kas_count;rw[KasT.kasWp_bind];have up1:Up rk p 1:=λi j ij hj=>by
  have h1:i=0:=by lia
  have h2:j=0:=by lia
  rw[h1,h2];exact L6 _
 refine RO pn (B5 _) A0 up1 λr h1 h2 up hs=>?_;by_cases e:r=n
 ·rw[Y4 (by simpa using e)];exact k r p pn A0 h1 up
 ·rw[Y0 (by simpa using e)];have hlt:=hs A0;by_cases h3:r > 1
  ·rw[Y4 h3];refine⟨pn.lt A0,pn.lt A0,?_⟩;by_cases c:kk rk p 0<kk rk p (r-1)
   ·rw[Y1 (show rk (p.getD 0 0)<rk (p.getD (r-1) 0)from c)];dsimp only;rw[Y4 rfl];exact k r p pn A0 h1 up
   ·rw[Y3 (show ¬rk (p.getD 0 0)<rk (p.getD (r-1) 0)from c)];dsimp only;rw[Y0 A5];have all:∀i,i<r->kk rk p i=kk rk p (r-1):=λi hi=>by
     have a:=up 0 i A0 hi;have b:=up i (r-1) A0 A0;lia
    have same:∀i,kk rk (kas_rev p 0 r) i=kk rk p i:=λi=>by
     rw[OW pn A0];split
     ·rw[all _ A0,all i A0]
     ·rfl
    refine Ss (pn.rev _ _) A0 (Dn.step (λi j ij hj=>?_) A0 ?_) k
    ·rw[same,same,all i A0,all j hj];exact L6 _
    ·rw[same,same];lia
  ·rw[Y0 h3];have:r=1:=by lia
   subst this;refine Ss pn A0 (Dn.step (λi j ij hj=>?_) A0 A0) k;have h1:i=0:=by lia
   have h2:j=0:=by lia
   rw[h1,h2];exact L6 _
theorem Mv{p:Array Nat}{k:Nat}(pn:Bz n p)(hk:k<n):∀{f l r:Nat}{s:Shared}{Q:Nat->Shared->Prop},l<=r->r<=k->r<=l+f->Up rk p k->(∀i,i<l->kk rk p i<=kk rk p k)->(∀i,r<=i->i<k->kk rk p k<=kk rk p i) ->
  (∀t,t<=k->(∀i,i<t->kk rk p i<=kk rk p k)->(∀i,t<=i->i<k->kk rk p k<=kk rk p i)->Q t s)->(kas_place p k f l r).kasWp (rkC rk n) Q s
 |0,l,r,s,Q,h1,h2,h3,up,a,b,c=>by
  have:l=r:=by lia
  subst this;exact c l h2 a b
 |f+1,l,r,s,Q,h1,h2,h3,up,a,b,c=>by
  unfold kas_place;by_cases e:l ≥ r
  ·rw[Y4 e];have:l=r:=by lia
   subst this;exact c l h2 a b
  ·rw[Y0 e];refine⟨pn.lt hk,pn.lt A0,?_⟩;by_cases d:kk rk p k<kk rk p ((l+r)/2)
   ·rw[Y1 (show rk (p.getD k 0)<rk (p.getD ((l+r)/2) 0)from d)];dsimp only;rw[Y4 rfl];refine Mv pn hk A0 A0 A0 up a (λi hi hk'=>?_) c;have:=up ((l+r)/2) i hi hk';lia
   ·rw[Y3 (show ¬rk (p.getD k 0)<rk (p.getD ((l+r)/2) 0)from d)];dsimp only;rw[Y0 A5];refine Mv pn hk A0 A0 A0 up (λi hi=>?_) b c;have:=up i ((l+r)/2) A0 A0;lia
theorem Wy:∀{f k:Nat}{p:Array Nat}{s:Shared}{Q:Array Nat->Shared->Prop},Bz n p->k+f=n->Up rk p k->(∀p',Bz n p'->Up rk p' n->Q p' s)->(kas_bin f p k).kasWp (rkC rk n) Q s
 |0,k,p,s,Q,pn,e,up,c=>c p pn (by rw[<-e];exact up)
 |f+1,k,p,s,Q,pn,e,up,c=>by
  unfold kas_bin;rw[KasT.kasWp_bind];refine Mv pn A0 (J7 _) (B5 _) A0 up (λi hi=>absurd hi (F5 _)) (λi h1 h2=>absurd h2 A0) λt ht a b=>?_;refine Wy (pn.bub _ _) A0 (λi j ij hj=>?_) c;rw[Wa pn A0 A0,Wa pn A0 A0,show k-(k-t)=t by lia];by_cases i1:i=t
  ·rw[Y4 i1];by_cases j1:j=t
   ·rw[Y4 j1];exact L6 _
   ·rw[Y0 j1,Y4 ⟨by lia,by lia⟩];exact b _ A0 A0
  ·rw[Y0 i1];by_cases i2:t<i/\i<=k
   ·rw[Y4 i2,Y0 A0,Y4 ⟨by lia,by lia⟩];exact up _ _ A0 A0
   ·rw[Y0 i2];by_cases j1:j=t
    ·rw[Y4 j1];exact a i A0
    ·rw[Y0 j1];by_cases j2:t<j/\j<=k
     ·rw[Y4 j2];exact up _ _ A0 A0
     ·rw[Y0 j2];exact up _ _ ij A0
theorem Sg{s:Shared}{Q:Array Nat->Shared->Prop}(hn:1<=n)(c:∀p',Bz n p'->Up rk p' n->Q p' s):(kas_sort n).kasWp (rkC rk n) Q s:=by
 unfold kas_sort;rw[KasT.kasWp_bind];refine Wr ⟨by simp,Array.Perm.refl _⟩ hn λr p' pn hr h1 up=>?_;dsimp only;split
 ·rw[show max r 1=r by lia];exact Wy pn A0 up c
 ·have:r=n:=by lia
  subst this;exact c p' pn up
theorem Vc{α:Type}{cmp:Nat->Nat->(Bool->Shared->Prop)->Shared->Prop}{s:Shared}(h:∀i j C,i<n->j<n->C (decide (rk i<rk j)) s->cmp i j C s):∀{t:KasT α}{Q:α->Shared->Prop},t.kasWp (rkC rk n) Q s->t.kasWp cmp Q s
 |.ret _,_,q=>q
 |.ask _ _ _,_,⟨h1,h2,h3⟩=>h _ _ _ h1 h2 (Vc h h3)
end
end L2
namespace L2
open PySem PySem.W PySem.Spec PyProof.Rows
def BR:List Int->List Int->Bool
 |[],[]=>false
 |[],_::_=>true
 |_::_,[]=>false
 |a::as,b::bs=>if a=b then BR as bs else decide (a<b)
theorem MM:∀a,BR a a=false
 |[]=>rfl
 |a::as=>by unfold BR;rw[Y4 rfl];exact MM as
theorem Jd:∀{a b c:List Int},BR a c=true->BR a b=true\/BR b c=true
 |[],[],_,h=>.inr h
 |[],_::_,_,_=>.inl rfl
 |_::_,_,[],h=>by cases h
 |a::as,[],c::cs,_=>.inr rfl
 |a::as,b::bs,c::cs,h=>by
  unfold BR at h⊢;by_cases ac:a=c
  ·subst ac;rw[Y4 rfl]at h;by_cases ab:a=b
   ·subst ab;rw[Y4 rfl,Y4 rfl];exact Jd h
   ·rw[Y0 ab,Y0 (λz=>ab z.symm)];rcases Int.lt_or_gt_of_ne ab with z|z
    ·exact .inl (Y1 z)
    ·exact .inr (Y1 z)
  ·rw[Y0 ac]at h;have h:=Z3 h;by_cases ab:a=b
   ·subst ab;rw[Y0 ac];exact .inr (Y1 h)
   ·rw[Y0 ab];by_cases z:a<b
    ·exact .inl (Y1 z)
    ·by_cases bc:b=c
     ·lia
     ·rw[Y0 bc];exact .inr (Y1 A0)
theorem Qo:∀{a b:List Int},BR a b=false->BR b a=false->a=b
 |[],[],_,_=>rfl
 |[],_::_,h,_=>by cases h
 |_::_,[],_,h=>by cases h
 |a::as,b::bs,h,h'=>by
  unfold BR at h h';by_cases ab:a=b
  ·subst ab;rw[Y4 rfl]at h h';rw[Qo h h']
  ·rw[Y0 ab]at h;rw[Y0 (λz=>ab z.symm)]at h';have:=of_decide_eq_false h;have:=of_decide_eq_false h';lia
theorem Qp{a b:List Int}(h:BR a b=true):BR b a=false:=by
 cases e:BR b a with
 |false=>rfl
 |true =>
  rcases Jd (b:=b) (show BR a b=true from h)with z|z
  ·
   have:BR a a=true\/BR a a=false:=by cases BR a a<;>simp
   exact absurd (lexI_two h e) A5
  ·rw[MM]at z;cases z
where lexI_two:∀{a b:List Int},BR a b=true->BR b a=true->false=true
 |[],[],h,_=>h
 |[],_::_,_,h=>h
 |_::_,[],h,_=>h
 |a::as,b::bs,h,h'=>by
  unfold BR at h h';by_cases ab:a=b
  ·subst ab;rw[Y4 rfl]at h h';exact lexI_two h h'
  ·rw[Y0 ab]at h;rw[Y0 (λz=>ab z.symm)]at h';have:=Z3 h;have:=Z3 h';lia
def Rb(rows:List (List Int))(i:Nat):Int:=((rows.countP λr=>BR r (rows.getD i []):Nat):Int)
theorem NW{α:Type}{p q:α->Bool}:∀{l:List α}{x:α},x∈l->(∀y,p y=true->q y=true)->p x=false->q x=true->l.countP p<l.countP q
 |y::l,x,hx,h,hp,hq=>by
  rw[List.countP_cons,List.countP_cons];have le:l.countP p<=l.countP q:=List.countP_mono_left λz _=>h z;rcases B9.mp hx with rfl|hx
  ·rw[hp,hq];simp only[F2,Z9,A1h];lia
  ·have:=NW hx h hp hq;by_cases py:p y=true
   ·rw[py,h y py];lia
   ·rw[Y0 py];split<;>lia
theorem Oy{rows:List (List Int)}{i j:Nat}(hi:i<rows.length):decide (Rb rows i<Rb rows j)=BR (rows.getD i []) (rows.getD j []):=by
 have mi:rows.getD i []∈rows:=by
  rw[C1,C0 hi];exact N4 hi
 unfold Rb;generalize rows.getD i []=a at *
 generalize rows.getD j []=b;cases h:BR a b with
 |true =>
  refine Y1 ?_;have:=NW (p:=λr=>BR r a) (q:=λr=>BR r b) mi (λy hy=>?_) (MM a) h
  ·lia
  ·rcases Jd (b:=b) hy with z|z
   ·exact z
   ·rw[Qp h]at z;cases z
 |false =>
  refine Y3 ?_;have:=List.countP_mono_left (l:=rows) (p:=λr=>BR r b) (q:=λr=>BR r a) λy _ hy=>?_
  ·lia
  ·rcases Jd (b:=a) hy with z|z
   ·exact z
   ·rw[h]at z;cases z
section
variable{prog:Program}{w:World}{A:Around}{E:Value->Shared->Prop}
theorem OT{b:Bool}{Q:Bool->Shared->Prop}{s:Shared}:∀{xs ys:List Int}{us vs:List Value}{i:Nat},AH (xs.map V.int) us->AH (ys.map V.int) vs->Q (BR xs ys) s->KatLex prog w A b (decide (xs.length<ys.length)) Q (us.zip vs) i s
 |[],[],_,_,i,.nil,.nil,q=>q
 |[],y::ys,_,_,i,.nil,.cons _ _,q=>by
  show Q (decide (0<ys.length+1)) s;rw[Y1 (Nat.succ_pos _)];exact q
 |x::xs,[],_,_,i,.cons _ _,.nil,q=>by
  show Q (decide (xs.length+1<0)) s;rw[Y3 (F5 _)];exact q
 |x::xs,y::ys,u::us,v::vs,i,.cons r1 t1,.cons r2 t2,q=>by
  obtain⟨t,rfl⟩:=(show ∃t,u=.int x t from r1)
  obtain⟨t',rfl⟩:=(show ∃t,v=.int y t from r2)
  refine wpAny_eqBool_int ?_;unfold BR at q;by_cases e:x=y
  ·subst e;rw[Y4 rfl]at q;simp only[beq_self_eq_true,A1h];have h:=OT (b:=b) (i:=i+1) t1 t2 q;rw[show decide ((x::xs).length<(x::ys).length)=decide (xs.length<ys.length) by simp];exact h
  ·rw[Y0 e]at q;have e':(x==y)=false:=by simpa using e
   simp only[e',F2,Z9];cases b && i==0 with
   |true=>exact oneLt_int q
   |false =>
    exact kat_one _ _ (wpAny_lt_int q)
theorem VX{s:Shared}{a:Addr}{vs:List Value}{n:Nat}{P:PySem.Fin->Shared->Prop}{κ:SortKind}{rk:Nat->Int}(ho:s.heap.get? a=some (seqObj "list" vs.toArray n))(h64:vs.length<64)
  (hk:∀(s':Shared)(Q:SortKind->Shared->Prop),(∀b o,b≠a->s.heap.get? b=some o->s'.heap.get? b=some o)->2<=vs.length->Q κ s'->wpAny (model prog w) A (keyKind' vs.toArray) Q E s')
  (hc:∀(s':Shared),(∀b o,b≠a->s.heap.get? b=some o->s'.heap.get? b=some o)->∀i j C,i<vs.length->j<vs.length->C (decide (rk i<rk j)) s'->kas_ask prog w A κ vs i j C s')
  (fin:∀p,Bz vs.length p->Up rk p vs.length->P (.done (.ret .none)) {s with heap:=sortedHeap s.heap a vs (p.toList.map λi=>vs.getD i Value.none).toArray}) :
  wpAny (model prog w) A (Builtin.«list.sort» ⟨[.ref a],[]⟩) P E s:=by
 have alt:a<s.heap.objs.size:=C6 ho;have len:vs.toArray.size=vs.length:=C7;have ln:vs.length<=sizeLine:=C4 (O2 h64) A3;rw[list_sort_plain];refine W8 (listItems_at ho rfl (W8 (A3d ho rfl ?_)));have ⟨e1,he1⟩:∃e1,(s.heap.update a (Obj.mapSeq λ_=>#[])).get? a=some (seqObj "list" #[] e1):=⟨_,get?_update_seq ho _⟩
 refine W8 (seqEpoch_at he1 rfl (W8 (wpAny_newTuple (W8 (A6b (X0 ?_))))));have hin:(((s.heap.update a (Obj.mapSeq λ_=>#[])).push (seqObj "tuple" vs.toArray 0)).push (seqObj "list" #[] 0)).get? a=some (seqObj "list" #[] e1):=by
  refine B1 _ (B1 _ he1)
 have keep:∀b o,b≠a->s.heap.get? b=some o->(((s.heap.update a (Obj.mapSeq λ_=>#[])).push (seqObj "tuple" vs.toArray 0)).push (seqObj "list" #[] 0)).get? b=some o:=λb o hb e =>
  B1 _ (B1 _ (by rw[M4 _ _ _ _ hb];exact e))
 show wpAny (model prog w) A _ P E {s with heap:=(((s.heap.update a (Obj.mapSeq λ_=>#[])).push (seqObj "tuple" vs.toArray 0)).push (seqObj "list" #[] 0))};dsimp only;by_cases few:vs.toArray.size<2
 ·rw[Y4 few,Y4 few];refine W8 (W9 ?_);rw[StateT.run_pure];refine W8 (W9 ?_);dsimp only;have eo:(arrOf (SortSt.mk' general' (vs.toArray.zip vs.toArray) #[] 7 none)).map (·.2)=((List.range vs.length).toArray.toList.map λi=>vs.getD i Value.none).toArray:=by
   rw[len]at few;clear hk hc fin keep hin ho;show(vs.toArray.zip vs.toArray).map (·.2)=_
   match vs,few with
   |[],_=>simp
   |[v],_=>simp
  refine W8 (seqEpoch_at hin rfl (W8 (A3d hin rfl ?_ (hsz2:=by rw[eo];simp;lia))));simp only[A5h,F2,Z9];rw[eo];refine W9 (fin _ ⟨by simp,Array.Perm.refl _⟩ λi j ij hj=>?_);have:i=j:=by lia
  rw[this];exact L6 _
 ·rw[Y0 few,Y0 few];have two:2<=vs.length:=by lia
  refine W8 (hk _ _ keep two ?_);refine W8 (X4 (kat_run (ks:=vs) (Q:=λst' s'=>s'={s with heap:=(((s.heap.update a (Obj.mapSeq λ_=>#[])).push (seqObj "tuple" vs.toArray 0)).push (seqObj "list" #[] 0))}/\failedOf st'=none/\∃p,Bz vs.length p/\Up rk p vs.length/\arrOf st'=p.map (kas_item (vs.toArray.zip vs.toArray))) (G:=λp s'=>s'={s with heap:=(((s.heap.update a (Obj.mapSeq λ_=>#[])).push (seqObj "tuple" vs.toArray 0)).push (seqObj "list" #[] 0))}/\Bz vs.length p/\Up rk p vs.length) rfl two h64 (λp st' s' h1 h2 h3 h4=>⟨h4.1,h3,p,h4.2.1,h4.2.2,h2⟩) (Vc (hc _ keep) (Sg A0 λp' h1 h2=>⟨rfl,h1,h2⟩))) ?_ λ_ _ e=>e);rintro⟨⟨⟩,st'⟩ s' ⟨rfl,hf,p,pn,up,ea⟩;dsimp only at hf ea⊢;have eo:=kat_snds (ks:=vs) (vs:=vs) rfl ea;refine W8 (seqEpoch_at hin rfl (W8 (A3d hin rfl ?_ (hsz2:=by rw[eo];simp only[C7,B0,F9,pn.sz];lia))));rw[hf,eo];simp only[A5h,F2,Z9];exact W9 (fin p pn up)
theorem QX{s:Shared}{l:Addr}{vs:List Value}{Q:Value->Shared->Prop}{κ:SortKind}{rk:Nat->Int}(hl:s.heap.IsList l vs.toArray)(h64:vs.length<64)
  (hk:∀(A:Around)(E:Value->Shared->Prop)(s':Shared)(Q:SortKind->Shared->Prop),(∀b o,s.heap.get? b=some o->s'.heap.get? b=some o)->2<=vs.length->Q κ s'->wpAny (model prog w) A (keyKind' vs.toArray) Q E s')
  (hc:∀(A:Around)(s':Shared),(∀b o,s.heap.get? b=some o->s'.heap.get? b=some o)->∀i j C,i<vs.length->j<vs.length->C (decide (rk i<rk j)) s'->kas_ask prog w A κ vs i j C s')
  (fin:∀p,Bz vs.length p->Up rk p vs.length->Q (.ref (s.heap.objs.size+1)) {s with heap:=sortedAll s.heap vs (p.toList.map λi=>vs.getD i Value.none).toArray}) :
  wpAny (model prog w) A (call (.builtin "sorted") [.ref l]) Q E s:=by
 have ln:vs.length<=sizeLine:=C4 (O2 h64) A3;refine Calls.call_function_entry kind_sorted plain_sorted entry_sorted (args_sorted1 _) ?_;unfold Builtin.«sorted»;refine W8 (m:=checkCount "sorted" 1 1 _) (W9 (W8 (collect_list hl (W8 (A6b ?_)))));have sz1:((s.heap.push (seqObj "list" #[] 0)).update s.heap.objs.size (Obj.mapSeq (· ++ vs.toArray))).objs.size=s.heap.objs.size+1:=by
  rw[Heap.size_update];exact size_push' ..
 have at1:(((s.heap.push (seqObj "list" #[] 0)).update s.heap.objs.size (Obj.mapSeq (· ++ vs.toArray))).push (seqObj "list" vs.toArray 0)).get? (s.heap.objs.size+1)=some (seqObj "list" vs.toArray 0):=by
  have:=C3 ((s.heap.push (seqObj "list" #[] 0)).update s.heap.objs.size (Obj.mapSeq (· ++ vs.toArray))) (show(seqObj "list" vs.toArray 0).isFreed=false from rfl);rw[sz1]at this;exact this
 have keep1:∀b o,s.heap.get? b=some o->(((s.heap.push (seqObj "list" #[] 0)).update s.heap.objs.size (Obj.mapSeq (· ++ vs.toArray))).push (seqObj "list" vs.toArray 0)).get? b=some o:=λb o e =>
  B1 _ (by rw[M4 _ _ _ _ (D8 (C6 e))];exact B1 _ e)
 show wpAny (model prog w) _ _ _ _ {s with heap:=(((s.heap.push (seqObj "list" #[] 0)).update s.heap.objs.size (Obj.mapSeq (· ++ vs.toArray))).push (seqObj "list" vs.toArray 0))};rw[sz1];have ne:∀b o,s.heap.get? b=some o->b≠s.heap.objs.size+1:=λb o e=>D8 (S3 (C6 e));refine W8 (X0 (Z6 slot_list_sort ⟨_,at1,rfl⟩ entry_list_sort (VX (κ:=κ) (rk:=rk) at1 h64 (λs' Q' kp t2 q=>hk _ _ s' Q' (λb o e=>kp b o (ne b o e) (keep1 b o e)) t2 q) (λs' kp=>hc _ s' λb o e=>kp b o (ne b o e) (keep1 b o e)) λp pn up=>⟨_,rfl,W9 ⟨_,rfl,fin p pn up⟩⟩) (args_list_sort _)))
end
section
variable{X:Cx}
theorem LA{H:Hp}{h:Heap}(ok:HOk X.prog X.w H h){items:List (Addr×List Int)}(hq:∀q∈items,H q.1=some (.tup (q.2.map V.int))/\q.2≠[]){i:Nat}(hi:i<items.length) :
  ∃(b:Addr)(o:Obj)(us:List Value)(m:Nat),(items.map λq=>Value.ref q.1).getD i Value.none=.ref b/\h.get? b=some o/\o.cls=.type "tuple" /\ o.data=.seq us.toArray m/\AH (((items.map (·.2)).getD i []).map V.int) us:=by
 have hm:=N4 hi;obtain⟨h1,h2⟩:=hq _ hm;obtain⟨_,its,r,o,e,c,n,d⟩:=(show Be X.prog X.w H h _ (.tup _)from ok _ _ h1)
 refine⟨_,o,its,n,?_,e,c,d,?_⟩
 ·rw[C1,B6,C0 hi];rfl
 ·rw[C1,B6,C0 hi];exact r
theorem JO{H:Hp}{h:Heap}(ok:HOk X.prog X.w H h):∀{items:List (Addr×List Int)},(∀q∈items,H q.1=some (.tup (q.2.map V.int))/\q.2≠[])->∃fs:List Value,KatTups h (items.map λq=>Value.ref q.1) fs/\fs.length=items.length/\∀v∈fs,∃x t,v=.int x t
 |[],_=>⟨[],.nil,rfl,λv hv=>nomatch hv⟩
 |q::items,hq=>by
  obtain⟨fs,h1,h2,h3⟩:=JO ok λq' hq'=>hq q' (B3 _ hq');obtain⟨e,ne⟩:=hq q (C2 ..);obtain⟨_,its,r,o,e1,c,n,d⟩:=(show Be X.prog X.w H h _ (.tup _)from ok _ _ e)
  match hx:q.2,ne with
  |x::xs,_ =>
   rw[hx]at r;cases r with
   |@cons _ u _ us r1 r2 =>
    obtain⟨t,rfl⟩:=(show ∃t,u=.int x t from r1)
    refine⟨.int x t::fs,.cons e1 c d A5 h1,by rw[D0,D0,h2],λv hv=>?_⟩;rcases B9.mp hv with rfl|hv
    ·exact⟨x,t,rfl⟩
    ·exact h3 v hv
def WO:List (Addr×List Int)->Prop:=List.Pairwise λp q=>BR q.2 p.2=false
theorem Ph:Do X (.builtin "sorted") (λxs H Q=>∃(p:Addr)(items:List (Addr×List Int)),xs=[.ref p]/\SqL X.K H p (items.map λq=>V.ref q.1)/\items.length<64/\(∀q∈items,H q.1=some (.tup (q.2.map V.int))/\q.2≠[]) /\
  ∀(L:Addr)(out:List (Addr×List Int)),H L=none->out.Perm items->WO out->Q (.ref L) (upd H L (.lst (out.map λq=>V.ref q.1)))):=by
 intro pins s σ H xs us Q I r h;obtain⟨p,items,rfl,hq,h64,ht,q⟩:=h;cases r with
 |cons r1 r2 =>
  cases r2;cases(show _=Value.ref p from r1);obtain⟨its,rv,pl,hz⟩:=I.list hq;have ei:its=items.map λq=>Value.ref q.1:=by
   clear pl hz ht q hq h64;induction items generalizing its with
   |nil=>cases rv;rfl
   |cons it items ih =>
    cases rv with
    |cons a1 a2 =>
     cases(show _=Value.ref it.1 from a1);rw[D5,ih _ a2]
  subst ei;have len:(items.map λq=>Value.ref q.1).length=items.length:=B0 _;have ln:items.length<=sizeLine:=C4 (O2 h64) A3;refine QX (κ:=tuples' true) (rk:=Rb (items.map (·.2))) pl.isList (by rw[len];exact h64) (λA E s' Q' kp two q'=>?_) (λA s' kp i j C hi hj c=>?_) λpm pn up=>?_
  ·obtain⟨fs,k1,k2,k3⟩:=JO (I.hok.kept kp) ht;refine kat_kind (T:=.type "int") k1 (by rw[k2,<-len];lia) (λv hv=>?_) rfl q';obtain⟨x,t,rfl⟩:=k3 v hv;exact .now
  ·rw[len]at hi hj;obtain⟨b,o,us,m,e1,e2,e3,e4,e5⟩:=LA (I.hok.kept kp) ht hi;obtain⟨b',o',us',m',f1,f2,f3,f4,f5⟩:=LA (I.hok.kept kp) ht hj;unfold kas_ask;rw[e1,f1];refine kat_lt e2 e4 f2 f4 ?_;rw[Oy (by rw[B0];exact hi)]at c;have:=OT (prog:=X.prog) (w:=X.w) (A:=A) (b:=true) (i:=0) e5 f5 c;have l1:=e5.length;have l2:=f5.length;rw[B0]at l1 l2;rw[C7,C7,<-l1,<-l2];exact this
  ·obtain⟨ep,at1⟩:=sortedAll_at s.heap (items.map λq=>Value.ref q.1) (pm.toList.map λi=>(items.map λq=>Value.ref q.1).getD i Value.none).toArray;have pl2:pm.toList.Perm (List.range items.length):=by
    have:=pn.pm;rw[len]at this
    simpa using this.toList
   have sz:pm.size=items.length:=pn.sz.trans len;have lt:∀i∈pm.toList,i<items.length:=λi hi=>by simpa using (pl2.mem_iff).mp hi
   let d:Addr×List Int:=(0,[])
   have out:(pm.toList.map λi=>items.getD i d).Perm items:=by
    refine(pl2.map _).trans ?_;refine List.Perm.of_eq (List.ext_getElem? λi=>?_);rw[B6];by_cases hi:i<items.length
    ·rw[P4 hi,C0 hi];show some (items.getD i d)=_;rw[C1,C0 hi];rfl
    ·rw[M0 (by simpa using hi),M0 A0];rfl
   have rows:WO (pm.toList.map λi=>items.getD i d):=by
    refine List.pairwise_iff_getElem.mpr λi j hi hj ij=>?_;rw[B0,F9,sz]at hi hj;have u:=up i j (O2 ij) (by rw[len];exact hj);have gi:pm.getD i 0=pm[i]'A0:=by simp[Array.getD,sz,hi]
    have gj:pm.getD j 0=pm[j]'A0:=by simp[Array.getD,sz,hj]
    have li:=lt _ (N4 (l:=pm.toList) (n:=i) (by rw[F9];lia));have lj:=lt _ (N4 (l:=pm.toList) (n:=j) (by rw[F9];lia));rw[P1]at li lj;unfold kk at u;rw[gi,gj]at u;rw[R4,R4,P1,P1];generalize pm[i]=a at *
    generalize pm[j]=b at *
    have:=Oy (rows:=items.map (·.2)) (i:=b) (j:=a) (by rw[B0];exact lj);rw[Y3 A0]at this;have gd:∀{c:Nat},c<items.length->(items.map (·.2)).getD c []=(items.getD c d).2:=λ{c} hc=>by
     rw[C1,B6,C1,C0 hc];rfl
    rw[gd lj,gd li]at this;exact this.symm
   refine⟨.ref (s.heap.objs.size+1),_,?_,rfl,q (s.heap.objs.size+1) _ (I.hok.fresh (O9 _)) out rows⟩;refine I.laid (a:=s.heap.objs.size+1) (λb o e=>sortedAll_old e) (O9 _) ⟨by rw[B0,B0,F9,sz];exact ln,_,ep,?_,at1⟩;have:∀{l:List Nat},(∀i∈l,i<items.length)->AH ((l.map λi=>items.getD i d).map λq=>V.ref q.1) (l.map λi=>(items.map λq=>Value.ref q.1).getD i Value.none):=by
    intro l;induction l with
    |nil=>intro _;exact .nil
    |cons i l ih =>
     intro hl;refine .cons ?_ (ih λj hj=>hl j (B3 _ hj));have hi:=hl i (C2 ..);show AX (V.ref (items.getD i d).1) ((items.map λq=>Value.ref q.1).getD i Value.none);rw[C1,C1,B6,C0 hi];rfl
   exact this lt
end
section
variable{X:Cx}
end
theorem blk_dT{a:Addr}{ob:Obj}{kvs:List (List Key×V)}{k:Nat}{cs:List Nat}{g:TG}{tc:TT}{te:TE}{σ:St}{H:Hp}{fin:List V->Hp->Prop}(Pv:Nat->List V->Hp->Prop)(h0:Pv 0 [] H)(hl:∀i acc H,i<=kvs.length->Pv i acc H->H a=some (.frz ob (.dT kvs)))
  (hs:∀i b kk v acc H,kvs[i]?=some (kk,v)->H b=some (.tup (kk.map kV))->Pv i acc H->Bt k cs g tc te σ (.ref b) acc H (Pv (i+1))) (hd:∀acc H,Pv kvs.length acc H->fin acc H):ET k cs g tc te (Itd a ob kvs) σ H fin:=by
 refine⟨λi m acc H=>m=kvs.length-i/\i<=kvs.length/\Pv i acc H,⟨kvs.length,by simp,J7 _,h0⟩,?_⟩;rintro i m acc H ⟨rfl,hi,p⟩;have q:=hl i acc H hi p;by_cases hlt:i<kvs.length
 ·refine .inr ⟨⟨q,hlt⟩,Pv (i+1),λacc' H' p'=>⟨kvs.length-(i+1),by lia,rfl,hlt,p'⟩,λx H' y=>?_⟩;obtain⟨rfl,b,kk,v,rfl,e1,e2⟩:=y;exact hs i b kk v acc _ e1 e2 p
 ·have e:i=kvs.length:=by lia
  subst e;exact .inl ⟨⟨q,B5 _⟩,hd acc H p⟩
end L2
namespace L2
open PySem PySem.W PySem.Spec PyProof.Rows
section
variable{prog:Program}{w:World}{A:Around}{E:Value->Shared->Prop}{s:Shared}{r d:Addr}{o:Obj}{es:Array DictEntry}{ep:Nat}
end
section
variable{X:Cx}{o:Expr}{apos cpos:Pos}{td:TE}
end
section
variable{X:Cx}
end
end L2
namespace L2
open PySem PySem.W PySem.Spec PyProof.Rows
def iDictF(tl:TE):TI:=fun σ H R=>tl σ H λx H1=>∃a kvs,x=.ref a/\Rd H1 a (.dT kvs)/\∀o H2,H2 a=some (.frz o (.dT kvs))->(∀b u,H1 b=some u->b≠a->H2 b=some u)->R (Itd a o kvs) H2
theorem Vk{X:Cx}{tg l:Expr}{tl:TE}(hl:PE X l tl):PI X tg l (iDictF tl):=by
 intro pins s σ H R I h;refine thn (hl pins s σ H _ I h) λv s1 ⟨x,H1,I1,r1,q1⟩=>?_;obtain⟨a,kvs,e,ea,q⟩:=q1;subst e;cases r1;rcases ea with ea|⟨o,ea⟩
 ·obtain⟨z,y,xs,r,o,es,ep,h1,h2,h3,h4,h5⟩:=(show Be X.prog X.w H1 s1.heap a (.dT kvs)from I1.hok a _ ea)
  have hz:es.size=kvs.length:=by rw[A4a h4,<-Y6 r]
  have I2:Inv X pins σ (upd H1 a (.frz o (.dT kvs))) s1:=GU (t':=s1.toks) I1 (by rw[ea];exact True.intro) ⟨rfl,λ_ _=>rfl⟩ ⟨o,h1⟩ ⟨h1,z,y,xs,KT.keeps r λc ys ec=>(by rw[Al (AS ec ea (λz=>nomatch z))];exact ec),o,es,ep,h1,h2,h3,h4,h5⟩;refine PL y h1 h2 h3 ?_;refine⟨s1.heap.objs.size,[s1.heap.objs.size],_,_,_,rfl,I2.kept (t':=s1.toks) λb o e=>B1 _ e,LU a _ o kvs es ep h3 hz,⟨_,C3 _ rfl,rfl,rfl⟩,λb hb=>?_,q o _ upd_same λb u e n=>by rw[Al n];exact e⟩;obtain rfl:b=s1.heap.objs.size:=by simpa using hb
  exact I2.fpOk (B5 _) (I2.hok.fresh (B5 _))
 ·obtain⟨h1,z,y,xs,r,o',es,ep,h1',h2,h3,h4,h5⟩:=(show Be X.prog X.w H1 s1.heap a (.frz o (.dT kvs))from I1.hok a _ ea)
  have eo:o=o':=Y5 (h1.symm.trans h1');subst eo;have hz:es.size=kvs.length:=by rw[A4a h4,<-Y6 r]
  refine PL y h1 h2 h3 ?_;refine⟨s1.heap.objs.size,[s1.heap.objs.size],_,_,_,rfl,I1.kept (t':=s1.toks) λb o e=>B1 _ e,LU a _ o kvs es ep h3 hz,⟨_,C3 _ rfl,rfl,rfl⟩,λb hb=>?_,q o _ ea λb u e n=>e⟩;obtain rfl:b=s1.heap.objs.size:=by simpa using hb
  exact I1.fpOk (B5 _) (I1.hok.fresh (B5 _))
section
variable{X:Cx}{CX:CXT}{k:Nat}{ps:List Str}{sp:Sp}{E:XK}{x:Str}{p pos:Pos}{e:Expr}{es:List Expr}{t:TA}{S:St->Prop}
end
section
variable{X:Cx}
end
section
variable{X:Cx}
end
section
variable{X:Cx}
theorem Tt(hu:X.A.units+64<cLine):OpR X (compareOp .NotEq) (λx y H Q=>∃(a b:Addr)(xs:List V),x=.ref a/\y=.ref b/\SqL X.K H a xs/\SqL X.K H b []/\Q (.bl (!decide (xs.length=0))) H):=by
 intro pins s σ H x y v u Q I rx ry h;obtain⟨a,b,xs,rfl,rfl,h1,h2,q⟩:=h;cases rx;cases ry;obtain⟨is,r1,p1,_⟩:=I.list h1;obtain⟨ys,r2,p2,_⟩:=I.list h2;cases r2;have hl:=r1.length;cases xs with
 |nil =>
  cases r1;exact PySem.SeqAt.RcNeAt.lists (e:=λ_=>true) p1.isList p2.isList rfl A0 (λj h1 h2=>absurd h1 (F5 _)) _ _ _ _ ⟨.bl _,H,I,rfl,q⟩
 |cons x xs =>
  cases is with
  |nil=>cases hl
  |cons i is=>exact PySem.SeqAt.RcNeAt.lists_lengths p1.isList p2.isList rfl A0 _ _ _ _ ⟨.bl _,H,I,rfl,q⟩
end
section
variable{X:Cx}
end
end L2
namespace L2
open PySem PySem.W PySem.Spec PyProof.Rows
def Ma:Sp:=λvs H Q _=>∃(t:Addr)(x y:Int)(r:List Int),vs=[.ref t]/\H t=some (.tup ((x::y::r).map V.int))/\∀u,H u=none->Q (.ref u) (upd H u (.tup [.int y,.int x]))
structure It3 where
 a:Addr
 x:Int
 y:Int
 r:List Int
def It3.ns(q:It3):List Int:=q.x::q.y::q.r
section
variable{X:Cx}{pins:List (Addr×Obj)}{σ:St}{H H':Hp}{s:Shared}{k:Nat}{f b:Addr}{fd:FuncData}{ps:List Str}
theorem CL.stay(fp:CL X pins H b)(hn:H' b=none):CL X pins H' b:=⟨hn,fp.2⟩
theorem CL.turn{h':Heap}{t':Nat}(fp:CL X pins H b)(I:Inv X pins σ H s)(kp:∀c o,c≠b->s.heap.get? c=some o->h'.get? c=some o):Inv X pins σ H {s with heap:=h',toks:=t'} :=
 I.turned kp fp.1 fp.2.1 fp.2.2.2.1 fp.2.2.2.2.1 fp.2.2.2.2.2
theorem CL.nost(fp:CL X pins H b)(I:Inv X pins σ H s):b∉frs X.stack:=λz=>by
 rcases B9.mp (I.stkSub b z)with y|y
 ·exact fp.2.1 y
 ·exact fp.2.2.1 y
theorem SF{A2:Around}{P:PySem.Fin->Shared->Prop}{E:Value->Shared->Prop}(I:Inv X pins σ H s){a kS:Addr}{e1 c:Nat}{ks out:Array Value}{st:SortSt}(fa:CL X pins H a)(fS:CL X pins H kS)(nka:kS≠a)(hk:s.heap.get? kS=some (seqObj "list" ks c))(ha:s.heap.get? a=some (seqObj "list" #[] e1))(eo:(arrOf st).map (·.2)=out)(hf:failedOf st=none)(hz:out.size<=sizeLine)(kz:ks.size<=sizeLine)
  (fin:∀(h':Heap)(c':Nat),Inv X pins σ H {s with heap:=h'}->h'.get? a=some (seqObj "list" out c')->P (.done (.ret .none)) {s with heap:=h'}):wpAny (model X.prog X.w) A2 (ksk_tail a false e1 (.ref kS) st) P E s:=by
 unfold ksk_tail;have I1:Inv X pins σ H {s with heap:=s.heap.update kS (Obj.mapSeq λ_=>#[])}:=fS.turn (t':=s.toks) I λb o hb e=>by rw[M4 _ _ _ _ hb];exact e
 have ha1:(s.heap.update kS (Obj.mapSeq λ_=>#[])).get? a=some (seqObj "list" #[] e1):=by rw[M4 _ _ _ _ (Z4 nka)];exact ha
 refine W8 (A3d hk rfl (W8 (wpAny_letGo (W8 (seqEpoch_at ha1 rfl (W8 (A3d ha1 rfl ?_ (hsz2:=?_))))))) (hsz:=kz))
 ·rw[hf];simp only[A5h,F2,Z9];rw[eo];refine W9 (fin _ _ (fa.turn (s:={s with heap:=s.heap.update kS (Obj.mapSeq λ_=>#[])}) (t':=s.toks) I1 λb o hb e=>by rw[M4 _ _ _ _ hb];exact e) (get?_update_seq ha1 _))
 ·simp only[F2,Z9];rw[eo];exact Nat.le_succ_of_le hz
end
end L2
namespace L2
open PySem PySem.W PySem.Spec PyProof.Rows
section
variable{prog:Program}{w:World}{A:Around}{E:Value->Shared->Prop}{s:Shared}{ks vs:List Value}{κ:SortKind}
theorem run_64{Q:SortSt->Shared->Prop}{rk:Nat->Int}(lk:ks.length=vs.length)(two:2<=vs.length)(h64:vs.length<64)(hc:∀i j C,i<vs.length->j<vs.length->C (decide (rk i<rk j)) s->kas_ask prog w A κ ks i j C s)
  (k:∀p st',Bz vs.length p->Up rk p vs.length->failedOf st'=none->arrOf st'=p.map (kas_item (ks.toArray.zip vs.toArray))->Q st' s):wpAny (model prog w) A ((sortRuns').run (SortSt.mk' κ (ks.toArray.zip vs.toArray) #[] 7 none)) (λr s'=>Q r.2 s') E s :=
 kat_run (G:=λp s'=>s'=s/\Bz vs.length p/\Up rk p vs.length) lk two h64 (λp st' s' h1 h2 h3 h4=>by
  obtain⟨rfl,h5,h6⟩:=h4;exact k p st' h5 h6 h3 h2) (Vc hc (Sg A0 λp' h1 h2=>⟨rfl,h1,h2⟩))
end
section
variable{X:Cx}{pins:List (Addr×Obj)}{σ:St}{H H':Hp}{s:Shared}{k:Nat}{f b:Addr}{fd:FuncData}{ps:List Str}
theorem Wc {A2:Around} {P:PySem.Fin->Shared->Prop} {E:Value->Shared->Prop} (F:AI X.prog X.w X.K X.mg X.base CX0 k f fd ps Ma) (hb:Ci X.K fd ps []) (hr:Cr k A2) (hfr:∀s H,Lw X.prog X.w X.K X.mg X.base X.A X.stack s H->Lw X.prog X.w X.K X.mg X.base A2 X.stack s H) (I:Inv X pins σ H s) {a:Addr} {items:List It3} {n:Nat} (ho:s.heap.get? a=some (seqObj "list" (items.map λq=>Value.ref q.a).toArray n)) (fa:CL X pins H a) (hit:∀q∈items,H q.a=some (.tup (q.ns.map V.int))) (h64:items.length<64)
  (fin:∀(p:Array Nat)(H':Hp)(s':Shared)(c:Nat),Bz items.length p->Up (Rb (items.map λq=>[q.y,q.x])) p items.length->Inv X pins σ H' s'->(∀b u,H b=some u->H' b=some u)->H' a=none->s'.heap.get? a=some (seqObj "list" (p.toList.map λi=>(items.map λq=>Value.ref q.a).getD i Value.none).toArray c)->P (.done (.ret .none)) s') :
  wpAny (model X.prog X.w) A2 (ksk_tree a (.ref f) false) P E s:=by
 have len:(items.map λq=>Value.ref q.a).length=items.length:=B0 _;have ln:items.length<=sizeLine:=C4 (O2 h64) A3;unfold ksk_tree;refine W8 (listItems_at ho rfl (W8 (A3d ho rfl ?_)));have ⟨e1,he1⟩:∃e1,(s.heap.update a (Obj.mapSeq λ_=>#[])).get? a=some (seqObj "list" #[] e1):=⟨_,get?_update_seq ho _⟩
 have I1:Inv X pins σ H {s with heap:=s.heap.update a (Obj.mapSeq λ_=>#[])}:=fa.turn (t':=s.toks) I λc o hc e=>by rw[M4 _ _ _ _ hc];exact e
 generalize s.heap.update a (Obj.mapSeq λ_=>#[])=h1 at he1 I1⊢;refine W8 (seqEpoch_at he1 rfl (W8 (wpAny_newTuple (W8 (A6b (X0 ?_))))));have I2:Inv X pins σ H {s with heap:=h1.push (seqObj "tuple" (items.map λq=>Value.ref q.a).toArray 0)}:=I1.kept (t':=s.toks) λb o e=>B1 _ e;have he2:=B1 (seqObj "tuple" (items.map λq=>Value.ref q.a).toArray 0) he1;show wpAny (model X.prog X.w) A2 (ksk_rest a (.ref f) false (items.map λq=>Value.ref q.a).toArray e1 (.ref (h1.push (seqObj "tuple" (items.map λq=>Value.ref q.a).toArray 0)).objs.size)) P E {s with heap:=(h1.push (seqObj "tuple" (items.map λq=>Value.ref q.a).toArray 0)).push (seqObj "list" #[] 0)};generalize h1.push (seqObj "tuple" (items.map λq=>Value.ref q.a).toArray 0)=h2 at I2 he2⊢;have fS:CL X pins H h2.objs.size:=I2.fpOk (B5 _) (I2.hok.fresh (B5 _));have he3:=B1 (seqObj "list" #[] 0) he2;have hk3:(h2.push (seqObj "list" #[] 0)).get? h2.objs.size=some (seqObj "list" #[] 0):=C3 _ rfl;have I3:Inv X pins σ H {s with heap:=h2.push (seqObj "list" #[] 0)}:=I2.kept (t':=s.toks) λb o e=>B1 _ e;have nka:h2.objs.size≠a:=U1 (C6 he2);generalize h2.push (seqObj "list" #[] 0)=h3 at he3 hk3 I3⊢;generalize h2.objs.size=kS at fS hk3 nka⊢;unfold ksk_rest;refine W8 (wpAny_rule ?_);rw[List.forIn_toArray];refine W8 (ksk_fold (λj s'=>∃(H':Hp)(us:List Addr)(c:Nat),Inv X pins σ H' s'/\(∀b u,H b=some u->H' b=some u)/\H' a=none/\H' kS=none/\s'.heap.get? kS=some (seqObj "list" (us.map Value.ref).toArray c)/\s'.heap.get? a=some (seqObj "list" #[] e1)/\us.length=j/\∀(i:Nat) u q,us[i]?=some u->items[i]?=some q->H' u=some (.tup ([q.y,q.x].map V.int))) (items.map λq=>Value.ref q.a) 0 _ ⟨H,[],0,I3,λb u e=>e,fa.1,fS.1,hk3,he3,rfl,λi u q e=>(nomatch e)⟩ ?_ ?_)
 ·rintro j x ⟨hp,gn,dr,tk,os⟩ hx ⟨H',us,c,I',kp,na,nk,hk,ha,lu,hus⟩;have jl:j<items.length:=by have:=(B7.mp hx).1;rw[len]at this;exact this
  rw[B6]at hx;obtain⟨q,eq,rfl⟩:=D6.mp hx;rw[O1]at lu⊢;have fa':=fa.stay na;have fS':=fS.stay nk;have tq:=kp _ _ (hit q (F6 eq));have sp0:Ma [V.ref q.a] H' (λv H''=>∃u,v=.ref u/\H' u=none/\H''=upd H' u (.tup [.int q.y,.int q.x])) E0:=⟨q.a,q.x,q.y,q.r,rfl,tq,λu hu=>⟨u,rfl,hu,rfl⟩⟩
  refine W8 (A2d (wpAny_call (A4g (F.run A2 X.stack _ H' ⟨[Value.ref q.a],[]⟩ ([Value.ref q.a]++[]) [V.ref q.a] _ E0 hr (hfr _ _ I'.env0) (hb _ [Value.ref q.a] I'.kIn (F.len _ _ _ _ sp0)) (show AH [V.ref q.a] [Value.ref q.a]from .cons rfl .nil) sp0) λr s'' hq=>?_)));cases r with
  |error e=>exact hq.elim
  |ok fl =>
   cases fl with
   |next=>exact hq.elim
   |brk=>exact hq.elim
   |cont=>exact hq.elim
   |ret u =>
    obtain⟨v,H2,os2,bare2,un,hok2,rv,u',rfl,hu',rfl⟩:=hq;obtain⟨hh,g2,d2,t2,os'⟩:=s'';obtain rfl:os'=os:=os2;cases(show _=Value.ref u' from rv);have I4:=I'.call (h':=hh) (g':=g2) (d':=d2) (t':=t2) (ch:=[]) un hok2 bare2 (λb z=>absurd z A5);have hk4:hh.get? kS=_:=un.keep _ _ hk nk (fS'.nost I') A5;have ha4:hh.get? a=_:=un.keep _ _ ha na (fa'.nost I') A5;have np:∀{b:Addr}{o:HO},H' b=some o->upd H' u' (.tup [.int q.y,.int q.x]) b=some o:=λ{b o} e=>by rw[Al (An e hu')];exact e
    have na4:upd H' u' (.tup [.int q.y,.int q.x]) a=none:=un.free _ _ ha na A5;have nk4:upd H' u' (.tup [.int q.y,.int q.x]) kS=none:=un.free _ _ hk nk A5;have ⟨c2,hk5⟩:∃c2,(hh.update kS (Obj.mapSeq (·.push (.ref u')))).get? kS=some (seqObj "list" ((us.map Value.ref).toArray.push (.ref u')) c2):=⟨_,get?_update_seq hk4 _⟩
    refine W8 (A3d hk4 rfl (W9 ⟨rfl,upd H' u' (.tup [.int q.y,.int q.x]),us++[u'],c2,(fS'.stay nk4).turn (t':=t2) I4 λb o hb e=>by rw[M4 _ _ _ _ hb];exact e,λb o e=>np (kp b o e),na4,nk4,?_,?_,by rw[B4,lu];rfl,λi u2 q2 eu eq2=>?_⟩) (hsz2:=?_))
    ·show(hh.update kS _).get? kS=_;rw[hk5];simp
    ·show(hh.update kS _).get? a=_;rw[M4 _ _ _ _ (Z4 nka)];exact ha4
    ·by_cases hi:i<j
     ·rw[J8 A0]at eu;exact np (hus i u2 q2 eu eq2)
     ·have:i=j:=by
       have:=(B7.mp eu).1;rw[B4,lu]at this;have:i<j+1:=this;lia
      subst this;rw[F3 A0,lu,U8]at eu;cases eu;rw[eq]at eq2;cases eq2;exact upd_same
    ·simp;lia
 ·rintro⟨hp,gn,dr,tk,os⟩ ⟨H',us,c,I',kp,na,nk,hk,ha,lu,hus⟩;rw[O1,len]at lu;have fa':=fa.stay na;have fS':=fS.stay nk;have lk:(us.map Value.ref).length=(items.map λq=>Value.ref q.a).length:=by rw[B0,len,lu]
  refine W8 (listItems_at hk rfl ?_);unfold ksk_end;dsimp only;simp only[F2,Z9];have sz:(items.map λq=>Value.ref q.a).toArray.size=items.length:=by rw[C7,len]
  by_cases few:(items.map λq=>Value.ref q.a).toArray.size<2
  ·rw[Y4 few,Y4 few];refine W8 (W9 ?_);rw[StateT.run_pure];refine W8 (W9 ?_);dsimp only;have eo:(arrOf (SortSt.mk' general' ((us.map Value.ref).toArray.zip (items.map λq=>Value.ref q.a).toArray) #[] 7 none)).map (·.2)=((List.range items.length).toArray.toList.map λi=>(items.map λq=>Value.ref q.a).getD i Value.none).toArray:=by
    rw[sz]at few;clear hit fin ho hus I' hk;show((us.map Value.ref).toArray.zip (items.map λq=>Value.ref q.a).toArray).map (·.2)=_
    match items,us,lu,few with
    |[],[],_,_=>simp
    |[v],[u],_,_=>simp
   refine SF (c:=c) I' fa' fS' nka hk ha eo rfl (by simp;lia) (by simp;lia) λh' c' I5 h5=>fin (List.range items.length).toArray H' _ c' ⟨by simp,Array.Perm.refl _⟩ (λi j ij hj=>by rw[sz]at few;have e:i=j:=A0;rw[e];exact L6 _) I5 kp na h5
  ·rw[Y0 few,Y0 few];have two:2<=items.length:=by lia
   have ktup:∀q∈(us.zip (items.map λq=>[q.y,q.x])),H' q.1=some (.tup (q.2.map V.int))/\q.2≠[]:=λq hq=>by
    obtain⟨i,hi⟩:=List.getElem?_of_mem hq;rw[List.getElem?_zip_eq_some,B6]at hi;obtain⟨h1,h2⟩:=hi;obtain⟨it,e1,e2⟩:=D6.mp h2;rw[<-e2];exact⟨hus i q.1 it h1 e1,by simp⟩
   have z1:((us.zip (items.map λq=>[q.y,q.x])).map λq=>Value.ref q.1)=us.map Value.ref:=by
    show List.map (Value.ref ∘ Prod.fst) _=_;rw[<-M7];rw[List.map_fst_zip (by rw[B0,lu];exact B5 _)]
   have zl:(us.zip (items.map λq=>[q.y,q.x])).length=items.length:=by rw[List.length_zip,B0,lu,Nat.min_self]
   have z2:((us.zip (items.map λq=>[q.y,q.x])).map (·.2))=items.map λq=>[q.y,q.x]:=List.map_snd_zip (by rw[B0,lu];exact B5 _);obtain⟨fs,k1,k2,k3⟩:=JO I'.hok ktup;rw[z1]at k1;refine W8 (kat_kind (T:=.type "int") k1 (by rw[k2,zl];lia) (λv hv=>?_) rfl ?_)
   ·obtain⟨x,t,rfl⟩:=k3 v hv;exact .now
   have kroom:(us.map Value.ref).toArray.size<=sizeLine:=by simp;lia
   refine W8 (X4 (run_64 (ks:=us.map Value.ref) (vs:=items.map λq=>Value.ref q.a) (κ:=tuples' true) (rk:=Rb (items.map λq=>[q.y,q.x])) (Q:=λst' s'=>s'={heap:=hp,gens:=gn,drawn:=dr,toks:=tk,os:=os}/\failedOf st'=none/\∃p,Bz items.length p/\Up (Rb (items.map λq=>[q.y,q.x])) p items.length/\arrOf st'=p.map (kas_item ((us.map Value.ref).toArray.zip (items.map λq=>Value.ref q.a).toArray))) lk (by rw[len];lia) (by rw[len];exact h64) ?_ λp st' h1 h2 h3 h4=>⟨rfl,h3,p,by rw[len]at h1;exact h1,by rw[len]at h2;exact h2,h4⟩) ?_ λ_ _ e=>e)
   ·intro i j C hi hj cc;rw[len]at hi hj;obtain⟨b,o,vs1,m,e1,e2,e3,e4,e5⟩:=LA I'.hok ktup (i:=i) (by rw[zl];exact hi);obtain⟨b',o',vs2,m',f1,f2,f3,f4,f5⟩:=LA I'.hok ktup (i:=j) (by rw[zl];exact hj);rw[z1]at e1 f1;rw[z2]at e5 f5;unfold kas_ask;rw[e1,f1];refine kat_lt e2 e4 f2 f4 ?_;rw[Oy (by rw[B0];exact hi)]at cc;have:=OT (prog:=X.prog) (w:=X.w) (A:=A2) (b:=true) (i:=0) e5 f5 cc;have l1:=e5.length;have l2:=f5.length;rw[B0]at l1 l2;rw[C7,C7,<-l1,<-l2];exact this
   rintro⟨⟨⟩,st'⟩ s' ⟨rfl,hf,p,pn,up,ea⟩;dsimp only at hf ea⊢;have eo:=kat_snds lk ea;refine SF (c:=c) I' fa' fS' nka hk ha eo hf (by simp only[C7,B0,F9,pn.sz];exact ln) kroom λh' c' I5 h5=>fin p H' _ c' pn up I5 kp na h5
def MZ(out:List It3):Prop:=out.Pairwise λp q=>BR [q.y,q.x] [p.y,p.x]=false
theorem RB {Q:VK} (F:AI X.prog X.w X.K X.mg X.base CX0 k f fd ps Ma) (hb:Ci X.K fd ps []) (hr:Cr (k+2) X.A) (I:Inv X pins σ H s) {p:Addr} {items:List It3} (hq:SqL X.K H p (items.map λq=>V.ref q.a)) (hit:∀q∈items,H q.a=some (.tup (q.ns.map V.int))) (h64:items.length<64)
  (q:∀(L:Addr)(out:List It3)(H':Hp),(∀b u,H b=some u->H' b=some u)->H' L=none->out.Perm items->MZ out->Q (.ref L) (upd H' L (.lst (out.map λq=>V.ref q.a)))) :
  wpAny (model X.prog X.w) X.A (call (.builtin "sorted") [.ref p] [("key",.ref f)]) (EP X pins σ Q) X.xe s:=by
 obtain⟨its,rv,pl,hz⟩:=I.list hq;have ei:its=items.map λq=>Value.ref q.a:=by
  clear pl hz q hq h64 hit;induction items generalizing its with
  |nil=>cases rv;rfl
  |cons it items ih =>
   cases rv with
   |cons a1 a2 =>
    cases(show _=Value.ref it.a from a1);rw[D5,ih _ a2]
 subst ei;have len:(items.map λq=>Value.ref q.a).length=items.length:=B0 _;have ln:items.length<=sizeLine:=C4 (O2 h64) A3;refine PyProof.Rows.call_function_entry_kw kind_sorted plain_sorted entry_sorted (ksk_s1 _ _) ?_;unfold Builtin.«sorted»;refine W8 (m:=checkCount "sorted" 1 1 _) (W9 (W8 (collect_list pl.isList (W8 (A6b ?_ (by rw[len];exact ln))) (by rw[len];exact ln))));have sz1:((s.heap.push (seqObj "list" #[] 0)).update s.heap.objs.size (Obj.mapSeq (· ++ (items.map λq=>Value.ref q.a).toArray))).objs.size=s.heap.objs.size+1:=by
  rw[Heap.size_update];exact size_push' ..
 have at1:(((s.heap.push (seqObj "list" #[] 0)).update s.heap.objs.size (Obj.mapSeq (· ++ (items.map λq=>Value.ref q.a).toArray))).push (seqObj "list" (items.map λq=>Value.ref q.a).toArray 0)).get? (s.heap.objs.size+1)=some (seqObj "list" (items.map λq=>Value.ref q.a).toArray 0):=by
  have:=C3 ((s.heap.push (seqObj "list" #[] 0)).update s.heap.objs.size (Obj.mapSeq (· ++ (items.map λq=>Value.ref q.a).toArray))) (show(seqObj "list" (items.map λq=>Value.ref q.a).toArray 0).isFreed=false from rfl);rw[sz1]at this;exact this
 have keep1:∀b o,s.heap.get? b=some o->(((s.heap.push (seqObj "list" #[] 0)).update s.heap.objs.size (Obj.mapSeq (· ++ (items.map λq=>Value.ref q.a).toArray))).push (seqObj "list" (items.map λq=>Value.ref q.a).toArray 0)).get? b=some o:=λb o e =>
  B1 _ (by rw[M4 _ _ _ _ (D8 (C6 e))];exact B1 _ e)
 show wpAny (model X.prog X.w) _ _ _ _ {s with heap:=(((s.heap.push (seqObj "list" #[] 0)).update s.heap.objs.size (Obj.mapSeq (· ++ (items.map λq=>Value.ref q.a).toArray))).push (seqObj "list" (items.map λq=>Value.ref q.a).toArray 0))};rw[sz1];have I1:Inv X pins σ H {s with heap:=(((s.heap.push (seqObj "list" #[] 0)).update s.heap.objs.size (Obj.mapSeq (· ++ (items.map λq=>Value.ref q.a).toArray))).push (seqObj "list" (items.map λq=>Value.ref q.a).toArray 0))}:=I.kept (t':=s.toks) keep1;have fD:CL X pins H (s.heap.objs.size+1):=I.fpOk (O9 _) (I.hok.fresh (O9 _));generalize ((s.heap.push (seqObj "list" #[] 0)).update s.heap.objs.size (Obj.mapSeq (· ++ (items.map λq=>Value.ref q.a).toArray))).push (seqObj "list" (items.map λq=>Value.ref q.a).toArray 0)=h1 at at1 I1⊢;refine W8 (X0 (PyProof.Rows.wpAny_call_entry_kw slot_list_sort ⟨_,at1,rfl⟩ entry_list_sort ?_ (ksk_l1 _ _)));rw[ksk_t1];refine Wc F hb hr.in1.in1 (λs H e=>e.in1.in1) I1 at1 fD hit h64 λpm H' s' c pn up I' kp na ha=>⟨_,rfl,W9 ⟨_,rfl,?_⟩⟩
 have pl2:pm.toList.Perm (List.range items.length):=by simpa using pn.pm.toList
 have sz:pm.size=items.length:=pn.sz;have lt:∀i∈pm.toList,i<items.length:=λi hi=>by simpa using (pl2.mem_iff).mp hi
 let d:It3:=⟨0,0,0,[]⟩
 have out:(pm.toList.map λi=>items.getD i d).Perm items:=by
  refine(pl2.map _).trans ?_;refine List.Perm.of_eq (List.ext_getElem? λi=>?_);rw[B6];by_cases hi:i<items.length
  ·rw[P4 hi,C0 hi];show some (items.getD i d)=_;rw[C1,C0 hi];rfl
  ·rw[M0 (by simpa using hi),M0 A0];rfl
 have rows:MZ (pm.toList.map λi=>items.getD i d):=by
  refine List.pairwise_iff_getElem.mpr λi j hi hj ij=>?_;rw[B0,F9,sz]at hi hj;have u:=up i j (O2 ij) hj;have gi:pm.getD i 0=pm[i]'A0:=by simp[Array.getD,sz,hi]
  have gj:pm.getD j 0=pm[j]'A0:=by simp[Array.getD,sz,hj]
  have li:=lt _ (N4 (l:=pm.toList) (n:=i) (by rw[F9];lia));have lj:=lt _ (N4 (l:=pm.toList) (n:=j) (by rw[F9];lia));rw[P1]at li lj;unfold kk at u;rw[gi,gj]at u;rw[R4,R4,P1,P1];generalize pm[i]=a at *
  generalize pm[j]=b at *
  have:=Oy (rows:=items.map λq=>[q.y,q.x]) (i:=b) (j:=a) (by rw[B0];exact lj);rw[Y3 A0]at this;have gd:∀{c:Nat},c<items.length->(items.map λq=>[q.y,q.x]).getD c []=[(items.getD c d).y,(items.getD c d).x]:=λ{c} hc=>by
   rw[C1,B6,C1,C0 hc];rfl
  rw[gd lj,gd li]at this;exact this.symm
 refine⟨.ref (s.heap.objs.size+1),_,I'.track (o:=.lst ((pm.toList.map λi=>items.getD i d).map λq=>V.ref q.a)) na (N7 (C4 I.sz (O9 _))) (N7 (C4 I.ok.bsz (C4 I.sz (O9 _)))) (Z4 fD.2.1) fD.2.2.2.2.1 fD.2.2.2.2.2 (λb hb z=>fD.2.2.1 (z▸hb)) ⟨by rw[B0,B0,F9,sz];exact ln,_,c,?_,ha⟩,rfl,q (s.heap.objs.size+1) _ H' kp na out rows⟩;have:∀{l:List Nat},(∀i∈l,i<items.length)->AH ((l.map λi=>items.getD i d).map λq=>V.ref q.a) (l.map λi=>(items.map λq=>Value.ref q.a).getD i Value.none):=by
  intro l;induction l with
  |nil=>intro _;exact .nil
  |cons i l ih =>
   intro hl;refine .cons ?_ (ih λj hj=>hl j (B3 _ hj));have hi:=hl i (C2 ..);show AX (V.ref (items.getD i d).a) ((items.map λq=>Value.ref q.a).getD i Value.none);rw[C1,C1,B6,C0 hi];rfl
 exact this lt
def tSortB(K:PySem.W.Frag)(t:TA):TE:=fun σ H Q=>t σ H λvs H1=>∃(p:Addr)(items:List It3),vs=[.ref p]/\SqL K H1 p (items.map λq=>V.ref q.a)/\items.length<64/\(∀q∈items,H1 q.a=some (.tup (q.ns.map V.int)))/\∀(L:Addr)(out:List It3)(H':Hp),(∀b u,H1 b=some u->H' b=some u)->H' L=none->out.Perm items->MZ out->Q (.ref L) (upd H' L (.lst (out.map λq=>V.ref q.a)))
theorem Rg{ky:Str}{e:Expr}{t:TA}{p kp kpos pos:Pos}(c:Cal X.prog X.w X.K X.mg X.base CX0 k ky ps Ma)(hr:Cr (k+2) X.A)(hg:Gl X "sorted")(hm:X.mg "sorted" = none)(hgk:Gl X ky)(ha:PA X [e] t)(hd:(ky==("__debug__" : Str))=false:=by decide)
  (he:backTo pos (starEach [e] X.env)=(false,eval e X.env)::backTo pos (starEach [] X.env):=by rfl) (hp1:(backTo pos (starEach [e] X.env)).any (·.1)=false:=by rfl):PE X (.Call (.Name "sorted" p) [e] [⟨some "key",.Name ky kp,kpos⟩] pos) (tSortB X.K t):=by
 intro pins s σ H Q I h;obtain⟨f,fd,F,hmk,hkp,hb⟩:=c.ex;refine A2g (IA I hg hm PyProof.Rows.boot_sorted ?_);refine PyProof.Rows.callWith_kw (thn (ha pos pins s σ H _ I h) λus s1 ⟨vs,H1,I1,r1,q1⟩=>?_) he hp1 rfl rfl;obtain⟨p',items,rfl,hq,h64,hit,q⟩:=q1;refine thn (pk_cons (nm:=some "key") (kpos:=kpos) (pe_gref (pos:=kp) hgk hmk hd) pk_nil pos pins s1 σ H1 (λzs H2=>zs=[.ref f]/\H2=H1) I1 ⟨rfl,rfl⟩) λws s2 ⟨zs,H2,I2,rz,e1,e2⟩=>?_;subst e1;subst e2;cases r1 with
 |cons a1 a2 =>
  cases a2;cases(show _=Value.ref p' from a1);cases rz with
  |cons b1 b2 =>
   cases b2;cases(show _=Value.ref f from b1);exact RB F hb hr I2 hq hit h64 q
end
def tFstr5(ta tc tb td te:TE):TE:=fun σ H Q=>ta σ H λx H1=>∃i:Int,x=.int i/\i.natAbs.log2<1920/\tc σ H1 λy H2=>∃z:Str,y=.str z/\z.length<=1000/\tb σ H2 λx2 H3=>∃j:Int,x2=.int j/\j.natAbs.log2<1920/\td σ H3 λy2 H4=>∃z2:Str,y2=.str z2/\z2.length<=1000/\te σ H4 λy3 H5=>∃z3:Str,y3=.str z3/\z3.length<=100000/\Q (.str (Str.ofString (toString i)++z++Str.ofString (toString j)++z2++z3)) H5
section
variable{X:Cx}
theorem Vo{a b c d e:Expr}{ta tb tc td te:TE}{p q r pos:Pos}(ha:PE X a ta)(hc:PE X c tc)(hb:PE X b tb)(hd:PE X d td)(he:PE X e te):PE X (.JoinedStr [.FormattedValue a (-1) none p,c,.FormattedValue b (-1) none q,d,.FormattedValue e (-1) none r] pos) (tFstr5 ta tc tb td te):=by
 intro pins s σ H Q I h;refine JoinedStr_many (K0 (K4 (thn (ha pins s σ H _ I h) λv s1 ⟨x,H1,I1,rx,i,ex,hz,q1⟩=>?_)));subst ex;obtain⟨t,rfl⟩:=rx;have hl:(Str.ofString (toString i)).length<=1921:=X8 hz;refine A2a hz ⟨?_,?_⟩
 ·rw[Jl];exact C4 hl A3
 refine K0 (thn (hc pins _ σ H1 _ (I1.tok _) q1) λv s2 ⟨y,H2,I2,ry,z,ez,hz2,q2⟩=>?_);subst ez;obtain⟨t',rfl⟩:=ry;have hs:(Str.empty++Str.ofString (toString i)++z).length<=3000:=by
  rw[Jl,A1c];exact C4 (P6 hl hz2) A3
 refine⟨C4 hs A3,?_⟩;refine K0 (K4 (thn (hb pins _ σ H2 _ I2 q2) λv s3 ⟨x3,H3,I3,rx3,j,ex3,hz3,q3⟩=>?_));subst ex3;obtain⟨t3,rfl⟩:=rx3;have hl3:(Str.ofString (toString j)).length<=1921:=X8 hz3;have hs3:(Str.empty++Str.ofString (toString i)++z++Str.ofString (toString j)).length<=5000:=by
  rw[A1c];exact C4 (P6 hs hl3) A3
 refine A2a hz3 ⟨C4 hs3 A3,?_⟩;refine K0 (thn (hd pins _ σ H3 _ (I3.tok _) q3) λv s4 ⟨y4,H4,I4,ry4,z4,ez4,hz4,q4⟩=>?_);subst ez4;obtain⟨t4,rfl⟩:=ry4;have hs4:(Str.empty++Str.ofString (toString i)++z++Str.ofString (toString j)++z4).length<=6000:=by
  rw[A1c];exact C4 (P6 hs3 hz4) A3
 refine⟨C4 hs4 A3,?_⟩;refine K0 (K4 (thn (he pins _ σ H4 _ I4 q4) λv s5 ⟨y5,H5,I5,ry5,z5,ez5,hz5,q5⟩=>?_));subst ez5;obtain⟨t5,rfl⟩:=ry5;have hs5:(Str.empty++Str.ofString (toString i)++z++Str.ofString (toString j)++z4++z5).length<=sizeLine:=by
  rw[A1c];exact C4 (P6 hs4 hz5) A3
 refine formatField_str (λt2 tk=>⟨hs5,joinParts_nil ?_ hs5⟩) (C4 hz5 A3);rw[Jl];exact⟨.str _,H5,(I5.tok _).tok _,⟨_,rfl⟩,q5⟩
def rMulS:R2:=λx y H Q=>∃(z:Str)(k:Int),x=.str z/\y=.int k/\(k=0\/k=1)/\Q (.str (if k=1 then z else Str.empty)) H
theorem Su:OpR X (binaryOp .Mult) rMulS:=by
 intro pins s σ H x y v u Q I rx ry h;obtain⟨z,k,rfl,rfl,hk,q⟩:=h;obtain⟨t,rfl⟩:=rx;obtain⟨t',rfl⟩:=ry;rcases hk with rfl|rfl
 ·refine PySem.P.mul_str_none A3 A3 ?_;exact⟨.str _,H,I.tok _,⟨_,rfl⟩,q⟩
 ·refine PySem.P.mul_str A3 (λ_ h=>by simp at h) (λ_ h=>by simp at h) ?_;rw[Y0 A3,Y4 A5];exact⟨.str _,H,I,⟨_,rfl⟩,q⟩
end
section
variable{prog:Program}{w:World}{A:Around}{E:Value->Shared->Prop}{s:Shared}{d it v:Addr}{o:Obj}{es:Array DictEntry}{ep i:Nat}
theorem Tl(hd:(d==sysModules)=false):MeetsIn prog w (Builtin.«dict.items» ⟨[.ref d],[]⟩) (λ_ R s=>s.TypeIs (.ref d) "dict" /\ R (.ok (.ret (.ref s.heap.objs.size))) {s with heap:=s.heap.push {cls:=.type "dict_items",data:=.fields #[.ref d]} }) :=
 .of_wp λA R s ⟨hm,h⟩=>by
  unfold Builtin.«dict.items» Builtin.Dict.noArgs Builtin.Dict.showsAll;refine W8 (W8 (A5b hm ?_));refine W9 ?_;rw[Y0 (by rw[hd];exact C9)];exact W8 (W9 (W8 (Z7 (W9 ⟨_,rfl,h⟩))))
theorem Tk{Q:Value->Shared->Prop}(hv:s.heap.IsItemsView v d)(ho:s.heap.get? d=some o)(da:o.data=.dict es ep)
  (q:Q (.ref s.heap.objs.size) {s with heap:=s.heap.push {cls:=.type "dict_itemiterator",data:=.fields #[.none,.bool false,.ref d,.int 0 0,.int es.size 0,.int ep 0,.none,.none]} }):wpAny (model prog w) A (pyIter (.ref v)) Q E s:=by
 obtain⟨ov,hov,hcv,hdv⟩:=id hv;refine wpAny_pyIter_slot hv.typeIs F.slot_dict_items_iter (Z6 F.slot_dict_items_iter hv.typeIs F.entry_dict_items_iter ?_ (F.args_dict_items_iter_1 _));unfold Builtin.«dict_items.__iter__» Builtin.Dict_items.dictOf Builtin.Dict_items.newIterator;refine W8 (W9 (W8 (W8 (K7 hov hdv (x:=.ref d) rfl (W9 ?_)))));refine W8 (W8 (A1e ho da (W8 (A2f ho da ?_))));have hown:Builtin.Dict_items.ownsTuple "dict_itemiterator" = true:=by decide
 simp only[hown,A1h];refine Z7 (W9 ⟨_,rfl,"dict_itemiterator",_,⟨_,C3 _ rfl,rfl⟩,F.slot_dict_itemiterator_next.lookup,?_⟩) (by simp only[sizeOk,Builtin.Dict_items.ownedTupleFields,C7,B4,D0,T6,sizeLine_eq];lia)
 simpa[rawInt,Builtin.Dict_items.ownedTupleFields] using q
theorem Tm{ok ov:Value}{Q:Option Value->Shared->Prop}(hit:IsItemIter s.heap it d i es.size ep ok ov)(hod:s.heap.get? d=some o)(hdd:o.data=.dict es ep)(hi:i<es.size)
  (q:∀h',IsItemIterOut h' it d (i+1) es.size ep es[i].key es[i].val s.heap.objs.size->h'.get? s.heap.objs.size=some {cls:=.type "tuple",data:=.seq #[es[i].key,es[i].val]} ->
   (∀b o,b≠it->s.heap.get? b=some o->h'.get? b=some o)->Q (some (.ref s.heap.objs.size)) {s with heap:=h'}):wpAny (model prog w) A (pyNext (.ref it)) Q E s:=by
 obtain⟨hp,g,dr,tk,os⟩:=s;have hT:Shared.TypeIs ⟨hp,g,dr,tk,os⟩ (.ref it) "dict_itemiterator" := ⟨_,hit,rfl⟩
 unfold pyNext;refine W8 (A2d (wpAny_callSpecial?_slot (name:=Str.ofString "__next__") hT A0h (Z6 A0h hT F.entry_dict_itemiterator_next ?_ (F.args_dict_itemiterator_next_1 _))));refine W8 (W9 ?_);refine W8 ?_;refine W8 ?_
 (first|refine W8 (A0b hT (W9 ?_))|refine W8 (A2b hT (W9 ?_)));refine W8 (A5g hit rfl ?_)
 have hown:Builtin.Dict_items.ownsTuple "dict_itemiterator" = true:=A3;simp only[hown,A1h];show wpAny _ _ (if(Value.ref d==Value.none)=true then _ else _) _ _ _;rw[Y0 (show ¬((Value.ref d==Value.none)=true)from C9)];refine W8 (W9 ?_);refine W8 (A1e hod hdd ?_);rw[Y0 A5];refine W8 (W9 ?_);refine W8 (A2f hod hdd ?_);rw[Y0 A5];refine W9 ?_;simp only[show ¬((i:Int)<0)from by lia,Z9,F1,M9 hi];refine W8 ?_
 (first|refine W8 (A0b hT (W9 ?_))|refine W8 (A2b hT (W9 ?_)));refine W8 (A4h hT ?_)
 show wpAny _ _ (setField (.ref it) 3 (rawInt ((i:Int)+1)) >>= _) _ _ ⟨hp,g,dr,tk,os⟩;refine W8 (A2h hit A5 λh1 e1 s1=>?_);replace s1:Heap.SameBut it hp h1:=s1;replace e1:IsItemIter h1 it d (i+1) es.size ep ok ov:=by
  have e:((i+1:Nat):Int)=(i:Int)+1:=by lia
  unfold IsItemIter;rw[e];simpa[rawInt] using e1
 have hT1:Shared.TypeIs ⟨h1,g,dr,tk,os⟩ (.ref it) "dict_itemiterator" := ⟨_,e1,rfl⟩
 refine W8 (X0 ?_);refine W8 (A4h hT1 ?_);refine W8 (A4h hT1 ?_);show wpAny _ _ (Builtin.Dict_items.pairFromOwner (.ref it) 6 es[i].key es[i].val) _ _ ⟨h1,g,dr,tk,os⟩;unfold Builtin.Dict_items.pairFromOwner;refine W8 (wpAny_newTuple ?_);have e2:IsItemIter (h1.push {cls:=.type "tuple",data:=.seq #[es[i].key,es[i].val]}) it d (i+1) es.size ep ok ov:=B1 _ e1;have z1:h1.objs.size=hp.objs.size:=s1.1;have il:it<hp.objs.size:=C6 hit;have t2:(h1.push {cls:=.type "tuple",data:=.seq #[es[i].key,es[i].val]}).get? hp.objs.size=some {cls:=.type "tuple",data:=.seq #[es[i].key,es[i].val]}:=by rw[<-z1];exact C3 _ rfl
 have k2:∀b o,b≠it->hp.get? b=some o->(h1.push {cls:=.type "tuple",data:=.seq #[es[i].key,es[i].val]}).get? b=some o:=λb o hb e=>B1 _ (s1.extBut b o hb e);generalize h1.push {cls:=.type "tuple",data:=.seq #[es[i].key,es[i].val]}=h2 at e2 t2 k2;show wpAny _ _ (Builtin.Dict_items.ownedTupleIsFree (.ref it) >>= _) _ _ ⟨h2,g,dr,tk,os⟩;rw[z1];clear e1 s1 hT1 z1;refine W8 ?_;unfold Builtin.Dict_items.ownedTupleIsFree;refine W8 (K7 e2 rfl (x:=.none) rfl (W9 ?_));simp only[A1h];refine W8 (K7 e2 rfl (x:=ok) rfl ?_);refine W8 (K7 e2 rfl (x:=ov) rfl ?_);refine W8 (A2h e2 A5 λh3 e3 s3=>?_);replace s3:Heap.SameBut it h2 h3:=s3;replace e3:IsItemIter h3 it d (i+1) es.size ep es[i].key ov:=e3;refine W8 (A2h e3 A5 λh4 e4 s4=>?_);replace s4:Heap.SameBut it h3 h4:=s4;replace e4:IsItemIter h4 it d (i+1) es.size ep es[i].key es[i].val:=e4;refine W8 (A2h e4 A5 λh5 e5 s5=>?_);replace s5:Heap.SameBut it h4 h5:=s5;replace e5:IsItemIterOut h5 it d (i+1) es.size ep es[i].key es[i].val hp.objs.size:=e5;refine W8 (A2h e5 A5 λh6 e6 s6=>?_);replace s6:Heap.SameBut it h5 h6:=s6;replace e6:IsItemIterOut h6 it d (i+1) es.size ep es[i].key es[i].val hp.objs.size:=e6;have on:∀b o,b≠it->h2.get? b=some o->h6.get? b=some o:=λb o hb e=>s6.extBut b o hb (s5.extBut b o hb (s4.extBut b o hb (s3.extBut b o hb e)));exact W8 (wpAny_letGo (W9 (W9 ⟨_,rfl,W9 (q h6 e6 (on _ _ (U1 il) t2) λb o hb e=>on b o hb (k2 b o hb e))⟩)))
theorem Ve{ok ov:Value}{Q:Option Value->Shared->Prop}(hh:A.handled=none)(hit:IsItemIter s.heap it d i es.size ep ok ov)(hod:s.heap.get? d=some o)(hdd:o.data=.dict es ep)(hi:es.size<=i)
  (q:∀h',Heap.ExtBut it s.heap h'->Q none {s with heap:=h'}):wpAny (model prog w) A (pyNext (.ref it)) Q E s:=by
 have hT:s.TypeIs (.ref it) "dict_itemiterator" := ⟨_,hit,rfl⟩
 unfold pyNext;refine W8 (A2d (wpAny_callSpecial?_slot (name:=Str.ofString "__next__") hT A0h (Z6 A0h hT F.entry_dict_itemiterator_next ?_ (F.args_dict_itemiterator_next_1 _))));refine W8 (W9 ?_);refine W8 ?_;refine W8 ?_
 (first|refine W8 (A0b hT (W9 ?_))|refine W8 (A2b hT (W9 ?_)));refine W8 (A5g hit rfl ?_)
 have hown:Builtin.Dict_items.ownsTuple "dict_itemiterator" = true:=A3;simp only[hown,A1h];show wpAny _ _ (if(Value.ref d==Value.none)=true then _ else _) _ _ s;rw[Y0 (show ¬((Value.ref d==Value.none)=true)from C9)];refine W8 (W9 ?_);refine W8 (A1e hod hdd ?_);rw[Y0 A5];refine W8 (W9 ?_);refine W8 (A2f hod hdd ?_);rw[Y0 A5];refine W9 ?_;simp only[show ¬((i:Int)<0)from by lia,Z9,F1,Array.getElem?_eq_none hi];refine W8 ?_
 (first|refine W8 (A0b hT (W9 ?_))|refine W8 (A2b hT (W9 ?_)))
 show wpAny _ _ (setField (.ref it) 2 .none >>= _) _ _ s;refine W8 (K9 hit rfl A5 ?_);show wpAny _ _ (newExc (.type "StopIteration") [] >>= _) _ _ _;refine W8 ?_;simp only[newExc,newTuple];refine W8 (Z7 ?_ (by size_fits));refine W8 (m:=firstArgMember _ _) (A5f (a:=Value.none) (by first|rfl|(simp only[firstArgMember];rfl)) ?_);refine Z7 ?_ (by size_fits);simp only[raiseNew];refine W8 (wpAny_handled ?_);rw[show A.in1.handled=none from hh];refine W8 (W9 (wpAny_throw ?_));refine W8 (A3e (T:="StopIteration") (b:=true) ⟨_,C3 _ rfl,rfl⟩ isSubtype_stop ?_);exact W9 (q _ (((A2c ..).extBut.push _).push _))
end
theorem KT.at2{H:Hp}{kvs:List (List Key×V)}{xs:List (List Key×Addr×Value)}{i:Nat}{x:List Key×Addr×Value}(r:KT H kvs xs):xs[i]?=some x->∃v,kvs[i]?=some (x.1,v)/\H x.2.1=some (.tup (x.1.map kV))/\AX v x.2.2:=by
 induction r generalizing i with
 |nil=>intro e;simp at e
 |@cons p q ps qs h t ih =>
  intro e;cases i with
  |zero =>
   have e:q=x:=by simpa using e
   subst e;obtain⟨h1,h2,h3⟩:=h;exact⟨p.2,by rw[List.getElem?_cons_zero,<-h1],by rw[<-h1];exact h2,h3⟩
  |succ i =>
   obtain⟨v,e1,e2⟩:=ih (i:=i) (by simpa using e);exact⟨v,by simpa using e1,e2⟩
def Iti(a:Addr)(o:Obj)(kvs:List (List Key×V)):It :=
 ⟨λi H=>H a=some (.frz o (.dT kvs))/\i<kvs.length,λi H x H'=>∃T b k v,x=.ref T/\H T=none/\H'=upd H T (.tup [.ref b,v])/\kvs[i]?=some (k,v)/\H b=some (.tup (k.map kV)),λi H=>H a=some (.frz o (.dT kvs))/\kvs.length<=i⟩
theorem QP{P:Program}{w:World}{K:PySem.W.Frag}{ts:List Expr}{n:Nat}{tpos:Pos}(a it:Addr)(o:Obj)(kvs:List (List Key×V))(es:Array DictEntry)(ep:Nat)(da:o.data=.dict es ep)(hz:es.size=kvs.length):Ny P w K (.Tuple ts n tpos) (Iti a o kvs) [it] it (λi h=>∃ok ov,IsItemIter h it a i es.size ep ok ov) where
 mem:=by simp
 obj:=λi h st b hb=>by
  obtain rfl:b=it:=by simpa using hb
  obtain⟨ok,ov,e⟩:=st;exact⟨_,e,λv z=>(by cases z)⟩
 keep:=λi h h' st k=>by
  obtain⟨ok,ov,e⟩:=st;exact⟨ok,ov,k it A5 _ e⟩
 item:=by
  intro X hP hw hK hc i pins s σ H E I hf st hg;subst hP hw hK;obtain⟨ok,ov,he⟩:=st;obtain⟨hq,hi⟩:=hg;obtain⟨ga,xs,es',ep',kt,da',el⟩:=Pf I.hok hq;rw[da]at da';cases da';have hi':i<es.size:=by lia
  have lx:i<xs.length:=by rw[<-A4a el];exact hi'
  obtain⟨v,e1,e2,rv⟩:=KT.at2 kt (C0 lx);have ee:es[i]=entryOfKey (tupleKind (BG X.prog X.w)) xs[i]:=by
   have:=entry_at el i;rw[M9 hi',C0 lx]at this;exact Y5 this
  have ek:es[i].key=.ref xs[i].2.1:=by rw[ee];rfl
  have ev:es[i].val=xs[i].2.2:=by rw[ee];rfl
  refine Tm he ga da hi' λg gO gT gk=>⟨_,rfl,?_⟩
  refine wpAny_letOwnedTupleGo_items (s:={s with heap:=g}) gO λg2 gE2 sb=>?_;have elt:it<s.heap.objs.size:=C6 he;have kk:∀a o,a∉[it]->s.heap.get? a=some o->g2.get? a=some o:=λa o ha t=>(sb.2 a (λz=>ha (by simp[z]))).trans (gk a o (λz=>ha (by simp[z])) t);obtain⟨nT,J2⟩:=I.pair (tk:=s.toks) (x:=.ref xs[i].2.1) (y:=v) (u:=es[i].key) (v:=es[i].val) kk hf ek (ev▸rv) ((sb.2 _ (U1 elt)).trans gT);refine⟨.ref s.heap.objs.size,_,J2,rfl,⟨_,xs[i].2.1,xs[i].1,v,rfl,nT,rfl,e1,e2⟩,⟨_,_,gE2⟩,λb hb=>?_⟩;have t:=(hf b hb).1;obtain rfl:b=it:=by simpa using hb
  rw[Al (D8 elt)];exact t
 done:=by
  intro X hP hw hK hc i pins s σ H E I hf st hg;subst hP hw hK;obtain⟨ok,ov,he⟩:=st;obtain⟨hq,hi⟩:=hg;obtain⟨ga,_⟩:=Pf I.hok hq;obtain⟨f0,f1,f2,f3,f4,f5⟩:=hf it A5;exact Ve (I.ok.hd hc) he ga da A0 λh' eb=>⟨rfl,I.turned (t':=s.toks) (λb o hb e=>eb b o hb e) f0 f1 f3 f4 f5⟩
 self:=λA i s Q E st h=>by
  obtain⟨ok,ov,he⟩:=st;have hT:s.TypeIs (.ref it) "dict_itemiterator" := ⟨_,he,rfl⟩
  refine wpAny_pyIter_slot hT F.slot_dict_itemiterator_iter (Z6 F.slot_dict_itemiterator_iter hT (entryFor_alias (b:=Builtin.«dict_keyiterator.__iter__») (id':="dict_keyiterator.__iter__") (by kernel_rfl) rfl A1 (by kernel_rfl)) ?_ (F.args_dict_itemiterator_iter_1 _));show wpAny _ _ (ret (.ref it)) _ _ s;exact W9 ⟨_,rfl,"dict_itemiterator",_,hT,F.slot_dict_itemiterator_next.lookup,h⟩
def iItems(tl:TE):TI:=fun σ H R=>tl σ H λx H1=>∃a kvs,x=.ref a/\H1 a=some (.dT kvs)/\∀o,R (Iti a o kvs) (upd H1 a (.frz o (.dT kvs)))
theorem Vj{X:Cx}{o:Expr}{ts:List Expr}{n:Nat}{tpos apos cpos:Pos}{tl:TE}(ho:PE X o tl)(hbase:attributeBase o "items" X.env (eval o X.env)=eval o X.env:=by rfl)(hline:(apos.endLine==cpos.line)=true:=by rfl):PI X (.Tuple ts n tpos) (.Call (.Attribute o "items" apos) [] [] cpos) (iItems tl):=by
 intro pins s σ H R I h;refine wpAny_Call_method0_late hbase hline (thn (ho pins s σ H _ I h) λv s1 ⟨x,H1,I1,r1,q1⟩=>?_);obtain⟨a,kvs,e,ea,q⟩:=q1;subst e;cases r1;obtain⟨z,y,xs,r,o,es,ep,h1,h2,h3,h4,h5⟩:=(show Be X.prog X.w H1 s1.heap a (.dT kvs)from I1.hok a _ ea)
 have hz:es.size=kvs.length:=by rw[A4a h4,<-Y6 r]
 have I2:Inv X pins σ (upd H1 a (.frz o (.dT kvs))) s1:=GU (t':=s1.toks) I1 (by rw[ea];exact True.intro) ⟨rfl,λ_ _=>rfl⟩ ⟨o,h1⟩ ⟨h1,z,y,xs,KT.keeps r λc ys ec=>(by rw[Al (AS ec ea (λz=>nomatch z))];exact ec),o,es,ep,h1,h2,h3,h4,h5⟩;have hT:s1.TypeIs (.ref a) "dict" := ⟨o,h1,h2.1⟩
 refine⟨"dict","dict.items",F.plainAttrs_dict,F.slot_dict_items,F.type_dict_items,hT,?_,A3c rfl (PySem.evalArgs_none (call_meetsIn F.slot_dict_items hT F.entry_dict_items (F.args_dict_items_1 _) (Tl y) ⟨hT,?_⟩))⟩
 ·intro b eb;cases eb;exact⟨o,h1,h2.2.1⟩
 refine Tk (d:=a) (o:=o) (es:=es) (ep:=ep) ⟨_,C3 _ rfl,rfl,rfl⟩ (B1 _ h1) h3 ?_;have I3:Inv X pins σ (upd H1 a (.frz o (.dT kvs))) {s1 with heap:=s1.heap.push {cls:=.type "dict_items",data:=.fields #[.ref a]} }:=I2.kept (t':=s1.toks) λb o e=>B1 _ e;refine⟨_,[_],_,_,_,rfl,I3.kept (t':=s1.toks) λb o e=>B1 _ e,QP a _ o kvs es ep h3 hz,⟨.none,.none,C3 _ rfl⟩,λb hb=>?_,q o⟩;obtain rfl:=C5.mp hb;exact I3.fpOk (B5 _) (I3.hok.fresh (B5 _))
section
variable{a:Addr}{o:Obj}{kvs:List (List Key×V)}{σ:St}{H:Hp}{k:Nat}{cs:List Nat}{g:TG}{tc:TT}{te:TE}{fin:List V->Hp->Prop}
theorem Uk(Pv:Nat->List V->Hp->Prop)(h0:Pv 0 [] H)(hl:∀i acc H,Pv i acc H->H a=some (.frz o (.dT kvs)))
  (hs:∀i b key v acc H T,kvs[i]?=some (key,v)->H b=some (.tup (key.map kV))->Pv i acc H->H T=none->Bt k cs g tc te σ (.ref T) acc (upd H T (.tup [.ref b,v])) (Pv (i+1))) (hd:∀acc H,Pv kvs.length acc H->fin acc H):ET k cs g tc te (Iti a o kvs) σ H fin:=by
 refine⟨λi m acc H=>m=kvs.length-i/\i<=kvs.length/\Pv i acc H,⟨kvs.length,by simp,J7 _,h0⟩,?_⟩;rintro i m acc H ⟨rfl,hi,p⟩;have q:=hl i acc H p;by_cases hlt:i<kvs.length
 ·refine .inr ⟨⟨q,hlt⟩,Pv (i+1),λacc' H' p'=>⟨kvs.length-(i+1),by lia,rfl,hlt,p'⟩,λx H' y=>?_⟩;obtain⟨T,b,key,v,rfl,nT,rfl,hz,hb⟩:=y;exact hs i b key v acc _ T hz hb p nT
 ·have e:i=kvs.length:=by lia
  subst e;exact .inl ⟨⟨q,B5 _⟩,hd acc H p⟩
end
end L2
namespace PySem
open Sem (wp)
namespace F
theorem OS:typeLookup (.type "list") "keys" = pure none:=by rw[typeLookup_type,builtinLookup_eq_fast];kernel_rfl
theorem Qn:typeLookup (.type "list") "__getattr__" = pure none:=by rw[typeLookup_type,builtinLookup_eq_fast];kernel_rfl
end F
section
variable{prog:Program}{w:World}{A:Around}{E:Value->Shared->Prop}{h:Heap}{g:Array GenState}{d:Drawn}{t:Nat}{os:OsState}{a:Addr}{its:Array Value}{n:Nat}
theorem Rz{tk:Tok}{Q:Fin->Shared->Prop}(hx:h.get? a=some {cls:=.type "list",dict:=none,data:=.seq its n,slots:=#[]})(hh:A.handled=none)(hq:∀h' t' e,Heap.NewAttrErr h h' e (.ref a) "keys" -> E (.ref e) ⟨h',g,d,t',os⟩) :
  wpAny (model prog w) A (Builtin.«object.__getattribute__» ⟨[.ref a,.str "keys" tk],[]⟩) Q E ⟨h,g,d,t,os⟩:=by
 have hT:(⟨h,g,d,t,os⟩:Shared).TypeIs (.ref a) "list" := ⟨_,hx,rfl⟩
 have f4:=F.OS
 repeat (any_goals (first|assumption|wp_step))
 exact wpAny_raiseAttrError hh hq A1
theorem keys_by{tk:Tok}{Q:Value->Shared->Prop}(hx:h.get? a=some {cls:=.type "list",dict:=none,data:=.seq its n,slots:=#[]})(hh:A.handled=none)(hq:∀h' t' e,Heap.NewAttrErr h h' e (.ref a) "keys" -> E (.ref e) ⟨h',g,d,t',os⟩):wpAny (model prog w) A (getAttrBy (.ref a) (.str "keys" tk) false) Q E ⟨h,g,d,t,os⟩:=by
 have hT:(⟨h,g,d,t,os⟩:Shared).TypeIs (.ref a) "list" := ⟨_,hx,rfl⟩
 have f1:=sub_AttributeError;have f2:=F.slot_list_getattribute.lookup;have f3:=F.slot_list_getattribute.bind (.ref a);have f5:=F.Qn
 repeat (any_goals (first|assumption|wp_step))
 refine A5e F.slot_list_getattribute.plain F.entry_list_ga (F.slot_list_getattribute.check _ _ _ _ _ _ _ _ hT (F.args_list_getattribute_2 _ _) (Rz hx hh λh' t' e ne=>?_));obtain⟨t',u',he⟩:=ne.there;show wpAny _ _ (getattributeRaised _ _ _ _ _ _ _) _ _ _;unfold getattributeRaised
 repeat (any_goals (first|assumption|wp_step))
 exact hq _ _ _ ne
theorem TQ{Q:Option Value->Shared->Prop}(hx:h.get? a=some {cls:=.type "list",dict:=none,data:=.seq its n,slots:=#[]})(hh:A.handled=none)(hq:∀h' t' e,Heap.NewAttrErr h h' e (.ref a) "keys" -> Q none ⟨h',g,d,t',os⟩):wpAny (model prog w) A (getAttr? (.ref a) "keys") Q E ⟨h,g,d,t,os⟩:=by
 have f1:=sub_AttributeError;unfold getAttr? getAttrBy?
 repeat (any_goals (first|assumption|with_reducible apply keys_by hx hh|wp_step))
 intro h' t' e ne;obtain⟨t',u',he⟩:=ne.there
 repeat (any_goals (first|assumption|wp_step))
 exact hq _ _ _ ne
end
end PySem
namespace L2
open PySem PySem.Spec PyProof.Rows
theorem Gf:entryFor table "dict.update.loop" = some Builtin.«dict.update.loop»:=entryFor_of_tree (by kernel_rfl)
theorem Dc:plainId "dict.update.loop" = true:=by decide +kernel
theorem d_setT{X:Cx}{pins:List (Addr×Obj)}{σ:St}{H:Hp}{s:Shared}{a b:Addr}{v:V}{r:Value}{A:Around}{E:Value->Shared->Prop}{kvs:List (List Key×V)}{k:List Key}{Q:Unit->Shared->Prop}(hu:A.units<cLine)(I:Inv X pins σ H s)(e:H a=some (.dT kvs))(eb:H b=some (.tup (k.map kV)))(l:kvs.length<sizeLine)(rv:AX v r)
  (h:∀h' t',Inv X pins σ (upd H a (.dT (Cc kvs k v))) {s with heap:=h',toks:=t'}->Heap.SameBut a s.heap h'->Q () {s with heap:=h',toks:=t'}):wpAny (model X.prog X.w) A (dictSet a (.ref b) r) Q E s:=by
 obtain⟨z,hd,xs,rel,dd⟩:=SL I.hok e;have hz:xs.length<=sizeLine:=by rw[<-Y6 rel];exact z
 have hl:(Cc kvs k v).length<=sizeLine:=by have:=DH kvs k v;lia
 refine wpAny_dictSet_heap (knd:=tupleKind (BG X.prog X.w)) (hsz:=hz) hu (MO I.hok eb) dd λh' dd' hs=>h _ _ ?_ hs;obtain⟨q,es,ep,hq,h2,h3,h4,_,h5⟩:=dd';refine GU I (by rw[e];exact True.intro) hs ⟨q,hq⟩ ⟨hl,hd,_,(rel.put k eb rv).keeps λc ys ec=>?_,q,es,ep,hq,h2,h3,h4,h5⟩;rw[Al (AS ec e (λz=>nomatch z))];exact ec
def Uo(H:Hp)(t:Addr)(r:List Key×V):Prop:=∃b,H t=some (.tup [.ref b,r.2])/\H b=some (.tup (r.1.map kV))
def Fa(kvs:List (List Key×V))(rows:List (List Key×V)):List (List Key×V):=rows.foldl (λm r=>Cc m r.1 r.2) kvs
theorem Pp{X:Cx}{pins:List (Addr×Obj)}{σ:St}{A:Around}{d it l:Addr}{ts:List Addr}{R:Result->Shared->Prop}(hh:A.handled=none)(hu:A.units+1<cLine)(dl:d≠it):∀(rows:List (List Key×V))(i:Nat)(s:Shared)(H:Hp)(kvs:List (List Key×V)),Inv X pins σ H s->CL X pins H it->s.heap.IsListIter it l i->H d=some (.dT kvs)->H l=some (.lst (ts.map V.ref))->Paired (Uo H) (ts.drop i) rows->kvs.length+rows.length<sizeLine ->
  (∀s',Inv X pins σ (upd H d (.dT (Fa kvs rows))) s'->R (.ok (.ret .none)) s')->codeAny (model X.prog X.w) A (.builtin "dict.update.loop" ⟨[.ref d,.ref it,rawInt i,.none],[]⟩) R s
 |[],i,s,H,kvs,I,fp,hit,hd,hl,pr,sz,k=>by
  refine codeAny_builtin Gf ?_;rw[Around.under_plainId Dc];obtain⟨its,n,rl,e,z⟩:=I.lst hl;have hi:its.toArray[i]?=none:=by
   have h1:=rl.length;rw[B0]at h1;have h2:=Y6 pr;rw[S8,T6]at h2;simp;lia
  obtain⟨f0,f1,f2,f3,f4,f5⟩:=fp;unfold Builtin.«dict.update.loop»;refine W8 (wpAny_pyNext_list_end hh hit ⟨_,e,rfl,n,rfl⟩ hi λh' eb=>?_);have I1:Inv X pins σ H {s with heap:=h'}:=I.turned (t':=s.toks) (λb o hb e=>eb b o hb e) f0 f1 f3 f4 f5
  have eH:upd H d (.dT (Fa kvs []))=H:=by
   funext b
   by_cases c:b=d
   ·rw[c,upd_same];exact hd.symm
   ·rw[Al c]
  rw[eH]at k;exact W8 (W9 (W9 (k _ I1)))
 |r::rows,i,s,H,kvs,I,fp,hit,hd,hl,pr,sz,k=>by
  refine codeAny_builtin Gf ?_;rw[Around.under_plainId Dc];obtain⟨its,n,rl,e,z⟩:=I.lst hl;obtain⟨t,ed,pt⟩:∃t,ts.drop i=t::ts.drop (i+1)/\Uo H t r/\Paired (Uo H) (ts.drop (i+1)) rows:=by
   generalize hx:ts.drop i=xs at pr;cases pr with
   |@cons t _ xs' _ h1 h2 =>
    have:ts.drop (i+1)=xs':=by
     rw[<-List.drop_drop,hx];rfl
    exact⟨t,by rw[this],h1,by rw[this];exact h2⟩
  obtain⟨pt,pr'⟩:=pt;have et:ts[i]?=some t:=by
   have:(ts.drop i)[0]?=some t:=by rw[ed];rfl
   rw[List.getElem?_drop]at this;exact this
  obtain⟨u,hu',ru⟩:=rl.get (i:=i) (x:=.ref t) (by rw[B6,et];rfl);cases(show u=Value.ref t from ru);obtain⟨f0,f1,f2,f3,f4,f5⟩:=id fp;obtain⟨b,ht,hb⟩:=pt;unfold Builtin.«dict.update.loop»;refine W8 (wpAny_pyNext_list_item (x:=.ref t) hit ⟨_,e,rfl,n,rfl⟩ (by simpa using hu') λh1 hit1 sb1=>?_);have I1:Inv X pins σ H {s with heap:=h1}:=I.turned (t':=s.toks) (λb o hb e=>(sb1.2 b hb).trans e) f0 f1 f3 f4 f5
  refine W8 (X0 ?_);obtain⟨z2,us2,r2,o2,e2,c2,n2,d2⟩:=I1.hok t _ ht;obtain⟨w1,w2,rfl,rw1,rw2⟩:=r2.two;cases(show w1=Value.ref b from rw1);refine W8 (wpAny_tryCatch ?_);unfold Builtin.Dict.pairItems;refine W8 (wpAny_typeOf (T:="tuple") ⟨o2,e2,c2⟩ ?_);rw[Y4 A3];refine W8 (A4c e2 d2 (W9 ?_));show wpAny _ _ (holding [Value.ref b,w2] (dictSet d (.ref b) w2)) _ _ _;have dl1:d≠l:=λz=>by rw[z]at hd;rw[hd]at hl;cases hl
  rw[D0]at sz;refine X0 (d_setT (X:=X) (pins:=pins) (σ:=σ) (k:=r.1) hu I1 hd hb A0 rw2 λh2 t2 I2 sb2=>?_);have sv:∀{c:Addr}{ys:List V},H c=some (.tup ys)->upd H d (.dT (Cc kvs r.1 r.2)) c=some (.tup ys):=λ{c ys} ec=>by rw[Al (AS ec hd (λz=>nomatch z))];exact ec
  refine W9 ⟨plainId_quiet Dc _,?_⟩;have ih:=Pp (X:=X) (pins:=pins) (σ:=σ) (A:=A) (d:=d) (it:=it) (l:=l) (ts:=ts) (R:=R) hh hu dl rows (i+1) _ _ (Cc kvs r.1 r.2) I2 ⟨by rw[Al (Z4 dl)];exact f0,f1,f2,f3,f4,f5⟩ ?_ upd_same (by rw[Al (Z4 dl1)];exact hl) (Paired.imp' (λc x z=>by obtain⟨b',h1,h2⟩:=z;exact⟨b',sv h1,sv h2⟩) pr') (by have:=DH kvs r.1 r.2;lia) λs' I'=>k s' ?_
  ·exact ih
  ·exact hit1.at λo e=>(sb2.2 it (Z4 dl)).trans e
  ·have eH:upd (upd H d (.dT (Cc kvs r.1 r.2))) d (.dT (Fa (Cc kvs r.1 r.2) rows))=upd H d (.dT (Fa kvs (r::rows))):=by
    funext c
    by_cases q:c=d
    ·rw[q,upd_same,upd_same];rfl
    ·rw[Al q,Al q,Al q]
   rw[eH]at I';exact I'
theorem RM{X:Cx}(hc:X.calm=true)(hu:X.A.units+64<cLine):Do X (.type "dict") (λxs H Q=>∃(l:Addr)(ts:List Addr)(rows:List (List Key×V)),xs=[.ref l]/\H l=some (.lst (ts.map V.ref))/\Paired (Uo H) ts rows/\rows.length<sizeLine/\∀d,H d=none->Q (.ref d) (upd H d (.dT (Fa [] rows)))):=by
 intro pins s σ H xs us Q I r h;obtain⟨l,ts,rows,rfl,hl,pr,sz,q⟩:=h;obtain⟨u,rfl,ru⟩:=r.one;cases(show u=Value.ref l from ru);refine callType_codes (Q₁:=λobj s₁=>obj=.ref s.heap.objs.size/\s₁={s with heap:=s.heap.push {cls:=.type "dict",data:=.dict #[]} }) F.kt_called_dict (F.kt_typeCall_dict_1 _) F.entry_dict_init (kt_code_dict_new _ ⟨rfl,rfl⟩) ?_;rintro obj s1 ⟨rfl,rfl⟩;have nd:H s.heap.objs.size=none:=I.hok.fresh (B5 _);have I1:Inv X pins σ (upd H s.heap.objs.size (.dT [])) {s with heap:=s.heap.push {cls:=.type "dict",data:=.dict #[]} }:=I.laid (a:=s.heap.objs.size) (o:=.dT []) (t':=s.toks) (λ_ _ q=>B1 _ q) (B5 _) (Qx s.heap I.big);have q:=q _ nd;generalize s.heap.objs.size=d at nd I1 q⊢;generalize {s with heap:=s.heap.push {cls:=.type "dict",data:=.dict #[]} }=s1 at I1⊢;obtain⟨z,hd,xs,rel,dd⟩:=SL I1.hok (upd_same:upd H d (.dT []) d=_);refine⟨dd.typeIs,F.args_dict_init_2 _ _,?_⟩;unfold Builtin.«dict.__init__»;refine W8 ?_;unfold Builtin.Dict.selfAndRest;refine W8 (A5b dd.typeIs ?_);refine W9 ?_;show wpAny _ _ (Builtin.Dict.updateFrom "dict.__init__" d (.ref l) [] .none) _ _ _;unfold Builtin.Dict.updateFrom;have hh:X.A.handled=none:=I.ok.hd hc;have hl1:upd H d (.dT []) l=some (.lst (ts.map V.ref)):=by rw[Al (An hl nd)];exact hl
 obtain⟨its,n,rl,e,z⟩:=I1.lst hl1;refine W8 (wpAny_typeOf (T:="list") ⟨_,e,rfl⟩ ?_);rw[Y4 A3];obtain⟨hp,g,dr,tk,os⟩:=s1;refine W8 (TQ e hh λh' t' x ne=>?_);have I2:Inv X pins σ (upd H d (.dT [])) ⟨h',g,dr,t',os⟩:=I1.kept (t':=t') λb o e=>ne.keeps b o e;have e2:=ne.keeps _ _ e;rw[Y4 (by rfl)];refine W8 (wpAny_rule ?_);refine W8 (K8 (items:=its.toArray) ⟨_,e2,rfl,n,rfl⟩ ?_);refine W9 ⟨plainId_quiet Dc _,?_⟩;have dlt:d<h'.objs.size:=by
  obtain⟨q',_,_,hq,_⟩:=SL I2.hok (upd_same:upd H d (.dT []) d=_) |>.2.2.choose_spec.2;exact C6 hq
 have I3:Inv X pins σ (upd H d (.dT [])) {heap:=h'.push {cls:=.type "list_iterator",data:=.fields #[.ref l,.int 0 0]},gens:=g,drawn:=dr,toks:=t',os:=os}:=I2.kept (t':=t') λb o e=>B1 _ e;refine Pp (X:=X) (pins:=pins) (σ:=σ) (ts:=ts) (it:=h'.objs.size) (A:=X.A.in1) hh (by show X.A.units+1+1<cLine;lia) (D8 dlt) rows 0 _ _ [] I3 (I2.fpOk (B5 _) (I2.hok.fresh (B5 _))) ⟨_,C3 _ rfl,rfl,rfl⟩ upd_same hl1 ?_ (by rw[T6];lia) λs' I'=>?_
 ·exact Paired.imp' (λc x z=>by
   obtain⟨b',h1,h2⟩:=z;exact⟨b',by rw[Al (An h1 nd)];exact h1,by rw[Al (An h2 nd)];exact h2⟩) pr
 ·have eH:upd (upd H d (.dT [])) d (.dT (Fa [] rows))=upd H d (.dT (Fa [] rows)):=by
   funext c
   by_cases q:c=d
   ·rw[q,upd_same,upd_same]
   ·rw[Al q,Al q,Al q]
  rw[eH]at I';exact⟨rfl,.ref d,_,I',rfl,q⟩
end L2
namespace J
open PySem L2
def top(i:Nat):Stmt:=PySem.Challenge.pw_jumpfield_k83_whole_written_and_read.main.body.getD i (.Pass ⟨0,0,0,0⟩)
abbrev Io:Stmt:=top 14
abbrev Rm:List Str:=["thing"]
abbrev EC:List Str:=["thing"]
theorem PD:Ar Rm EC (Ai Io):=⟨rfl,rfl,rfl,by decide +kernel,rfl,by decide +kernel,by decide +kernel⟩
abbrev FA:Stmt:=top 15
abbrev OJ:List Str:=["text"]
abbrev FK:List Str:=["text"]
theorem Nf:Ar OJ FK (Ai FA):=⟨rfl,rfl,rfl,by decide +kernel,rfl,by decide +kernel,by decide +kernel⟩
abbrev DK:Stmt:=top 16
abbrev Ll:List Str:=["text"]
abbrev DQ:List Str:=["text"]
theorem Jn:Ar Ll DQ (Ai DK):=⟨rfl,rfl,rfl,by decide +kernel,rfl,by decide +kernel,by decide +kernel⟩
abbrev DA:Stmt:=top 17
abbrev Ic:List Str:=["signs"]
abbrev Fc:List Str:=["signs"]
theorem Ml:Ar Ic Fc (Ai DA):=⟨rfl,rfl,rfl,by decide +kernel,rfl,by decide +kernel,by decide +kernel⟩
abbrev Ip:Stmt:=top 20
abbrev Ro:List Str:=["thing"]
abbrev ED:List Str:=["thing"]
theorem PF:Ar Ro ED (Ai Ip):=⟨rfl,rfl,rfl,by decide +kernel,rfl,by decide +kernel,by decide +kernel⟩
abbrev EU:Stmt:=top 23
abbrev Nl:List Str:=["box","dx","dy"]
abbrev CI:List Str:=["box","dx","dy"]
theorem Mh:Ar Nl CI (Ai EU):=⟨rfl,rfl,rfl,by decide +kernel,rfl,by decide +kernel,by decide +kernel⟩
abbrev Cj:Stmt:=top 24
abbrev DG:List Str:=["boxes","left","top","right","bottom"]
abbrev ER:List Str:=["boxes"]
theorem De:Ar DG ER (Ai Cj):=⟨rfl,rfl,rfl,by decide +kernel,rfl,by decide +kernel,by decide +kernel⟩
abbrev EW:Stmt:=top 29
abbrev Np:List Str:=["box","limit"]
abbrev CJ:List Str:=["box","limit"]
theorem Mj:Ar Np CJ (Ai EW):=⟨rfl,rfl,rfl,by decide +kernel,rfl,by decide +kernel,by decide +kernel⟩
abbrev Im:Stmt:=top 30
abbrev Rl:List Str:=["grove","field"]
abbrev CQ:List Str:=["grove","field"]
theorem PC:Ar Rl CQ (Ai Im):=⟨rfl,rfl,rfl,by decide +kernel,rfl,by decide +kernel,by decide +kernel⟩
abbrev FC:Stmt:=top 31
abbrev OL:List Str:=["grove"]
abbrev Ef:List Str:=["grove"]
theorem Ng:Ar OL Ef (Ai FC):=⟨rfl,rfl,rfl,by decide +kernel,rfl,by decide +kernel,by decide +kernel⟩
abbrev Jq:Stmt:=top 32
abbrev Tz:List Str:=["grove","square","level","parts","bare"]
abbrev JA:List Str:=["grove","square"]
theorem Fy:Ar Tz JA (Ai Jq):=⟨rfl,rfl,rfl,by decide +kernel,rfl,by decide +kernel,by decide +kernel⟩
abbrev Jr:Stmt:=top 33
abbrev TB:List Str:=["grove","square","kept"]
abbrev GO:List Str:=["grove","square"]
theorem Ik:Ar TB GO (Ai Jr):=⟨rfl,rfl,rfl,by decide +kernel,rfl,by decide +kernel,by decide +kernel⟩
abbrev EO:Stmt:=top 34
abbrev Lb:List Str:=["grove","square","inner"]
abbrev Gs:List Str:=["grove","square"]
theorem IL:Ar Lb Gs (Ai EO):=⟨rfl,rfl,rfl,by decide +kernel,rfl,by decide +kernel,by decide +kernel⟩
abbrev Dq:Stmt:=top 35
abbrev JH:List Str:=["grove","square","bare","place","quarter","part_place","part"]
abbrev Dt:List Str:=["grove","square"]
theorem Br:Ar JH Dt (Ai Dq):=⟨rfl,rfl,rfl,by decide +kernel,rfl,by decide +kernel,by decide +kernel⟩
abbrev Es:Stmt:=top 36
abbrev MF:List Str:=["grove","field","box","wide"]
abbrev Dl:List Str:=["grove","field","box"]
theorem DJ:Ar MF Dl (Ai Es):=⟨rfl,rfl,rfl,by decide +kernel,rfl,by decide +kernel,by decide +kernel⟩
abbrev Js:Stmt:=top 37
abbrev TC:List Str:=["grove","field","x","y","state","place","wide","half"]
abbrev JB:List Str:=["grove","field","x","y","state"]
theorem Fz:Ar TC JB (Ai Js):=⟨rfl,rfl,rfl,by decide +kernel,rfl,by decide +kernel,by decide +kernel⟩
abbrev Il:Stmt:=top 38
abbrev Rk:List Str:=["grove","square","x","y","state","level","half","parts","place"]
abbrev Ez:List Str:=["grove","square","x","y","state"]
theorem CT:Ar Rk Ez (Ai Il):=⟨rfl,rfl,rfl,by decide +kernel,rfl,by decide +kernel,by decide +kernel⟩
abbrev Iq:Stmt:=top 39
abbrev Rp:List Str:=["grove","cells","field","cell"]
abbrev Ix:List Str:=["grove","cells"]
theorem EN:Ar Rp Ix (Ai Iq):=⟨rfl,rfl,rfl,by decide +kernel,rfl,by decide +kernel,by decide +kernel⟩
abbrev Mm:Stmt:=top 41
abbrev VL:List Str:=["grove","field","box","state","has_places","wide","solid"]
abbrev IT:List Str:=["grove","field","box","state"]
theorem GJ:Ar VL IT (Ai Mm):=⟨rfl,rfl,rfl,by decide +kernel,rfl,by decide +kernel,by decide +kernel⟩
abbrev Gm:Stmt:=top 42
abbrev Qe:List Str:=["box"]
abbrev Gu:List Str:=["box"]
theorem Ov:Ar Qe Gu (Ai Gm):=⟨rfl,rfl,rfl,by decide +kernel,rfl,by decide +kernel,by decide +kernel⟩
abbrev Jt:Stmt:=top 43
abbrev TD:List Str:=["grove","field","box","reach","left","top","size"]
abbrev JC:List Str:=["grove","field","box"]
theorem Er:Ar TD JC (Ai Jt):=⟨rfl,rfl,rfl,by decide +kernel,rfl,by decide +kernel,by decide +kernel⟩
abbrev LI:Stmt:=top 44
abbrev cA:List Str:=["grove","inner","outer","part","known","size","key","square"]
abbrev GP:List Str:=["grove","inner","outer","part","known"]
theorem Fl:Ar cA GP (Ai LI):=⟨rfl,rfl,rfl,by decide +kernel,rfl,by decide +kernel,by decide +kernel⟩
abbrev Cu:Stmt:=top 45
abbrev JG:List Str:=["grove","key","half","known","inners","outers","part","columns","rows","made","place","column","row","quarter_part"]
abbrev Cw:List Str:=["grove","key","half","known"]
theorem AC:Ar JG Cw (Ai Cu):=⟨rfl,rfl,rfl,by decide +kernel,rfl,by decide +kernel,by decide +kernel⟩
abbrev DL:Stmt:=top 46
abbrev Lm:List Str:=["start","stop","half"]
abbrev CO:List Str:=["start","stop","half"]
theorem Jo:Ar Lm CO (Ai DL):=⟨rfl,rfl,rfl,by decide +kernel,rfl,by decide +kernel,by decide +kernel⟩
abbrev Ju:Stmt:=top 49
abbrev TF:List Str:=["cell"]
abbrev JD:List Str:=["cell"]
theorem QZ:Ar TF JD (Ai Ju):=⟨rfl,rfl,rfl,by decide +kernel,rfl,by decide +kernel,by decide +kernel⟩
abbrev Ir:Stmt:=top 50
abbrev Rq:List Str:=["grove","field","reach","cells"]
abbrev Iy:List Str:=["grove","field"]
theorem Gh:Ar Rq Iy (Ai Ir):=⟨rfl,rfl,rfl,by decide +kernel,rfl,by decide +kernel,by decide +kernel⟩
abbrev Ev:Stmt:=top 51
abbrev MI:List Str:=["grove","square","left","top","cells","level","half","place","quarter"]
abbrev Co:List Str:=["grove","square","left","top","cells"]
theorem BK:Ar MI Co (Ai Ev):=⟨rfl,rfl,rfl,by decide +kernel,rfl,by decide +kernel,by decide +kernel⟩
abbrev Mn:Stmt:=top 52
abbrev VM:List Str:=["grove","field","box","reach"]
abbrev Mz:List Str:=["grove","field"]
theorem Jp:Ar VM Mz (Ai Mn):=⟨rfl,rfl,rfl,by decide +kernel,rfl,by decide +kernel,by decide +kernel⟩
abbrev Gk:Stmt:=top 59
abbrev Qd:List Str:=["text","runs","figures","sign"]
abbrev Gr:List Str:=["text"]
theorem Cs:Ar Qd Gr (Ai Gk):=⟨rfl,rfl,rfl,by decide +kernel,rfl,by decide +kernel,by decide +kernel⟩
abbrev EV:Stmt:=top 60
abbrev Nm:List Str:=["figures"]
abbrev Fb:List Str:=["figures"]
theorem Mi:Ar Nm Fb (Ai EV):=⟨rfl,rfl,rfl,by decide +kernel,rfl,by decide +kernel,by decide +kernel⟩
abbrev Eb:Stmt:=top 61
abbrev IZ:List Str:=["runs"]
abbrev FJ:List Str:=["runs"]
theorem Nd:Ar IZ FJ (Ai Eb):=⟨rfl,rfl,rfl,by decide +kernel,rfl,by decide +kernel,by decide +kernel⟩
abbrev Eu:Stmt:=top 62
abbrev MH:List Str:=["runs","merged","amount","sign"]
abbrev EB:List Str:=["runs"]
theorem CM:Ar MH EB (Ai Eu):=⟨rfl,rfl,rfl,by decide +kernel,rfl,by decide +kernel,by decide +kernel⟩
abbrev Gj:Stmt:=top 63
abbrev Qc:List Str:=["amount","sign"]
abbrev Gq:List Str:=["amount","sign"]
theorem Ou:Ar Qc Gq (Ai Gj):=⟨rfl,rfl,rfl,by decide +kernel,rfl,by decide +kernel,by decide +kernel⟩
abbrev Et:Stmt:=top 66
abbrev MG:List Str:=["grove","text","parts","place","x","y"]
abbrev EA:List Str:=["grove","text"]
theorem BY:Ar MG EA (Ai Et):=⟨rfl,rfl,rfl,by decide +kernel,rfl,by decide +kernel,by decide +kernel⟩
abbrev FB:Stmt:=top 67
abbrev OK:List Str:=["word","number"]
abbrev FL:List Str:=["word"]
theorem Ia:Ar OK FL (Ai FB):=⟨rfl,rfl,rfl,by decide +kernel,rfl,by decide +kernel,by decide +kernel⟩
abbrev DO:Stmt:=top 68
abbrev Lp:List Str:=["grove","x","y","runs","field","right","down","amount","sign"]
abbrev DT:List Str:=["grove","x","y","runs"]
theorem AR:Ar Lp DT (Ai DO):=⟨rfl,rfl,rfl,by decide +kernel,rfl,by decide +kernel,by decide +kernel⟩
abbrev DM:Stmt:=top 69
abbrev Ln:List Str:=["grove","field","cells","box","left","top","runs"]
abbrev DR:List Str:=["grove","field"]
theorem BB:Ar Ln DR (Ai DM):=⟨rfl,rfl,rfl,by decide +kernel,rfl,by decide +kernel,by decide +kernel⟩
abbrev DN:Stmt:=top 70
abbrev Lo:List Str:=["cells","left","top","runs","right","down","x","y","state"]
abbrev DS:List Str:=["cells","left","top"]
theorem AQ:Ar Lo DS (Ai DN):=⟨rfl,rfl,rfl,by decide +kernel,rfl,by decide +kernel,by decide +kernel⟩
abbrev Jv:Stmt:=top 72
abbrev TH:List Str:=["_law_script","_law_k"]
abbrev GQ:List Str:=["_law_script","_law_k"]
theorem Ra:Ar TH GQ (Ai Jv):=⟨rfl,rfl,rfl,by decide +kernel,rfl,by decide +kernel,by decide +kernel⟩
abbrev Iv:Stmt:=top 73
abbrev Rs:List Str:=["_law_cell","_law_k","_law_value"]
abbrev FM:List Str:=["_law_cell","_law_k"]
theorem Gi:Ar Rs FM (Ai Iv):=⟨rfl,rfl,rfl,by decide +kernel,rfl,by decide +kernel,by decide +kernel⟩
abbrev Go:Stmt:=top 74
abbrev Qg:List Str:=["_law_cell"]
abbrev Gy:List Str:=["_law_cell"]
theorem Ox:Ar Qg Gy (Ai Go):=⟨rfl,rfl,rfl,by decide +kernel,rfl,by decide +kernel,by decide +kernel⟩
abbrev FD:Stmt:=top 75
abbrev OM:List Str:=["_law_cell","_law_k","_law_bits_here"]
abbrev Eg:List Str:=["_law_cell","_law_k","_law_bits_here"]
theorem Nh:Ar OM Eg (Ai FD):=⟨rfl,rfl,rfl,by decide +kernel,rfl,by decide +kernel,by decide +kernel⟩
abbrev DP:Stmt:=top 76
abbrev Lq:List Str:=["_law_script","_law_first","_law_bits_here","_law_cells","_law_many","_law_k","_law_cell"]
abbrev DU:List Str:=["_law_script","_law_first","_law_bits_here"]
theorem BC:Ar Lq DU (Ai DP):=⟨rfl,rfl,rfl,by decide +kernel,rfl,by decide +kernel,by decide +kernel⟩
abbrev Gn:Stmt:=top 77
abbrev Qf:List Str:=["_law_at_here"]
abbrev Gx:List Str:=["_law_at_here"]
theorem Ow:Ar Qf Gx (Ai Gn):=⟨rfl,rfl,rfl,by decide +kernel,rfl,by decide +kernel,by decide +kernel⟩
abbrev Iu:Stmt:=top 78
abbrev Rr:List Str:=["_law_cells","_law_left","_law_runs","_law_x","_law_y","_law_at_here","_law_state","_law_sign","_law_words","_law_amount"]
abbrev Iz:List Str:=["_law_cells","_law_left"]
theorem Bn:Ar Rr Iz (Ai Iu):=⟨rfl,rfl,rfl,by decide +kernel,rfl,by decide +kernel,by decide +kernel⟩
abbrev CU:Stmt:=top 79
abbrev ES:List Str:=["_law_due","_law_cells","_law_left","_law_top","_law_text_here","_law_y","_law_many","_law_gap"]
abbrev Gw:List Str:=["_law_due"]
theorem Bc:Ar ES Gw (Ai CU):=⟨rfl,rfl,rfl,by decide +kernel,rfl,by decide +kernel,by decide +kernel⟩
abbrev Sj:Stmt:=top 80
abbrev cB:List Str:=["_law_script","_law_bits_here","_law_left","_law_top","_law_wide","_law_high","_law_state","_law_cells","_law_due","_law_x","_law_y","_law_one","_law_grove","_law_field","_law_text_here","_law_other"]
abbrev p_law:List Str:=["_law_script"]
theorem BS:Ar cB p_law (Ai Sj):=⟨rfl,rfl,rfl,by decide +kernel,rfl,by decide +kernel,by decide +kernel⟩
abbrev FH:Stmt:=CB (top 25) 0
abbrev OQ:List Str:=["self","state","level","bare"]
abbrev FO:List Str:=["self"]
theorem Dy:Ar OQ FO (Ai FH):=⟨rfl,rfl,rfl,by decide +kernel,rfl,by decide +kernel,by decide +kernel⟩
abbrev FG:Stmt:=CB (top 25) 1
abbrev OP:List Str:=["self","parts","level","number"]
abbrev Ei:List Str:=["self","parts","level"]
theorem Ib:Ar OP Ei (Ai FG):=⟨rfl,rfl,rfl,by decide +kernel,rfl,by decide +kernel,by decide +kernel⟩
abbrev Ex:Stmt:=CB (top 25) 2
abbrev MK:List Str:=["self","parts","number"]
abbrev Bp:List Str:=["self","parts"]
theorem Gb:Ar MK Bp (Ai Ex):=⟨rfl,rfl,rfl,by decide +kernel,rfl,by decide +kernel,by decide +kernel⟩
abbrev Ck:Stmt:=CB (top 25) 3
abbrev Gz:List Str:=["self","square"]
abbrev Bq:List Str:=["self","square"]
theorem Ge:Ar Gz Bq (Ai Ck):=⟨rfl,rfl,rfl,by decide +kernel,rfl,by decide +kernel,by decide +kernel⟩
abbrev FF:Stmt:=CB (top 25) 4
abbrev OO:List Str:=["self","state"]
abbrev Eh:List Str:=["self","state"]
theorem Nj:Ar OO Eh (Ai FF):=⟨rfl,rfl,rfl,by decide +kernel,rfl,by decide +kernel,by decide +kernel⟩
abbrev EX:Stmt:=CB (top 25) 6
abbrev Nq:List Str:=["self","level","state","square","below"]
abbrev Fd:List Str:=["self","level","state"]
theorem Df:Ar Nq Fd (Ai EX):=⟨rfl,rfl,rfl,by decide +kernel,rfl,by decide +kernel,by decide +kernel⟩
abbrev Ds:Stmt:=CB (top 25) 7
abbrev JK:List Str:=["self","square"]
abbrev Bk:List Str:=["self","square"]
theorem IN:Ar JK Bk (Ai Ds):=⟨rfl,rfl,rfl,by decide +kernel,rfl,by decide +kernel,by decide +kernel⟩
abbrev Dr:Stmt:=CB (top 25) 9
abbrev JI:List Str:=["self","square"]
abbrev Du:List Str:=["self","square"]
theorem IM:Ar JI Du (Ai Dr):=⟨rfl,rfl,rfl,by decide +kernel,rfl,by decide +kernel,by decide +kernel⟩
abbrev Ew:Stmt:=CB (top 25) 10
abbrev MJ:List Str:=["self","square"]
abbrev EE:List Str:=["self","square"]
theorem Lj:Ar MJ EE (Ai Ew):=⟨rfl,rfl,rfl,by decide +kernel,rfl,by decide +kernel,by decide +kernel⟩
abbrev CN:Stmt:=CB (top 25) 11
abbrev Gc:List Str:=["self","square","amount"]
abbrev BZ:List Str:=["self","square"]
theorem Ct:Ar Gc BZ (Ai CN):=⟨rfl,rfl,rfl,by decide +kernel,rfl,by decide +kernel,by decide +kernel⟩
abbrev FE:Stmt:=CB (top 25) 12
abbrev ON:List Str:=["self","square"]
abbrev FN:List Str:=["self","square"]
theorem Ni:Ar ON FN (Ai FE):=⟨rfl,rfl,rfl,by decide +kernel,rfl,by decide +kernel,by decide +kernel⟩
abbrev DB:Stmt:=CB (top 25) 13
abbrev Nr:List Str:=["self","square","box"]
abbrev Cb:List Str:=["self","square"]
theorem Dg:Ar Nr Cb (Ai DB):=⟨rfl,rfl,rfl,by decide +kernel,rfl,by decide +kernel,by decide +kernel⟩
abbrev Cv:Stmt:=CB (top 25) 14
abbrev JJ:List Str:=["self","square","level","half","boxes","place","quarter","box"]
abbrev Cy:List Str:=["self","square"]
theorem Bg:Ar JJ Cy (Ai Cv):=⟨rfl,rfl,rfl,by decide +kernel,rfl,by decide +kernel,by decide +kernel⟩
structure Ad where
 c_Grove:Addr
 x_FieldError:Addr
 x_NoNumber:Addr
 x_NoSquare:Addr
 x_NoLevel:Addr
 x_NoState:Addr
 x_NoBox:Addr
 x_TooFar:Addr
 x_TooMany:Addr
 x_NoPattern:Addr
structure Top(K:PySem.W.Frag)(mg:Str->Option Value)(a:Ad):Prop where
 b_abs:mg "abs" = none
 b_all:mg "all" = none
 b_bool:mg "bool" = none
 b_dict:mg "dict" = none
 b_enumerate:mg "enumerate" = none
 b_int:mg "int" = none
 b_isinstance:mg "isinstance" = none
 b_len:mg "len" = none
 b_list:mg "list" = none
 b_max:mg "max" = none
 b_min:mg "min" = none
 b_range:mg "range" = none
 b_sorted:mg "sorted" = none
 b_str:mg "str" = none
 b_sum:mg "sum" = none
 b_tuple:mg "tuple" = none
 k_FIGURES:∃t,mg "FIGURES" = some (.str (Str.ofString "0123456789") t)
 k_MOST_FIGURES:∃t,mg "MOST_FIGURES" = some (.int 30 t)
 k_STATES:∃t,mg "STATES" = some (.int 8 t)
 k_TOP_LEVEL:∃t,mg "TOP_LEVEL" = some (.int 48 t)
 k_LIMIT:∃t,mg "LIMIT" = some (.int 1099511627776 t)
 k_LEAST_LEVEL:∃t,mg "LEAST_LEVEL" = some (.int 1 t)
 k_MOST_CELLS:∃t,mg "MOST_CELLS" = some (.int 4096 t)
 k_BLANK_SIGN:∃t,mg "BLANK_SIGN" = some (.str (Str.ofString ".") t)
 k_ROW_SIGN:∃t,mg "ROW_SIGN" = some (.str (Str.ofString "/") t)
 k_STATE_SIGNS:∃t,mg "STATE_SIGNS" = some (.str (Str.ofString ".ABCDEFG") t)
 k_RUN_SIGNS:∃t,mg "RUN_SIGNS" = some (.str (Str.ofString ".ABCDEFG/") t)
 k_MOST_AMOUNT_FIGURES:∃t,mg "MOST_AMOUNT_FIGURES" = some (.int 13 t)
 k_MOST_PLACE:∃t,mg "MOST_PLACE" = some (.int 9999999999999 t)
 m_Grove:mg "Grove" = some (.ref a.c_Grove)
 cl_Grove:Cls K a.c_Grove
 na_Grove_levels:Dm K a.c_Grove "levels"
 na_Grove_parts:Dm K a.c_Grove "parts"
 na_Grove_numbers:Dm K a.c_Grove "numbers"
 na_Grove_bares:Dm K a.c_Grove "bares"
 na_Grove_amounts:Dm K a.c_Grove "amounts"
 na_Grove_boxes:Dm K a.c_Grove "boxes"
 b_ValueError:mg "ValueError" = none
 mx_FieldError:mg "FieldError" = some (.ref a.x_FieldError)
 mx_NoNumber:mg "NoNumber" = some (.ref a.x_NoNumber)
 mx_NoSquare:mg "NoSquare" = some (.ref a.x_NoSquare)
 mx_NoLevel:mg "NoLevel" = some (.ref a.x_NoLevel)
 mx_NoState:mg "NoState" = some (.ref a.x_NoState)
 mx_NoBox:mg "NoBox" = some (.ref a.x_NoBox)
 mx_TooFar:mg "TooFar" = some (.ref a.x_TooFar)
 mx_TooMany:mg "TooMany" = some (.ref a.x_TooMany)
 mx_NoPattern:mg "NoPattern" = some (.ref a.x_NoPattern)
 ec_NoNumber:NA K a.x_NoNumber
 ec_FieldError:NA K a.x_FieldError
structure Sq where
 parts:List Int
 lev:Int
abbrev Gv:=List Sq
structure GA where
 p:Addr
 dx:Addr
 lv:Addr
 pt:Addr
 nm:Addr
 br:Addr
 am:Addr
 bx:Addr
def fl6(g:GA):List (Str×V):=BO "boxes" (.ref g.bx) (BO "amounts" (.ref g.am) (BO "bares" (.ref g.br) (BO "numbers" (.ref g.nm) (BO "parts" (.ref g.pt) (BO "levels" (.ref g.lv) [])))))
theorem DX(g:GA):(fl6 g).lookup ("levels" : Str)=some (V.ref g.lv):=by
 unfold fl6;rw[Aw,Y0 A1,Aw,Y0 A1,Aw,Y0 A1,Aw,Y0 A1,Aw,Y0 A1,Aw,Y4 rfl]
theorem DV(g:GA):(fl6 g).lookup ("parts" : Str)=some (V.ref g.pt):=by
 unfold fl6;rw[Aw,Y0 A1,Aw,Y0 A1,Aw,Y0 A1,Aw,Y0 A1,Aw,Y4 rfl]
theorem Wm(g:GA):(fl6 g).lookup ("numbers" : Str)=some (V.ref g.nm):=by
 unfold fl6;rw[Aw,Y0 A1,Aw,Y0 A1,Aw,Y0 A1,Aw,Y4 rfl]
theorem IB(g:GA):(fl6 g).lookup ("bares" : Str)=some (V.ref g.br):=by
 unfold fl6;rw[Aw,Y0 A1,Aw,Y0 A1,Aw,Y4 rfl]
theorem RH(g:GA):(fl6 g).lookup ("amounts" : Str)=some (V.ref g.am):=by
 unfold fl6;rw[Aw,Y0 A1,Aw,Y4 rfl]
theorem Wn(g:GA):(fl6 g).lookup ("boxes" : Str)=some (V.ref g.bx):=by
 unfold fl6;rw[Aw,Y4 rfl]
theorem DW(g:GA){m:Str}(h1:¬m=("boxes" : Str))(h2:¬m=("amounts" : Str))(h3:¬m=("bares" : Str))(h4:¬m=("numbers" : Str))(h5:¬m=("parts" : Str))(h6:¬m=("levels" : Str)):(fl6 g).lookup m=none:=by
 unfold fl6;rw[Aw,Y0 h1,Aw,Y0 h2,Aw,Y0 h3,Aw,Y0 h4,Aw,Y0 h5,Aw,Y0 h6];rfl
theorem OE(g:GA):(fl6 g).lookup ("kept" : Str)=none:=DW g A1 A1 A1 A1 A1 A1
theorem Cz(g:GA):(fl6 g).lookup ("linked" : Str)=none:=DW g A1 A1 A1 A1 A1 A1
theorem MD(g:GA):(fl6 g).lookup ("check_square" : Str)=none:=DW g A1 A1 A1 A1 A1 A1
theorem Sw(g:GA):(fl6 g).lookup ("leaf" : Str)=none:=DW g A1 A1 A1 A1 A1 A1
theorem EH(g:GA):(fl6 g).lookup ("level_of" : Str)=none:=DW g A1 A1 A1 A1 A1 A1
theorem VJ(g:GA):(fl6 g).lookup ("solid" : Str)=none:=DW g A1 A1 A1 A1 A1 A1
theorem Ri(g:GA):(fl6 g).lookup ("state_of" : Str)=none:=DW g A1 A1 A1 A1 A1 A1
def kOf(ps:List Int):List Key:=ps.map Sum.inl
theorem kOf_v(ps:List Int):(kOf ps).map kV=ps.map V.int:=by unfold kOf;rw[M7];rfl
theorem LM:∀{ps qs:List Int},kOf ps=kOf qs->ps=qs
 |[],[],_=>rfl
 |[],_::_,h=>by cases h
 |_::_,[],h=>by cases h
 |x::r,y::t,h=>by
  have h:Sum.inl x::kOf r=(Sum.inl y:Key)::kOf t:=h;injection h with h1 h2
  injection h1 with h1
  rw[h1,LM h2]
def GB:Nat->Gv->List (List Key×V)
 |_,[]=>[]
 |n,q::r=>(kOf q.parts,.int (n:Int))::GB (n+1) r
theorem Qq:∀(G:Gv)(n:Nat),(GB n G).length=G.length
 |[],_=>rfl
 |q::r,n=>by show(GB (n+1) r).length+1=r.length+1;rw[Qq r]
theorem NQ(q:Sq):∀(G:Gv)(n:Nat),GB n (G++[q])=GB n G++[(kOf q.parts,.int ((n+G.length:Nat):Int))]
 |[],_=>rfl
 |p::r,n=>by
  show(kOf p.parts,V.int (n:Int))::GB (n+1) (r++[q])=_;rw[NQ q r (n+1)];show _=(kOf p.parts,V.int (n:Int))::(GB (n+1) r++[(kOf q.parts,V.int ((n+(r.length+1):Nat):Int))]);rw[show n+1+r.length=n+(r.length+1) by lia]
theorem OV(ps:List Int):∀(G:Gv)(n:Nat),(∃(i:Nat)(q:Sq),G[i]?=some q/\q.parts=ps/\Bw (GB n G) (kOf ps)=some (.int ((n+i:Nat):Int)))\/(Bw (GB n G) (kOf ps)=none/\∀q∈G,q.parts≠ps)
 |[],n=>.inr ⟨rfl,λq hq=>by simp at hq⟩
 |p::r,n=>by
  by_cases e:p.parts=ps
  ·exact .inl ⟨0,p,rfl,e,Bu (by rw[e])⟩
  ·have ne:¬(kOf p.parts,V.int (n:Int)).1=kOf ps:=λz=>e (LM z);rcases OV ps r (n+1)with ⟨i,q,h1,h2,h3⟩|⟨h1,h2⟩
   ·refine .inl ⟨i+1,q,h1,h2,?_⟩;show Bw ((kOf p.parts,V.int (n:Int))::GB (n+1) r) (kOf ps)=_;rw[Bf ne,h3,show n+1+i=n+(i+1) by lia]
   ·refine .inr ⟨?_,λq hq=>?_⟩
    ·show Bw ((kOf p.parts,V.int (n:Int))::GB (n+1) r) (kOf ps)=_;rw[Bf ne,h1]
    ·rcases B9.mp hq with rfl|hq
     ·exact e
     ·exact h2 q hq
def TupAt(H:Hp)(t:Addr)(q:Sq):Prop:=H t=some (.tup (q.parts.map V.int))
structure AG(a:Ad)(H:Hp)(g:GA)(G:Gv):Prop where
 hp:H g.p=some (.ins a.c_Grove g.dx (fl6 g))
 lv:H g.lv=some (.lst (G.map λq=>.int q.lev))
 pt:∃ts:List Addr,H g.pt=some (.lst (ts.map V.ref))/\Paired (TupAt H) ts G
 nm:H g.nm=some (.dT (GB 0 G))
 ne:g.lv≠g.pt
def Fr(g:GA)(H H':Hp):Prop:=∀b o,H b=some o->b≠g.lv->b≠g.pt->b≠g.nm->H' b=some o
theorem Fr.refl(g:GA)(H:Hp):Fr g H H:=λ_ _ e _ _ _=>e
theorem Fr.trans{g:GA}{H1 H2 H3:Hp}(h:Fr g H1 H2)(h2:Fr g H2 H3):Fr g H1 H3:=λb o e n1 n2 n3=>h2 b o (h b o e n1 n2 n3) n1 n2 n3
theorem Az.fr{g:GA}{H1 H2:Hp}(h:Az H1 H2):Fr g H1 H2:=λb o e _ _ _=>h b o e
theorem PairedM.imp{α β:Type}{F G:α->β->Prop}(h:∀x y,F x y->G x y):∀{l:List α}{m:List β},Paired F l m->Paired G l m
 |_,_,.nil=>.nil
 |_,_,.cons r t=>.cons (h _ _ r) (PairedM.imp h t)
theorem PairedM.get{α β:Type}{F:α->β->Prop}:∀{l:List α}{m:List β}{i:Nat}{y:β},Paired F l m->m[i]?=some y->∃x,l[i]?=some x/\F x y
 |_,_,_,_,.nil,e=>by simp at e
 |_,_,0,_,.cons r _,e=>by simp at e;subst e;exact⟨_,rfl,r⟩
 |_,_,i+1,y,.cons _ t,e=>by
  obtain⟨x,h1,h2⟩:=PairedM.get (i:=i) (y:=y) t (by simpa using e);exact⟨x,by simpa using h1,h2⟩
theorem Ak{H:Hp}{p:Addr}{o:HO}(h:H p=none):Az H (upd H p o):=λb u e=>by
 rw[Al (An e h)];exact e
theorem AG.same{a:Ad}{H H':Hp}{g:GA}{G:Gv}(s:Az H H')(h:AG a H g G):AG a H' g G:=by
 obtain⟨h1,h2,⟨ts,h3,h4⟩,h5,h6⟩:=h;exact⟨s _ _ h1,s _ _ h2,⟨ts,s _ _ h3,PairedM.imp (λt q z=>s _ _ z) h4⟩,s _ _ h5,h6⟩
theorem AG.put{a:Ad}{H:Hp}{g:GA}{G:Gv}{l:Addr}{xs:List V}{o:HO}(hl:H l=some (.lst xs))(n1:l≠g.lv)(n2:l≠g.pt)(h:AG a H g G):AG a (upd H l o) g G:=by
 obtain⟨h1,h2,⟨ts,h3,h4⟩,h5,h6⟩:=h;have other:∀{b v},H b=some v->v≠.lst xs->upd H l o b=some v:=λ{b v} e n=>by rw[Al (AS e hl n)];exact e
 exact⟨other h1 A4,by rw[Al (Z4 n1)];exact h2,⟨ts,by rw[Al (Z4 n2)];exact h3,PairedM.imp (λt q z=>other z A4) h4⟩,other h5 A4,h6⟩
def Aj(G:Gv)(x:Nat)(l:Int):Prop:=∃q,G[x]?=some q/\q.lev=l
structure GOk(G:Gv):Prop where
 leaf:∀s:Nat,s<8->G[s]?=some ⟨[(s:Int)],0⟩
 node:∀(i:Nat) q,G[i]?=some q->8<=i->∃x y z w:Nat,q.parts=[(x:Int),(y:Int),(z:Int),(w:Int)]/\(Aj G x (q.lev-1)/\Aj G y (q.lev-1)/\Aj G z (q.lev-1)/\Aj G w (q.lev-1))/\1<=q.lev/\q.lev<=48
 nd:(G.map Sq.parts).Nodup
theorem Aj.lt{G:Gv}{x:Nat}{l:Int}(h:Aj G x l):x<G.length:=by
 obtain⟨q,h,_⟩:=h;exact(B7.mp h).1
theorem LO{G r:Gv}{x:Nat}{q:Sq}(h:G[x]?=some q):(G++r)[x]?=some q:=by
 rw[J8 (B7.mp h).1];exact h
theorem Aj.app{G r:Gv}{x:Nat}{l:Int}(h:Aj G x l):Aj (G++r) x l:=by
 obtain⟨q,h,e⟩:=h;exact⟨q,LO h,e⟩
theorem GOk.lev{G:Gv}(h:GOk G){i:Nat}{q:Sq}(e:G[i]?=some q):0<=q.lev/\q.lev<=48:=by
 by_cases h8:i<8
 ·rw[h.leaf i h8]at e;cases e;exact⟨L6 0,by show(0:Int)<=48;decide⟩
 ·obtain⟨x,y,z,w,_,_,h1,h2⟩:=h.node i q e A0;exact⟨by lia,h2⟩
theorem GOk.snoc{G:Gv}(h:GOk G){x y z w:Nat}{l:Int}(hx:Aj G x l)(hy:Aj G y l)(hz:Aj G z l)(hw:Aj G w l)(h47:l<=47)(new:∀q∈G,q.parts≠[(x:Int),(y:Int),(z:Int),(w:Int)]):GOk (G++[⟨[(x:Int),(y:Int),(z:Int),(w:Int)],l+1⟩]) where
 leaf:=λs hs=>LO (h.leaf s hs)
 node:=λi q e hi=>by
  by_cases hl:i<G.length
  ·rw[J8 hl]at e;obtain⟨x,y,z,w,h1,⟨a1,a2,a3,a4⟩,h3⟩:=h.node i q e hi;exact⟨x,y,z,w,h1,⟨a1.app,a2.app,a3.app,a4.app⟩,h3⟩
  ·rw[F3 A0]at e;have:i-G.length=0:=by
    by_cases z:i-G.length=0
    ·exact z
    ·rw[M0 (by rw[G9];lia)]at e;cases e
   rw[this]at e;cases e;obtain⟨q0,e0,l0⟩:=hx;have:=(h.lev e0).1;have el:l+1-1=l:=by lia
   refine⟨x,y,z,w,rfl,?_,?_,?_⟩
   ·show Aj _ x (l+1-1)/\Aj _ y (l+1-1)/\Aj _ z (l+1-1)/\Aj _ w (l+1-1);rw[el];exact⟨Aj.app ⟨q0,e0,l0⟩,hy.app,hz.app,hw.app⟩
   ·show 1<=l+1;lia
   ·show l+1<=48;lia
 nd:=by
  rw[B8,Q7];refine⟨h.nd,by simp,λp hp p' hp'=>?_⟩;obtain⟨q,hq,rfl⟩:=D4.mp hp;rw[show p'=[(x:Int),(y:Int),(z:Int),(w:Int)] by simpa using hp'];exact new q hq
theorem GOk.one{G:Gv}(h:GOk G){i j:Nat}{p q:Sq}(hi:G[i]?=some p)(hj:G[j]?=some q)(e:p.parts=q.parts):i=j:=by
 have li:=(B7.mp hi).1;have lj:=(B7.mp hj).1;have h1:(G.map Sq.parts)[i]'(by rw[B0];exact li)=(G.map Sq.parts)[j]'(by rw[B0];exact lj):=by
  rw[R4,R4,(B7.mp hi).2,(B7.mp hj).2,e]
 exact(List.getElem_inj h.nd).mp h1
seal L2.PA L2.PE L2.PS L2.PSs L2.PT L2.PW
theorem Gd{n:Nat}(h:n<=10000000):n<=sizeLine:=C4 h A3
theorem BF{n:Nat}(h:n<10000000):n<sizeLine:=F0 h A3
theorem kit_w(K:PySem.W.Frag):kitOne K (.type "int") (.type "int")=some true/\kitOne K (.type "int") (.type "bool")=some false:=⟨by kernel_rfl,by kernel_rfl⟩
section
variable{P:Program}{w:World}{K:PySem.W.Frag}{mg:Str->Option Value}{base:Heap}{a:Ad}
inductive SpIW(vs:List V)(H:Hp)(Q:VK):Prop
 |mk (i:Int) (_:vs=[.int i]) (_:Q (.bl true) H):SpIW vs H Q
def UQ:Sp:=λvs H Q _=>SpIW vs H Q
theorem ok_iw{f:Addr}{fd:FuncData}(F:Fun K "is_whole" "is_whole" Io f fd)(T:Top K mg a):AI P w K mg base CX0 1 f fd EC UQ:=by
 refine F.ok PD (λvs H Q E h=>?_) (λcdv A outer s H vs Q E hr h=>?_)
 ·obtain⟨i,rfl,_⟩:=h;rfl
 ·obtain⟨i,rfl,k⟩:=h;exact⟨_,(Ae (At (Jz (AA Fs rfl T.b_isinstance X3 (Aa (pv 0) (Aa (GN (v:=.ty "int") rfl T.b_int A0e rfl) Ac))) (OB (pe_not (AA Fs rfl T.b_isinstance X3 (Aa (pv 0) (Aa (GN (v:=.ty "bool") rfl T.b_bool PyProof.Rows.boot_bool rfl) Ac)))))))),(xq1 rfl ⟨_,_,_,.type "int",true,rfl,rfl,.of (.int i),(kit_w K).1,true,rfl,BH (xq1 rfl ⟨_,_,_,.type "int",false,rfl,rfl,.of (.int i),(kit_w K).2,false,rfl,k⟩)⟩)⟩
inductive SpIS(vs:List V)(H:Hp)(Q:VK):Prop
 |mk (i:Int) (_:vs=[.int i]) (_:0<=i) (_:i<8) (_:Q (.bl true) H):SpIS vs H Q
def UR:Sp:=λvs H Q _=>SpIS vs H Q
theorem ok_is{f:Addr}{fd:FuncData}(F:Fun K "is_state" "is_state" Ip f fd)(T:Top K mg a)(aJ:Cal P w K mg base CX0 1 "is_whole" EC UQ):AI P w K mg base CX0 2 f fd ED UR:=by
 refine F.ok PF (λvs H Q E h=>?_) (λcdv A outer s H vs Q E hr h=>?_)
 ·obtain⟨i,rfl,_⟩:=h;rfl
 ·obtain⟨i,rfl,h0,h1,k⟩:=h;refine⟨_,(Ae (At (Jz (Aq aJ (rm hr) rfl Ao (Aa (pv 0) Ac)) (OB (Vt JZ JY Af (pv 0) (BU rfl T.k_STATES)))))),?_⟩
  try dsimp only[cxK]
  refine xq1 rfl ⟨i,rfl,true,rfl,BH (xwb rfl rfl rfl (xq1 rfl ?_))⟩;rw[Y1 h0];refine BH (xq2 rfl rfl ?_);show Q (.bl (decide (i<8))) H;rw[Y1 h1];exact k
inductive WL(a:Ad)(vs:List V)(H:Hp)(Q:VK):Prop
 |mk (g:GA) (G:Gv) (t:Addr) (ps:List Int) (l:Int) (_:vs=[.ref g.p,.ref t,.int l]) (_:AG a H g G) (_:H t=some (.tup (ps.map V.int))) (_:(∀q∈G,q.parts≠ps)) (_:G.length<9000000) (_:∀H',Fr g H H'->AG a H' g (G++[⟨ps,l⟩])->Q (.int (G.length:Int)) H'):WL a vs H Q
def Op(a:Ad):Sp:=λvs H Q _=>WL a vs H Q
theorem ok_kept{f:Addr}{fd:FuncData}(F:Fun K "kept" "Grove.kept" FG f fd)(T:Top K mg a):AI P w K mg base CX0 1 f fd Ei (Op a):=by
 refine F.ok Ib (λvs H Q E h=>?_) (λcdv A outer s H vs Q E hr h=>?_)
 ·obtain⟨g,G,t,ps,l,rfl,_⟩:=h;rfl
 ·obtain⟨g,G,t,ps,l,rfl,hg,ht,new,few,k⟩:=h;obtain⟨h1,h2,⟨ts,h3,h4⟩,h5,h6⟩:=hg;have lt:ts.length=G.length:=Y6 h4;refine⟨_,(Ab (Ah (i:=3) Ib.nd rfl (Or.inl rfl) (AA BV rfl T.b_len X9 (Aa (AO (pv 0) rfl) Ac))) (Ab (GL (Id hr) (AO (pv 0) rfl) (pv 1) (pv 3) rfl) (Ab (Bj (CH Z1 Y9 Z0 Bl (AO (pv 0) rfl) (Aa (pv 2) Ac))) (Ab (Bj (CH Z1 Y9 Z0 Bl (AO (pv 0) rfl) (Aa (pv 1) Ac))) (Ae (At (pv 3))))))),?_⟩
  try dsimp only[cxK]
  refine xwf rfl rfl h1 T.cl_Grove T.na_Grove_levels (DX g) ⟨g.lv,(xq1 rfl ⟨.inl (SqL.of h2),?_⟩)⟩;rw[B0];have ne1:g.p≠g.nm:=AS h1 h5 A4;have ne2:g.lv≠g.nm:=AS h2 h5 A4;have ne3:g.pt≠g.nm:=AS h3 h5 A4;have ne4:g.p≠g.lv:=AS h1 h2 A4;have ne5:g.p≠g.pt:=AS h1 h3 A4;have vn:Bw (GB 0 G) (kOf ps)=none:=by
   rcases OV ps G 0 with ⟨i,q,e1,e2,_⟩|⟨e,_⟩
   ·exact absurd e2 (new q (F6 e1))
   ·exact e
  refine xw2 rfl rfl (xq5 h1 T.cl_Grove T.na_Grove_numbers (Wm g) (xq1 rfl ⟨g.nm,(xq1 rfl ⟨Ly.t (k:=kOf ps) h5 (by rw[kOf_v];exact ht) (by rw[Qq];exact BF A0),?_⟩)⟩));rw[IR _ vn];have e5:GB 0 G++[(kOf ps,V.int (G.length:Int))]=GB 0 (G++[⟨ps,l⟩]):=by rw[NQ,O1]
  rw[e5];generalize hH1:upd H g.nm (.dT (GB 0 (G++[⟨ps,l⟩])))=H1;have k1:∀b o,H b=some o->b≠g.nm->H1 b=some o:=λb o e n=>by rw[<-hH1,Al n];exact e
  have n1:H1 g.nm=some (.dT (GB 0 (G++[⟨ps,l⟩]))):=by rw[<-hH1];exact upd_same
  refine xwf rfl rfl (k1 _ _ h1 ne1) T.cl_Grove T.na_Grove_levels (DX g) ⟨.inl ⟨rfl,_,SqL.of (k1 _ _ h2 ne2)⟩,(xq1 rfl ⟨g.lv,(xq2 rfl rfl ⟨k1 _ _ h2 ne2,by rw[B0];exact BF A0,?_⟩)⟩)⟩;generalize hH2:upd H1 g.lv (.lst ((G.map λq=>V.int q.lev)++[.int l]))=H2;have k2:∀b o,H1 b=some o->b≠g.lv->H2 b=some o:=λb o e n=>by rw[<-hH2,Al n];exact e
  have n2:H2 g.lv=some (.lst ((G++[(⟨ps,l⟩:Sq)]).map λq=>V.int q.lev)):=by rw[<-hH2,upd_same,B8];rfl
  have h3':=k2 _ _ (k1 _ _ h3 ne3) (Z4 h6);refine xwf rfl rfl (k2 _ _ (k1 _ _ h1 ne1) ne4) T.cl_Grove T.na_Grove_parts (DV g) ⟨.inl ⟨rfl,_,SqL.of h3'⟩,(xq1 rfl ⟨g.pt,(xq2 rfl rfl ⟨h3',by rw[B0,lt];exact BF A0,?_⟩)⟩)⟩;generalize hH3:upd H2 g.pt (.lst (ts.map V.ref++[.ref t]))=H3;have k3:∀b o,H2 b=some o->b≠g.pt->H3 b=some o:=λb o e n=>by rw[<-hH3,Al n];exact e
  have n3:H3 g.pt=some (.lst ((ts++[t]).map V.ref)):=by rw[<-hH3,upd_same,B8];rfl
  have fr:Fr g H H3:=λb o e m1 m2 m3=>k3 _ _ (k2 _ _ (k1 _ _ e m3) m1) m2;have tp:∀(c:Addr)(xs:List V),H c=some (.tup xs)->H3 c=some (.tup xs):=λc xs e=>fr _ _ e (AS e h2 A4) (AS e h3 A4) (AS e h5 A4);refine xq1 rfl (k H3 fr ⟨fr _ _ h1 ne4 ne5 ne1,k3 _ _ n2 h6,⟨ts++[t],n3,K2 (PairedM.imp (λc q z=>tp c _ z) h4) (tp t _ ht)⟩,k3 _ _ (k2 _ _ n1 (Z4 ne2)) (Z4 ne3),h6⟩)
structure AM(G G':Gv)(n:Nat):Prop where
 ok:GOk G'
 pre:∃r,G'=G++r
 few:G'.length<=G.length+n
theorem AM.refl{G:Gv}(h:GOk G):AM G G 0:=⟨h,⟨[],by simp⟩,B5 _⟩
theorem AM.trans{G G' G'':Gv}{n m:Nat}(h:AM G G' n)(h2:AM G' G'' m):AM G G'' (n+m):=by
 obtain⟨r,e⟩:=h.pre;obtain⟨t,e2⟩:=h2.pre;have f1:=h.few;have f2:=h2.few;exact⟨h2.ok,⟨r++t,by rw[e2,e,M6]⟩,by lia⟩
theorem AM.get{G G':Gv}{n x:Nat}{q:Sq}(h:AM G G' n)(e:G[x]?=some q):G'[x]?=some q:=by
 obtain⟨r,e2⟩:=h.pre;rw[e2];exact LO e
theorem AM.lev{G G':Gv}{n x:Nat}{l:Int}(h:AM G G' n)(e:Aj G x l):Aj G' x l:=by
 obtain⟨q,e,z⟩:=e;exact⟨q,h.get e,z⟩
inductive WI(a:Ad)(vs:List V)(H:Hp)(Q:VK):Prop
 |mk (g:GA) (G:Gv) (t:Addr) (x y z w:Nat) (l:Int) (_:vs=[.ref g.p,.ref t]) (_:AG a H g G) (_:GOk G) (_:H t=some (.tup [.int x,.int y,.int z,.int w])) (_:(Aj G x l/\Aj G y l/\Aj G z l/\Aj G w l)) (_:l<=47) (_:G.length<9000000) (_:∀(n:Nat)(G':Gv)(H':Hp),Fr g H H'->AG a H' g G'->AM G G' 1->G'[n]?=some ⟨[(x:Int),(y:Int),(z:Int),(w:Int)],l+1⟩->Q (.int n) H'):WI a vs H Q
def Gg(a:Ad):Sp:=λvs H Q _=>WI a vs H Q
theorem ok_link{f:Addr}{fd:FuncData}(F:Fun K "linked" "Grove.linked" Ex f fd)(T:Top K mg a)(aI:Dp P w K mg base CX0 1 a.c_Grove "kept" Ei (Op a)):AI P w K mg base CX0 2 f fd Bp (Gg a):=by
 refine F.ok Gb (λvs H Q E h=>?_) (λcdv A outer s H vs Q E hr h=>?_)
 ·obtain⟨g,G,t,x,y,z,w,l,rfl,_⟩:=h;rfl
 ·obtain⟨g,G,t,x,y,z,w,l,rfl,hg,ok,ht,⟨hx,hy,hz,hw⟩,h47,few,k⟩:=h;have hg0:=hg;obtain⟨h1,h2,⟨ts,h3,h4⟩,h5,h6⟩:=hg;refine⟨_,(Ab (Ah (i:=2) Gb.nd rfl (Or.inl rfl) (Mx (Id hr) (AO (pv 0) rfl) (pv 1) ⟨rfl,rfl,rfl,rfl⟩)) (Ab (AE (As MB (pv 2) Gp (Au _)) (Ae (At (AK (pv 0) aI (rm hr) Ao (Aa (pv 1) (Bv AW (Am AB (AO (pv 0) rfl) (Am Av (pv 1) Af (λ_ _=>rfl)) (λ_ _=>rfl)) Af Ac))))) Ax) (Ae (At (pv 2))))),?_⟩
  try dsimp only[cxK]
  refine xwf rfl rfl h1 T.cl_Grove T.na_Grove_numbers (Wm g) ⟨g.nm,rfl,.inr ⟨_,.inl h5⟩,(xq1 rfl ⟨_,Lz.t (k:=kOf [(x:Int),(y:Int),(z:Int),(w:Int)]) h5 (by rw[kOf_v];exact ht),?_⟩)⟩;rcases OV [(x:Int),(y:Int),(z:Int),(w:Int)] G 0 with ⟨i,q,e1,e2,e3⟩|⟨e,new⟩
  ·rw[e3];refine xq1 rfl ⟨rfl,(xq1 rfl (AT (xq1 rfl ?_)))⟩;rw[O1];refine k i G H (Fr.refl g H) hg0 ⟨ok,⟨[],by simp⟩,by lia⟩ ?_;have h8:8<=i:=by
    refine R3 λz'=>?_;rw[ok.leaf i z']at e1;cases e1;cases e2
   obtain⟨x',y',z',w',p1,⟨lx,_⟩,_⟩:=ok.node i q e1 h8;have exx:x'=x:=by
    rw[p1]at e2;injection e2 with e2 _
    exact Y7 e2
   rw[exx]at lx;obtain⟨qa,a1,a2⟩:=lx;obtain⟨qb,b1,b2⟩:=hx;rw[a1]at b1;cases b1;have el:q.lev=l+1:=by lia
   rw[e1];cases q with
   |mk pp ll=>cases e2;cases el;rfl
  ·rw[e];refine xq1 rfl ⟨rfl,(xq1 rfl (BH ?_))⟩;obtain⟨q,e1,e2⟩:=id hx;refine xwn rfl rfl h1 (OE g) rfl (xwf rfl rfl h1 T.cl_Grove T.na_Grove_levels (DX g) (xwi rfl rfl rfl (SqT.of ht) (Ag (j:=0) rfl) (xq4 rfl rfl (SqL.of h2) (Ag (by rw[B6,e1];rfl)) (xq2 rfl rfl ?_))));refine⟨g,G,t,[(x:Int),(y:Int),(z:Int),(w:Int)],l+1,by rw[<-e2];rfl,hg0,ht,new,few,λH' fr hg'=>?_⟩;refine k G.length _ H' fr hg' ⟨ok.snoc hx hy hz hw h47 new,⟨_,rfl⟩,by rw[B4];exact B5 _⟩ ?_;rw[F3 (B5 _),U8];rfl
inductive SpChk(a:Ad)(vs:List V)(H:Hp)(Q:VK):Prop
 |mk (g:GA) (G:Gv) (i:Nat) (_:vs=[.ref g.p,.int i]) (_:AG a H g G) (_:i<G.length) (_:Q .non H):SpChk a vs H Q
def Pz(a:Ad):Sp:=λvs H Q _=>SpChk a vs H Q
theorem ok_chk{f:Addr}{fd:FuncData}(F:Fun K "check_square" "Grove.check_square" Ck f fd)(T:Top K mg a)(aJ:Cal P w K mg base CX0 1 "is_whole" EC UQ):AI P w K mg base CX0 2 f fd Bq (Pz a):=by
 refine F.ok Ge (λvs H Q E h=>?_) (λcdv A outer s H vs Q E hr h=>?_)
 ·obtain⟨g,G,i,rfl,_⟩:=h;rfl
 ·obtain⟨g,G,i,rfl,hg,hi,k⟩:=h;refine⟨_,(Ae (AE (PW.pt (Fn (CG (Cm (Aq aJ (rm hr) rfl Ao (Aa (pv 1) Ac)))) (EZ (CG (PP JZ JY Af (pv 1) (AA BV rfl T.b_len X9 (Aa (AO (pv 0) rfl) Ac))))))) (Ae AZ) Ax)),?_⟩
  try dsimp only[cxK]
  refine⟨_,rfl,_,rfl,true,rfl,AT ⟨_,rfl,_,_,rfl,rfl,_,rfl,?_⟩⟩;rw[Y1 (by lia:(0:Int)<=(i:Int))];refine BH (xwf rfl rfl hg.hp T.cl_Grove T.na_Grove_levels (DX g) ⟨g.lv,(xq1 rfl ⟨.inl (SqL.of hg.lv),(xq2 rfl rfl (xq1 rfl ?_))⟩)⟩);rw[B0,Y1 (by lia:(i:Int)<(G.length:Int))];exact AT k
inductive WJ(a:Ad)(vs:List V)(H:Hp)(Q:VK):Prop
 |mk (p:Addr) (i:Int) (_:vs=[.ref p,.int i]) (_:0<=i) (_:i<8) (_:Q (.int i) H):WJ a vs H Q
def On(a:Ad):Sp:=λvs H Q _=>WJ a vs H Q
theorem ok_leaf{f:Addr}{fd:FuncData}(F:Fun K "leaf" "Grove.leaf" FF f fd)(T:Top K mg a)(aK:Cal P w K mg base CX0 2 "is_state" ED UR):AI P w K mg base CX0 3 f fd Eh (On a):=by
 refine F.ok Nj (λvs H Q E h=>?_) (λcdv A outer s H vs Q E hr h=>?_)
 ·obtain⟨g,i,rfl,_⟩:=h;rfl
 ·obtain⟨g,i,rfl,h0,h1,k⟩:=h;exact⟨_,(Ab (AE (CG (Cm (Aq aK (rm hr) rfl Ao (Aa (pv 1) Ac)))) (Ae AZ) Ax) (Ae (At (pv 1)))),(xq1 rfl ⟨i,rfl,h0,h1,true,rfl,AT (xq1 rfl k)⟩)⟩
inductive SpLev(a:Ad)(vs:List V)(H:Hp)(Q:VK):Prop
 |mk (g:GA) (G:Gv) (i:Nat) (q:Sq) (_:vs=[.ref g.p,.int i]) (_:AG a H g G) (_:G[i]?=some q) (_:Q (.int q.lev) H):SpLev a vs H Q
def Mb(a:Ad):Sp:=λvs H Q _=>SpLev a vs H Q
theorem ok_lev{f:Addr}{fd:FuncData}(F:Fun K "level_of" "Grove.level_of" Ds f fd)(T:Top K mg a)(a9:Dp P w K mg base CX0 2 a.c_Grove "check_square" Bq (Pz a)):AI P w K mg base CX0 3 f fd Bk (Mb a):=by
 refine F.ok IN (λvs H Q E h=>?_) (λcdv A outer s H vs Q E hr h=>?_)
 ·obtain⟨g,G,i,q,rfl,_⟩:=h;rfl
 ·obtain⟨g,G,i,q,rfl,hg,hi,k⟩:=h;refine⟨_,(Ab (Bj (AK (pv 0) a9 (rm hr) Ao (Aa (pv 1) Ac))) (Ae (At (Am AB (AO (pv 0) rfl) (pv 1) (λ_ _=>rfl))))),?_⟩
  try dsimp only[cxK]
  refine xwn rfl rfl hg.hp (MD g) rfl ⟨g,G,i,rfl,hg,(B7.mp hi).1,?_⟩;exact xwf rfl rfl hg.hp T.cl_Grove T.na_Grove_levels (DX g) (xwi rfl rfl rfl (SqL.of hg.lv) (Ag (by rw[B6,hi];rfl)) k)
inductive SpSta(a:Ad)(vs:List V)(H:Hp)(Q:VK):Prop
 |mk (g:GA) (G:Gv) (i:Nat) (q:Sq) (_:vs=[.ref g.p,.int i]) (_:AG a H g G) (_:G[i]?=some q) (_:q.lev=0) (_:Q (.int i) H):SpSta a vs H Q
def UJ(a:Ad):Sp:=λvs H Q _=>SpSta a vs H Q
theorem ok_sta{f:Addr}{fd:FuncData}(F:Fun K "state_of" "Grove.state_of" Dr f fd)(T:Top K mg a)(a7:Dp P w K mg base CX0 3 a.c_Grove "level_of" Bk (Mb a)):AI P w K mg base CX0 4 f fd Du (UJ a):=by
 refine F.ok IM (λvs H Q E h=>?_) (λcdv A outer s H vs Q E hr h=>?_)
 ·obtain⟨g,G,i,q,rfl,_⟩:=h;rfl
 ·obtain⟨g,G,i,q,rfl,hg,hi,h0,k⟩:=h;refine⟨_,(Ab (AE (As MA (AK (pv 0) a7 (rm hr) Ao (Aa (pv 1) Ac)) Af (Au _)) (Ae AZ) Ax) (Ae (At (pv 1)))),?_⟩
  try dsimp only[cxK]
  refine xwn rfl rfl hg.hp (EH g) rfl ⟨g,G,i,q,rfl,hg,hi,rfl,(xq1 rfl ?_)⟩;rw[h0];exact iteNS rfl (xq1 rfl k)
end
def Sol(G:Gv)(s:Nat):Nat->Nat->Prop
 |0,n=>n=s
 |l+1,n=>∃m:Nat,Sol G s l m/\G[n]?=some ⟨[(m:Int),(m:Int),(m:Int),(m:Int)],(l:Int)+1⟩
theorem Sol.lev{G:Gv}(h:GOk G){s:Nat}(hs:s<8):∀{l n:Nat},Sol G s l n->Aj G n l
 |0,n,e=>by
  have e:n=s:=e;subst e;exact⟨_,h.leaf n hs,rfl⟩
 |l+1,n,e=>by
  obtain⟨m,_,e⟩:=e;exact⟨_,e,rfl⟩
theorem Sol.goes{G G':Gv}{k:Nat}(h:AM G G' k){s:Nat}:∀{l n:Nat},Sol G s l n->Sol G' s l n
 |0,n,e=>e
 |l+1,n,e=>by
  obtain⟨m,e1,e2⟩:=e;exact⟨m,Sol.goes h e1,h.get e2⟩
section
variable{P:Program}{w:World}{K:PySem.W.Frag}{mg:Str->Option Value}{base:Heap}{a:Ad}
inductive SV(a:Ad)(vs:List V)(H:Hp)(Q:VK):Prop
 |mk (g:GA) (G:Gv) (l s:Nat) (_:vs=[.ref g.p,.int l,.int s]) (_:AG a H g G) (_:GOk G) (_:l<=48) (_:s<8) (_:G.length<8000000) (_:∀(n:Nat)(G':Gv)(H':Hp),Fr g H H'->AG a H' g G'->AM G G' l->Sol G' s l n->Q (.int n) H'):SV a vs H Q
def Ol(a:Ad):Sp:=λvs H Q _=>SV a vs H Q
theorem Vv{f:Addr}{fd:FuncData}(F:Fun K "solid" "Grove.solid" EX f fd)(T:Top K mg a)(aJ:Cal P w K mg base CX0 1 "is_whole" EC UQ)(aH:Dp P w K mg base CX0 3 a.c_Grove "leaf" Eh (On a))(a6:Dp P w K mg base CX0 2 a.c_Grove "linked" Bp (Gg a)):AI P w K mg base CX0 4 f fd Fd (Ol a):=by
 refine F.ok Df (λvs H Q E h=>?_) (λcdv A outer s H vs Q E hr h=>?_)
 ·obtain⟨g,G,l,s,rfl,_⟩:=h;rfl
 ·obtain⟨g,G,l,st,rfl,hg,ok,h48,h8,few,k⟩:=h;refine⟨_,(Ab (AE (PW.pt (Fn (CG (Cm (Aq aJ (rm hr) rfl Ao (Aa (pv 1) Ac)))) (EZ (CG (PP JZ JZ Af (pv 1) (BU rfl T.k_TOP_LEVEL)))))) (Ae AZ) Ax) (Ab (Ah (i:=3) Df.nd rfl (Or.inl rfl) (AK (pv 0) aH (rm hr) Ao (Aa (pv 2) Ac))) (Ab (BT Z2 rfl (GM rfl T.b_range (Aa (pv 1) Ac)) (AF (i:=4) Df.nd rfl (Or.inl rfl)) (Ae (Ah (i:=3) Df.nd rfl (Or.inl rfl) (AK (pv 0) a6 (rm hr) Ao (BJ (Aa (pv 3) (Aa (pv 3) (Aa (pv 3) (Aa (pv 3) Ac)))) Ac))))) (Ae (At (pv 3)))))),?_⟩
  try dsimp only[cxK]
  refine⟨_,rfl,_,rfl,true,rfl,AT ⟨_,rfl,_,_,rfl,rfl,_,rfl,?_⟩⟩;rw[Y1 (by lia:(0:Int)<=(l:Int))];refine BH (xq2 rfl rfl (xq1 rfl ?_));rw[Y1 (by lia:(l:Int)<=(48:Int))];refine AT (xwn rfl rfl hg.hp (Sw g) rfl ⟨g.p,(st:Int),rfl,by lia,by lia,?_⟩);refine xw2 rfl rfl ⟨by lia,by lia,?_⟩;rw[F1];refine Dw (n:=l) (λi σ H2=>∃(G':Gv)(m:Nat)(u4:Option V),σ=[some (.ref g.p),some (.int l),some (.int st),some (.int m),u4]/\Fr g H H2/\AG a H2 g G'/\AM G G' i/\Sol G' st i m) ⟨G,st,none,rfl,Fr.refl g H,hg,AM.refl ok,rfl⟩ ?_ ?_
  ·rintro i σ H2 hi ⟨G',m,u4,rfl,fr,hg2,go,so⟩;have lf:=go.few;have lm:=Sol.lev go.ok h8 so;refine xwn rfl rfl hg2.hp (Cz g) rfl (xw3 rfl rfl rfl ⟨(by show 4<=sizeLine;decide),λt ht=>?_⟩);have s3:=Ak (o:=.tup [.int m,.int m,.int m,.int m]) ht;refine⟨g,G',t,m,m,m,m,(i:Int),rfl,hg2.same s3,go.ok,upd_same,⟨lm,lm,lm,lm⟩,by lia,by lia,λn G'' H' fr' hg' go' e=>?_⟩;exact⟨G'',n,(xq1 rfl ⟨(fr.trans (Az.fr s3)).trans fr',hg',go.trans go',m,Sol.goes go' so,e⟩)⟩
  ·rintro σ H2 ⟨G',m,u4,rfl,fr,hg2,go,so⟩;exact xq1 rfl (k m G' H2 fr hg2 go so)
end
end J
namespace J
open PySem L2
def bareN:Nat->Nat
 |0=>0
 |j+1=>8+j
def CW(n:Nat):Gv:=(List.range n).map λ(s:Nat)=>(⟨[(s:Int)],0⟩:Sq)
def EK(n:Nat):Gv:=(List.range n).map λ(j:Nat)=>(⟨[(bareN j:Int),(bareN j:Int),(bareN j:Int),(bareN j:Int)],(j:Int)+1⟩:Sq)
def G0:Gv:=CW 8++EK 48
theorem Ry(n:Nat):CW (n+1)=CW n++[⟨[(n:Int)],0⟩]:=by unfold CW;rw[N9,B8];rfl
theorem MX(n:Nat):EK (n+1)=EK n++[⟨[(bareN n:Int),(bareN n:Int),(bareN n:Int),(bareN n:Int)],(n:Int)+1⟩]:=by unfold EK;rw[N9,B8];rfl
theorem El(n:Nat):(CW n).length=n:=by unfold CW;rw[B0,Q8]
theorem Og(n:Nat):(EK n).length=n:=by unfold EK;rw[B0,Q8]
theorem Um{i j:Nat}(h:bareN i=bareN j):i=j:=by
 cases i<;>cases j
 ·rfl
 ·have:0=8+_:=h;lia
 ·have:8+_=0:=h;lia
 ·have:8+_=8+_:=h;lia
theorem TN(n:Nat):∀q∈CW n,q.parts≠[(n:Int)]:=λq hq z=>by
 obtain⟨s,hs,rfl⟩:=D4.mp hq;have:=L9.mp hs;injection z with z _
 have:s=n:=Y7 z;lia
theorem Oe(n:Nat):∀q∈CW 8++EK n,q.parts≠[(bareN n:Int),(bareN n:Int),(bareN n:Int),(bareN n:Int)]:=λq hq z=>by
 rcases C8.mp hq with hq|hq
 ·obtain⟨s,hs,rfl⟩:=D4.mp hq;cases z
 ·obtain⟨s,hs,rfl⟩:=D4.mp hq;have:=L9.mp hs;injection z with z _
  have:=Um (Y7 z);lia
theorem JN:G0.length=56:=by unfold G0;rw[B4,El,Og]
theorem Pe(j:Nat)(h:j<48):G0[8+j]?=some ⟨[(bareN j:Int),(bareN j:Int),(bareN j:Int),(bareN j:Int)],(j:Int)+1⟩:=by
 unfold G0;rw[F3 (by rw[El];lia),El,show 8+j-8=j by lia];unfold EK;rw[B6,P4 h];rfl
theorem Pc(s:Nat)(h:s<8):G0[s]?=some ⟨[(s:Int)],0⟩:=by
 unfold G0;rw[J8 (by rw[El];exact h)];unfold CW;rw[B6,P4 h];rfl
theorem Wl(j:Nat)(h:j<=48):Aj G0 (bareN j) (j:Int):=by
 cases j with
 |zero=>exact⟨_,Pc 0 A3,rfl⟩
 |succ j=>exact⟨_,Pe j A0,rfl⟩
theorem g0_nd:∀n,((CW 8++EK n).map Sq.parts).Nodup
 |0=>by decide
 |n+1=>by
  rw[MX,<-M6,B8,Q7];refine⟨g0_nd n,by simp,λp hp p' hp'=>?_⟩;obtain⟨q,hq,rfl⟩:=D4.mp hp;rw[show p'=[(bareN n:Int),(bareN n:Int),(bareN n:Int),(bareN n:Int)] by simpa using hp'];exact Oe n q hq
theorem g0_ok:GOk G0 where
 leaf:=Pc
 node:=λi q e h8=>by
  have hi:i<56:=by rw[<-JN];exact(B7.mp e).1
  obtain⟨j,rfl⟩:∃j,i=8+j:=⟨i-8,by lia⟩
  rw[Pe j A0]at e;cases e;have:=Wl j A0;refine⟨bareN j,bareN j,bareN j,bareN j,rfl,?_,?_,?_⟩
  ·show Aj G0 _ ((j:Int)+1-1)/\Aj G0 _ ((j:Int)+1-1)/\Aj G0 _ ((j:Int)+1-1)/\Aj G0 _ ((j:Int)+1-1);rw[show(j:Int)+1-1=(j:Int) by lia];exact⟨this,this,this,this⟩
  ·show 1<=(j:Int)+1;lia
  ·show(j:Int)+1<=48;lia
 nd:=g0_nd 48
def amK(n:Nat):List (Key×V):=(List.range n).map λ(s:Nat)=>(Sum.inl (s:Int),V.int (if(1:Int)<(s:Int)then 1 else(s:Int)))
theorem QI(n:Nat):amK (n+1)=amK n++[(Sum.inl (n:Int),V.int (if(1:Int)<(n:Int)then 1 else(n:Int)))]:=by unfold amK;rw[N9,B8];rfl
theorem amK_len(n:Nat):(amK n).length=n:=by unfold amK;rw[B0,Q8]
theorem RV{κ:Type}[DecidableEq κ]{k:κ}:∀{l m:List (κ×V)},Bw l k=none->Bw (l++m) k=Bw m k
 |[],_,_=>rfl
 |p::r,m,h=>by
  by_cases e:p.1=k
  ·rw[Bu e]at h;cases h
  ·rw[Bf e]at h;show Bw (p::(r++m)) k=_;rw[Bf e];exact RV h
theorem QJ(n:Nat):∀m,n<=m->Bw (amK n) (Sum.inl (m:Int))=none:=by
 induction n with
 |zero=>intro m _;rfl
 |succ n ih =>
  intro m hm;rw[QI,RV (ih m A0),Bf (by intro z;injection z with z;have:=Y7 z;lia)];rfl
def CZ(n:Nat):List Int:=(List.range (n+1)).map λj=>((bareN j:Nat):Int)
theorem MY(n:Nat):CZ (n+1)=CZ n++[((bareN (n+1):Nat):Int)]:=by unfold CZ;rw[N9,B8];rfl
theorem RN(n:Nat):(CZ n).getLast?=some ((bareN n:Nat):Int):=by
 cases n with
 |zero=>rfl
 |succ n=>rw[MY,List.getLast?_append];rfl
theorem WA{xs:List V}{x:V}(h:xs.getLast?=some x):atI xs (-1)=some x:=by
 obtain⟨ys,rfl⟩:=List.getLast?_eq_some_iff.mp h;unfold atI ixN;rw[Y0 A3,Y4 (by rw[B4,G9];lia)];show(ys++[x])[((-1:Int)+((ys++[x]).length:Nat)).toNat]?=some x;rw[B4,G9,show((-1:Int)+((ys.length+1:Nat):Int)).toNat=ys.length by lia,F3 (B5 _),U8];rfl
seal L2.PA L2.PE L2.PS L2.PSs L2.PT L2.PW
structure QK(a:Ad)(H H':Hp)(g:GA)(G:Gv)(B:List Int)(am:List (Key×V)):Prop where
 kp:∀b o,H b=some o->b≠g.p->H' b=some o
 at':AG a H' g G
 br:H' g.br=some (.lst (B.map V.int))
 am:H' g.am=some (.dK am)
 bx:H' g.bx=some (.dK [])
 fresh:H g.lv=none/\H g.pt=none/\H g.nm=none/\H g.br=none/\H g.am=none/\H g.bx=none
 n1:g.br≠g.lv
 n2:g.br≠g.pt
 n3:g.am≠g.bx
section
variable{P:Program}{w:World}{K:PySem.W.Frag}{mg:Str->Option Value}{base:Heap}{a:Ad}
inductive Ta(a:Ad)(vs:List V)(H:Hp)(Q:VK):Prop
 |mk (p dx:Addr) (_:vs=[.ref p]) (_:H p=some (.ins a.c_Grove dx [])) (_:∀(g:GA)(H':Hp),g.p=p->QK a H H' g G0 (CZ 48) (amK 8)->Q .non H'):Ta a vs H Q
def Oq(a:Ad):Sp:=λvs H Q _=>Ta a vs H Q
theorem VC{f:Addr}{fd:FuncData}(F:Fun K "__init__" "Grove.__init__" FH f fd)(T:Top K mg a)(aI:Dp P w K mg base CX0 1 a.c_Grove "kept" Ei (Op a)):AI P w K mg base CX0 2 f fd FO (Oq a):=by
 refine F.ok Dy (λvs H Q E h=>?_) (λcdv A outer s H vs Q E hr h=>?_)
 ·obtain⟨p,dx,rfl,_⟩:=h;rfl
 ·obtain⟨p,dx,rfl,hp,k⟩:=h;refine⟨_,(Ab (Jw (pv 0) (Dj Ac) rfl) (Ab (Jw (pv 0) (Dj Ac) rfl) (Ab (Jw (pv 0) PR rfl) (Ab (Jw (pv 0) (Dj (Bh Ac)) rfl) (Ab (Jw (pv 0) PU rfl) (Ab (Jw (pv 0) PU rfl) (Ab (BT Z2 rfl (GM rfl T.b_range (Aa (BU rfl T.k_STATES) Ac)) (AF (i:=1) Dy.nd rfl (Or.inl rfl)) (Ab (Bj (AK (pv 0) aI (rm hr) Ao (BJ (Aa (pv 1) Ac) (Bh Ac)))) (Ae (GL (Id hr) (AO (pv 0) rfl) (pv 1) (AA (Fq rfl) rfl T.b_min X1 (Aa (pv 1) (Bh Ac))) rfl)))) (Ae (BT Z2 rfl (Jy rfl T.b_range (Bh (Bv AW (BU rfl T.k_TOP_LEVEL) Af Ac))) (AF (i:=2) Dy.nd rfl (Or.inl rfl)) (Ab (Ah (i:=3) Dy.nd rfl (Or.inl rfl) (Am AB (AO (pv 0) rfl) (EQ Dd Af) (λ_ _=>rfl))) (Ae (Bj (CH Z1 Y9 Z0 Bl (AO (pv 0) rfl) (Aa (AK (pv 0) aI (rm hr) Ao (BJ (Aa (pv 3) (Aa (pv 3) (Aa (pv 3) (Aa (pv 3) Ac)))) (Aa (pv 2) Ac))) Ac)))))))))))))),?_⟩
  try dsimp only[cxK]
  have stp:∀{Hk:Hp}{x:Addr}{o:HO}{fs fs':List (Str×V)},Hk p=some (.ins a.c_Grove dx fs)->Hk x=none->(∀b v,Hk b=some v->b≠p->upd (upd Hk x o) p (.ins a.c_Grove dx fs') b=some v)/\upd (upd Hk x o) p (.ins a.c_Grove dx fs') x=some o/\upd (upd Hk x o) p (.ins a.c_Grove dx fs') p=some (.ins a.c_Grove dx fs')/\upd Hk x o p=some (.ins a.c_Grove dx fs):=λ{Hk x o fs fs'} e1 e2=>by
   have n:x≠p:=λz=>by rw[z,e1]at e2;cases e2
   exact⟨λb v e nb=>by rw[Al nb,Al (An e e2)];exact e,by rw[Al n];exact upd_same,upd_same,by rw[Al (Z4 n)];exact e1⟩
  refine Bs ?_;intro r_k_ s_k_ k_ hk_ E_k_;refine⟨(by show 0<=sizeLine;decide),λlv hlv=>?_⟩;obtain⟨k1,x1,p1,q1⟩:=stp (o:=.lst []) (fs':=BO "levels" (.ref lv) []) hp hlv;refine xq1 rfl ⟨p,_,dx,[],rfl,q1,T.cl_Grove,T.na_Grove_levels,(by show 0<1000;decide),?_⟩;show k_ _ _;generalize upd (upd H lv _) p _=H1 at k1 x1 p1⊢;refine hk_ ?_;refine Bs ?_;intro r_k_ s_k_ k_ hk_ E_k_;refine⟨(by show 0<=sizeLine;decide),λpt hpt=>?_⟩;obtain⟨k2,x2,p2,q2⟩:=stp (o:=.lst []) (fs':=BO "parts" (.ref pt) (BO "levels" (.ref lv) [])) p1 hpt;refine xq1 rfl ⟨p,_,dx,(xq1 rfl ⟨q2,T.cl_Grove,T.na_Grove_parts,(by show 1<1000;decide),?_⟩)⟩;show k_ _ _;generalize upd (upd H1 pt _) p _=H2 at k2 x2 p2⊢;refine hk_ ?_;refine Bs ?_;intro r_k_ s_k_ k_ hk_ E_k_;intro nm hnm;obtain⟨k3,x3,p3,q3⟩:=stp (o:=.dT []) (fs':=BO "numbers" (.ref nm) (BO "parts" (.ref pt) (BO "levels" (.ref lv) []))) p2 hnm;refine xq1 rfl ⟨p,_,dx,(xq1 rfl ⟨q3,T.cl_Grove,T.na_Grove_numbers,(by show 2<1000;decide),?_⟩)⟩;show k_ _ _;generalize upd (upd H2 nm _) p _=H3 at k3 x3 p3⊢;refine hk_ ?_;refine Bs ?_;intro r_k_ s_k_ k_ hk_ E_k_;refine⟨(by show 1<=sizeLine;decide),λbr hbr=>?_⟩;obtain⟨k4,x4,p4,q4⟩:=stp (o:=.lst [.int 0]) (fs':=BO "bares" (.ref br) (BO "numbers" (.ref nm) (BO "parts" (.ref pt) (BO "levels" (.ref lv) [])))) p3 hbr;refine xq1 rfl ⟨p,_,dx,(xq1 rfl ⟨q4,T.cl_Grove,T.na_Grove_bares,(by show 3<1000;decide),?_⟩)⟩;show k_ _ _;generalize upd (upd H3 br _) p _=H4 at k4 x4 p4⊢;refine hk_ ?_;refine Bs ?_;intro r_k_ s_k_ k_ hk_ E_k_;intro am ham;obtain⟨k5,x5,p5,q5⟩:=stp (o:=.dK []) (fs':=BO "amounts" (.ref am) (BO "bares" (.ref br) (BO "numbers" (.ref nm) (BO "parts" (.ref pt) (BO "levels" (.ref lv) []))))) p4 ham;refine xq1 rfl ⟨p,_,dx,(xq1 rfl ⟨q5,T.cl_Grove,T.na_Grove_amounts,(by show 4<1000;decide),?_⟩)⟩;show k_ _ _;generalize upd (upd H4 am _) p _=H5 at k5 x5 p5⊢;refine hk_ ?_;refine Bs ?_;intro r_k_ s_k_ k_ hk_ E_k_;intro bx hbx;obtain⟨k6,x6,p6,q6⟩:=stp (o:=.dK []) (fs':=fl6 ⟨p,dx,lv,pt,nm,br,am,bx⟩) p5 hbx;refine xq1 rfl ⟨p,_,dx,(xq1 rfl ⟨q6,T.cl_Grove,T.na_Grove_boxes,(by show 5<1000;decide),?_⟩)⟩;show k_ _ (upd (upd H5 bx (.dK [])) p (.ins a.c_Grove dx (fl6 ⟨p,dx,lv,pt,nm,br,am,bx⟩)));generalize upd (upd H5 bx _) p _=H6 at k6 x6 p6⊢;refine hk_ ?_;have f26:∀b v,H1 b=some v->b≠p->H6 b=some v:=λb v e n=>k6 _ _ (k5 _ _ (k4 _ _ (k3 _ _ (k2 _ _ e n) n) n) n) n;have f36:∀b v,H2 b=some v->b≠p->H6 b=some v:=λb v e n=>k6 _ _ (k5 _ _ (k4 _ _ (k3 _ _ e n) n) n) n;have f46:∀b v,H3 b=some v->b≠p->H6 b=some v:=λb v e n=>k6 _ _ (k5 _ _ (k4 _ _ e n) n) n;have f56:∀b v,H4 b=some v->b≠p->H6 b=some v:=λb v e n=>k6 _ _ (k5 _ _ e n) n;have np:∀{Hk:Hp}{x:Addr}{fs:List (Str×V)},Hk p=some (.ins a.c_Grove dx fs)->Hk x=none->x≠p:=λ{Hk x fs} e1 e2 z=>by rw[z,e1]at e2;cases e2
  have no:∀{Hk Hm:Hp}{x y:Addr}{v:HO},Hk x=some v->Hk y=none->x≠y:=λ{Hk Hm x y v} e1 e2=>An e1 e2;have nlv:=np hp hlv;have npt:=np p1 hpt;have nnm:=np p2 hnm;have nbr:=np p3 hbr;have nam:=np p4 ham;have nbx:=np p5 hbx;have y1:=f26 _ _ x1 nlv;have y2:=f36 _ _ x2 npt;have y3:=f46 _ _ x3 nnm;have y4:=f56 _ _ x4 nbr;have y5:=k6 _ _ x5 nam;have back:∀{Hk:Hp}{x:Addr},(∀b v,H b=some v->b≠p->Hk b=some v)->x≠p->Hk x=none->H x=none:=λ{Hk x} kp n e=>by
   cases h:H x with
   |none=>rfl
   |some v=>rw[kp _ _ h n]at e;cases e
  have c2:∀b v,H b=some v->b≠p->H2 b=some v:=λb v e n=>k2 _ _ (k1 _ _ e n) n;have c3:∀b v,H b=some v->b≠p->H3 b=some v:=λb v e n=>k3 _ _ (c2 _ _ e n) n;have c4:∀b v,H b=some v->b≠p->H4 b=some v:=λb v e n=>k4 _ _ (c3 _ _ e n) n;have c5:∀b v,H b=some v->b≠p->H5 b=some v:=λb v e n=>k5 _ _ (c4 _ _ e n) n;have c6:∀b v,H b=some v->b≠p->H6 b=some v:=λb v e n=>k6 _ _ (c5 _ _ e n) n;have d1:lv≠pt:=An x1 hpt;have d2:br≠lv:=Z4 (An (k3 _ _ (k2 _ _ x1 nlv) nlv) hbr);have d3:br≠pt:=Z4 (An (k3 _ _ x2 npt) hbr);have d4:am≠bx:=An x5 hbx;have N0:QK a H H6 ⟨p,dx,lv,pt,nm,br,am,bx⟩ (CW 0) (CZ 0) (amK 0):=⟨c6,⟨p6,y1,⟨[],y2,.nil⟩,y3,d1⟩,y4,y5,x6,⟨hlv,back k1 npt hpt,back c2 nnm hnm,back c3 nbr hbr,back c4 nam ham,back c5 nbx hbx⟩,d2,d3,d4⟩
  have k':=k ⟨p,dx,lv,pt,nm,br,am,bx⟩;have gp:(⟨p,dx,lv,pt,nm,br,am,bx⟩:GA).p=p:=rfl;generalize (⟨p,dx,lv,pt,nm,br,am,bx⟩:GA)=g at N0 k' gp;subst gp;clear k p6 q6 q5 q4 q3 q2 q1 y1 y2 y3 y4 y5 x6 c6 c5 c4 c3 c2 f26 f36 f46 f56 k1 k2 k3 k4 k5 k6 x1 x2 x3 x4 x5 p1 p2 p3 p4 p5 d1 d2 d3 d4 nlv npt nnm nbr nam nbx hbx ham hbr hnm hpt hlv back no np stp;refine⟨8,rfl,by decide,by decide,?_⟩;refine Dw (n:=8) (λi σ H7=>∃u1:Option V,σ=[some (.ref g.p),u1,none,none]/\QK a H H7 g (CW i) (CZ 0) (amK i)) ⟨none,rfl,N0⟩ ?_ ?_
  ·rintro i σ H7 hi ⟨u1,rfl,N⟩;obtain⟨kp,at',hbr,ham,hbx,fresh,n1,n2,n3⟩:=N;have cl:(i:Int)=0+(i:Int):=(Int.zero_add _).symm;refine xq1 rfl ⟨g.p,g.dx,(xq1 rfl ⟨at'.hp,OE g,(xq1 rfl ⟨(by show 1<=sizeLine;decide),λt ht=>?_⟩)⟩)⟩;have s1:=Ak (o:=.tup [.int (0+(i:Int))]) ht;refine⟨g,CW i,t,[0+(i:Int)],0,rfl,at'.same s1,upd_same,by rw[<-cl];exact TN i,by rw[El];lia,λH8 fr at8=>?_⟩;rw[<-cl,<-Ry]at at8;have fr':Fr g H7 H8:=(Az.fr s1).trans fr;obtain⟨ts,h3,h4⟩:=at'.pt;have kd:∀(b:Addr)(kvs:List (Key×V)),H7 b=some (.dK kvs)->H8 b=some (.dK kvs):=λb kvs e=>fr' _ _ e (AS e at'.lv A4) (AS e h3 A4) (AS e at'.nm A4);have ham8:=kd _ _ ham;refine xq1 rfl ⟨_,_,rfl,(xwf rfl rfl at8.hp T.cl_Grove T.na_Grove_amounts (RH g) (xq1 rfl ⟨g.am,(xq1 rfl ⟨Ly.k (k:=Sum.inl (0+(i:Int))) ham8 (by rw[amK_len];exact BF A0),?_⟩)⟩))⟩;rw[<-cl,IR _ (QJ i i (B5 _)),<-QI];have other:∀{b:Addr}{v:HO},H8 b=some v->b≠g.am->upd H8 g.am (.dK (amK (i+1))) b=some v:=λ{b v} e n=>by rw[Al n];exact e
   have na:∀{b:Addr}{v:HO},H8 b=some v->v≠.dK (amK i)->b≠g.am:=λ{b v} e n=>AS e ham8 n;obtain⟨ts8,h38,h48⟩:=at8.pt;refine xq1 rfl ⟨?_,⟨other at8.hp (na at8.hp A4),other at8.lv (na at8.lv A4),⟨ts8,other h38 (na h38 A4),PairedM.imp (λc q z=>other z (na z A4)) h48⟩,other at8.nm (na at8.nm A4),at8.ne⟩,?_,upd_same,?_,fresh,n1,n2,n3⟩
   ·intro b v e nb;have e8:H8 b=some v:=fr' _ _ (kp _ _ e nb) (An e fresh.1) (An e fresh.2.1) (An e fresh.2.2.1);exact other e8 (An e fresh.2.2.2.2.1)
   ·have e8:H8 g.br=_:=fr' _ _ hbr n1 n2 (AS hbr at'.nm A4);exact other e8 (na e8 A4)
   ·exact other (kd _ _ hbx) (Z4 n3)
  ·rintro σ H7 ⟨u1,rfl,N⟩;refine xq2 rfl rfl ⟨1,49,rfl,⟨by decide,by decide,by decide,by decide⟩,?_⟩;have N0:QK a H H7 g (CW 8++EK 0) (CZ 0) (amK 8):=by rw[show CW 8++EK 0=CW 8 from L5 _];exact N
   clear N;refine Dw (lo:=1) (n:=48) (λj σ H8=>∃u2 u3:Option V,σ=[some (.ref g.p),u1,u2,u3]/\QK a H H8 g (CW 8++EK j) (CZ j) (amK 8)) ⟨none,none,rfl,N0⟩ ?_ ?_
   ·rintro j σ H8 hj ⟨u2,u3,rfl,N⟩;obtain⟨kp,at',hbr,ham,hbx,fresh,n1,n2,n3⟩:=N;refine xwf rfl rfl at'.hp T.cl_Grove T.na_Grove_bares (IB g) (xwi rfl rfl rfl (SqL.of hbr) (WA (by rw[List.getLast?_map,RN];rfl)) ?_);refine xwf rfl rfl at'.hp T.cl_Grove T.na_Grove_bares (IB g) ⟨.inl ⟨rfl,_,SqL.of hbr⟩,(xq1 rfl ⟨g.p,g.dx,(xq1 rfl ⟨at'.hp,OE g,(xw3 rfl rfl rfl (xq1 rfl ⟨(by show 4<=sizeLine;decide),λt ht=>(xq1 rfl ?_)⟩))⟩)⟩)⟩;have s1:=Ak (o:=.tup [.int (bareN j:Int),.int (bareN j:Int),.int (bareN j:Int),.int (bareN j:Int)]) ht;have ln:(CW 8++EK j).length=8+j:=by rw[B4,El,Og]
    refine⟨g,CW 8++EK j,t,[(bareN j:Int),(bareN j:Int),(bareN j:Int),(bareN j:Int)],1+(j:Int),rfl,at'.same s1,upd_same,Oe j,by rw[ln];lia,λH9 fr at9=>?_⟩;rw[show(1:Int)+(j:Int)=(j:Int)+1 by lia,M6,<-MX]at at9;have fr':Fr g H8 H9:=(Az.fr s1).trans fr;obtain⟨ts,h3,h4⟩:=at'.pt;have kd:∀(b:Addr)(kvs:List (Key×V)),H8 b=some (.dK kvs)->H9 b=some (.dK kvs):=λb kvs e=>fr' _ _ e (AS e at'.lv A4) (AS e h3 A4) (AS e at'.nm A4);have hbr9:H9 g.br=_:=fr' _ _ hbr n1 n2 (AS hbr at'.nm A4);refine⟨g.br,(xq2 rfl rfl ⟨hbr9,by rw[B0];unfold CZ;rw[B0,Q8];exact BF A0,?_⟩)⟩;have eb:(CZ j).map V.int++[V.int ((CW 8++EK j).length:Int)]=(CZ (j+1)).map V.int:=by rw[MY,B8,ln];rfl
    rw[eb];have other:∀{b:Addr}{v:HO},H9 b=some v->v≠.lst ((CZ j).map V.int)->upd H9 g.br (.lst ((CZ (j+1)).map V.int)) b=some v:=λ{b v} e n=>by rw[Al (AS e hbr9 n)];exact e
    refine⟨_,_,rfl,?_,at9.put hbr9 n1 n2,upd_same,other (kd _ _ ham) A4,other (kd _ _ hbx) A4,fresh,n1,n2,n3⟩;intro b v e nb;rw[Al (An e fresh.2.2.2.1)];exact fr' _ _ (kp _ _ e nb) (An e fresh.1) (An e fresh.2.1) (An e fresh.2.2.1)
   ·rintro σ H8 ⟨u2,u3,rfl,N⟩;exact k' H8 rfl N
end
end J
namespace J
open PySem L2
theorem Aj.uniq{G:Gv}{i:Nat}{l m:Int}(h:Aj G i l)(h2:Aj G i m):l=m:=by
 obtain⟨q,e,z⟩:=h;obtain⟨p,e2,z2⟩:=h2;rw[e]at e2;cases e2;exact z.symm.trans z2
theorem OU{G:Gv}(ok:GOk G){i:Nat}(h:Aj G i 0):i<8:=by
 obtain⟨q,e,z⟩:=h;refine Nat.lt_of_not_le λn=>?_;obtain⟨_,_,_,_,_,_,l1,_⟩:=ok.node i q e n;lia
structure BP(G:Gv)(n i:Nat)(q:Sq)(x y z w:Nat):Prop where
 g:G[i]?=some q
 ps:q.parts=[(x:Int),(y:Int),(z:Int),(w:Int)]
 lev:q.lev=(n:Int)+1
 hx:Aj G x n
 hy:Aj G y n
 hz:Aj G z n
 hw:Aj G w n
theorem AL{G:Gv}(ok:GOk G){n i:Nat}(h:Aj G i ((n+1:Nat):Int)):∃q x y z w,BP G n i q x y z w:=by
 obtain⟨q,e,el⟩:=h;have n8:8<=i:=by
  refine R3 λl8=>?_;rw[ok.leaf i l8]at e;cases e;have:(0:Int)=((n+1:Nat):Int):=el;lia
 obtain⟨x,y,z,w,ep,⟨hx,hy,hz,hw⟩,_,_⟩:=ok.node i q e n8;have en:q.lev-1=(n:Int):=by lia
 rw[en]at hx hy hz hw;exact⟨q,x,y,z,w,e,ep,by lia,hx,hy,hz,hw⟩
theorem BP.app{G G':Gv}{k n i:Nat}{q:Sq}{x y z w:Nat}(go:AM G G' k)(h:BP G n i q x y z w):BP G' n i q x y z w:=⟨go.get h.g,h.ps,h.lev,go.lev h.hx,go.lev h.hy,go.lev h.hz,go.lev h.hw⟩
def BD(G:Gv):Nat->Nat->Int
 |0,i=>if i=0 then 0 else 1
 |n+1,i=>match G[i]? with
  |some q=>(q.parts.map λp=>BD G n p.toNat).sum
  |none=>0
theorem Em{G:Gv}{n i:Nat}{q:Sq}{x y z w:Nat}(h:BP G n i q x y z w):BD G (n+1) i=([x,y,z,w].map λk=>BD G n k).sum:=by
 rw[show BD G (n+1) i=(match G[i]? with|some q=>(q.parts.map λ(p:Int)=>BD G n p.toNat).sum|none=>0)from rfl,h.g];show(q.parts.map λ(p:Int)=>BD G n p.toNat).sum=_;rw[h.ps];rfl
theorem GF{G G':Gv}{k:Nat}(ok:GOk G)(go:AM G G' k):∀(n i:Nat),Aj G i (n:Int)->BD G' n i=BD G n i
 |0,i,_=>rfl
 |n+1,i,h=>by
  obtain⟨q,x,y,z,w,nd⟩:=AL ok h;rw[Em nd,Em (nd.app go)];show BD G' n x+(BD G' n y+(BD G' n z+(BD G' n w+0)))=_;rw[GF ok go n x nd.hx,GF ok go n y nd.hy,GF ok go n z nd.hz,GF ok go n w nd.hw];rfl
theorem DE(G:Gv):∀(n i:Nat),0<=BD G n i
 |0,i=>by
  show 0<=if i=0 then(0:Int)else 1;split<;>lia
 |n+1,i=>by
  unfold BD;split
  ·rename_i q _;have:∀l:List Int,0<=(l.map λp=>BD G n p.toNat).sum:=by
    intro l;induction l with
    |nil=>exact L6 0
    |cons p r ih=>rw[D5,W0];have:=DE G n p.toNat;lia
   exact this _
  ·exact L6 0
theorem GR:∀(n:Nat)(l:List Nat),l.Nodup->(∀x∈l,x<n)->l.length<=n
 |0,l,_,h=>by
  cases l with
  |nil=>exact B5 0
  |cons x r=>exact absurd (h x C2) (F5 _)
 |n+1,l,nd,h=>by
  by_cases hm:n∈l
  ·have:=GR n (l.erase n) (nd.erase n) λx hx=>by
    have h1:=(nd.mem_erase_iff).mp hx;have:=h x h1.2;have:=h1.1;lia
   rw[List.length_erase_of_mem hm]at this;lia
  ·have:=GR n l nd λx hx=>by
    have:=h x hx;have:x≠n:=λz=>hm (z▸hx);lia
   lia
structure Fj(G:Gv)(ks:List (Key×V)):Prop where
 nd:(ks.map Prod.fst).Nodup
 lt:∀k∈ks.map Prod.fst,∃i:Nat,i<G.length/\k=Sum.inl (i:Int)
theorem Fj.len{G:Gv}{ks:List (Key×V)}(h:Fj G ks):ks.length<=G.length:=by
 let f:Key->Nat:=λk=>match k with|.inl i=>i.toNat|.inr _=>0
 have:=GR G.length ((ks.map Prod.fst).map f) (by
  rw[D7,L7];refine A1g (λ{a b} ha hb hne z=>hne ?_) (D7.mp h.nd);obtain⟨i,_,rfl⟩:=h.lt a ha;obtain⟨j,_,rfl⟩:=h.lt b hb;have:(i:Int).toNat=(j:Int).toNat:=z;rw[F1,F1]at this;rw[this]) (λx hx=>by
  obtain⟨k,hk,rfl⟩:=D4.mp hx;obtain⟨i,hi,rfl⟩:=h.lt k hk;show(i:Int).toNat<_;rw[F1];exact hi)
 rw[B0,B0]at this;exact this
theorem Fj.app{G G':Gv}{ks:List (Key×V)}(le:G.length<=G'.length)(h:Fj G ks):Fj G' ks:=⟨h.nd,λk hk=>by
 obtain⟨i,hi,e⟩:=h.lt k hk;exact⟨i,by lia,e⟩⟩
theorem Fj.put{G:Gv}{ks:List (Key×V)}(h:Fj G ks){i:Nat}(hi:i<G.length)(v:V):Fj G (Cc ks (Sum.inl (i:Int)) v):=by
 unfold Cc;by_cases a:(ks.any λkv=>decide (kv.1=Sum.inl (i:Int)))=true
 ·rw[Y4 a];have e:(ks.map λkv=>if kv.1=Sum.inl (i:Int)then(kv.1,v)else kv).map Prod.fst=ks.map Prod.fst:=by
   rw[M7];refine V7 λkv _=>?_;show(if kv.1=Sum.inl (i:Int)then(kv.1,v)else kv).1=kv.1;split<;>rfl
  exact⟨by rw[e];exact h.nd,by rw[e];exact h.lt⟩
 ·rw[Y0 a];refine⟨?_,λk hk=>?_⟩
  ·rw[B8,Q7];refine⟨h.nd,by simp,λk hk k' hk' z=>a ?_⟩;have:k'=Sum.inl (i:Int):=by simpa using hk'
   subst this;subst z;obtain⟨kv,h1,h2⟩:=D4.mp hk;exact R5.mpr ⟨kv,h1,Y1 h2⟩
  ·rw[B8]at hk;rcases C8.mp hk with z|z
   ·exact h.lt k z
   ·exact⟨i,hi,by simpa using z⟩
structure Pn(G:Gv)(ks:List (Key×V)):Prop where
 keys:Fj G ks
 leaf:∀s:Nat,s<8->∃v,Bw ks (Sum.inl (s:Int))=some v
 val:∀(i:Nat) v,Bw ks (Sum.inl (i:Int))=some v->∃l:Nat,Aj G i l/\v=.int (BD G l i)
theorem Pn.app{G G':Gv}{k:Nat}{ks:List (Key×V)}(ok:GOk G)(go:AM G G' k)(h:Pn G ks):Pn G' ks:=⟨h.keys.app (by obtain⟨r,e⟩:=go.pre;rw[e,B4];lia),h.leaf,λi v e=>by
 obtain⟨l,h1,h2⟩:=h.val i v e;exact⟨l,go.lev h1,by rw[GF ok go l i h1];exact h2⟩⟩
theorem Pn.put{G:Gv}{ks:List (Key×V)}(h:Pn G ks){i l:Nat}(hl:Aj G i l):Pn G (Cc ks (Sum.inl (i:Int)) (.int (BD G l i))):=⟨h.keys.put hl.lt _,λs hs=>by
 rw[IF];split
 ·exact⟨_,rfl⟩
 ·exact h.leaf s hs,λj v e=>by
 rw[IF]at e;split at e
 ·rename_i z;injection z with z
  have:j=i:=Y7 z;subst this;cases e;exact⟨l,hl,rfl⟩
 ·exact h.val j v e⟩
theorem am0:Pn G0 (amK 8) where
 keys:=⟨by decide +kernel,λk hk=>by
  obtain⟨p,hp,rfl⟩:=D4.mp hk;obtain⟨s,hs,rfl⟩:=D4.mp hp;have:=L9.mp hs;exact⟨s,by rw[JN];lia,rfl⟩⟩
 leaf:=λs hs=>by
  match s,hs with
  |0,_=>exact⟨_,rfl⟩
  |1,_=>exact⟨_,rfl⟩
  |2,_=>exact⟨_,rfl⟩
  |3,_=>exact⟨_,rfl⟩
  |4,_=>exact⟨_,rfl⟩
  |5,_=>exact⟨_,rfl⟩
  |6,_=>exact⟨_,rfl⟩
  |7,_=>exact⟨_,rfl⟩
 val:=λi v e=>by
  have hi:i<8:=by
   refine Nat.lt_of_not_le λz=>?_;rw[QJ 8 i z]at e;cases e
  refine⟨0,⟨_,Pc i hi,rfl⟩,?_⟩
  match i,hi with
  |0,_=>cases e;rfl
  |1,_=>cases e;rfl
  |2,_=>cases e;rfl
  |3,_=>cases e;rfl
  |4,_=>cases e;rfl
  |5,_=>cases e;rfl
  |6,_=>cases e;rfl
  |7,_=>cases e;rfl
structure Bx where
 l:Int
 t:Int
 w:Int
 h:Int
def Bx.ns(b:Bx):List Int:=[b.l,b.t,b.w,b.h]
def shB(half:Int)(k:Nat)(b:Bx):Bx:=⟨b.l+half*((k:Int)%2),b.t+half*((k:Int)/2),b.w,b.h⟩
def Da(half:Int):Nat->List (Option Bx)->List Bx
 |_,[]=>[]
 |k,none::r=>Da half (k+1) r
 |k,some b::r=>shB half k b::Da half (k+1) r
def mnL(l:List Int):Int:=l.min?.getD 0
def mxL(l:List Int):Int:=l.max?.getD 0
def MN(bs:List Bx):Bx:=⟨mnL (bs.map (·.l)),mnL (bs.map (·.t)),mxL (bs.map λb=>b.l+b.w)-mnL (bs.map (·.l)),mxL (bs.map λb=>b.t+b.h)-mnL (bs.map (·.t))⟩
def Nk(half:Int)(obs:List (Option Bx)):Option Bx:=match Da half 0 obs with
 |[]=>none
 |b::r=>some (MN (b::r))
def BE(G:Gv):Nat->Nat->Option Bx
 |0,i=>if i=0 then none else some ⟨0,0,1,1⟩
 |n+1,i=>match G[i]? with
  |some q=>Nk (2^n) (q.parts.map λ(p:Int)=>BE G n p.toNat)
  |none=>none
theorem VR{l:List Int}{m:Int}(h:m∈l)(h2:∀x∈l,m<=x):m=mnL l:=by
 unfold mnL;rw[List.min?_eq_some_iff.mpr ⟨h,h2⟩];rfl
theorem VP{l:List Int}{m:Int}(h:m∈l)(h2:∀x∈l,x<=m):m=mxL l:=by
 unfold mxL;rw[List.max?_eq_some_iff.mpr ⟨h,h2⟩];rfl
theorem Eo{G:Gv}{n i:Nat}{q:Sq}{x y z w:Nat}(h:BP G n i q x y z w):BE G (n+1) i=Nk (2^n) [BE G n x,BE G n y,BE G n z,BE G n w]:=by
 rw[show BE G (n+1) i=(match G[i]? with|some q=>Nk (2^n) (q.parts.map λ(p:Int)=>BE G n p.toNat)|none=>none)from rfl,h.g];show Nk (2^n) (q.parts.map λ(p:Int)=>BE G n p.toNat)=_;rw[h.ps];rfl
theorem GH{G G':Gv}{k:Nat}(ok:GOk G)(go:AM G G' k):∀(n i:Nat),Aj G i (n:Int)->BE G' n i=BE G n i
 |0,i,_=>rfl
 |n+1,i,h=>by
  obtain⟨q,x,y,z,w,nd⟩:=AL ok h;rw[Eo nd,Eo (nd.app go),GH ok go n x nd.hx,GH ok go n y nd.hy,GH ok go n z nd.hz,GH ok go n w nd.hw]
theorem NM{half:Int}:∀{obs:List (Option Bx)},Nk half obs=none ↔ ∀o∈obs,o=none:=by
 intro obs;have g:∀(obs:List (Option Bx))(k:Nat),Da half k obs=[] ↔ ∀o∈obs,o=none:=by
  intro obs;induction obs with
  |nil=>intro k;exact⟨λ_ o ho=>by simp at ho,λ_=>rfl⟩
  |cons o r ih =>
   intro k;cases o with
   |none =>
    rw[show Da half k (none::r)=Da half (k+1) r from rfl,ih (k+1)];exact⟨λh o ho=>by rcases B9.mp ho with z|z;exact z;exact h o z,λh o ho=>h o (B3 _ ho)⟩
   |some b=>exact⟨λh=>(by cases h),λh=>(by cases h (some b) C2)⟩
 rw[<-g obs 0];unfold Nk;constructor
 ·intro h;split at h
  ·assumption
  ·cases h
 ·intro h;rw[h]
theorem GX{G:Gv}(ok:GOk G):∀(n i:Nat),Aj G i (n:Int)->(BE G n i=none↔BD G n i=0)
 |0,i,_=>by
  show(if i=0 then none else some (⟨0,0,1,1⟩:Bx))=none↔(if i=0 then(0:Int)else 1)=0;split
  ·exact⟨λ_=>rfl,λ_=>rfl⟩
  ·exact⟨λh=>(by cases h),λh=>A0⟩
 |n+1,i,h=>by
  obtain⟨q,x,y,z,w,nd⟩:=AL ok h;rw[Eo nd,Em nd,NM];show _↔BD G n x+(BD G n y+(BD G n z+(BD G n w+0)))=0;have ex:=GX ok n x nd.hx;have ey:=GX ok n y nd.hy;have ez:=GX ok n z nd.hz;have ew:=GX ok n w nd.hw;have nx:=DE G n x;have ny:=DE G n y;have nz:=DE G n z;have nw:=DE G n w;constructor
  ·intro h;rw[ex.mp (h _ A5),ey.mp (h _ A5),ez.mp (h _ A5),ew.mp (h _ A5)];rfl
  ·intro h o ho;simp only[B9,J9,A0a]at ho;rcases ho with rfl|rfl|rfl|rfl
   ·exact ex.mpr A0
   ·exact ey.mpr A0
   ·exact ez.mpr A0
   ·exact ew.mpr A0
theorem RE{G r:Gv}(e:G=G0++r)(j:Nat)(h:j<48):G[8+j]?=some ⟨[(bareN j:Int),(bareN j:Int),(bareN j:Int),(bareN j:Int)],(j:Int)+1⟩:=by
 rw[e];exact LO (Pe j h)
theorem GI{G:Gv}(ok:GOk G){r:Gv}(e:G=G0++r):∀(n i:Nat),n<=48->Aj G i (n:Int)->(BE G n i=none↔i=bareN n)
 |0,i,_,_=>by
  show(if i=0 then none else some (⟨0,0,1,1⟩:Bx))=none↔i=0;split
  ·rename_i z;exact⟨λ_=>z,λ_=>rfl⟩
  ·rename_i z;exact⟨λh=>(by cases h),λh=>absurd h z⟩
 |n+1,i,hn,h=>by
  obtain⟨q,x,y,z,w,nd⟩:=AL ok h;rw[Eo nd,NM];have ex:=GI ok e n x A0 nd.hx;have ey:=GI ok e n y A0 nd.hy;have ez:=GI ok e n z A0 nd.hz;have ew:=GI ok e n w A0 nd.hw;have hb:=RE e n A0;constructor
  ·intro h;have hx:=ex.mp (h _ A5);have hy:=ey.mp (h _ A5);have hz:=ez.mp (h _ A5);have hw:=ew.mp (h _ A5);show i=8+n;refine ok.one nd.g hb ?_;rw[nd.ps,hx,hy,hz,hw]
  ·intro h;have h:i=8+n:=h;have g:=nd.g;rw[h,hb]at g;cases g;have p:=nd.ps;have p:[(bareN n:Int),(bareN n:Int),(bareN n:Int),(bareN n:Int)]=[(x:Int),(y:Int),(z:Int),(w:Int)]:=p;injection p with p1 p
   injection p with p2 p
   injection p with p3 p
   injection p with p4 p
   intro o ho;simp only[B9,J9,A0a]at ho;rcases ho with rfl|rfl|rfl|rfl
   ·exact ex.mpr (Y7 p1).symm
   ·exact ey.mpr (Y7 p2).symm
   ·exact ez.mpr (Y7 p3).symm
   ·exact ew.mpr (Y7 p4).symm
structure BxOk(G:Gv)(H:Hp)(ks:List (Key×V)):Prop where
 keys:Fj G ks
 val:∀(i:Nat) v,Bw ks (Sum.inl (i:Int))=some v->∃(l:Nat)(b:Bx)(t:Addr),Aj G i l/\BE G l i=some b/\v=.ref t/\H t=some (.tup (b.ns.map V.int))
structure AD(a:Ad)(H:Hp)(g:GA)(G:Gv):Prop where
 at':AG a H g G
 ok:GOk G
 g0:∃r,G=G0++r
 br:H g.br=some (.lst ((CZ 48).map V.int))
 am:∃ks,H g.am=some (.dK ks)/\Pn G ks
 bx:∃ks,H g.bx=some (.dK ks)/\BxOk G H ks
 n1:g.br≠g.lv
 n2:g.br≠g.pt
 n3:g.am≠g.bx
theorem AD.new{a:Ad}{H H':Hp}{g:GA}(h:QK a H H' g G0 (CZ 48) (amK 8)):AD a H' g G0:=⟨h.at',g0_ok,⟨[],by simp⟩,h.br,⟨_,h.am,am0⟩,⟨_,h.bx,⟨by simp,λk hk=>by simp at hk⟩,λi v e=>by cases e⟩,h.n1,h.n2,h.n3⟩
theorem AD.ne_am{a:Ad}{H:Hp}{g:GA}{G:Gv}(h:AD a H g G){b:Addr}{o:HO}(e:H b=some o)(n:∀ks,o≠.dK ks):b≠g.am/\b≠g.bx:=by
 obtain⟨ks,h1,_⟩:=h.am;obtain⟨ks',h2,_⟩:=h.bx;exact⟨AS e h1 (n _),AS e h2 (n _)⟩
theorem AD.same{a:Ad}{H H':Hp}{g:GA}{G:Gv}(s:Az H H')(h:AD a H g G):AD a H' g G:=by
 obtain⟨at',ok,g0,br,⟨ks,h1,h2⟩,⟨ks',h3,h4⟩,n1,n2,n3⟩:=h;refine⟨at'.same s,ok,g0,s _ _ br,⟨ks,s _ _ h1,h2⟩,⟨ks',s _ _ h3,h4.keys,λi v e=>?_⟩,n1,n2,n3⟩;obtain⟨l,b,t,e1,e2,e3,e4⟩:=h4.val i v e;exact⟨l,b,t,e1,e2,e3,s _ _ e4⟩
theorem AM.le{G G':Gv}{k:Nat}(go:AM G G' k):G.length<=G'.length:=by
 obtain⟨r,e⟩:=go.pre;rw[e,B4];lia
theorem AD.fr{a:Ad}{H H':Hp}{g:GA}{G G':Gv}{m:Nat}(h:AD a H g G)(f:Fr g H H')(at2:AG a H' g G')(go:AM G G' m):AD a H' g G':=by
 obtain⟨at',ok,⟨r,g0⟩,br,⟨ks,h1,h2⟩,⟨ks',h3,h4⟩,n1,n2,n3⟩:=h;obtain⟨us,hp,_⟩:=at'.pt;have keep:∀{b:Addr}{o:HO},H b=some o->(∀l,o≠.lst l)->(∀l,o≠.dT l)->H' b=some o:=λ{b o} e z1 z2=>f _ _ e (AS e at'.lv (z1 _)) (AS e hp (z1 _)) (AS e at'.nm (z2 _));obtain⟨t,et⟩:=go.pre;refine⟨at2,go.ok,⟨r++t,by rw[et,g0,M6]⟩,f _ _ br n1 n2 (AS br at'.nm A4),⟨ks,keep h1 (by intro l z;cases z) (by intro l z;cases z),h2.app ok go⟩,⟨ks',keep h3 (by intro l z;cases z) (by intro l z;cases z),h4.keys.app go.le,λi v e=>?_⟩,n1,n2,n3⟩;obtain⟨l,b,t,e1,e2,e3,e4⟩:=h4.val i v e;exact⟨l,b,t,go.lev e1,by rw[GH ok go l i e1];exact e2,e3,keep e4 (by intro l z;cases z) (by intro l z;cases z)⟩
theorem AD.put{a:Ad}{H:Hp}{g:GA}{G:Gv}{l:Addr}{xs:List V}{o:HO}(h:AD a H g G)(hl:H l=some (.lst xs))(m1:l≠g.lv)(m2:l≠g.pt)(m3:l≠g.br):AD a (upd H l o) g G:=by
 obtain⟨at',ok,g0,br,⟨ks,h1,h2⟩,⟨ks',h3,h4⟩,n1,n2,n3⟩:=h;have other:∀{b v},H b=some v->v≠.lst xs->upd H l o b=some v:=λ{b v} e n=>by rw[Al (AS e hl n)];exact e
 refine⟨at'.put hl m1 m2,ok,g0,by rw[Al (Z4 m3)];exact br,⟨ks,other h1 A4,h2⟩,⟨ks',other h3 A4,h4.keys,λi v e=>?_⟩,n1,n2,n3⟩;obtain⟨l,b,t,e1,e2,e3,e4⟩:=h4.val i v e;exact⟨l,b,t,e1,e2,e3,other e4 A4⟩
def FrQ(g:GA)(H H':Hp):Prop:=∀b o,H b=some o->b≠g.am->b≠g.bx->H' b=some o
theorem FrQ.refl(g:GA)(H:Hp):FrQ g H H:=λ_ _ e _ _=>e
theorem FrQ.trans{g:GA}{H1 H2 H3:Hp}(h:FrQ g H1 H2)(h2:FrQ g H2 H3):FrQ g H1 H3:=λb o e n1 n2=>h2 b o (h b o e n1 n2) n1 n2
theorem Az.frq{g:GA}{H1 H2:Hp}(h:Az H1 H2):FrQ g H1 H2:=λb o e _ _=>h b o e
theorem AG.dict{a:Ad}{H:Hp}{g:GA}{G:Gv}{d:Addr}{ks:List (Key×V)}{o:HO}(hd:H d=some (.dK ks))(h:AG a H g G):AG a (upd H d o) g G:=by
 obtain⟨h1,h2,⟨ts,h3,h4⟩,h5,h6⟩:=h;have other:∀{b v},H b=some v->v≠.dK ks->upd H d o b=some v:=λ{b v} e n=>by rw[Al (AS e hd n)];exact e
 exact⟨other h1 A4,other h2 A4,⟨ts,other h3 A4,PairedM.imp (λt q z=>other z A4) h4⟩,other h5 A4,h6⟩
theorem AD.am_put{a:Ad}{H:Hp}{g:GA}{G:Gv}{ks ks2:List (Key×V)}(h:AD a H g G)(e:H g.am=some (.dK ks))(h2:Pn G ks2):AD a (upd H g.am (.dK ks2)) g G/\FrQ g H (upd H g.am (.dK ks2)):=by
 obtain⟨at',ok,g0,br,⟨_,_,_⟩,⟨ks',h3,h4⟩,n1,n2,n3⟩:=h;have other:∀{b v},H b=some v->v≠.dK ks->upd H g.am (.dK ks2) b=some v:=λ{b v} e' n=>by rw[Al (AS e' e n)];exact e'
 refine⟨⟨at'.dict e,ok,g0,other br A4,⟨_,upd_same,h2⟩,⟨ks',by rw[Al (Z4 n3)];exact h3,h4.keys,λi v e=>?_⟩,n1,n2,n3⟩,λb o e' m1 _=>by rw[Al m1];exact e'⟩;obtain⟨l,b,t,e1,e2,e3,e4⟩:=h4.val i v e;exact⟨l,b,t,e1,e2,e3,other e4 A4⟩
theorem AD.bx_put{a:Ad}{H:Hp}{g:GA}{G:Gv}{ks ks2:List (Key×V)}(h:AD a H g G)(e:H g.bx=some (.dK ks))(h2:BxOk G H ks2):AD a (upd H g.bx (.dK ks2)) g G/\FrQ g H (upd H g.bx (.dK ks2)):=by
 obtain⟨at',ok,g0,br,⟨ks',h3,h4⟩,⟨_,_,_⟩,n1,n2,n3⟩:=h;have other:∀{b v},H b=some v->v≠.dK ks->upd H g.bx (.dK ks2) b=some v:=λ{b v} e' n=>by rw[Al (AS e' e n)];exact e'
 refine⟨⟨at'.dict e,ok,g0,other br A4,⟨ks',by rw[Al n3];exact h3,h4⟩,⟨_,upd_same,h2.keys,λi v e=>?_⟩,n1,n2,n3⟩,λb o e' _ m1=>by rw[Al m1];exact e'⟩;obtain⟨l,b,t,e1,e2,e3,e4⟩:=h2.val i v e;exact⟨l,b,t,e1,e2,e3,other e4 A4⟩
theorem MC(g:GA):(fl6 g).lookup ("counted" : Str)=none:=DW g A1 A1 A1 A1 A1 A1
theorem Tw(g:GA):(fl6 g).lookup ("living" : Str)=none:=DW g A1 A1 A1 A1 A1 A1
theorem Qa(g:GA):(fl6 g).lookup ("boxed" : Str)=none:=DW g A1 A1 A1 A1 A1 A1
theorem PZ(g:GA):(fl6 g).lookup ("measured" : Str)=none:=DW g A1 A1 A1 A1 A1 A1
theorem no_span(g:GA):(fl6 g).lookup ("span" : Str)=none:=DW g A1 A1 A1 A1 A1 A1
seal L2.PA L2.PE L2.PS L2.PSs L2.PT L2.PW
theorem BP.mem{G:Gv}{n i:Nat}{q:Sq}{x y z w:Nat}(h:BP G n i q x y z w){j:Nat}{v:V}(e:(q.parts.map V.int)[j]?=some v):∃k:Nat,v=.int k/\Aj G k n/\q.parts[j]?=some (k:Int):=by
 rw[B6]at e;obtain⟨p,hp,rfl⟩:=D6.mp e;have hm:=F6 hp;rw[h.ps]at hm;simp only[B9,J9,A0a]at hm;rcases hm with rfl|rfl|rfl|rfl
 ·exact⟨x,rfl,h.hx,hp⟩
 ·exact⟨y,rfl,h.hy,hp⟩
 ·exact⟨z,rfl,h.hz,hp⟩
 ·exact⟨w,rfl,h.hw,hp⟩
section
variable{P:Program}{w:World}{K:PySem.W.Frag}{mg:Str->Option Value}{base:Heap}{a:Ad}
inductive SpCnt(a:Ad)(n:Nat)(vs:List V)(H:Hp)(Q:VK):Prop
 |mk (g:GA) (G:Gv) (i l:Nat) (_:vs=[.ref g.p,.int i]) (_:AD a H g G) (_:Aj G i l) (_:l<n) (_:G.length<9000000) (_:∀H',FrQ g H H'->AD a H' g G->Q (.int (BD G l i)) H'):SpCnt a n vs H Q
def Sf(a:Ad)(n:Nat):Sp:=λvs H Q _=>SpCnt a n vs H Q
theorem VD{f:Addr}{fd:FuncData}(F:Fun K "counted" "Grove.counted" CN f fd)(T:Top K mg a)(Me:QL K a.c_Grove "counted" f)(Bi:Ci K fd BZ []):∀n,AI P w K mg base CX0 (n+1) f fd BZ (Sf a n)
 |0=>by
  refine F.ok Ct (λvs H Q E h=>?_) (λcdv A outer s H vs Q E hr h=>?_)
  ·obtain⟨g,G,i,l,rfl,_,_,h0,_⟩:=h;exact absurd h0 (F5 _)
  ·obtain⟨g,G,i,l,rfl,_,_,h0,_⟩:=h;exact absurd h0 (F5 _)
 |n+1=>by
  have aM:Dp P w K mg base CX0 (n+1) a.c_Grove "counted" BZ (Sf a n):=⟨⟨f,fd,VD F T Me Bi n,Me,Bi⟩,T.cl_Grove⟩
  refine F.ok Ct (λvs H Q E h=>?_) (λcdv A outer s H vs Q E hr h=>?_)
  ·obtain⟨g,G,i,l,rfl,_⟩:=h;rfl
  ·obtain⟨g,G,i,l,rfl,fu,hl,ln,few,k⟩:=h;obtain⟨ks,ham,aok⟩:=fu.am;refine⟨_,(Ab (Ah (i:=2) Ct.nd rfl (Or.inl rfl) (Mx (Id hr) (AO (pv 0) rfl) (pv 1) ⟨rfl,rfl,rfl,rfl⟩)) (Ab (AE (As MB (pv 2) Gp (Au _)) (Ab (Ah (i:=2) Ct.nd rfl (Or.inl rfl) (AA (Wv rfl) rfl T.b_sum PyProof.Rows.boot_sum (Aa (Dk rfl (BX.of (So:=Ai CN) (No:=Gc) (N:=["quarter","self"]) (k:=1) (cs:=[0]) rfl rfl A1) (Vh (Am AB (AO (pv 0) rfl) (pv 1) (λ_ _=>rfl))) (λ_ _ _=>(BQ (i:=0) A1 rfl rfl)) (λ_ _ _=>DC) (λ_ _ _=>(AK (pv 1) aM (rm hr) Ao (Aa (pv 0) Ac)))) Ac))) (Ae (GL (Id hr) (AO (pv 0) rfl) (pv 1) (pv 2) rfl))) Ax) (Ae (At (pv 2))))),?_⟩
   try dsimp only[cxK]
   refine xwf rfl rfl fu.at'.hp T.cl_Grove T.na_Grove_amounts (RH g) ⟨g.am,rfl,.inl ⟨_,.inl ham⟩,(xq1 rfl ⟨_,Lz.k (k:=Sum.inl (i:Int)) ham,?_⟩)⟩;cases e:Bw ks (Sum.inl (i:Int))with
   |some v =>
    obtain⟨l',hl',rfl⟩:=aok.val i v e;have el:l'=l:=Y7 (hl'.uniq hl);subst el;exact xq1 rfl ⟨rfl,(xq1 rfl (AT (xq1 rfl (k H (FrQ.refl g H) fu))))⟩
   |none =>
    refine xq1 rfl ⟨rfl,(xq1 rfl (BH ?_))⟩;cases l with
    |zero =>
     obtain⟨v,ev⟩:=aok.leaf i (OU fu.ok hl);rw[e]at ev;cases ev
    |succ m =>
     obtain⟨q,x,y,z,w,nd⟩:=AL fu.ok hl;obtain⟨ts,h3,h4⟩:=fu.at'.pt;obtain⟨t,et,ht⟩:=PairedM.get h4 nd.g;have ht:H t=some (.tup (q.parts.map V.int)):=ht;have nt:=fu.ne_am ht (by intro l z;cases z);refine xwf rfl rfl fu.at'.hp T.cl_Grove T.na_Grove_parts (DV g) (xwi rfl rfl rfl (SqL.of h3) (Ag (by rw[B6,et];rfl)) ⟨t,rfl,⟨_,SqT.of ht⟩,?_⟩);refine SS (xs:=q.parts.map V.int) (λj acc H2=>FrQ g H H2/\AD a H2 g G/\acc=((q.parts.take j).map λ(p:Int)=>BD G m p.toNat).map V.int) ⟨FrQ.refl g H,fu,rfl⟩ (λj acc H2 _ z=>SqT.of (z.1 _ _ ht nt.1 nt.2)) ?_ ?_
     ·rintro j v acc H2 ev ⟨fr,fu2,rfl⟩;obtain⟨k',rfl,hk,ek⟩:=nd.mem ev;refine⟨⟨[some (.int k')],rfl,rfl⟩,by rw[B0,B0,F8,nd.ps];exact BF (by show min j 4<10000000;lia),Nb (xq1 rfl ⟨g.p,g.dx,(xq1 rfl ⟨fu2.at'.hp,MC g,(xq1 rfl ⟨g,G,k',m,rfl,fu2,hk,by lia,few,λH3 fr3 fu3=>⟨fr.trans fr3,fu3,?_⟩⟩)⟩)⟩)⟩;rw[D1,ek,B8,B8];rfl
     ·rintro acc H2 ⟨fr,fu2,rfl⟩ qd hq;rw[B0,D9]at *
      have s3:=Ak (o:=.lst ((q.parts.map λ(p:Int)=>BD G m p.toNat).map V.int)) hq;have fu3:=fu2.same s3;refine⟨qd,q.parts.map λ(p:Int)=>BD G m p.toNat,rfl,SqL.of upd_same,?_⟩;generalize upd H2 qd (.lst ((q.parts.map λ(p:Int)=>BD G m p.toNat).map V.int))=H3 at s3 fu3⊢;obtain⟨ks3,ham3,aok3⟩:=fu3.am;have lk:=aok3.keys.len;have es:(q.parts.map λ(p:Int)=>BD G m p.toNat).sum=BD G (m+1) i:=by
       rw[Em nd,nd.ps];rfl
      rw[es];obtain⟨fu4,fr4⟩:=fu3.am_put ham3 (aok3.put (l:=m+1) hl);exact xw2 rfl rfl (xq5 fu3.at'.hp T.cl_Grove T.na_Grove_amounts (RH g) (xq1 rfl ⟨g.am,(xq1 rfl ⟨Ly.k (k:=Sum.inl (i:Int)) ham3 (BF A0),(xq1 rfl (k _ ((fr.trans (Az.frq s3)).trans fr4) fu4))⟩)⟩))
inductive SpLiv(a:Ad)(vs:List V)(H:Hp)(Q:VK):Prop
 |mk (g:GA) (G:Gv) (i l:Nat) (_:vs=[.ref g.p,.int i]) (_:AD a H g G) (_:Aj G i l) (_:G.length<9000000) (_:∀H',FrQ g H H'->AD a H' g G->Q (.int (BD G l i)) H'):SpLiv a vs H Q
def UP(a:Ad):Sp:=λvs H Q _=>SpLiv a vs H Q
theorem ok_liv{f:Addr}{fd:FuncData}(F:Fun K "living" "Grove.living" Ew f fd)(T:Top K mg a)(a9:Dp P w K mg base CX0 2 a.c_Grove "check_square" Bq (Pz a))(aM:Dp P w K mg base CX0 50 a.c_Grove "counted" BZ (Sf a 49)):AI P w K mg base CX0 51 f fd EE (UP a):=by
 refine F.ok Lj (λvs H Q E h=>?_) (λcdv A outer s H vs Q E hr h=>?_)
 ·obtain⟨g,G,i,l,rfl,_⟩:=h;rfl
 ·obtain⟨g,G,i,l,rfl,fu,hl,few,k⟩:=h;refine⟨_,(Ab (Bj (AK (pv 0) a9 (rm hr) Ao (Aa (pv 1) Ac))) (Ae (At (AK (pv 0) aM (rm hr) Ao (Aa (pv 1) Ac))))),?_⟩
  try dsimp only[cxK]
  have l48:l<49:=by
   obtain⟨q,e,el⟩:=id hl;have:=(fu.ok.lev e).2;lia
  refine xq1 rfl ⟨g.p,g.dx,(xq1 rfl ⟨fu.at'.hp,MD g,(xq1 rfl ⟨g,G,i,rfl,fu.at',hl.lt,?_⟩)⟩)⟩;exact xq1 rfl ⟨g.p,g.dx,(xq1 rfl ⟨fu.at'.hp,MC g,(xq1 rfl ⟨g,G,i,l,rfl,fu,hl,l48,few,k⟩)⟩)⟩
end
theorem MP(half:Int):∀(l r:List (Option Bx))(k:Nat),Da half k (l++r)=Da half k l++Da half (k+l.length) r
 |[],r,k=>rfl
 |none::l,r,k=>by
  show Da half (k+1) (l++r)=Da half (k+1) l++Da half (k+(l.length+1)) r;rw[MP half l r (k+1),show k+1+l.length=k+(l.length+1) by lia]
 |some b::l,r,k=>by
  show shB half k b::Da half (k+1) (l++r)=shB half k b::(Da half (k+1) l++Da half (k+(l.length+1)) r);rw[MP half l r (k+1),show k+1+l.length=k+(l.length+1) by lia]
theorem Je(half:Int):∀(l:List (Option Bx))(k:Nat),(Da half k l).length<=l.length
 |[],k=>B5 _
 |none::l,k=>C4 (Je half l (k+1)) (O9 _)
 |some b::l,k=>R0 (Je half l (k+1))
theorem PairedM.getL{α β:Type}{F:α->β->Prop}:∀{l:List α}{m:List β}{i:Nat}{x:α},Paired F l m->l[i]?=some x->∃y,m[i]?=some y/\F x y
 |_,_,_,_,.nil,e=>by simp at e
 |_,_,0,_,.cons r _,e=>by simp at e;subst e;exact⟨_,rfl,r⟩
 |_,_,i+1,x,.cons _ t,e=>by
  obtain⟨y,h1,h2⟩:=PairedM.getL (i:=i) (x:=x) t (by simpa using e);exact⟨y,by simpa using h1,h2⟩
def JU(H:Hp)(t:Addr)(b:Bx):Prop:=H t=some (.tup (b.ns.map V.int))
theorem LR{β:Type}{K:PySem.W.Frag}{k:Nat}{cs:List Nat}{g:TG}{tc:TT}{te:TE}{σ:St}{H:Hp}{fin:List V->Hp->Prop}{D:Addr->β->Prop}{L:Addr}{ts:List Addr}{bs:List β}(col:β->Int)(hL:H L=some (.lst (ts.map V.ref)))(pr:Paired D ts bs)(few:ts.length<1000)
  (hs:∀t b acc N,D t b->acc.length<sizeLine->N (acc++[.int (col b)]) H->Bt k cs g tc te σ (.ref t) acc H N) (hd:fin ((bs.map col).map V.int) H):ET k cs g tc te (Itl K L) σ H fin:=by
 have ln:ts.length=bs.length:=Y6 pr;refine Jj (xs:=ts.map V.ref) (λj acc H2=>H=H2/\acc=((bs.take j).map col).map V.int) ⟨rfl,rfl⟩ (λj acc H2 _ z=>z.1▸SqL.of hL) ?_ ?_
 ·rintro j v acc H2 ev ⟨rfl,rfl⟩;rw[B6]at ev;obtain⟨t,et,rfl⟩:=D6.mp ev;obtain⟨b,eb,d⟩:=PairedM.getL pr et;refine hs t b _ _ d (by rw[B0,B0,F8];exact BF A0) ⟨rfl,?_⟩;rw[D1,eb,B8,B8];rfl
 ·rintro acc H2 ⟨rfl,rfl⟩;rw[B0,ln,D9];exact hd
section
variable{P:Program}{w:World}{K:PySem.W.Frag}{mg:Str->Option Value}{base:Heap}{a:Ad}
inductive SW(vs:List V)(H:Hp)(Q:VK):Prop
 |mk (t:Addr) (b:Bx) (dx dy:Int) (_:vs=[.ref t,.int dx,.int dy]) (_:JU H t b) (_:∀t',H t'=none->Q (.ref t') (upd H t' (.tup [.int (b.l+dx),.int (b.t+dy),.int b.w,.int b.h]))):SW vs H Q
def IK:Sp:=λvs H Q _=>SW vs H Q
theorem Vw{f:Addr}{fd:FuncData}(F:Fun K "shifted_box" "shifted_box" EU f fd)(T:Top K mg a):AI P w K mg base CX0 1 f fd CI IK:=by
 refine F.ok Mh (λvs H Q E h=>?_) (λcdv A outer s H vs Q E hr h=>?_)
 ·obtain⟨t,b,dx,dy,rfl,_⟩:=h;rfl
 ·obtain⟨t,b,dx,dy,rfl,ht,k⟩:=h;have ht:H t=some (.tup [.int b.l,.int b.t,.int b.w,.int b.h]):=ht;refine⟨_,(Ae (At (Cn (Bv AW (Am Av (pv 0) Af (λ_ _=>rfl)) (pv 1) (Bv AW (Am Av (pv 0) Af (λ_ _=>rfl)) (pv 2) (Aa (Am Av (pv 0) Af (λ_ _=>rfl)) (Aa (Am Av (pv 0) Af (λ_ _=>rfl)) Ac))))))),?_⟩
  try dsimp only[cxK]
  refine xwi rfl rfl rfl (SqT.of ht) (Ag (j:=0) rfl) (xwb rfl rfl rfl (xwi rfl rfl rfl (SqT.of ht) (Ag (j:=1) rfl) (xwb rfl rfl rfl (xwi rfl rfl rfl (SqT.of ht) (Ag (j:=2) rfl) (xwi rfl rfl rfl (SqT.of ht) (Ag (j:=3) rfl) ⟨(by show 4<=sizeLine;decide),λt' n=>k t' n⟩)))))
inductive SZ(vs:List V)(H:Hp)(Q:VK):Prop
 |mk (L:Addr) (ts:List Addr) (bs:List Bx) (_:vs=[.ref L]) (_:H L=some (.lst (ts.map V.ref))) (_:Paired (JU H) ts bs) (_:bs≠[]) (_:ts.length<1000) (_:∀t' H',Az H H'->JU H' t' (MN bs)->Q (.ref t') H'):SZ vs H Q
def LG:Sp:=λvs H Q _=>SZ vs H Q
theorem VB{f:Addr}{fd:FuncData}(F:Fun K "least_box" "least_box" Cj f fd)(T:Top K mg a):AI P w K mg base CX0 1 f fd ER LG:=by
 refine F.ok De (λvs H Q E h=>?_) (λcdv A outer s H vs Q E hr h=>?_)
 ·obtain⟨L,ts,bs,rfl,_⟩:=h;rfl
 ·obtain⟨L,ts,bs,rfl,hL,pr,ne,few,k⟩:=h;have nem:∀col:Bx->Int,bs.map col≠[]:=λcol z=>ne (P3.mp z);refine⟨_,(Ab (Ah (i:=1) De.nd rfl (Or.inl rfl) (AA (JR rfl) rfl T.b_min X1 (Aa (Dk rfl (BX.of (So:=Ai Cj) (No:=DG) (N:=["box"]) (k:=1) (cs:=[]) rfl rfl A1) (Cg (pv 0)) (λ_ _ _=>(BQ (i:=0) A1 rfl rfl)) (λ_ _ _=>DC) (λ_ _ _=>(Am (CA (K:=K) rfl) (pv 0) Af (λ_ _=>rfl)))) Ac))) (Ab (Ah (i:=2) De.nd rfl (Or.inl rfl) (AA (JR rfl) rfl T.b_min X1 (Aa (Dk rfl (BX.of (So:=Ai Cj) (No:=DG) (N:=["box"]) (k:=1) (cs:=[]) rfl rfl A1) (Cg (pv 0)) (λ_ _ _=>(BQ (i:=0) A1 rfl rfl)) (λ_ _ _=>DC) (λ_ _ _=>(Am (CA (K:=K) rfl) (pv 0) Af (λ_ _=>rfl)))) Ac))) (Ab (Ah (i:=3) De.nd rfl (Or.inl rfl) (AA (NY rfl) rfl T.b_max K5 (Aa (Dk rfl (BX.of (So:=Ai Cj) (No:=DG) (N:=["box"]) (k:=1) (cs:=[]) rfl rfl A1) (Cg (pv 0)) (λ_ _ _=>(BQ (i:=0) A1 rfl rfl)) (λ_ _ _=>DC) (λ_ _ _=>(Ay AW (Am (CA (K:=K) rfl) (pv 0) Af (λ_ _=>rfl)) (Am (CA (K:=K) rfl) (pv 0) Af (λ_ _=>rfl))))) Ac))) (Ab (Ah (i:=4) De.nd rfl (Or.inl rfl) (AA (NY rfl) rfl T.b_max K5 (Aa (Dk rfl (BX.of (So:=Ai Cj) (No:=DG) (N:=["box"]) (k:=1) (cs:=[]) rfl rfl A1) (Cg (pv 0)) (λ_ _ _=>(BQ (i:=0) A1 rfl rfl)) (λ_ _ _=>DC) (λ_ _ _=>(Ay AW (Am (CA (K:=K) rfl) (pv 0) Af (λ_ _=>rfl)) (Am (CA (K:=K) rfl) (pv 0) Af (λ_ _=>rfl))))) Ac))) (Ae (At (Cn (Aa (pv 1) (Aa (pv 2) (Bv Cd (pv 3) (pv 1) (Bv Cd (pv 4) (pv 2) Ac))))))))))),?_⟩
  try dsimp only[cxK]
  refine xq1 rfl ⟨L,rfl,⟨_,SqL.of hL⟩,LR (·.l) hL pr few (λt b acc N d la nx=>⟨⟨[some (.ref t)],rfl,rfl⟩,la,Nb (xwi rfl rfl rfl (SqT.of d) (Ag (j:=0) rfl) nx)⟩) λq1 h1=>?_⟩;refine⟨q1,(xq1 rfl ⟨SqL.of upd_same,nem _,λm1 hm1 hn1=>?_⟩)⟩;obtain rfl:=VR hm1 hn1;have s1:=Ak (o:=.lst ((bs.map (·.l)).map V.int)) h1;generalize upd H q1 (.lst ((bs.map (·.l)).map V.int))=H1 at s1⊢;have hL1:=s1 _ _ hL;have pr1:Paired (JU H1) ts bs:=PairedM.imp (λt b z=>s1 _ _ z) pr;refine xq1 rfl ⟨L,rfl,⟨_,SqL.of hL1⟩,LR (·.t) hL1 pr1 few (λt b acc N d la nx=>⟨⟨[some (.ref t)],rfl,rfl⟩,la,Nb (xwi rfl rfl rfl (SqT.of d) (Ag (j:=1) rfl) nx)⟩) λq2 h2=>?_⟩;refine⟨q2,(xq1 rfl ⟨SqL.of upd_same,nem _,λm2 hm2 hn2=>?_⟩)⟩;obtain rfl:=VR hm2 hn2;have s2:=s1.trans (Ak (o:=.lst ((bs.map (·.t)).map V.int)) h2);generalize upd H1 q2 (.lst ((bs.map (·.t)).map V.int))=H2 at s2⊢;have hL2:=s2 _ _ hL;have pr2:Paired (JU H2) ts bs:=PairedM.imp (λt b z=>s2 _ _ z) pr;refine xq1 rfl ⟨L,rfl,⟨_,SqL.of hL2⟩,LR (λb=>b.l+b.w) hL2 pr2 few (λt b acc N d la nx=>⟨⟨[some (.ref t)],rfl,rfl⟩,la,Nb (xwi rfl rfl rfl (SqT.of d) (Ag (j:=0) rfl) (xwi rfl rfl rfl (SqT.of d) (Ag (j:=2) rfl) (xq2 rfl rfl nx)))⟩) λq3 h3=>?_⟩;refine⟨q3,(xq1 rfl ⟨SqL.of upd_same,nem _,λm3 hm3 hn3=>?_⟩)⟩;obtain rfl:=VP hm3 hn3;have s3:=s2.trans (Ak (o:=.lst ((bs.map λb=>b.l+b.w).map V.int)) h3);generalize upd H2 q3 (.lst ((bs.map λb=>b.l+b.w).map V.int))=H3 at s3⊢;have hL3:=s3 _ _ hL;have pr3:Paired (JU H3) ts bs:=PairedM.imp (λt b z=>s3 _ _ z) pr;refine xq1 rfl ⟨L,rfl,⟨_,SqL.of hL3⟩,LR (λb=>b.t+b.h) hL3 pr3 few (λt b acc N d la nx=>⟨⟨[some (.ref t)],rfl,rfl⟩,la,Nb (xwi rfl rfl rfl (SqT.of d) (Ag (j:=1) rfl) (xwi rfl rfl rfl (SqT.of d) (Ag (j:=3) rfl) (xq2 rfl rfl nx)))⟩) λq4 h4=>?_⟩;refine⟨q4,(xq1 rfl ⟨SqL.of upd_same,nem _,λm4 hm4 hn4=>?_⟩)⟩;obtain rfl:=VP hm4 hn4;have s4:=s3.trans (Ak (o:=.lst ((bs.map λb=>b.t+b.h).map V.int)) h4);generalize upd H3 q4 (.lst ((bs.map λb=>b.t+b.h).map V.int))=H4 at s4⊢;exact xw3 rfl rfl rfl (xwb rfl rfl rfl (xw2 rfl rfl (xq2 rfl rfl ⟨(by show 4<=sizeLine;decide),λt5 h5=>k t5 _ (s4.trans (Ak h5)) upd_same⟩)))
inductive SpBox(a:Ad)(n:Nat)(vs:List V)(H:Hp)(Q:VK):Prop
 |mk (g:GA) (G:Gv) (i l:Nat) (_:vs=[.ref g.p,.int i]) (_:AD a H g G) (_:Aj G i l) (_:l<n) (_:G.length<9000000) (_:(BE G l i=none->∀H',FrQ g H H'->AD a H' g G->Q .non H')) (_:∀b,BE G l i=some b->∀t H',FrQ g H H'->AD a H' g G->JU H' t b->Q (.ref t) H'):SpBox a n vs H Q
def PB(a:Ad)(n:Nat):Sp:=λvs H Q _=>SpBox a n vs H Q
inductive SpMea(a:Ad)(n:Nat)(vs:List V)(H:Hp)(Q:VK):Prop
 |mk (g:GA) (G:Gv) (i l:Nat) (b:Bx) (_:vs=[.ref g.p,.int i]) (_:AD a H g G) (_:Aj G i l) (_:l<n) (_:G.length<9000000) (_:BE G l i=some b) (_:∀t H',FrQ g H H'->AD a H' g G->JU H' t b->Q (.ref t) H'):SpMea a n vs H Q
def spMea(a:Ad)(n:Nat):Sp:=λvs H Q _=>SpMea a n vs H Q
theorem Oi(m:Nat){l:Int}(e:l=(m:Int)+1):(1:Int)*2^(l-1).toNat=2^m:=by
 rw[e,Int.one_mul,show((m:Int)+1-1).toNat=m by lia]
theorem ok_mea{n d:Nat}{f:Addr}{fd:FuncData}(F:Fun K "measured" "Grove.measured" Cv f fd)(T:Top K mg a)(hd:1<=d)(aB:Cal P w K mg base CX0 1 "shifted_box" CI IK)(aS:Cal P w K mg base CX0 1 "least_box" ER LG)(aQ:Dp P w K mg base CX0 d a.c_Grove "boxed" Cb (PB a n)):AI P w K mg base CX0 (d+1) f fd Cy (spMea a (n+1)):=by
 refine F.ok Bg (λvs H Q E h=>?_) (λcdv A outer s H vs Q E hr h=>?_)
 ·obtain⟨g,G,i,l,b,rfl,_⟩:=h;rfl
 ·obtain⟨g,G,i,l,b,rfl,fu,hl,ln,few,eb,k⟩:=h;obtain⟨q0,e0,l0⟩:=id hl;refine⟨_,(Ab (Ah (i:=2) Bg.nd rfl (Or.inl rfl) (Am AB (AO (pv 0) rfl) (pv 1) (λ_ _=>rfl))) (Ab (AE (As Cp (pv 2) Af (Au _)) (Ae (At (Cn (Bh (Bh (Bh (Bh Ac))))))) Ax) (Ab (Ah (i:=3) Bg.nd rfl (Or.inl rfl) (Ay FP Af (Ay Cd (pv 2) Af))) (Ab (Ah (i:=4) Bg.nd rfl (Or.inl rfl) (Dj Ac)) (Ab (BT Z2 rfl (LJ true rfl T.b_enumerate (Aa (Am AB (AO (pv 0) rfl) (pv 1) (λ_ _=>rfl)) Ac)) (Ey rfl (AN (AF (i:=5) Bg.nd rfl (Or.inl rfl)) (AN (AF (i:=6) Bg.nd rfl (Or.inl rfl)) Di))) (Ab (Ah (i:=7) Bg.nd rfl (Or.inl rfl) (AK (pv 0) aQ (rm hr) Ao (Aa (pv 6) Ac))) (Ae (AE (As op_notN (pv 7) Gp (Au _)) (Ae (Bj (CH Z1 Y9 Z0 Bl (pv 4) (Aa (Aq aB (rm hr) rfl Ao (Aa (pv 7) (Bv EF (pv 3) (Ay Ce (pv 5) Af) (Bv EF (pv 3) (Ay FQ (pv 5) Af) Ac)))) Ac)))) Ax)))) (Ae (At (Aq aS (rm hr) rfl Ao (Aa (pv 4) Ac))))))))),?_⟩
  try dsimp only[cxK]
  refine⟨_,rfl,g.p,_,g.dx,_,_,rfl,fu.at'.hp,T.cl_Grove,T.na_Grove_levels,DX g,_,rfl,g.lv,_,(i:Int),.int q0.lev,rfl,rfl,SqL.of fu.at'.lv,Ag (by rw[B6,e0];rfl),?_⟩;cases l with
  |zero =>
   rw[l0];refine xq1 rfl ⟨rfl,(xq1 rfl (BH ⟨(by show 4<=sizeLine;decide),λt ht=>?_⟩))⟩;have e:b=⟨0,0,1,1⟩:=by
    have eb:(if i=0 then none else some (⟨0,0,1,1⟩:Bx))=some b:=eb;split at eb
    ·cases eb
    ·cases eb;rfl
   subst e;have sm:=Ak (o:=.tup [.int 0,.int 0,.int 1,.int 1]) ht;exact k t _ (Az.frq sm) (fu.same sm) upd_same
  |succ m =>
   have l0':q0.lev=(m:Int)+1:=by rw[l0];lia
   refine xq1 rfl ⟨rfl,(xq1 rfl ?_)⟩;rw[Y3 (by intro z;injection z with z;lia)];obtain⟨q,x,y,z,w,nd⟩:=AL fu.ok hl;obtain⟨ts,h3,h4⟩:=fu.at'.pt;obtain⟨t,et,ht⟩:=PairedM.get h4 nd.g;have ht:H t=some (.tup (q.parts.map V.int)):=ht;have nt:=fu.ne_am ht (by intro l z;cases z);refine AT (xwb rfl rfl rfl (xq2 rfl rfl ⟨⟨by lia,by have:=(fu.ok.lev e0).2;lia,by decide⟩,?_⟩));rw[show(λ(i j:Int)=>V.int (i*2^j.toNat)) 1 (q0.lev-1)=V.int (2^m)from Z5 V.int (Oi m l0')];refine⟨(by show 0<=sizeLine;decide),λL hL=>?_⟩;have m1:L≠g.lv:=Z4 (An fu.at'.lv hL);have m2:L≠g.pt:=Z4 (An h3 hL);have m3:L≠g.br:=Z4 (An fu.br hL);have s1:=Ak (o:=.lst []) hL;have hL1:upd H L (.lst []) L=some (.lst []):=upd_same;generalize upd H L (.lst [])=H1 at s1 hL1⊢;have fu1:=fu.same s1;have h31:=s1 _ _ h3;have ht1:=s1 _ _ ht;generalize hobs:[BE G m x,BE G m y,BE G m z,BE G m w]=obs;have lobs:obs.length=4:=by rw[<-hobs];rfl
   have eobs:BE G (m+1) i=Nk (2^m) obs:=by rw[Eo nd,hobs]
   have gobs:∀(j k:Nat),q.parts[j]?=some (k:Int)->obs[j]?=some (BE G m k):=by
    intro j k e;rw[nd.ps]at e;rw[<-hobs]
    match j,e with
    |0,e=>have e:some (x:Int)=some (k:Int):=e;rw[show x=k from Y7 (Y5 e)];rfl
    |1,e=>have e:some (y:Int)=some (k:Int):=e;rw[show y=k from Y7 (Y5 e)];rfl
    |2,e=>have e:some (z:Int)=some (k:Int):=e;rw[show z=k from Y7 (Y5 e)];rfl
    |3,e=>have e:some (w:Int)=some (k:Int):=e;rw[show w=k from Y7 (Y5 e)];rfl
    |j+4,e=>simp at e
   refine xwf rfl rfl fu1.at'.hp T.cl_Grove T.na_Grove_parts (DV g) (xwi rfl rfl rfl (SqL.of h31) (Ag (by rw[B6,et];rfl)) ⟨t,rfl,⟨_,SqT.of ht1⟩,?_⟩);refine Jf (b:=true) (xs:=q.parts.map V.int) (λj σ H2=>∃(us:List Addr)(u5 u6 u7:Option V),σ=[some (.ref g.p),some (.int i),some (.int q0.lev),some (.int (2^m)),some (.ref L),u5,u6,u7]/\FrQ g H H2/\AD a H2 g G/\H2 L=some (.lst (us.map V.ref))/\Paired (JU H2) us (Da (2^m) 0 (obs.take j))) ⟨[],none,none,none,rfl,Az.frq s1,fu1,hL1,.nil⟩ (λj σ H2 _ ⟨_,_,_,_,_,fr,_⟩=>SqT.of (fr _ _ ht nt.1 nt.2)) ?_ ?_
   ·rintro j v σ H2 T' ev ⟨us,u5,u6,u7,rfl,fr,fu2,hL2,pr⟩ nT;obtain⟨k',rfl,hk,ek⟩:=nd.mem ev;have eo:=gobs j k' ek;have hj:j<4:=by rw[<-lobs];exact(B7.mp eo).1
    have lu:us.length<=4:=by
     rw[Y6 pr];have:=Je (2^m) (obs.take j) 0;rw[F8]at this;lia
    have s2:=Ak (o:=.tup [.int j,.int k']) nT;refine Le upd_same ?_;generalize upd H2 T' (.tup [.int j,.int k'])=H3 at s2⊢;have fu3:=fu2.same s2;have ge:Da (2^m) 0 (obs.take (j+1))=Da (2^m) 0 (obs.take j)++Da (2^m) j [BE G m k']:=by
     rw[D1,eo,N3,MP,F8,lobs,O1,Nat.min_eq_left A0]
    have nL:∀{H4:Hp},FrQ g H3 H4->H4 L=some (.lst (us.map V.ref)):=λ{H4} f4=>by
     have:=s2 _ _ hL2;have n:=fu3.ne_am this (by intro l z;cases z);exact f4 _ _ this n.1 n.2
    have nP:∀{H4:Hp},FrQ g H3 H4->Paired (JU H4) us (Da (2^m) 0 (obs.take j)):=λ{H4} f4=>PairedM.imp (λt b z=>by
     have:=s2 _ _ z;have n:=fu3.ne_am this (by intro l z;cases z);exact f4 _ _ this n.1 n.2) pr
    refine xq1 rfl ⟨g.p,g.dx,(xq1 rfl ⟨fu3.at'.hp,Qa g,(xq1 rfl ⟨g,G,k',m,rfl,fu3,hk,by lia,few,λen H4 f4 fu4=>?_,λb' eb' t4 H4 f4 fu4 ht4=>?_⟩)⟩)⟩
    ·refine xq1 rfl ⟨rfl,(xq1 rfl (AT ⟨us,_,_,_,rfl,(fr.trans (Az.frq s2)).trans f4,fu4,nL f4,?_⟩))⟩;rw[ge,en];show Paired _ us (_++[]);rw[L5];exact nP f4
    ·refine xq1 rfl ⟨rfl,(xq1 rfl (BH ?_))⟩;refine xq1 rfl ⟨.inl ⟨rfl,_,SqL.of (nL f4)⟩,(xw3 rfl rfl rfl (xq2 rfl rfl ⟨A9,(xq2 rfl rfl ⟨.inr ⟨by lia,by lia⟩,(xw2 rfl rfl (xq2 rfl rfl ⟨⟨by decide,by decide⟩,(xq2 rfl rfl ⟨.inr ⟨by lia,by lia⟩,?_⟩)⟩))⟩)⟩))⟩;refine⟨t4,b',_,_,rfl,ht4,λt5 h5=>?_⟩;have s5:=Ak (o:=.tup [.int (b'.l+2^m*((j:Int)%2)),.int (b'.t+2^m*((j:Int)/2)),.int b'.w,.int b'.h]) h5;have ht5:JU (upd H4 t5 (.tup [.int (b'.l+2^m*((j:Int)%2)),.int (b'.t+2^m*((j:Int)/2)),.int b'.w,.int b'.h])) t5 (shB (2^m) j b'):=upd_same;generalize upd H4 t5 (.tup [.int (b'.l+2^m*((j:Int)%2)),.int (b'.t+2^m*((j:Int)/2)),.int b'.w,.int b'.h])=H5 at s5 ht5⊢;have hL5:=s5 _ _ (nL f4);have fu5:=fu4.same s5;refine⟨L,(xq2 rfl rfl ⟨hL5,by rw[B0];exact BF A0,?_⟩)⟩;have other:∀{c:Addr}{l:List V},H5 c=some (.tup l)->upd H5 L (.lst (us.map V.ref++[.ref t5])) c=some (.tup l):=λ{c l} e=>by rw[Al (AS e hL5 A4)];exact e
     refine⟨us++[t5],_,_,_,rfl,?_,fu5.put hL5 m1 m2 m3,by rw[upd_same,B8];rfl,?_⟩
     ·intro c o e n1 n2;have e5:=s5 _ _ (((fr.trans (Az.frq s2)).trans f4) _ _ e n1 n2);rw[Al (An e hL)];exact e5
     ·rw[ge,eb'];exact K2 (PairedM.imp (λc b z=>other (s5 _ _ z)) (nP f4)) (other ht5)
   ·rintro σ H2 ⟨us,u5,u6,u7,rfl,fr,fu2,hL2,pr⟩;rw[B0,show q.parts.length=obs.length by rw[nd.ps,lobs];rfl,D9]at pr;have eb2:Nk (2^m) obs=some b:=by rw[<-eobs];exact eb
    have lu:us.length<=4:=by
     rw[Y6 pr];have:=Je (2^m) obs 0;lia
    have e3:Da (2^m) 0 obs≠[]/\MN (Da (2^m) 0 obs)=b:=by
     unfold Nk at eb2;split at eb2
     ·cases eb2
     ·rename_i b1 r1 eg;rw[eg];exact⟨A4,Y5 eb2⟩
    refine xq1 rfl ⟨L,us,_,rfl,hL2,pr,e3.1,by lia,λt' H' s' ht'=>?_⟩;rw[e3.2]at ht';exact k t' H' (fr.trans (Az.frq s')) (fu2.same s') ht'
theorem Wz{l:Nat}(h:l<=48):((CZ 48).map V.int)[l]?=some (.int (bareN l:Int)):=by
 unfold CZ;rw[B6,B6,P4 A0];rfl
theorem ok_boxS{n d:Nat}{f:Addr}{fd:FuncData}(F:Fun K "boxed" "Grove.boxed" DB f fd)(T:Top K mg a)(bT:Dp P w K mg base CX0 d a.c_Grove "measured" Cy (spMea a n)):AI P w K mg base CX0 (d+1) f fd Cb (PB a n):=by
 refine F.ok Dg (λvs H Q E h=>?_) (λcdv A outer s H vs Q E hr h=>?_)
 ·obtain⟨g,G,i,l,rfl,_⟩:=h;rfl
 ·obtain⟨g,G,i,l,rfl,fu,hl,ln,few,k1,k2⟩:=h;obtain⟨q0,e0,l0⟩:=id hl;have l48:l<=48:=by have:=(fu.ok.lev e0).2;lia
  obtain⟨ks,hbx,bok⟩:=fu.bx;have lk:=bok.keys.len;obtain⟨r,eg⟩:=fu.g0;have bb:=GI fu.ok eg l i l48 hl;refine⟨_,(Ab (AE (As Cp (pv 1) (Am AB (AO (pv 0) rfl) (Am AB (AO (pv 0) rfl) (pv 1) (λ_ _=>rfl)) (λ_ _=>rfl)) (Au _)) (Ae (At Gp)) Ax) (Ab (Ah (i:=2) Dg.nd rfl (Or.inl rfl) (Mx (Id hr) (AO (pv 0) rfl) (pv 1) ⟨rfl,rfl,rfl,rfl⟩)) (Ab (AE (As MB (pv 2) Gp (Au _)) (Ab (Ah (i:=2) Dg.nd rfl (Or.inl rfl) (AK (pv 0) bT (rm hr) Ao (Aa (pv 1) Ac))) (Ae (GL (Id hr) (AO (pv 0) rfl) (pv 1) (pv 2) rfl))) Ax) (Ae (At (pv 2)))))),?_⟩
  try dsimp only[cxK]
  refine xw2 rfl rfl (xq5 fu.at'.hp T.cl_Grove T.na_Grove_bares (IB g) (xwf rfl rfl fu.at'.hp T.cl_Grove T.na_Grove_levels (DX g) (xwi rfl rfl rfl (SqL.of fu.at'.lv) (Ag (by rw[B6,e0];rfl)) (xq4 rfl rfl (SqL.of fu.br) (by rw[l0];exact Ag (Wz l48)) ⟨rfl,(xq1 rfl ?_)⟩))));refine Pa (λhc=>?_) (λhc=>?_)
  ·have ei:i=bareN l:=by
    have:=Z3 hc;injection this with this
    exact Y7 this
   exact k1 (bb.mpr ei) H (FrQ.refl g H) fu
  ·have ne:¬i=bareN l:=λz=>hc (by rw[z];exact Y1 rfl);obtain⟨b,eb⟩:∃b,BE G l i=some b:=by
    cases e:BE G l i with
    |none=>exact absurd (bb.mp e) ne
    |some b=>exact⟨b,rfl⟩
   refine xwf rfl rfl fu.at'.hp T.cl_Grove T.na_Grove_boxes (Wn g) ⟨g.bx,rfl,.inl ⟨_,.inl hbx⟩,(xq1 rfl ⟨_,Lz.k (k:=Sum.inl (i:Int)) hbx,?_⟩)⟩;cases e:Bw ks (Sum.inl (i:Int))with
   |some v =>
    obtain⟨l',b',t,hl',eb',rfl,ht⟩:=bok.val i v e;have el:l'=l:=Y7 (hl'.uniq hl);subst el;rw[eb]at eb';cases eb';exact xq1 rfl ⟨rfl,(xq1 rfl (AT (xq1 rfl (k2 b eb t H (FrQ.refl g H) fu ht))))⟩
   |none =>
    refine xq1 rfl ⟨rfl,(xq1 rfl (BH (xq1 rfl ⟨g.p,g.dx,(xq1 rfl ⟨fu.at'.hp,PZ g,(xq1 rfl ⟨g,G,i,l,b,rfl,fu,hl,ln,few,eb,λt H2 f2 fu2 ht2=>?_⟩)⟩)⟩)))⟩;obtain⟨ks2,hbx2,bok2⟩:=fu2.bx;have lk2:=bok2.keys.len;obtain⟨fu3,f3⟩:=fu2.bx_put hbx2 (ks2:=Cc ks2 (Sum.inl (i:Int)) (.ref t)) ⟨bok2.keys.put hl.lt _,λj v ev=>by
     rw[IF]at ev;split at ev
     ·rename_i z;injection z with z
      have:j=i:=Y7 z;subst this;cases ev;exact⟨l,b,t,hl,eb,rfl,ht2⟩
     ·exact bok2.val j v ev⟩
    have nt:=fu2.ne_am ht2 (by intro l z;cases z);exact xw2 rfl rfl (xq5 fu2.at'.hp T.cl_Grove T.na_Grove_boxes (Wn g) (xq1 rfl ⟨g.bx,(xq1 rfl ⟨Ly.k (k:=Sum.inl (i:Int)) hbx2 (BF A0),(xq1 rfl (k2 b eb t _ (f2.trans f3) fu3 (f3 _ _ ht2 nt.1 nt.2)))⟩)⟩))
theorem VF{f:Addr}{fd:FuncData}{f':Addr}{fd':FuncData}(F:Fun K "boxed" "Grove.boxed" DB f fd)(F':Fun K "measured" "Grove.measured" Cv f' fd')(T:Top K mg a)(Me:QL K a.c_Grove "boxed" f)(Bi:Ci K fd Cb [])(Me':QL K a.c_Grove "measured" f')(Bi':Ci K fd' Cy [])
  (aB:Cal P w K mg base CX0 1 "shifted_box" CI IK) (aS:Cal P w K mg base CX0 1 "least_box" ER LG):∀n,AI P w K mg base CX0 (2*n+2) f fd Cb (PB a n)
 |0=>by
  refine F.ok Dg (λvs H Q E h=>?_) (λcdv A outer s H vs Q E hr h=>?_)
  ·obtain⟨g,G,i,l,rfl,_,_,h0,_⟩:=h;exact absurd h0 (F5 _)
  ·obtain⟨g,G,i,l,rfl,_,_,h0,_⟩:=h;exact absurd h0 (F5 _)
 |n+1=>ok_boxS F T ⟨⟨f',fd',ok_mea (d:=2*n+2) F' T A0 aB aS ⟨⟨f,fd,VF F F' T Me Bi Me' Bi' aB aS n,Me,Bi⟩,T.cl_Grove⟩,Me',Bi'⟩,T.cl_Grove⟩
inductive WG(a:Ad)(vs:List V)(H:Hp)(Q:VK):Prop
 |mk (g:GA) (G:Gv) (i l:Nat) (_:vs=[.ref g.p,.int i]) (_:AD a H g G) (_:Aj G i l) (_:G.length<9000000) (_:(BE G l i=none->∀H',FrQ g H H'->AD a H' g G->Q .non H')) (_:∀b,BE G l i=some b->∀t H',FrQ g H H'->AD a H' g G->JU H' t b->Q (.ref t) H'):WG a vs H Q
def QT(a:Ad):Sp:=λvs H Q _=>WG a vs H Q
theorem ok_span{f:Addr}{fd:FuncData}(F:Fun K "span" "Grove.span" FE f fd)(T:Top K mg a)(a9:Dp P w K mg base CX0 2 a.c_Grove "check_square" Bq (Pz a))(aQ:Dp P w K mg base CX0 100 a.c_Grove "boxed" Cb (PB a 49)):AI P w K mg base CX0 101 f fd FN (QT a):=by
 refine F.ok Ni (λvs H Q E h=>?_) (λcdv A outer s H vs Q E hr h=>?_)
 ·obtain⟨g,G,i,l,rfl,_⟩:=h;rfl
 ·obtain⟨g,G,i,l,rfl,fu,hl,few,k0,k1⟩:=h;refine⟨_,(Ab (Bj (AK (pv 0) a9 (rm hr) Ao (Aa (pv 1) Ac))) (Ae (At (AK (pv 0) aQ (rm hr) Ao (Aa (pv 1) Ac))))),?_⟩
  try dsimp only[cxK]
  have l48:l<49:=by
   obtain⟨q,e,el⟩:=id hl;have:=(fu.ok.lev e).2;lia
  refine xq1 rfl ⟨g.p,g.dx,(xq1 rfl ⟨fu.at'.hp,MD g,(xq1 rfl ⟨g,G,i,rfl,fu.at',hl.lt,?_⟩)⟩)⟩;exact xq1 rfl ⟨g.p,g.dx,(xq1 rfl ⟨fu.at'.hp,Qa g,(xq1 rfl ⟨g,G,i,l,rfl,fu,hl,l48,few,k0,k1⟩)⟩)⟩
end
def atN(ns:List Int)(k:Int):Int:=ns.getD k.toNat 0
section
variable{P:Program}{w:World}{K:PySem.W.Frag}{mg:Str->Option Value}{base:Heap}{a:Ad}
inductive SpAt(K:PySem.W.Frag)(vs:List V)(H:Hp)(Q:VK):Prop
 |mk (l:Addr) (ns:List Int) (k:Int) (_:vs=[.ref l,.int k]) (_:SqL K H l (ns.map V.int)) (_:0<=k) (_:Q (.int (atN ns k)) H):SpAt K vs H Q
def spAt(K:PySem.W.Frag):Sp:=λvs H Q _=>SpAt K vs H Q
theorem ok_at{f:Addr}{fd:FuncData}(F:Fun K "_law_at" "_law_at" Jv f fd)(T:Top K mg a):AI P w K mg base CX0 1 f fd GQ (spAt K):=by
 refine F.ok Ra (λvs H Q E h=>?_) (λcdv A outer s H vs Q E hr h=>?_)
 ·obtain⟨l,ns,k,rfl,_⟩:=h;rfl
 ·obtain⟨l,ns,k,rfl,hS,h0,q⟩:=h;refine⟨_,(Ab (AE (As JY (pv 1) (AA BV rfl T.b_len X9 (Aa (pv 0) Ac)) (Au _)) (Ae (At (Am AB (pv 0) (pv 1) (λ_ _=>rfl)))) Ax) (Ae (At Af))),?_⟩
  try dsimp only[cxK]
  refine⟨_,rfl,_,rfl,l,_,rfl,.inl hS,_,_,rfl,rfl,_,rfl,?_⟩;obtain⟨n,rfl⟩:=P7 h0;refine Pa (λhc=>?_) (λhc=>?_)
  ·have hc':n<ns.length:=by
    have:=Z3 hc;rw[B0]at this;lia
   refine⟨_,rfl,_,rfl,l,_,n,.int ns[n],rfl,rfl,hS,Ag (by rw[B6,C0 hc'];rfl),?_⟩;have e:atN ns (n:Int)=ns[n]:=by
    unfold atN;rw[F1,C1,C0 hc'];rfl
   rw[e]at q;exact q
  ·have hc':ns.length<=n:=by
    have:¬(n:Int)<((ns.map V.int).length:Int):=λz=>hc (Y1 z);rw[B0]at this;lia
   have e:atN ns (n:Int)=0:=by
    unfold atN;rw[F1,C1,M0 hc'];rfl
   rw[e]at q;exact q
end
inductive SpLaw(K:PySem.W.Frag)(vs:List V)(H:Hp)(Q:VK):Prop
 |mk (a:Addr) (ns:List Int) (_:vs=[.ref a]) (_:SqL K H a (ns.map V.int)) (_:ns.length<=63) (_:∀H',Q (.bl true) H'):SpLaw K vs H Q
def Se(K:PySem.W.Frag):Sp:=λvs H Q _=>SpLaw K vs H Q
end J
namespace J
open PySem L2
def Ap(g:GA)(x:Addr):Prop:=x≠g.lv/\x≠g.pt/\x≠g.nm
theorem Ap.new{a:Ad}{H:Hp}{g:GA}{G:Gv}(h:AG a H g G){x:Addr}(n:H x=none):Ap g x:=by
 obtain⟨ts,h3,_⟩:=h.pt;exact⟨Z4 (An h.lv n),Z4 (An h3 n),Z4 (An h.nm n)⟩
theorem Fr.get{g:GA}{H H':Hp}{x:Addr}{o:HO}(f:Fr g H H')(p:Ap g x)(e:H x=some o):H' x=some o:=f _ _ e p.1 p.2.1 p.2.2
theorem Fr.tup{a:Ad}{g:GA}{G:Gv}{H H':Hp}{x:Addr}{l:List V}(f:Fr g H H')(h:AG a H g G)(e:H x=some (.tup l)):H' x=some (.tup l):=by
 obtain⟨us,h3,_⟩:=h.pt;exact f _ _ e (AS e h.lv A4) (AS e h3 A4) (AS e h.nm A4)
theorem AM.mono{G G':Gv}{n m:Nat}(h:AM G G' n)(e:n<=m):AM G G' m:=⟨h.ok,h.pre,C4 h.few A0⟩
theorem Ec(l:Nat):(0:Int)<2^l:=Int.pow_pos A3
theorem Sn{l:Nat}(h:l<64):(2:Int)^l<2^64:=by
 have:(2:Nat)^l<2^64:=Nat.pow_lt_pow_right A3 h
 exact_mod_cast this
section
variable{P:Program}{w:World}{K:PySem.W.Frag}{mg:Str->Option Value}{base:Heap}{a:Ad}
end
seal L2.PA L2.PE L2.PS L2.PSs L2.PT L2.PW
theorem Fo(l:Nat):(2:Int)^(l+1)=2^l+2^l:=by rw[V1];lia
def Db(x y w h r:Int):Prop:=-r<=x/\-r<=y/\x+w<=r/\y+h<=r
instance(x y w h r:Int):Decidable (Db x y w h r):=by unfold Db;infer_instance
theorem lies_b(x y w h r:Int):(decide (-r<=x) && (decide (-r<=y) && (decide (x+w<=r) && decide (y+h<=r))))=decide (Db x y w h r):=by
 rw[O0];simp only[P8,decide_eq_true_eq];exact Iff.rfl
structure Wid(G:Gv)(n f w:Nat):Prop where
 ex:∃(q:Sq)(x y z v a b c d:Nat),BP G n f q x y z v/\G[a]?=some ⟨[(bareN n:Int),(bareN n:Int),(bareN n:Int),(x:Int)],(n:Int)+1⟩/\G[b]?=some ⟨[(bareN n:Int),(bareN n:Int),(y:Int),(bareN n:Int)],(n:Int)+1⟩ /\
  G[c]?=some ⟨[(bareN n:Int),(z:Int),(bareN n:Int),(bareN n:Int)],(n:Int)+1⟩/\G[d]?=some ⟨[(v:Int),(bareN n:Int),(bareN n:Int),(bareN n:Int)],(n:Int)+1⟩/\G[w]?=some ⟨[(a:Int),(b:Int),(c:Int),(d:Int)],(n:Int)+2⟩
theorem Wid.lev{G:Gv}{n f w:Nat}(h:Wid G n f w):Aj G w ((n+2:Nat):Int):=by
 obtain⟨q,x,y,z,v,a,b,c,d,nd,ea,eb,ec,ed,ew⟩:=h.ex;exact⟨_,ew,by show(n:Int)+2=_;lia⟩
theorem Wid.app{G G':Gv}{k n f w:Nat}(go:AM G G' k)(h:Wid G n f w):Wid G' n f w:=by
 obtain⟨q,x,y,z,v,a,b,c,d,nd,ea,eb,ec,ed,ew⟩:=h.ex;exact⟨q,x,y,z,v,a,b,c,d,nd.app go,go.get ea,go.get eb,go.get ec,go.get ed,go.get ew⟩
theorem CK{G r:Gv}(e:G=G0++r){n:Nat}(h:n<=48):Aj G (bareN n) (n:Int):=by
 rw[e];exact(Wl n h).app
theorem bareL_at'{l:Nat}(h:l<=48):((CZ 48).map V.int)[l]?=some (.int (bareN l:Int)):=by
 unfold CZ;rw[B6,B6,P4 A0];rfl
section
variable{P:Program}{w:World}{K:PySem.W.Frag}{mg:Str->Option Value}{base:Heap}{a:Ad}
inductive SpLie(vs:List V)(H:Hp)(Q:VK):Prop
 |mk (t:Addr) (x y w h r:Int) (_:vs=[.ref t,.int r]) (_:H t=some (.tup [.int x,.int y,.int w,.int h])) (_:Q (.bl (decide (Db x y w h r))) H):SpLie vs H Q
def Py:Sp:=λvs H Q _=>SpLie vs H Q
theorem ok_lie{f:Addr}{fd:FuncData}(F:Fun K "lies_within" "lies_within" EW f fd)(T:Top K mg a):AI P w K mg base CX0 1 f fd CJ Py:=by
 refine F.ok Mj (λvs H Q E h=>?_) (λcdv A outer s H vs Q E hr h=>?_)
 ·obtain⟨t,x,y,w,h,r,rfl,_⟩:=h;rfl
 ·obtain⟨t,x,y,wd,hh,r,rfl,ht,k⟩:=h;rw[<-lies_b]at k;refine⟨_,(Ae (At (Jz (DD JZ (EQ Dd (pv 1)) (Am Av (pv 0) Af (λ_ _=>rfl)) (Au _)) (Jz (DD JZ (EQ Dd (pv 1)) (Am Av (pv 0) Af (λ_ _=>rfl)) (Au _)) (Jz (DD JZ (Ay AW (Am Av (pv 0) Af (λ_ _=>rfl)) (Am Av (pv 0) Af (λ_ _=>rfl))) (pv 1) (Au _)) (OB (DD JZ (Ay AW (Am Av (pv 0) Af (λ_ _=>rfl)) (Am Av (pv 0) Af (λ_ _=>rfl))) (pv 1) (Au _)))))))),?_⟩
  try dsimp only[cxK]
  refine xw3 rfl rfl rfl (xq4 rfl rfl (SqT.of ht) (Ag (j:=0) rfl) (xq2 rfl rfl (Pl (λ_ Q1 q1=>?_) k)));refine xw3 rfl rfl rfl (xq4 rfl rfl (SqT.of ht) (Ag (j:=1) rfl) (xq2 rfl rfl (Pl (λ_ Q2 q2=>?_) q1)));refine xwi rfl rfl rfl (SqT.of ht) (Ag (j:=0) rfl) (xwi rfl rfl rfl (SqT.of ht) (Ag (j:=2) rfl) (xq2 rfl rfl (xwb rfl rfl rfl (Pl (λ_ Q3 q3=>?_) q2))));exact xwi rfl rfl rfl (SqT.of ht) (Ag (j:=1) rfl) (xwi rfl rfl rfl (SqT.of ht) (Ag (j:=3) rfl) (xq2 rfl rfl (xwb rfl rfl rfl q3)))
inductive SX(a:Ad)(vs:List V)(H:Hp)(Q:VK):Prop
 |mk (g:GA) (G:Gv) (i n:Nat) (_:vs=[.ref g.p,.int i]) (_:AG a H g G) (_:Aj G i ((n+1:Nat):Int)) (_:n<48) (_:Q (.int (2^n)) H):SX a vs H Q
def Fw(a:Ad):Sp:=λvs H Q _=>SX a vs H Q
theorem Vy{f:Addr}{fd:FuncData}(F:Fun K "reach_of" "reach_of" Im f fd)(T:Top K mg a)(a7:Dp P w K mg base CX0 3 a.c_Grove "level_of" Bk (Mb a)):AI P w K mg base CX0 4 f fd CQ (Fw a):=by
 refine F.ok PC (λvs H Q E h=>?_) (λcdv A outer s H vs Q E hr h=>?_)
 ·obtain⟨g,G,i,n,rfl,_⟩:=h;rfl
 ·obtain⟨g,G,i,n,rfl,hg,⟨q,e,el⟩,n48,k⟩:=h;refine⟨_,(Ae (At (Ay FP Af (Ay Cd (AK (pv 0) a7 (rm hr) Ao (Aa (pv 1) Ac)) Af)))),?_⟩
  try dsimp only[cxK]
  have en:q.lev=(n:Int)+1:=by rw[el];lia
  refine xwn rfl rfl hg.hp (EH g) rfl ⟨g,G,i,q,rfl,hg,e,(xq2 rfl rfl (xq2 rfl rfl ⟨⟨by lia,by lia,by decide⟩,?_⟩))⟩;show Q (.int (1*2^(q.lev-1).toNat)) H;rw[Oi n en];exact k
inductive Tc(a:Ad)(vs:List V)(H:Hp)(Q:VK):Prop
 |mk (g:GA) (G:Gv) (_:vs=[.ref g.p]) (_:AD a H g G) (_:Q (.int (bareN 1:Int)) H):Tc a vs H Q
def LH(a:Ad):Sp:=λvs H Q _=>Tc a vs H Q
theorem VG{f:Addr}{fd:FuncData}(F:Fun K "bare_field" "bare_field" FC f fd)(T:Top K mg a):AI P w K mg base CX0 1 f fd Ef (LH a):=by
 refine F.ok Ng (λvs H Q E h=>?_) (λcdv A outer s H vs Q E hr h=>?_)
 ·obtain⟨g,G,rfl,_⟩:=h;rfl
 ·obtain⟨g,G,rfl,fu,k⟩:=h;exact⟨_,(Ae (At (Am AB (AO (pv 0) rfl) (BU rfl T.k_LEAST_LEVEL) (λ_ _=>rfl)))),(xwf rfl rfl fu.at'.hp T.cl_Grove T.na_Grove_bares (IB g) (xq4 rfl rfl (SqL.of fu.br) (Ag (j:=1) (bareL_at' A0)) k))⟩
inductive SpWid(a:Ad)(vs:List V)(H:Hp)(Q:VK):Prop
 |mk (g:GA) (G:Gv) (f n:Nat) (_:vs=[.ref g.p,.int f]) (_:AD a H g G) (_:Aj G f ((n+1:Nat):Int)) (_:n<47) (_:G.length<8900000) (_:∀(w:Nat)(G':Gv)(H':Hp),Fr g H H'->AG a H' g G'->AM G G' 5->Wid G' n f w->Q (.int w) H'):SpWid a vs H Q
def UH(a:Ad):Sp:=λvs H Q _=>SpWid a vs H Q
theorem ok_wid{f:Addr}{fd:FuncData}(F:Fun K "widened" "widened" Jq f fd)(T:Top K mg a)(a7:Dp P w K mg base CX0 3 a.c_Grove "level_of" Bk (Mb a))(a6:Dp P w K mg base CX0 2 a.c_Grove "linked" Bp (Gg a)):AI P w K mg base CX0 4 f fd JA (UH a):=by
 refine F.ok Fy (λvs H Q E h=>?_) (λcdv A outer s H vs Q E hr h=>?_)
 ·obtain⟨g,G,f',n,rfl,_⟩:=h;rfl
 ·obtain⟨g,G,f',n,rfl,fu,hl,n47,few,k⟩:=h;obtain⟨q,x,y,z,v,nd⟩:=AL fu.ok hl;have lq:=nd.lev;obtain⟨ts,h3,h4⟩:=fu.at'.pt;obtain⟨t,et,ht⟩:=PairedM.get h4 nd.g;have ht:H t=some (.tup [.int x,.int y,.int z,.int v]):=by
   have ht:H t=some (.tup (q.parts.map V.int)):=ht;rw[nd.ps]at ht;exact ht
  obtain⟨r,e0⟩:=fu.g0;have lb:=CK e0 (n:=n) A0;refine⟨_,(Ab (Ah (i:=2) Fy.nd rfl (Or.inl rfl) (AK (pv 0) a7 (rm hr) Ao (Aa (pv 1) Ac))) (Ab (AE (PW.pt (Fn (As JY (pv 2) (BU rfl T.k_LEAST_LEVEL) (Au _)) (EZ (As Cp (pv 2) (BU rfl T.k_TOP_LEVEL) (Au _))))) (Ae AZ) Ax) (Ab (Ah (i:=3) Fy.nd rfl (Or.inl rfl) (Am AB (AO (pv 0) rfl) (pv 1) (λ_ _=>rfl))) (Ab (Ah (i:=4) Fy.nd rfl (Or.inl rfl) (Am AB (AO (pv 0) rfl) (Ay Cd (pv 2) Af) (λ_ _=>rfl))) (Ae (At (AK (pv 0) a6 (rm hr) Ao (BJ (Aa (AK (pv 0) a6 (rm hr) Ao (BJ (Aa (pv 4) (Aa (pv 4) (Aa (pv 4) (Aa (Am Av (pv 3) Af (λ_ _=>rfl)) Ac)))) Ac)) (Aa (AK (pv 0) a6 (rm hr) Ao (BJ (Aa (pv 4) (Aa (pv 4) (Aa (Am Av (pv 3) Af (λ_ _=>rfl)) (Aa (pv 4) Ac)))) Ac)) (Aa (AK (pv 0) a6 (rm hr) Ao (BJ (Aa (pv 4) (Aa (Am Av (pv 3) Af (λ_ _=>rfl)) (Aa (pv 4) (Aa (pv 4) Ac)))) Ac)) (Aa (AK (pv 0) a6 (rm hr) Ao (BJ (Aa (Am Av (pv 3) Af (λ_ _=>rfl)) (Aa (pv 4) (Aa (pv 4) (Aa (pv 4) Ac)))) Ac)) Ac)))) Ac)))))))),?_⟩
  try dsimp only[cxK]
  refine xq1 rfl ⟨g.p,g.dx,(xq1 rfl ⟨fu.at'.hp,EH g,(xq1 rfl ⟨g,G,f',q,rfl,fu.at',nd.g,?_⟩)⟩)⟩;refine xwb rfl rfl rfl (xq1 rfl ?_);rw[Y3 (by lia:¬q.lev<1)];refine AT (xq1 rfl ⟨rfl,(xq1 rfl ?_)⟩);rw[Y3 (by intro z;injection z with z;lia)];refine AT (xwf rfl rfl fu.at'.hp T.cl_Grove T.na_Grove_parts (DV g) (xwi rfl rfl rfl (SqL.of h3) (Ag (by rw[B6,et];rfl)) ?_));refine xwf rfl rfl fu.at'.hp T.cl_Grove T.na_Grove_bares (IB g) (xwb rfl rfl rfl (xq4 rfl rfl (SqL.of fu.br) (by rw[show q.lev-1=(n:Int) by lia];exact Ag (bareL_at' A0)) ?_));refine xq1 rfl ⟨g.p,g.dx,(xq1 rfl ⟨fu.at'.hp,Cz g,?_⟩)⟩;refine xq1 rfl ⟨g.p,g.dx,(xq1 rfl ⟨fu.at'.hp,Cz g,(xw3 rfl rfl rfl (xwi rfl rfl rfl (SqT.of ht) (Ag (j:=0) rfl) ⟨(by show 4<=sizeLine;decide),λt1 ht1=>?_⟩))⟩)⟩;have s1:=Ak (o:=.tup [.int (bareN n:Int),.int (bareN n:Int),.int (bareN n:Int),.int x]) ht1;refine⟨g,G,t1,bareN n,bareN n,bareN n,x,(n:Int),rfl,fu.at'.same s1,fu.ok,upd_same,⟨lb,lb,lb,nd.hx⟩,by lia,by lia,λa1 G1 H1 fr1 hg1 go1 e1=>?_⟩;have f1:=(Az.fr s1).trans fr1;have htA:=f1.tup fu.at' ht;have n1:=go1.few;refine xwn rfl rfl hg1.hp (Cz g) rfl (xwj rfl rfl rfl rfl (SqT.of htA) (Ag (j:=1) rfl) (xq1 rfl ⟨(by show 4<=sizeLine;decide),λt2 ht2=>?_⟩));have s2:=Ak (o:=.tup [.int (bareN n:Int),.int (bareN n:Int),.int y,.int (bareN n:Int)]) ht2;refine⟨g,G1,t2,bareN n,bareN n,y,bareN n,(n:Int),rfl,hg1.same s2,go1.ok,upd_same,⟨go1.lev lb,go1.lev lb,go1.lev nd.hy,go1.lev lb⟩,by lia,by lia,λa2 G2 H2 fr2 hg2 go2 e2=>?_⟩;have f2:=f1.trans ((Az.fr s2).trans fr2);have htB:=f2.tup fu.at' ht;have n2:=go2.few;have go12:=go1.trans go2;refine xwn rfl rfl hg2.hp (Cz g) rfl (xwi rfl rfl rfl (SqT.of htB) (Ag (j:=2) rfl) (xw2 rfl rfl ⟨(by show 4<=sizeLine;decide),λt3 ht3=>?_⟩));have s3:=Ak (o:=.tup [.int (bareN n:Int),.int z,.int (bareN n:Int),.int (bareN n:Int)]) ht3;refine⟨g,G2,t3,bareN n,z,bareN n,bareN n,(n:Int),rfl,hg2.same s3,go2.ok,upd_same,⟨go12.lev lb,go12.lev nd.hz,go12.lev lb,go12.lev lb⟩,by lia,by lia,λa3 G3 H3 fr3 hg3 go3 e3=>?_⟩;have f3:=f2.trans ((Az.fr s3).trans fr3);have htC:=f3.tup fu.at' ht;have n3:=go3.few;have go13:=go12.trans go3;refine xwn rfl rfl hg3.hp (Cz g) rfl (xq4 rfl rfl (SqT.of htC) (Ag (j:=3) rfl) (xw3 rfl rfl rfl ⟨(by show 4<=sizeLine;decide),λt4 ht4=>?_⟩));have s4:=Ak (o:=.tup [.int v,.int (bareN n:Int),.int (bareN n:Int),.int (bareN n:Int)]) ht4;refine⟨g,G3,t4,v,bareN n,bareN n,bareN n,(n:Int),rfl,hg3.same s4,go3.ok,upd_same,⟨go13.lev nd.hw,go13.lev lb,go13.lev lb,go13.lev lb⟩,by lia,by lia,λa4 G4 H4 fr4 hg4 go4 e4=>?_⟩;have f4:=f3.trans ((Az.fr s4).trans fr4);have n4:=go4.few;have go14:=go13.trans go4;refine⟨(by show 4<=sizeLine;decide),λt5 ht5=>?_⟩;have s5:=Ak (o:=.tup [.int a1,.int a2,.int a3,.int a4]) ht5;have E1:=(go2.trans (go3.trans go4)).get e1;have E2:=(go3.trans go4).get e2;have E3:=go4.get e3;refine⟨g,G4,t5,a1,a2,a3,a4,(n:Int)+1,rfl,hg4.same s5,go4.ok,upd_same,⟨⟨_,E1,rfl⟩,⟨_,E2,rfl⟩,⟨_,E3,rfl⟩,⟨_,e4,rfl⟩⟩,by lia,by lia,λw' G5 H5 fr5 hg5 go5 e5=>?_⟩;have go15:=go14.trans go5;exact k w' G5 H5 (f4.trans ((Az.fr s5).trans fr5)) hg5 go15 ⟨q,x,y,z,v,a1,a2,a3,a4,nd.app go15,go5.get E1,go5.get E2,go5.get E3,go5.get e4,by rw[e5,show(n:Int)+1+1=(n:Int)+2 by lia]⟩
end
structure Lx(G:Gv)(n i:Nat)(qs:Nat->Nat)(ps:Nat->Nat->Nat):Prop where
 node:∃q,BP G (n+1) i q (qs 0) (qs 1) (qs 2) (qs 3)
 sub:∀k,k<4->∃q,BP G n (qs k) q (ps k 0) (ps k 1) (ps k 2) (ps k 3)
theorem Lx.app{G G':Gv}{k n i:Nat}{qs:Nat->Nat}{ps:Nat->Nat->Nat}(go:AM G G' k)(h:Lx G n i qs ps):Lx G' n i qs ps:=by
 obtain⟨q,nd⟩:=h.node;exact⟨⟨q,nd.app go⟩,λk hk=>by obtain⟨q,nd⟩:=h.sub k hk;exact⟨q,nd.app go⟩⟩
def f4(x y z w:Nat)(k:Nat):Nat:=match k with|0=>x|1=>y|2=>z|_=>w
theorem deep_of{G:Gv}(ok:GOk G){n i:Nat}(h:Aj G i ((n+2:Nat):Int)):∃qs ps,Lx G n i qs ps:=by
 obtain⟨q,x,y,z,w,nd⟩:=AL ok (n:=n+1) h;obtain⟨_,x0,x1,x2,x3,nx⟩:=AL ok nd.hx;obtain⟨_,y0,y1,y2,y3,ny⟩:=AL ok nd.hy;obtain⟨_,z0,z1,z2,z3,nz⟩:=AL ok nd.hz;obtain⟨_,w0,w1,w2,w3,nw⟩:=AL ok nd.hw;refine⟨f4 x y z w,λk=>match k with|0=>f4 x0 x1 x2 x3|1=>f4 y0 y1 y2 y3|2=>f4 z0 z1 z2 z3|_=>f4 w0 w1 w2 w3,⟨q,nd⟩,λk hk=>?_⟩
 match k,hk with
 |0,_=>exact⟨_,nx⟩
 |1,_=>exact⟨_,ny⟩
 |2,_=>exact⟨_,nz⟩
 |3,_=>exact⟨_,nw⟩
theorem BP.nat{G:Gv}{n i:Nat}{q:Sq}{x y z w:Nat}(h:BP G n i q x y z w){j:Nat}(hj:j<4):q.parts[j]?=some ((f4 x y z w j:Nat):Int)/\Aj G (f4 x y z w j) n:=by
 rw[h.ps]
 match j,hj with
 |0,_=>exact⟨rfl,h.hx⟩
 |1,_=>exact⟨rfl,h.hy⟩
 |2,_=>exact⟨rfl,h.hz⟩
 |3,_=>exact⟨rfl,h.hw⟩
theorem MT(p:Nat->Nat){j:Nat}(hj:j<4):f4 (p 0) (p 1) (p 2) (p 3) j=p j:=by
 match j,hj with
 |0,_=>rfl
 |1,_=>rfl
 |2,_=>rfl
 |3,_=>rfl
def BA(n:Nat)(ps:Nat->Nat->Nat):Prop:=∀k j,k<4->j<4->j+k≠3->ps k j=bareN n
def DI(G:Gv):Nat->Nat->Nat->Prop
 |0,_,_=>False
 |1,f,r=>r=f
 |n+2,f,r=>∃qs ps,Lx G n f qs ps/\((¬BA n ps/\r=f)\/(BA n ps/\∃m,G[m]?=some ⟨[(ps 0 3:Int),(ps 1 2:Int),(ps 2 1:Int),(ps 3 0:Int)],(n:Int)+1⟩/\DI G (n+1) m r))
theorem DI.app{G G':Gv}{k:Nat}(go:AM G G' k):∀{n f r:Nat},DI G n f r->DI G' n f r
 |0,_,_,h=>h
 |1,_,_,h=>h
 |n+2,f,r,h=>by
  obtain⟨qs,ps,d,h⟩:=h;refine⟨qs,ps,d.app go,?_⟩;rcases h with h|⟨h1,m,h2,h3⟩
  ·exact .inl h
  ·exact .inr ⟨h1,m,go.get h2,DI.app go h3⟩
section
variable{P:Program}{w:World}{K:PySem.W.Frag}{mg:Str->Option Value}{base:Heap}{a:Ad}
theorem Ee{H:Hp}{g:GA}{G:Gv}(h:AG a H g G){n i:Nat}{q:Sq}{x y z w:Nat}(nd:BP G n i q x y z w):∃(ts:List Addr)(t:Addr),H g.pt=some (.lst (ts.map V.ref))/\(ts.map V.ref)[i]?=some (.ref t)/\H t=some (.tup [.int x,.int y,.int z,.int w]):=by
 obtain⟨ts,h3,h4⟩:=h.pt;obtain⟨t,et,ht⟩:=PairedM.get h4 nd.g;refine⟨ts,t,h3,by rw[B6,et];rfl,?_⟩;have ht:H t=some (.tup (q.parts.map V.int)):=ht;rw[nd.ps]at ht;exact ht
inductive SpMid(a:Ad)(vs:List V)(H:Hp)(Q:VK):Prop
 |mk (g:GA) (G:Gv) (i n:Nat) (qs:Nat->Nat) (ps:Nat->Nat->Nat) (_:vs=[.ref g.p,.int i]) (_:AG a H g G) (_:GOk G) (_:Lx G n i qs ps) (_:n<47) (_:G.length<8900000) (_:∀(m:Nat)(G':Gv)(H':Hp),Fr g H H'->AG a H' g G'->AM G G' 1->G'[m]?=some ⟨[(ps 0 3:Int),(ps 1 2:Int),(ps 2 1:Int),(ps 3 0:Int)],(n:Int)+1⟩->Q (.int m) H'):SpMid a vs H Q
def UO(a:Ad):Sp:=λvs H Q _=>SpMid a vs H Q
theorem ok_mid{f:Addr}{fd:FuncData}(F:Fun K "middle_of" "middle_of" EO f fd)(T:Top K mg a)(a6:Dp P w K mg base CX0 2 a.c_Grove "linked" Bp (Gg a)):AI P w K mg base CX0 3 f fd Gs (UO a):=by
 refine F.ok IL (λvs H Q E h=>?_) (λcdv A outer s H vs Q E hr h=>?_)
 ·obtain⟨g,G,i,n,qs,ps,rfl,_⟩:=h;rfl
 ·obtain⟨g,G,i,n,qs,ps,rfl,hg,ok,dp,n47,few,k⟩:=h;obtain⟨q,nd⟩:=dp.node;obtain⟨ts,t,h3,et,ht⟩:=Ee hg nd;refine⟨_,(Ab (Rc (i:=2) rfl IL.nd rfl rfl (BX.of (So:=Ai EO) (No:=Lb) (N:=["quarter","grove"]) (k:=1) (cs:=[0]) rfl rfl A1) (Vh (Am AB (AO (pv 0) rfl) (pv 1) (λ_ _=>rfl))) (λ_ _ _=>(BQ (i:=0) A1 rfl rfl)) (λ_ _ _=>DC) (λ_ _ _=>(Am (Qr (K:=K) rfl) (pe_fldK (K:=K) rfl (pv 1) rfl) (pv 0) (λ_ _=>rfl)))) (Ae (At (AK (pv 0) a6 (rm hr) Ao (BJ (Aa (Am Av (Am AB (pv 2) Af (λ_ _=>rfl)) Af (λ_ _=>rfl)) (Aa (Am Av (Am AB (pv 2) Af (λ_ _=>rfl)) Af (λ_ _=>rfl)) (Aa (Am Av (Am AB (pv 2) Af (λ_ _=>rfl)) Af (λ_ _=>rfl)) (Aa (Am Av (Am AB (pv 2) Af (λ_ _=>rfl)) Af (λ_ _=>rfl)) Ac)))) Ac))))),?_⟩
  try dsimp only[cxK]
  refine xwf rfl rfl hg.hp T.cl_Grove T.na_Grove_parts (DV g) (xwi rfl rfl rfl (SqL.of h3) (Ag et) ⟨t,rfl,⟨_,SqT.of ht⟩,?_⟩);have sub:∀k,k<4->∃tk,(ts.map V.ref)[qs k]?=some (.ref tk)/\H tk=some (.tup [.int (ps k 0),.int (ps k 1),.int (ps k 2),.int (ps k 3)]):=λk hk=>by
   obtain⟨qk,ndk⟩:=dp.sub k hk;obtain⟨ts',tk,h3',et',ht'⟩:=Ee hg ndk;rw[h3]at h3';have h3':=HO.lst.inj (Y5 h3');exact⟨tk,by rw[h3'];exact et',ht'⟩
  obtain⟨t0,e0,p0⟩:=sub 0 A3;obtain⟨t1,e1,p1⟩:=sub 1 A3;obtain⟨t2,e2,p2⟩:=sub 2 A3;obtain⟨t3,e3,p3⟩:=sub 3 A3;have all:∀(j:Nat)(v:V),[V.int (qs 0:Int),V.int (qs 1:Int),V.int (qs 2:Int),V.int (qs 3:Int)][j]?=some v->∃(k:Nat)(tk:Addr),v=.int (k:Int)/\(ts.map V.ref)[k]?=some (.ref tk)/\[V.ref t0,V.ref t1,V.ref t2,V.ref t3][j]?=some (.ref tk):=λj v ev=>by
   match j,ev with
   |0,ev=>cases ev;exact⟨qs 0,t0,rfl,e0,rfl⟩
   |1,ev=>cases ev;exact⟨qs 1,t1,rfl,e1,rfl⟩
   |2,ev=>cases ev;exact⟨qs 2,t2,rfl,e2,rfl⟩
   |3,ev=>cases ev;exact⟨qs 3,t3,rfl,e3,rfl⟩
   |j+4,ev=>simp at ev
  refine SS (xs:=[.int (qs 0:Int),.int (qs 1:Int),.int (qs 2:Int),.int (qs 3:Int)]) (λj acc H2=>H=H2/\acc=[V.ref t0,V.ref t1,V.ref t2,V.ref t3].take j) ⟨rfl,rfl⟩ (λj acc H2 _ z=>z.1▸SqT.of ht) ?_ ?_
  ·rintro j v acc H2 ev ⟨rfl,rfl⟩;obtain⟨k',tk,rfl,ek,el⟩:=all j v ev;refine⟨⟨[some (.int k')],rfl,rfl⟩,by rw[F8];exact BF (by show min j 4<10000000;lia),Nb (xwf rfl rfl hg.hp T.cl_Grove T.na_Grove_parts (DV g) (xwi rfl rfl rfl (SqL.of h3) (Ag ek) ⟨rfl,?_⟩))⟩;rw[D1,el];rfl
  ·rintro acc H2 ⟨rfl,rfl⟩ L hL;have s1:=Ak (o:=.lst [V.ref t0,V.ref t1,V.ref t2,V.ref t3]) hL;have hL1:upd H L (.lst [V.ref t0,V.ref t1,V.ref t2,V.ref t3]) L=some (.lst [V.ref t0,V.ref t1,V.ref t2,V.ref t3]):=upd_same;rw[show(List.take [V.int (qs 0:Int),V.int (qs 1:Int),V.int (qs 2:Int),V.int (qs 3:Int)].length [V.ref t0,V.ref t1,V.ref t2,V.ref t3])=[V.ref t0,V.ref t1,V.ref t2,V.ref t3]from rfl];generalize upd H L (.lst [V.ref t0,V.ref t1,V.ref t2,V.ref t3])=H1 at s1 hL1⊢;have hg1:=hg.same s1;refine xwn rfl rfl hg1.hp (Cz g) rfl (xq4 rfl rfl (SqL.of hL1) (Ag (j:=0) rfl) (xq4 rfl rfl (SqT.of (s1 _ _ p0)) (Ag (j:=3) rfl) (xwi rfl rfl rfl (SqL.of hL1) (Ag (j:=1) rfl) (xq4 rfl rfl (SqT.of (s1 _ _ p1)) (Ag (j:=2) rfl) ?_))));refine xwi rfl rfl rfl (SqL.of hL1) (Ag (j:=2) rfl) (xq4 rfl rfl (SqT.of (s1 _ _ p2)) (Ag (j:=1) rfl) (xwi rfl rfl rfl (SqL.of hL1) (Ag (j:=3) rfl) (xq4 rfl rfl (SqT.of (s1 _ _ p3)) (Ag (j:=0) rfl) ⟨(by show 4<=sizeLine;decide),λt4 ht4=>?_⟩)));have s2:=Ak (o:=.tup [.int (ps 0 3),.int (ps 1 2),.int (ps 2 1),.int (ps 3 0)]) ht4;obtain⟨_,n0⟩:=dp.sub 0 A3;obtain⟨_,n1⟩:=dp.sub 1 A3;obtain⟨_,n2⟩:=dp.sub 2 A3;obtain⟨_,n3⟩:=dp.sub 3 A3;exact⟨g,G,t4,ps 0 3,ps 1 2,ps 2 1,ps 3 0,(n:Int),rfl,hg1.same s2,ok,upd_same,⟨n0.hw,n1.hz,n2.hy,n3.hx⟩,by lia,by lia,λm G' H' fr hg' go e=>k m G' H' ((Az.fr s1).trans ((Az.fr s2).trans fr)) hg' go e⟩
inductive SpBA(a:Ad)(vs:List V)(H:Hp)(Q:VK):Prop
 |mk (g:GA) (G:Gv) (i n:Nat) (qs:Nat->Nat) (ps:Nat->Nat->Nat) (_:vs=[.ref g.p,.int i]) (_:AD a H g G) (_:Lx G n i qs ps) (_:n<47) (_:(BA n ps->∀H',Az H H'->Q (.bl true) H')) (_:(¬BA n ps->∀H',Az H H'->Q (.bl false) H')):SpBA a vs H Q
def spBA(a:Ad):Sp:=λvs H Q _=>SpBA a vs H Q
theorem ok_ba{f:Addr}{fd:FuncData}(F:Fun K "is_bare_around" "is_bare_around" Dq f fd)(T:Top K mg a):AI P w K mg base CX0 1 f fd Dt (spBA a):=by
 refine F.ok Br (λvs H Q E h=>?_) (λcdv A outer s H vs Q E hr h=>?_)
 ·obtain⟨g,G,i,n,qs,ps,rfl,_⟩:=h;rfl
 ·obtain⟨g,G,i,n,qs,ps,rfl,fu,dp,n47,k1,k2⟩:=h;obtain⟨q,nd⟩:=dp.node;have lq:=nd.lev;obtain⟨ts,t,h3,et,ht⟩:=Ee fu.at' nd;refine⟨_,(Ab (Ah (i:=2) Br.nd rfl (Or.inl rfl) (Am AB (AO (pv 0) rfl) (Ay Cd (Am AB (AO (pv 0) rfl) (pv 1) (λ_ _=>rfl)) Af) (λ_ _=>rfl))) (Ab (BT Z2 rfl (LJ true rfl T.b_enumerate (Aa (Am AB (AO (pv 0) rfl) (pv 1) (λ_ _=>rfl)) Ac)) (Ey rfl (AN (AF (i:=3) Br.nd rfl (Or.inl rfl)) (AN (AF (i:=4) Br.nd rfl (Or.inl rfl)) Di))) (Ae (BT Z2 rfl (LJ true rfl T.b_enumerate (Aa (Am AB (AO (pv 0) rfl) (pv 4) (λ_ _=>rfl)) Ac)) (Ey rfl (AN (AF (i:=5) Br.nd rfl (Or.inl rfl)) (AN (AF (i:=6) Br.nd rfl (Or.inl rfl)) Di))) (Ae (AE (PW.pt (Ms (As MA (pv 6) (pv 2) (Au _)) (IQ (As MA (pv 5) (Ay Cd Af (pv 3)) (Au _))))) (Ae (At Sr)) Ax))))) (Ae (At Sr)))),?_⟩
  try dsimp only[cxK]
  refine xwf rfl rfl fu.at'.hp T.cl_Grove T.na_Grove_bares (IB g) (xwf rfl rfl fu.at'.hp T.cl_Grove T.na_Grove_levels (DX g) (xwi rfl rfl rfl (SqL.of fu.at'.lv) (Ag (by rw[B6,nd.g];rfl)) (xq2 rfl rfl (xq4 rfl rfl (SqL.of fu.br) (by rw[show q.lev-2=(n:Int) by lia];exact Ag (bareL_at' A0)) ?_))));refine xwf rfl rfl fu.at'.hp T.cl_Grove T.na_Grove_parts (DV g) (xwi rfl rfl rfl (SqL.of h3) (Ag et) ⟨t,rfl,⟨_,SqT.of ht⟩,?_⟩);refine Jf (b:=true) (xs:=[.int (qs 0:Int),.int (qs 1:Int),.int (qs 2:Int),.int (qs 3:Int)]) (λj σ H2=>Az H H2/\(∃u3 u4 u5 u6:Option V,σ=[some (.ref g.p),some (.int i),some (.int (bareN n:Int)),u3,u4,u5,u6])/\∀k' j',k'<j->k'<4->j'<4->j'+k'≠3->ps k' j'=bareN n) ⟨Az.refl H,⟨none,none,none,none,rfl⟩,λk' j' h=>absurd h (F5 _)⟩ (λj σ H2 _ z=>SqT.of (z.1 _ _ ht)) ?_ ?_
  ·rintro j v σ H2 T' ev ⟨sm,⟨u3,u4,u5,u6,rfl⟩,al⟩ nT;have hj:j<4:=(B7.mp ev).1;have ev':v=.int (qs j:Int):=by
    match j,hj,ev with
    |0,_,ev=>cases ev;rfl
    |1,_,ev=>cases ev;rfl
    |2,_,ev=>cases ev;rfl
    |3,_,ev=>cases ev;rfl
   subst ev';obtain⟨qk,ndk⟩:=dp.sub j hj;have s2:=sm.trans (Ak (o:=.tup [.int j,.int (qs j)]) nT);refine Le upd_same ?_;generalize upd H2 T' (.tup [.int j,.int (qs j)])=H3 at s2⊢;obtain⟨ts3,t3,h33,et3,ht3⟩:=Ee (fu.at'.same s2) ndk;refine xwf rfl rfl ((fu.at'.same s2).hp) T.cl_Grove T.na_Grove_parts (DV g) (xwi rfl rfl rfl (SqL.of h33) (Ag et3) ⟨t3,rfl,⟨_,SqT.of ht3⟩,?_⟩);refine Jf (b:=true) (xs:=[.int (ps j 0:Int),.int (ps j 1:Int),.int (ps j 2:Int),.int (ps j 3:Int)]) (λj2 σ H4=>Az H3 H4/\(∃u5 u6:Option V,σ=[some (.ref g.p),some (.int i),some (.int (bareN n:Int)),some (.int j),some (.int (qs j)),u5,u6])/\∀j',j'<j2->j'<4->j'+j≠3->ps j j'=bareN n) ⟨Az.refl H3,⟨_,_,rfl⟩,λj' h=>absurd h (F5 _)⟩ (λj2 σ H4 _ z=>SqT.of (z.1 _ _ ht3)) ?_ ?_
   ·rintro j2 v σ H4 T2 ev ⟨sm2,⟨u5,u6,rfl⟩,al2⟩ nT2;have hj2:j2<4:=(B7.mp ev).1;have ev':v=.int (ps j j2:Int):=by
     match j2,hj2,ev with
     |0,_,ev=>cases ev;rfl
     |1,_,ev=>cases ev;rfl
     |2,_,ev=>cases ev;rfl
     |3,_,ev=>cases ev;rfl
    subst ev';have s4:=sm2.trans (Ak (o:=.tup [.int j2,.int (ps j j2)]) nT2);refine Le upd_same ?_;generalize upd H4 T2 (.tup [.int j2,.int (ps j j2)])=H5 at s4⊢;refine xw2 rfl rfl ⟨rfl,(xq1 rfl ?_)⟩;refine UA (b2:=!decide (V.int (j2:Int)=V.int (3-(j:Int)))) (λ_ Q' q=>(xw2 rfl rfl (xq2 rfl rfl ⟨rfl,(xq1 rfl q)⟩))) ?_;refine Pa (λhc=>?_) (λhc=>?_)
    ·refine k2 (λba=>?_) H5 (s2.trans s4);rw[P8]at hc;have c2:¬j2+j=3:=λz=>by
      have:=hc.2;rw[Y1 (show V.int (j2:Int)=V.int (3-(j:Int)) by congr 1;lia)]at this;cases this
     have c1:=hc.1;rw[ba j j2 hj hj2 c2,Y1 rfl]at c1;cases c1
    ·refine⟨s4,⟨_,_,rfl⟩,λj' h1 h2 h3'=>?_⟩;rcases P2.mp h1 with h|h
     ·exact al2 j' h h2 h3'
     ·subst h;refine X6 λz=>hc ?_;rw[Y3 (show ¬V.int (ps j j':Int)=V.int (bareN n:Int) by intro q;injection q with q;exact z (Y7 q)),Y3 (show ¬V.int (j':Int)=V.int (3-(j:Int)) by intro q;injection q with q;lia)];rfl
   ·rintro σ H4 ⟨sm2,⟨u5,u6,rfl⟩,al2⟩;refine⟨s2.trans sm2,⟨_,_,_,_,rfl⟩,λk' j' h1 h2 h3' h4=>?_⟩;rcases P2.mp h1 with h|h
    ·exact al k' j' h h2 h3' h4
    ·subst h;exact al2 j' h3' h3' h4
  ·rintro σ H2 ⟨sm,⟨u3,u4,u5,u6,rfl⟩,al⟩;exact k1 (λk' j' h1 h2 h3'=>al k' j' h1 h1 h2 h3') H2 sm
end
theorem DI.lev{G:Gv}:∀{l f r:Nat},Aj G f (l:Int)->DI G l f r->∃n,n+1<=l/\Aj G r ((n+1:Nat):Int)
 |0,_,_,_,h=>h.elim
 |1,f,r,hl,h=>by
  have h:r=f:=h;subst h;exact⟨0,B5 _,hl⟩
 |n+2,f,r,hl,h=>by
  apply GC;intro G_ hG_;obtain⟨qs,ps,d,h⟩:=h;apply hG_;clear hG_ G_;rcases h with ⟨_,rfl⟩|⟨_,m,e,h⟩
  ·exact⟨n+1,B5 _,hl⟩
  ·obtain⟨k,hk,lk⟩:=DI.lev (l:=n+1) ⟨_,e,by show(n:Int)+1=_;lia⟩ h;exact⟨k,by lia,lk⟩
section
variable{P:Program}{w:World}{K:PySem.W.Frag}{mg:Str->Option Value}{base:Heap}{a:Ad}
inductive WF(a:Ad)(vs:List V)(H:Hp)(Q:VK):Prop
 |mk (g:GA) (G:Gv) (f n:Nat) (_:vs=[.ref g.p,.int f]) (_:AD a H g G) (_:Aj G f ((n+1:Nat):Int)) (_:G.length<8800000) (_:∀(r:Nat)(G':Gv)(H':Hp),Fr g H H'->AD a H' g G'->AM G G' 48->DI G' (n+1) f r->Q (.int r) H'):WF a vs H Q
def Oj(a:Ad):Sp:=λvs H Q _=>WF a vs H Q
theorem ok_trim{f:Addr}{fd:FuncData}(F:Fun K "trimmed" "trimmed" Jr f fd)(T:Top K mg a)(a7:Dp P w K mg base CX0 3 a.c_Grove "level_of" Bk (Mb a))(aU:Cal P w K mg base CX0 1 "is_bare_around" Dt (spBA a))(bL:Cal P w K mg base CX0 3 "middle_of" Gs (UO a)):AI P w K mg base CX0 4 f fd GO (Oj a):=by
 refine F.ok Ik (λvs H Q E h=>?_) (λcdv A outer s H vs Q E hr h=>?_)
 ·apply GC;intro G_ hG_;obtain⟨g,G,f',n,rfl,_⟩:=h;apply hG_;clear hG_ G_;rfl
 ·apply GC;intro G_ hG_;obtain⟨g,G,f',n,rfl,fu,hl,few,k⟩:=h;obtain⟨q,eq,lq⟩:=id hl;apply hG_;clear hG_ G_;have n48:n+1<=48:=by have:=(fu.ok.lev eq).2;lia
  refine⟨_,(Ab (AE (As JY (AK (pv 0) a7 (rm hr) Ao (Aa (pv 1) Ac)) (BU rfl T.k_LEAST_LEVEL) (Au _)) (Ae AZ) Ax) (Ab (Ah (i:=2) Ik.nd rfl (Or.inl rfl) (pv 1)) (Ab (Mt Z2 (PW.pt (Ms (As Ea (Am AB (AO (pv 0) rfl) (pv 2) (λ_ _=>rfl)) (BU rfl T.k_LEAST_LEVEL) (Au _)) (IQ (Cm (Aq aU (rm hr) rfl Ao (Aa (pv 0) (Aa (pv 2) Ac))))))) (Ae (Ah (i:=2) Ik.nd rfl (Or.inl rfl) (Aq bL (rm hr) rfl Ao (Aa (pv 0) (Aa (pv 2) Ac)))))) (Ae (At (pv 2)))))),?_⟩
  try dsimp only[cxK]
  refine xq1 rfl ⟨g.p,g.dx,(xq1 rfl ⟨fu.at'.hp,EH g,(xq1 rfl ⟨g,G,f',q,rfl,fu.at',eq,(xq2 rfl rfl (xq1 rfl ?_))⟩)⟩)⟩;rw[Y3 (by lia:¬q.lev<1)];refine AT (xq1 rfl ?_);refine⟨λm σ H2=>∃(G':Gv)(c:Nat),σ=[some (.ref g.p),some (.int f'),some (.int c)]/\Fr g H H2/\AD a H2 g G'/\AM G G' (n-m)/\m<=n/\Aj G' c ((m+1:Nat):Int)/\∀(r:Nat)(G'':Gv)(k:Nat),AM G' G'' k->DI G'' (m+1) c r->DI G'' (n+1) f' r,⟨n,G,f',rfl,Fr.refl g H,fu,(AM.refl fu.ok).mono A0,B5 _,hl,λ_ _ _ _ h=>h⟩,?_⟩;rintro m σ H2 z3_;apply GC;intro G_ hG_;obtain⟨G',c,rfl,fr,fu2,go,mn,lc,tr⟩:=z3_;apply hG_;clear hG_ G_;have gf:=go.few;obtain⟨qc,ec,lqc⟩:=id lc;refine xwf rfl rfl fu2.at'.hp T.cl_Grove T.na_Grove_levels (DX g) (xwi rfl rfl rfl (SqL.of fu2.at'.lv) (Ag (by rw[B6,ec];rfl)) (xq2 rfl rfl (xq1 rfl ?_)));cases m with
  |zero =>
   rw[Y3 (by lia:¬(1:Int)<qc.lev)];exact AT (AT (xq1 rfl (k c G' H2 fr fu2 (go.mono A0) (tr c G' 0 (AM.refl fu2.ok) rfl))))
  |succ m =>
   rw[Y1 (by lia:(1:Int)<qc.lev)];obtain⟨qs,ps,dp⟩:=deep_of fu2.ok lc;refine BH (xw2 rfl rfl ⟨g,G',c,m,qs,ps,rfl,fu2,dp,by lia,λba H3 s3=>⟨true,rfl,BH ?_⟩,λnba H3 s3=>⟨false,rfl,AT ?_⟩⟩)
   ·refine⟨fun σ' H'=>∃(G2:Gv)(c2:Nat),σ'=[some (.ref g.p),some (.int f'),some (.int c2)]/\Fr g H H'/\AD a H' g G2/\AM G G2 (n-m)/\m<=n/\Aj G2 c2 ((m+1:Nat):Int)/\∀(r:Nat)(G'':Gv)(k:Nat),AM G2 G'' k->DI G'' (m+1) c2 r->DI G'' (n+1) f' r,fun σ' H' z=>⟨m,by lia,z⟩,?_⟩;refine xw2 rfl rfl ⟨g,G',c,m,qs,ps,rfl,fu2.at'.same s3,fu2.ok,dp,by lia,by lia,λc2 G2 H4 fr4 hg4 go4 e4=>?_⟩;have fu4:=(fu2.same s3).fr fr4 hg4 go4;refine⟨G2,c2,rfl,fr.trans ((Az.fr s3).trans fr4),fu4,(go.trans go4).mono A0,by lia,⟨_,e4,by show(m:Int)+1=_;lia⟩,λr G'' k' go5 t5=>?_⟩;exact tr r G'' _ (go4.trans go5) ⟨qs,ps,dp.app (go4.trans go5),.inr ⟨ba,c2,go5.get e4,t5⟩⟩
   ·exact xq1 rfl (k c G' H3 (fr.trans (Az.fr s3)) (fu2.same s3) (go.mono A0) (tr c G' 0 (AM.refl fu2.ok) ⟨qs,ps,dp,.inl ⟨nba,rfl⟩⟩))
def Lu(G:Gv)(n f:Nat):Nat->Nat->Prop
 |0,w=>w=f
 |k+1,w=>∃u,Lu G n f k u/\Wid G (n+k) u w
theorem Lu.app{G G':Gv}{m n f:Nat}(go:AM G G' m):∀{k w:Nat},Lu G n f k w->Lu G' n f k w
 |0,_,h=>h
 |k+1,w,h=>by
  obtain⟨u,h1,h2⟩:=h;exact⟨u,Lu.app go h1,h2.app go⟩
inductive SpWO(a:Ad)(vs:List V)(H:Hp)(Q:VK):Prop
 |mk (g:GA) (G:Gv) (f n:Nat) (t:Addr) (x y wd ht:Int) (_:vs=[.ref g.p,.int f,.ref t]) (_:AD a H g G) (_:Aj G f ((n+1:Nat):Int)) (_:n<=40) (_:H t=some (.tup [.int x,.int y,.int wd,.int ht])) (_:Db x y wd ht (2^40)) (_:G.length<8700000) (_:∀(k w:Nat)(G':Gv)(H':Hp),Fr g H H'->AD a H' g G'->AM G G' (5*k)->n+k<=40->Lu G' n f k w->Aj G' w ((n+k+1:Nat):Int)->Db x y wd ht (2^(n+k))->(∀j,j<k->¬Db x y wd ht (2^(n+j)))->Q (.int w) H'):SpWO a vs H Q
def spWO(a:Ad):Sp:=λvs H Q _=>SpWO a vs H Q
theorem ok_wo{f:Addr}{fd:FuncData}(F:Fun K "widened_over" "widened_over" Es f fd)(T:Top K mg a)(aC:Cal P w K mg base CX0 1 "lies_within" CJ Py)(aA:Cal P w K mg base CX0 4 "reach_of" CQ (Fw a))(bU:Cal P w K mg base CX0 4 "widened" JA (UH a)):AI P w K mg base CX0 5 f fd Dl (spWO a):=by
 refine F.ok DJ (λvs H Q E h=>?_) (λcdv A outer s H vs Q E hr h=>?_)
 ·apply GC;intro G_ hG_;obtain⟨g,G,f',n,t,x,y,wd,ht,rfl,_⟩:=h;apply hG_;clear hG_ G_;rfl
 ·apply GC;intro G_ hG_;obtain⟨g,G,f',n,t,x,y,wd,hh,rfl,fu,hl,n40,ht,li,few,k⟩:=h;apply hG_;clear hG_ G_;refine⟨_,(Ab (Ah (i:=3) DJ.nd rfl (Or.inl rfl) (pv 1)) (Ab (Mt Z2 (CG (Cm (Aq aC (rm hr) rfl Ao (Aa (pv 2) (Aa (Aq aA (rm hr) rfl Ao (Aa (pv 0) (Aa (pv 3) Ac))) Ac))))) (Ae (Ah (i:=3) DJ.nd rfl (Or.inl rfl) (Aq bU (rm hr) rfl Ao (Aa (pv 0) (Aa (pv 3) Ac)))))) (Ae (At (pv 3))))),?_⟩
  try dsimp only[cxK]
  refine xq1 rfl ?_;refine⟨λm σ H2=>∃(G':Gv)(c j:Nat),σ=[some (.ref g.p),some (.int f'),some (.ref t),some (.int c)]/\Fr g H H2/\AD a H2 g G'/\AM G G' (5*j)/\n+j+m=40/\Aj G' c ((n+j+1:Nat):Int)/\Lu G' n f' j c/\∀i,i<j->¬Db x y wd hh (2^(n+i)),⟨40-n,G,f',0,rfl,Fr.refl g H,fu,AM.refl fu.ok,by lia,hl,rfl,λi hi=>absurd hi (F5 _)⟩,?_⟩;rintro m σ H2 z3_;apply GC;intro G_ hG_;obtain⟨G',c,j,rfl,fr,fu2,go,e40,lc,wn,no⟩:=z3_;apply hG_;clear hG_ G_;have gf:=go.few;have ht2:=fr.tup fu.at' ht;refine xq1 rfl (xq1 rfl (xq1 rfl ⟨g,G',c,n+j,rfl,fu2.at',lc,by lia,t,x,y,wd,hh,_,rfl,ht2,_,rfl,?_⟩));by_cases hL:Db x y wd hh (2^(n+j))
  ·rw[Y1 hL];exact AT (xq1 rfl (k j c G' H2 fr fu2 go A0 wn lc hL no))
  ·rw[Y3 hL];have m0:m≠0:=λz=>by
    subst z;have:n+j=40:=by lia
    rw[this]at hL;exact hL li
   refine BH ⟨fun σ' H'=>∃(G2:Gv)(c2 j2:Nat),σ'=[some (.ref g.p),some (.int f'),some (.ref t),some (.int c2)]/\Fr g H H'/\AD a H' g G2/\AM G G2 (5*j2)/\n+j2+(m-1)=40/\Aj G2 c2 ((n+j2+1:Nat):Int)/\Lu G2 n f' j2 c2/\∀i,i<j2->¬Db x y wd hh (2^(n+i)),fun σ' H' z=>⟨m-1,by lia,z⟩,?_⟩;refine xw2 rfl rfl ⟨g,G',c,n+j,rfl,fu2,lc,by lia,by lia,λc2 G2 H3 fr3 hg3 go3 wi=>?_⟩;refine⟨G2,c2,j+1,rfl,fr.trans fr3,fu2.fr fr3 hg3 go3,(go.trans go3).mono A0,by lia,?_,⟨c,wn.app go3,wi⟩,λi hi=>?_⟩
   ·have:=wi.lev;rw[show n+(j+1)+1=n+j+2 by lia];exact this
   ·rcases P2.mp hi with h|h
    ·exact no i h
    ·rw[h];exact hL
end
def st4(x y z w k j:Nat)(i:Nat):Nat:=if i=k then j else f4 x y z w i
def quad(l x y:Nat):Nat:=x/2^l+2*(y/2^l)
theorem CC{l x:Nat}(h:x<2^(l+1)):x/2^l<2:=by
 rw[S5 (Nat.pow_pos A3),W5,<-U9];exact h
theorem Dh{l x y:Nat}(hx:x<2^(l+1))(hy:y<2^(l+1)):quad l x y<4:=by
 have h1:=CC hx;have h2:=CC hy;unfold quad;lia
theorem DF(l:Nat):((2^l:Nat):Int)=(2:Int)^l:=Int.natCast_pow 2 l
theorem quad_c(l x y:Nat):(x:Int)/2^l+2*((y:Int)/2^l)=((quad l x y:Nat):Int):=by
 unfold quad;rw[<-DF,Q4,O8,Int.natCast_ediv,Int.natCast_ediv];rfl
theorem mod_c(l x:Nat):(x:Int)%2^l=((x%2^l:Nat):Int):=by rw[<-DF,Int.natCast_emod]
theorem set4(x y z w j:Nat){k:Nat}(hk:k<4):([V.int (x:Int),V.int (y:Int),V.int (z:Int),V.int (w:Int)].set k (.int j))=[V.int (st4 x y z w k j 0:Int),V.int (st4 x y z w k j 1:Int),V.int (st4 x y z w k j 2:Int),V.int (st4 x y z w k j 3:Int)]:=by
 match k,hk with
 |0,_=>rfl
 |1,_=>rfl
 |2,_=>rfl
 |3,_=>rfl
def Rep(G:Gv)(s:Nat):Nat->Nat->Nat->Nat->Nat->Prop
 |0,_,_,_,r=>r=s
 |l+1,i,x,y,r=>∃(q:Sq)(a b c d j:Nat),BP G l i q a b c d/\Rep G s l (f4 a b c d (quad l x y)) (x%2^l) (y%2^l) j/\G[r]?=some ⟨[(st4 a b c d (quad l x y) j 0:Int),(st4 a b c d (quad l x y) j 1:Int),(st4 a b c d (quad l x y) j 2:Int),(st4 a b c d (quad l x y) j 3:Int)],(l:Int)+1⟩
theorem Rep.app{G G':Gv}{m s:Nat}(go:AM G G' m):∀{l i x y r:Nat},Rep G s l i x y r->Rep G' s l i x y r
 |0,_,_,_,_,h=>h
 |l+1,i,x,y,r,h=>by
  obtain⟨q,a,b,c,d,j,nd,h1,e⟩:=h;exact⟨q,a,b,c,d,j,nd.app go,Rep.app go h1,go.get e⟩
theorem Rep.lev{G:Gv}(ok:GOk G){s:Nat}(hs:s<8):∀{l i x y r:Nat},Rep G s l i x y r->Aj G r (l:Int)
 |0,_,_,_,r,h=>by
  have h:r=s:=h;subst h;exact⟨_,ok.leaf r hs,rfl⟩
 |l+1,_,_,_,_,h=>by
  obtain⟨q,a,b,c,d,j,nd,h1,e⟩:=h;exact⟨_,e,by show(l:Int)+1=_;lia⟩
section
variable{P:Program}{w:World}{K:PySem.W.Frag}{mg:Str->Option Value}{base:Heap}{a:Ad}
inductive SpRep(a:Ad)(n:Nat)(vs:List V)(H:Hp)(Q:VK):Prop
 |mk (g:GA) (G:Gv) (i l x y s:Nat) (_:vs=[.ref g.p,.int i,.int x,.int y,.int s]) (_:AG a H g G) (_:GOk G) (_:Aj G i (l:Int)) (_:l<n) (_:x<2^l) (_:y<2^l) (_:s<8) (_:G.length+l<8900000) (_:∀(r:Nat)(G':Gv)(H':Hp),Fr g H H'->AG a H' g G'->AM G G' l->Rep G' s l i x y r->Q (.int r) H'):SpRep a n vs H Q
def Sd(a:Ad)(n:Nat):Sp:=λvs H Q _=>SpRep a n vs H Q
theorem Vx{f:Addr}{fd:FuncData}(F:Fun K "replaced" "replaced" Il f fd)(T:Top K mg a)(hm:mg "replaced" = some (.ref f))(Bi:Ci K fd Ez [])(aH:Dp P w K mg base CX0 3 a.c_Grove "leaf" Eh (On a))(a6:Dp P w K mg base CX0 2 a.c_Grove "linked" Bp (Gg a)):∀n,AI P w K mg base CX0 (n+4) f fd Ez (Sd a n)
 |0=>by
  refine F.ok CT (λvs H Q E h=>?_) (λcdv A outer s H vs Q E hr h=>?_)
  ·obtain⟨g,G,i,l,x,y,s,rfl,_,_,_,h0,_⟩:=h;exact absurd h0 (F5 _)
  ·obtain⟨g,G,i,l,x,y,s,rfl,_,_,_,h0,_⟩:=h;exact absurd h0 (F5 _)
 |n+1=>by
  have b9:Cal P w K mg base CX0 (n+4) "replaced" Ez (Sd a n):=⟨f,fd,Vx F T hm Bi aH a6 n,hm,F.kp,Bi⟩
  refine F.ok CT (λvs H Q E h=>?_) (λcdv A outer s H vs Q E hr h=>?_)
  ·obtain⟨g,G,i,l,x,y,s,rfl,_⟩:=h;rfl
  ·obtain⟨g,G,i,l,x,y,st,rfl,hg,ok,hl,ln,hx,hy,s8,few,k⟩:=h;obtain⟨q0,e0,l0⟩:=id hl;refine⟨_,(Ab (Ah (i:=5) CT.nd rfl (Or.inl rfl) (Am AB (AO (pv 0) rfl) (pv 1) (λ_ _=>rfl))) (Ab (AE (As Cp (pv 5) Af (Au _)) (Ae (At (AK (pv 0) aH (rm hr) Ao (Aa (pv 4) Ac)))) Ax) (Ab (Ah (i:=6) CT.nd rfl (Or.inl rfl) (Ay FP Af (Ay Cd (pv 5) Af))) (Ab (Ah (i:=7) CT.nd rfl (Or.inl rfl) (Ca Pi rfl T.b_list PyProof.Rows.boot_list (Aa (Am AB (AO (pv 0) rfl) (pv 1) (λ_ _=>rfl)) Ac))) (Ab (Ah (i:=8) CT.nd rfl (Or.inl rfl) (Ay AW (Ay PX (pv 2) (pv 6)) (Ay EF Af (Ay PX (pv 3) (pv 6))))) (Ab (Re (Aq b9 (rm hr) rfl Ao (Aa (pv 0) (Aa (Am AB (pv 7) (pv 8) (λ_ _=>rfl)) (Bv Ce (pv 2) (pv 6) (Bv Ce (pv 3) (pv 6) (Aa (pv 4) Ac)))))) (Rf (pv 7) (pv 8) Mf)) (Ae (At (AK (pv 0) a6 (rm hr) Ao (Aa (Ca Ig rfl T.b_tuple PyProof.Rows.boot_tuple (Aa (pv 7) Ac)) Ac)))))))))),?_⟩
   try dsimp only[cxK]
   refine⟨_,rfl,g.p,_,g.dx,_,_,rfl,hg.hp,T.cl_Grove,T.na_Grove_levels,DX g,_,rfl,g.lv,_,(i:Int),.int q0.lev,rfl,rfl,SqL.of hg.lv,Ag (by rw[B6,e0];rfl),?_⟩;cases l with
   |zero =>
    rw[l0];exact xq1 rfl ⟨rfl,(xq1 rfl (BH (xwn rfl rfl hg.hp (Sw g) rfl ⟨g.p,(st:Int),rfl,by lia,by lia,k st G H (Fr.refl g H) hg (AM.refl ok) rfl⟩)))⟩
   |succ l =>
    have l0':q0.lev=(l:Int)+1:=by rw[l0];lia
    have l48:=(ok.lev e0).2;have lt64:=Sn (l:=l) A0;have lpos:=Ec l;obtain⟨q,p0,p1,p2,p3,nd⟩:=AL ok hl;obtain⟨ts,t,h3,et,ht⟩:=Ee hg nd;refine xq1 rfl ⟨rfl,(xq1 rfl ?_)⟩;rw[Y3 (by intro z;injection z with z;lia)];refine AT (xwb rfl rfl rfl (xq2 rfl rfl ⟨⟨by lia,by lia,by decide⟩,?_⟩));rw[show(λ(i j:Int)=>V.int (i*2^j.toNat)) 1 (q0.lev-1)=V.int (2^l)from Z5 V.int (Oi l l0')];refine xwf rfl rfl hg.hp T.cl_Grove T.na_Grove_parts (DV g) (xwi rfl rfl rfl (SqL.of h3) (Ag et) ⟨t,(xq1 rfl ⟨.inr (SqT.of ht),λL hL=>?_⟩)⟩);have aL:Ap g L:=Ap.new hg hL;have s1:=Ak (o:=.lst [.int p0,.int p1,.int p2,.int p3]) hL;have hL1:upd H L (.lst [.int p0,.int p1,.int p2,.int p3]) L=some (.lst [.int p0,.int p1,.int p2,.int p3]):=upd_same;generalize upd H L (.lst [.int p0,.int p1,.int p2,.int p3])=H1 at s1 hL1⊢;have hg1:=hg.same s1;have qk:=Dh hx hy;refine xw2 rfl rfl (xq2 rfl rfl ⟨⟨lpos,lt64⟩,(xw2 rfl rfl (xq2 rfl rfl ⟨⟨lpos,lt64⟩,(xq2 rfl rfl ⟨.inl ⟨by decide,by decide⟩,(xq2 rfl rfl ?_)⟩)⟩))⟩);rw[show(λ(i j:Int)=>V.int (i+j)) ((x:Int)/2^l) (2*((y:Int)/2^l))=V.int ((quad l x y:Nat):Int)from Z5 V.int (quad_c l x y)];have atq:[V.int (p0:Int),V.int (p1:Int),V.int (p2:Int),V.int (p3:Int)][quad l x y]?=some (.int (f4 p0 p1 p2 p3 (quad l x y):Int)):=by
     generalize quad l x y=kk at qk⊢
     match kk,qk with
     |0,_=>rfl
     |1,_=>rfl
     |2,_=>rfl
     |3,_=>rfl
    have lvq:Aj G (f4 p0 p1 p2 p3 (quad l x y)) (l:Int):=(nd.nat qk).2;refine xw3 rfl rfl rfl (xq4 rfl rfl (SqL.of hL1) (Ag atq) (xw2 rfl rfl (xq2 rfl rfl ⟨lpos,(xw2 rfl rfl (xq2 rfl rfl ⟨lpos,(xq1 rfl ?_)⟩))⟩)));refine⟨g,G,f4 p0 p1 p2 p3 (quad l x y),l,x%2^l,y%2^l,st,by rw[<-mod_c,<-mod_c];rfl,hg1,ok,lvq,by lia,F4 _ (Nat.pow_pos A3),F4 _ (Nat.pow_pos A3),s8,by lia,λj G1 H2 fr hg2 go rp=>?_⟩;have gf:=go.few;have hL2:=fr.get aL hL1;refine xw2 rfl rfl ⟨L,_,((quad l x y:Nat):Int),quad l x y,rfl,rfl,hL2,by unfold ixN;rw[Y4 A0,Y4 (by show((quad l x y:Nat):Int)<((4:Nat):Int);lia),F1],?_⟩;rw[set4 p0 p1 p2 p3 j qk];have hg3:=hg2.put (o:=.lst [V.int (st4 p0 p1 p2 p3 (quad l x y) j 0:Int),V.int (st4 p0 p1 p2 p3 (quad l x y) j 1:Int),V.int (st4 p0 p1 p2 p3 (quad l x y) j 2:Int),V.int (st4 p0 p1 p2 p3 (quad l x y) j 3:Int)]) hL2 aL.1 aL.2.1;have hL3:upd H2 L (.lst [V.int (st4 p0 p1 p2 p3 (quad l x y) j 0:Int),V.int (st4 p0 p1 p2 p3 (quad l x y) j 1:Int),V.int (st4 p0 p1 p2 p3 (quad l x y) j 2:Int),V.int (st4 p0 p1 p2 p3 (quad l x y) j 3:Int)]) L=some (.lst [V.int (st4 p0 p1 p2 p3 (quad l x y) j 0:Int),V.int (st4 p0 p1 p2 p3 (quad l x y) j 1:Int),V.int (st4 p0 p1 p2 p3 (quad l x y) j 2:Int),V.int (st4 p0 p1 p2 p3 (quad l x y) j 3:Int)]):=upd_same;have fr3:Fr g H (upd H2 L (.lst [V.int (st4 p0 p1 p2 p3 (quad l x y) j 0:Int),V.int (st4 p0 p1 p2 p3 (quad l x y) j 1:Int),V.int (st4 p0 p1 p2 p3 (quad l x y) j 2:Int),V.int (st4 p0 p1 p2 p3 (quad l x y) j 3:Int)])):=λb o e m1 m2 m3=>by
     rw[Al (An e hL)];exact fr _ _ (s1 _ _ e) m1 m2 m3
    generalize upd H2 L (.lst [V.int (st4 p0 p1 p2 p3 (quad l x y) j 0:Int),V.int (st4 p0 p1 p2 p3 (quad l x y) j 1:Int),V.int (st4 p0 p1 p2 p3 (quad l x y) j 2:Int),V.int (st4 p0 p1 p2 p3 (quad l x y) j 3:Int)])=H3 at hg3 hL3 fr3⊢;refine xwn rfl rfl hg3.hp (Cz g) rfl ⟨L,(xq1 rfl (.inl ⟨SqL.of hL3,λt4 ht4=>?_⟩))⟩;have s4:=Ak (o:=.tup [V.int (st4 p0 p1 p2 p3 (quad l x y) j 0:Int),V.int (st4 p0 p1 p2 p3 (quad l x y) j 1:Int),V.int (st4 p0 p1 p2 p3 (quad l x y) j 2:Int),V.int (st4 p0 p1 p2 p3 (quad l x y) j 3:Int)]) ht4;have ndG:=nd.app go;have lj:=rp.lev go.ok s8;have lst:∀ii,ii<4->Aj G1 (st4 p0 p1 p2 p3 (quad l x y) j ii) (l:Int):=λii hi=>by
     unfold st4;split
     ·exact lj
     ·exact(ndG.nat hi).2
    refine⟨g,G1,t4,_,_,_,_,(l:Int),rfl,hg3.same s4,go.ok,upd_same,⟨lst 0 A3,lst 1 A3,lst 2 A3,lst 3 A3⟩,by lia,by lia,λr G2 H4 fr4 hg4 go4 e4=>?_⟩;exact k r G2 H4 (fr3.trans ((Az.fr s4).trans fr4)) hg4 (go.trans go4) ⟨q,p0,p1,p2,p3,j,nd.app (go.trans go4),rp.app go4,e4⟩
structure FZ(G:Gv)(n f:Nat)(x y:Int)(s r:Nat)(k w i:Nat):Prop where
 le:n+k<=40
 wid:Lu G n f k w
 lw:Aj G w ((n+k+1:Nat):Int)
 li:Db x y 1 1 (2^(n+k))
 no:∀j,j<k->¬Db x y 1 1 (2^(n+j))
 rep:Rep G s (n+k+1) w (x+2^(n+k)).toNat (y+2^(n+k)).toNat i
 tr:DI G (n+k+1) i r
theorem SA{x y:Int}{m:Nat}(h:Db x y 1 1 (2^m)):(x+2^m).toNat<2^(m+1)/\(y+2^m).toNat<2^(m+1)/\0<=x+2^m/\0<=y+2^m:=by
 obtain⟨h1,h2,h3,h4⟩:=h;have e:=DF (m+1);rw[Fo]at e;have p:=Ec m;refine⟨?_,?_,by lia,by lia⟩<;>lia
inductive SY(a:Ad)(vs:List V)(H:Hp)(Q:VK):Prop
 |mk (g:GA) (G:Gv) (f n:Nat) (x y:Int) (s:Nat) (_:vs=[.ref g.p,.int f,.int x,.int y,.int s]) (_:AD a H g G) (_:Aj G f ((n+1:Nat):Int)) (_:n<=40) (_:Db x y 1 1 (2^40)) (_:s<8) (_:G.length<8000000) (_:∀(r k w i:Nat)(G':Gv)(H':Hp),Fr g H H'->AD a H' g G'->AM G G' 400->FZ G' n f x y s r k w i->Q (.int r) H'):SY a vs H Q
def Om(a:Ad):Sp:=λvs H Q _=>SY a vs H Q
theorem Vz{f:Addr}{fd:FuncData}(F:Fun K "planted" "planted" Js f fd)(T:Top K mg a)(aC:Cal P w K mg base CX0 1 "lies_within" CJ Py)(aK:Cal P w K mg base CX0 2 "is_state" ED UR)(aA:Cal P w K mg base CX0 4 "reach_of" CQ (Fw a))(aG:Cal P w K mg base CX0 5 "widened_over" Dl (spWO a))
  (b9:Cal P w K mg base CX0 54 "replaced" Ez (Sd a 50)) (b7:Cal P w K mg base CX0 4 "trimmed" GO (Oj a)):AI P w K mg base CX0 55 f fd JB (Om a):=by
 refine F.ok Fz (λvs H Q E h=>?_) (λcdv A outer s H vs Q E hr h=>?_)
 ·obtain⟨g,G,f',n,x,y,st,rfl,_⟩:=h;rfl
 ·obtain⟨g,G,f',n,x,y,st,rfl,fu,hl,n40,li,s8,few,k⟩:=h;refine⟨_,(Ab (Ah (i:=5) Fz.nd rfl (Or.inl rfl) (Cn (Aa (pv 2) (Aa (pv 3) (Bh (Bh Ac)))))) (Ab (AE (CG (Cm (Aq aC (rm hr) rfl Ao (Aa (pv 5) (Aa (BU rfl T.k_LIMIT) Ac))))) (Ae AZ) Ax) (Ab (AE (CG (Cm (Aq aK (rm hr) rfl Ao (Aa (pv 4) Ac)))) (Ae AZ) Ax) (Ab (Ah (i:=6) Fz.nd rfl (Or.inl rfl) (Aq aG (rm hr) rfl Ao (Aa (pv 0) (Aa (pv 1) (Aa (pv 5) Ac))))) (Ab (Ah (i:=7) Fz.nd rfl (Or.inl rfl) (Aq aA (rm hr) rfl Ao (Aa (pv 0) (Aa (pv 6) Ac)))) (Ae (At (Aq b7 (rm hr) rfl Ao (Aa (pv 0) (Aa (Aq b9 (rm hr) rfl Ao (Aa (pv 0) (Aa (pv 6) (Bv AW (pv 2) (pv 7) (Bv AW (pv 3) (pv 7) (Aa (pv 4) Ac)))))) Ac)))))))))),?_⟩
  try dsimp only[cxK]
  refine xw2 rfl rfl ⟨(by show 4<=sizeLine;decide),λt ht=>?_⟩;have s1:=Ak (o:=.tup [.int x,.int y,.int 1,.int 1]) ht;have ht1:upd H t (.tup [.int x,.int y,.int 1,.int 1]) t=some (.tup [.int x,.int y,.int 1,.int 1]):=upd_same;generalize upd H t (.tup [.int x,.int y,.int 1,.int 1])=H1 at s1 ht1⊢;have fu1:=fu.same s1;refine xq1 rfl ⟨t,x,y,1,1,_,rfl,ht1,_,rfl,?_⟩;rw[Y1 (show Db x y 1 1 1099511627776 from li)];refine AT (xq1 rfl ⟨(st:Int),rfl,by lia,by lia,true,rfl,AT ?_⟩);refine xw3 rfl rfl rfl ⟨g,G,f',n,t,x,y,1,1,rfl,fu1,hl,n40,ht1,li,by lia,λkk w' G1 H2 fr2 fu2 go2 le wn lw lf no=>?_⟩;have gf2:=go2.few;refine xw2 rfl rfl ⟨g,G1,w',n+kk,rfl,fu2.at',lw,by lia,?_⟩;obtain⟨b1,b2,b3,b4⟩:=SA lf;refine xw3 rfl rfl rfl (xw2 rfl rfl (xq2 rfl rfl (xw2 rfl rfl (xq2 rfl rfl (xq1 rfl ?_)))));refine⟨g,G1,w',n+kk+1,(x+2^(n+kk)).toNat,(y+2^(n+kk)).toNat,st,by rw[M3 b3,M3 b4];rfl,fu2.at',fu2.ok,lw,by lia,b1,b2,s8,by lia,λi' G2 H3 fr3 hg3 go3 rp=>?_⟩;have gf3:=go3.few;have fu3:=fu2.fr fr3 hg3 go3;have li':=rp.lev go3.ok s8;refine⟨g,G2,i',n+kk,rfl,fu3,li',by lia,λr G3 H4 fr4 fu4 go4 tr=>?_⟩;have go34:=go3.trans go4;exact k r kk w' i' G3 H4 ((Az.fr s1).trans (fr2.trans (fr3.trans fr4))) fu4 ((go2.trans go34).mono A0) ⟨le,wn.app go34,go34.lev lw,lf,no,rp.app go4,tr⟩
end
structure Cl where
 x:Int
 y:Int
 s:Nat
def IC(H:Hp)(t:Addr)(c:Cl):Prop:=H t=some (.tup [.int c.x,.int c.y,.int c.s])
structure ClOk(c:Cl):Prop where
 li:Db c.x c.y 1 1 (2^40)
 s:c.s<8
theorem FZ.app{G G':Gv}{m n f:Nat}{x y:Int}{s r k w i:Nat}(go:AM G G' m)(h:FZ G n f x y s r k w i):FZ G' n f x y s r k w i:=⟨h.le,h.wid.app go,go.lev h.lw,h.li,h.no,h.rep.app go,h.tr.app go⟩
inductive Nz(G:Gv):List Cl->Nat->Nat->Prop
 |nil:Nz G [] 0 (bareN 1)
 |cons {cs:List Cl} {c:Cl} {n f r k w i m:Nat} (h:Nz G cs n f) (l:Aj G f ((n+1:Nat):Int)) (p:FZ G n f c.x c.y c.s r k w i) (l':Aj G r ((m+1:Nat):Int)):Nz G (c::cs) m r
theorem Nz.app{G G':Gv}{m:Nat}(go:AM G G' m){cs:List Cl}{n f:Nat}(h:Nz G cs n f):Nz G' cs n f:=by
 induction h with
 |nil=>exact .nil
 |cons _ l p l' ih=>exact .cons ih (go.lev l) (p.app go) (go.lev l')
section
variable{P:Program}{w:World}{K:PySem.W.Frag}{mg:Str->Option Value}{base:Heap}{a:Ad}
inductive SpFld(a:Ad)(vs:List V)(H:Hp)(Q:VK):Prop
 |mk (g:GA) (G:Gv) (L:Addr) (ts:List Addr) (cs:List Cl) (_:vs=[.ref g.p,.ref L]) (_:AD a H g G) (_:H L=some (.lst (ts.map V.ref))) (_:L≠g.lv) (_:L≠g.pt) (_:Paired (IC H) ts cs) (_:(∀c∈cs,ClOk c)) (_:G.length+400*cs.length<8000000) (_:∀(f n:Nat)(G':Gv)(H':Hp),Fr g H H'->AD a H' g G'->AM G G' (400*cs.length)->n<=40->Aj G' f ((n+1:Nat):Int)->Nz G' cs.reverse n f->Q (.int f) H'):SpFld a vs H Q
def US(a:Ad):Sp:=λvs H Q _=>SpFld a vs H Q
theorem ok_fld{f:Addr}{fd:FuncData}(F:Fun K "field_of" "field_of" Iq f fd)(T:Top K mg a)(aP:Cal P w K mg base CX0 1 "bare_field" Ef (LH a))(bV:Cal P w K mg base CX0 55 "planted" JB (Om a)):AI P w K mg base CX0 56 f fd Ix (US a):=by
 refine F.ok EN (λvs H Q E h=>?_) (λcdv A outer s H vs Q E hr h=>?_)
 ·obtain⟨g,G,L,ts,cs,rfl,_⟩:=h;rfl
 ·obtain⟨g,G,L,ts,cs,rfl,fu,hL,n1,n2,pr,oks,few,k⟩:=h;obtain⟨r0,e0⟩:=fu.g0;have lts:=Y6 pr;refine⟨_,(Ab (Ah (i:=2) EN.nd rfl (Or.inl rfl) (Aq aP (rm hr) rfl Ao (Aa (pv 0) Ac))) (Ab (BT Z2 rfl (Cg (pv 1)) (AF (i:=3) EN.nd rfl (Or.inl rfl)) (Ae (Ah (i:=2) EN.nd rfl (Or.inl rfl) (Aq bV (rm hr) rfl Ao (Aa (pv 0) (Aa (pv 2) (Aa (Am Av (pv 3) Af (λ_ _=>rfl)) (Aa (Am Av (pv 3) Af (λ_ _=>rfl)) (Aa (Am Av (pv 3) Af (λ_ _=>rfl)) Ac))))))))) (Ae (At (pv 2))))),?_⟩
  try dsimp only[cxK]
  refine xq1 rfl ⟨g,G,rfl,fu,?_⟩;refine xq1 rfl ⟨L,rfl,⟨_,SqL.of hL⟩,?_⟩;refine EJ (xs:=ts.map V.ref) (λj σ H2=>∃(G':Gv)(f n:Nat)(u3:Option V),σ=[some (.ref g.p),some (.ref L),some (.int f),u3]/\Fr g H H2/\AD a H2 g G'/\AM G G' (400*j)/\n<=40/\Aj G' f ((n+1:Nat):Int)/\Nz G' (cs.take j).reverse n f) ⟨G,bareN 1,0,none,rfl,Fr.refl g H,fu,AM.refl fu.ok,by lia,CK e0 A0,.nil⟩ (λj σ H2 _ ⟨_,_,_,_,_,fr,_⟩=>SqL.of (fr _ _ hL n1 n2 (AS hL fu.at'.nm A4))) ?_ ?_
  ·rintro j v σ H2 ev ⟨G',f',n,u3,rfl,fr,fu2,go,n40,lf,fl⟩;rw[B6]at ev;obtain⟨t,et,rfl⟩:=D6.mp ev;obtain⟨c,ec,hc⟩:=PairedM.getL pr et;have cok:=oks c (F6 ec);have hj:j<cs.length:=(B7.mp ec).1;have hc2:=fr.tup fu.at' hc;have gf:=go.few;refine xw3 rfl rfl rfl (xq4 rfl rfl (SqT.of hc2) (Ag (j:=0) rfl) (xwi rfl rfl rfl (SqT.of hc2) (Ag (j:=1) rfl) (xwi rfl rfl rfl (SqT.of hc2) (Ag (j:=2) rfl) ?_)));refine⟨g,G',f',n,c.x,c.y,c.s,rfl,fu2,lf,n40,cok.li,cok.s,by lia,λr kk w' i' G2 H3 fr3 fu3 go3 pl=>?_⟩;have li':=pl.rep.lev fu3.ok cok.s;obtain⟨m,lm,lr⟩:=DI.lev li' pl.tr;have le:=pl.le;refine⟨G2,r,m,(xq1 rfl ⟨fr.trans fr3,fu3,(go.trans go3).mono A0,by lia,lr,?_⟩)⟩;rw[D1,ec,N3,V6];exact .cons (fl.app go3) (go3.lev lf) pl lr
  ·rintro σ H2 ⟨G',f',n,u3,rfl,fr,fu2,go,n40,lf,fl⟩;rw[B0,lts]at go fl;rw[D9]at fl;exact xq1 rfl (k f' n G' H2 fr fu2 go n40 lf fl)
end
def Jm(G:Gv)(n f:Nat):Prop:=n=0\/∃m qs ps,n=m+1/\Lx G m f qs ps/\¬BA m ps
theorem Jm.app{G G':Gv}{k n f:Nat}(go:AM G G' k)(h:Jm G n f):Jm G' n f:=by
 rcases h with h|⟨m,qs,ps,e,d,b⟩
 ·exact .inl h
 ·exact .inr ⟨m,qs,ps,e,d.app go,b⟩
end J
namespace J
open PySem L2
def cellF(G:Gv):Nat->Nat->Nat->Nat->Nat
 |0,i,_,_=>i
 |n+1,i,x,y=>match G[i]? with
  |some q=>cellF G n (q.parts.getD (quad n x y) 0).toNat (x%2^n) (y%2^n)
  |none=>0
theorem AY(n:Nat):0<2^n:=Nat.pow_pos A3
theorem AJ{G:Gv}{n i:Nat}{q:Sq}{a b c d:Nat}(h:BP G n i q a b c d){x y:Nat}(hx:x<2^(n+1))(hy:y<2^(n+1)):cellF G (n+1) i x y=cellF G n (f4 a b c d (quad n x y)) (x%2^n) (y%2^n):=by
 rw[show cellF G (n+1) i x y=(match G[i]? with|some q=>cellF G n (q.parts.getD (quad n x y) 0).toNat (x%2^n) (y%2^n)|none=>0)from rfl,h.g];show cellF G n (q.parts.getD (quad n x y) 0).toNat _ _=_;have:=(h.nat (Dh hx hy)).1;rw[C1,this];rfl
theorem GG{G G':Gv}{k:Nat}(ok:GOk G)(go:AM G G' k):∀{n i x y:Nat},Aj G i (n:Int)->x<2^n->y<2^n->cellF G' n i x y=cellF G n i x y
 |0,_,_,_,_,_,_=>rfl
 |n+1,i,x,y,h,hx,hy=>by
  obtain⟨q,a,b,c,d,nd⟩:=AL ok h;rw[AJ nd hx hy,AJ (nd.app go) hx hy];exact GG ok go (nd.nat (Dh hx hy)).2 (F4 _ (AY n)) (F4 _ (AY n))
theorem CY{G r:Gv}(e:G=G0++r)(ok:GOk G):∀{n x y:Nat},n<=48->x<2^n->y<2^n->cellF G n (bareN n) x y=0
 |0,_,_,_,_,_=>rfl
 |n+1,x,y,hn,hx,hy=>by
  obtain⟨q,a,b,c,d,nd⟩:=AL ok (CK e (n:=n+1) hn);have bn:a=bareN n/\b=bareN n/\c=bareN n/\d=bareN n:=by
   have g:=nd.g;rw[show bareN (n+1)=8+n from rfl,RE e n A0]at g;cases g;have s:[(bareN n:Int),(bareN n:Int),(bareN n:Int),(bareN n:Int)]=[(a:Int),(b:Int),(c:Int),(d:Int)]:=nd.ps;injection s with s0 s
   injection s with s1 s
   injection s with s2 s
   injection s with s3 s
   exact⟨(Y7 s0).symm,(Y7 s1).symm,(Y7 s2).symm,(Y7 s3).symm⟩
  obtain⟨rfl,rfl,rfl,rfl⟩:=bn;rw[AJ nd hx hy];have:f4 (bareN n) (bareN n) (bareN n) (bareN n) (quad n x y)=bareN n:=by unfold f4;split<;>rfl
  rw[this];exact CY e ok A0 (F4 _ (AY n)) (F4 _ (AY n))
theorem Dv{n k x y:Nat}(hk:k<4)(hx:x<2^n)(hy:y<2^n):(x+2^n*(k%2))<2^(n+1)/\(y+2^n*(k/2))<2^(n+1)/\quad n (x+2^n*(k%2)) (y+2^n*(k/2))=k/\(x+2^n*(k%2))%2^n=x/\(y+2^n*(k/2))%2^n=y:=by
 have p:=AY n;have e:2^(n+1)=2*2^n:=by rw[U9];lia
 unfold quad;rw[T5 _ _ p,T5 _ _ p,Nat.add_mul_mod_self_left,Nat.add_mul_mod_self_left,P5 hx,P5 hy,Nat.mod_eq_of_lt hx,Nat.mod_eq_of_lt hy,e];generalize 2^n=h at *
 match k,hk with
 |0,_=>exact⟨by lia,by lia,rfl,rfl,rfl⟩
 |1,_=>exact⟨by lia,by lia,rfl,rfl,rfl⟩
 |2,_=>exact⟨by lia,by lia,rfl,rfl,rfl⟩
 |3,_=>exact⟨by lia,by lia,rfl,rfl,rfl⟩
theorem En{G:Gv}(ok:GOk G):∀{n i j:Nat},Aj G i (n:Int)->Aj G j (n:Int)->(∀x y,x<2^n->y<2^n->cellF G n i x y=cellF G n j x y)->i=j
 |0,i,j,_,_,h=>h 0 0 A3 A3
 |n+1,i,j,hi,hj,h=>by
  obtain⟨q,a,b,c,d,nd⟩:=AL ok hi;obtain⟨q',a',b',c',d',nd'⟩:=AL ok hj;have key:∀k,k<4->f4 a b c d k=f4 a' b' c' d' k:=λk hk=>by
   refine En ok (nd.nat hk).2 (nd'.nat hk).2 λx y hx hy=>?_;obtain⟨h1,h2,h3,h4,h5⟩:=Dv hk hx hy;have:=h _ _ h1 h2;rw[AJ nd h1 h2,AJ nd' h1 h2,h3,h4,h5]at this;exact this
  have k0:a=a':=key 0 A3;have k1:b=b':=key 1 A3;have k2:c=c':=key 2 A3;have k3:d=d':=key 3 A3;subst k0 k1 k2 k3;exact ok.one nd.g nd'.g (nd.ps.trans nd'.ps.symm)
theorem Pw{n x X:Nat}(h1:x/2^n=X/2^n)(h2:x%2^n=X%2^n):x=X:=by
 rw[<-M8 x (2^n),<-M8 X (2^n),h1,h2]
theorem PH{G:Gv}(ok:GOk G){s:Nat}(hs:s<8):∀{n i X Y r x y:Nat},X<2^n->Y<2^n->x<2^n->y<2^n->Rep G s n i X Y r->cellF G n r x y=if x=X/\y=Y then s else cellF G n i x y
 |0,i,X,Y,r,x,y,hX,hY,hx,hy,h=>by
  have h:r=s:=h;have e1:X=0:=S4.mp hX;have e2:Y=0:=S4.mp hY;have e3:x=0:=S4.mp hx;have e4:y=0:=S4.mp hy;subst e1 e2 e3 e4 h;rfl
 |n+1,i,X,Y,r,x,y,hX,hY,hx,hy,h=>by
  obtain⟨q,a,b,c,d,j,nd,h1,e⟩:=h;have lj:=h1.lev ok hs;have lst:∀ii,ii<4->Aj G (st4 a b c d (quad n X Y) j ii) (n:Int):=λii hi=>by
   unfold st4;split
   ·exact lj
   ·exact(nd.nat hi).2
  have nr:BP G n r _ (st4 a b c d (quad n X Y) j 0) (st4 a b c d (quad n X Y) j 1) (st4 a b c d (quad n X Y) j 2) (st4 a b c d (quad n X Y) j 3):=⟨e,rfl,rfl,lst 0 A3,lst 1 A3,lst 2 A3,lst 3 A3⟩
  have qk:=Dh hx hy;rw[AJ nr hx hy,AJ nd hx hy,MT (st4 a b c d (quad n X Y) j) qk];have m:=AY n;have x2:=CC hx;have y2:=CC hy;have X2:=CC hX;have Y2:=CC hY;unfold st4;by_cases hq:quad n x y=quad n X Y
  ·rw[Y4 hq,PH ok hs (F4 _ m) (F4 _ m) (F4 _ m) (F4 _ m) h1,hq];have exy:x/2^n=X/2^n/\y/2^n=Y/2^n:=by
    unfold quad at hq;generalize x/2^n=A at *
    generalize X/2^n=B at *
    generalize y/2^n=C at *
    generalize Y/2^n=D at *
    lia
   obtain⟨ex,ey⟩:=exy;by_cases hxy:x=X/\y=Y
   ·rw[Y4 hxy,Y4 ⟨by rw[hxy.1],by rw[hxy.2]⟩]
   ·rw[Y0 hxy,Y0 λz=>hxy ⟨Pw ex z.1,Pw ey z.2⟩]
  ·rw[Y0 hq,Y0 λz=>hq (by rw[z.1,z.2])]
def fieldF(G:Gv)(n f:Nat)(x y:Int):Nat:=if -(2^n)<=x/\x<2^n/\-(2^n)<=y/\y<2^n then cellF G (n+1) f (x+2^n).toNat (y+2^n).toNat else 0
theorem CD{n:Nat}{x:Int}(h0:-(2^n)<=x)(h1:x<2^n):(x+2^n).toNat<2^(n+1):=by
 have e:=DF (n+1);rw[Fo]at e;lia
theorem Fp{G G':Gv}{k n f:Nat}(ok:GOk G)(go:AM G G' k)(h:Aj G f ((n+1:Nat):Int))(x y:Int):fieldF G' n f x y=fieldF G n f x y:=by
 unfold fieldF;split
 ·rename_i z;exact GG ok go h (CD z.1 z.2.1) (CD z.2.2.1 z.2.2.2)
 ·rfl
theorem OR{h X:Nat}(u:Nat)(h1:h*u<=X)(h2:X<h*(u+1)):X/h=u/\X%h=X-h*u:=by
 have e:X/h=u:=Nat.div_eq_of_lt_le (by rw[W5];exact h1) (by rw[W5];exact h2);exact⟨e,by have:=M8 X h;rw[e]at this;lia⟩
theorem Jb(x n:Nat):x%2^(n+1)%2^n=x%2^n:=Nat.mod_mod_of_dvd x ⟨2,by rw[U9]⟩
theorem JQ{G:Gv}{n i:Nat}{qs:Nat->Nat}{ps:Nat->Nat->Nat}(h:Lx G n i qs ps){x y:Nat}(hx:x<2^(n+2))(hy:y<2^(n+2)):cellF G (n+2) i x y=cellF G n (ps (quad (n+1) x y) (quad n (x%2^(n+1)) (y%2^(n+1)))) (x%2^n) (y%2^n):=by
 obtain⟨q,nd⟩:=h.node;have qk:=Dh (l:=n+1) hx hy;have hx1:x%2^(n+1)<2^(n+1):=F4 _ (AY _);have hy1:y%2^(n+1)<2^(n+1):=F4 _ (AY _);obtain⟨q',nk⟩:=h.sub _ qk;rw[AJ nd hx hy,MT qs qk,AJ nk hx1 hy1,MT (ps _) (Dh hx1 hy1),Jb,Jb]
theorem bits{h u:Nat}(hu:u<2*h):(u+h)/(2*h)=u/h/\(u+h)%(2*h)/h=1-u/h/\(u+h)%h=u%h/\u/h<2:=by
 have p:0<h:=by lia
 rcases Nat.lt_or_ge u h with z|z
 ·have e1:u/h=0:=P5 z;have e2:(u+h)/(2*h)=0:=P5 A0;have e3:(u+h)%(2*h)=u+h:=Nat.mod_eq_of_lt A0;have e4:(u+h)/h=1:=(OR (X:=u+h) 1 A0 A0).1;exact⟨by rw[e1,e2],by rw[e3,e4,e1],Nat.add_mod_right u h,by lia⟩
 ·have e1:u/h=1:=(OR 1 A0 A0).1;have e2:=OR (h:=2*h) (X:=u+h) 1 A0 A0;have e3:(u+h-2*h*1)/h=0:=P5 A0;exact⟨by rw[e1,e2.1],by rw[e2.2,e3,e1],Nat.add_mod_right u h,by lia⟩
theorem Mu(n:Nat):2^(n+1)=2*2^n:=by rw[U9];lia
theorem VT{G:Gv}(ok:GOk G){n i m:Nat}{qs:Nat->Nat}{ps:Nat->Nat->Nat}(h:Lx G n i qs ps)(em:G[m]?=some ⟨[(ps 0 3:Int),(ps 1 2:Int),(ps 2 1:Int),(ps 3 0:Int)],(n:Int)+1⟩){u v:Nat}(hu:u<2^(n+1))(hv:v<2^(n+1)):cellF G (n+2) i (u+2^n) (v+2^n)=cellF G (n+1) m u v:=by
 have lp:∀k j,k<4->j<4->Aj G (ps k j) (n:Int):=λk j hk hj=>by
  obtain⟨q,nk⟩:=h.sub k hk;have:=(nk.nat hj).2;rw[MT (ps k) hj]at this;exact this
 have nm:BP G n m _ (ps 0 3) (ps 1 2) (ps 2 1) (ps 3 0):=⟨em,rfl,rfl,lp 0 3 A3 A3,lp 1 2 A3 A3,lp 2 1 A3 A3,lp 3 0 A3 A3⟩
 have e1:=Mu n;have e2:2^(n+2)=2*2^(n+1):=Mu (n+1);have p:=AY n;rw[JQ h A0 A0,AJ nm hu hv];unfold quad;rw[e1];rw[e1]at hu hv;apply GC;intro G_ hG_;obtain⟨a1,a2,a3,a4⟩:=bits hu;obtain⟨b1,b2,b3,b4⟩:=bits hv;apply hG_;clear hG_ G_;rw[a1,a2,a3,b1,b2,b3];have two:∀{A:Nat},A<2->A=0\/A=1:=λ{A} h=>by lia
 have hu2:=two a4;have hv2:=two b4;rcases hu2 with z|z<;>rcases hv2 with z'|z'<;>rw[z,z']<;>rfl
theorem mid_iff'{m X Y:Nat}{x y:Int}(eX:(X:Int)=x+2^(m+1))(eY:(Y:Int)=y+2^(m+1))(hX:X<2^(m+2))(hY:Y<2^(m+2)):quad m (X%2^(m+1)) (Y%2^(m+1))+quad (m+1) X Y=3↔(-(2^m)<=x/\x<2^m/\-(2^m)<=y/\y<2^m):=by
 have p:=AY m;have e1:=Mu m;have e2:2^(m+2)=2*2^(m+1):=Mu (m+1);have c1:=DF m;have c2:=DF (m+1);rw[e1]at c2;unfold quad;rw[e1];rw[e2,e1]at hX hY;rw[<-c2]at eX eY;rw[<-c1];generalize 2^m=h at *
 have key:∀{X:Nat}{x:Int},(X:Int)=x+((2*h:Nat):Int)->X<2*(2*h)->(X%(2*h)/h+X/(2*h)=1 ↔ -(h:Int)<=x/\x<(h:Int))/\X%(2*h)/h<2/\X/(2*h)<2:=by
  intro X x e l;have h2:0<2*h:=by lia
  have q2:X/(2*h)<2:=by rw[S5 h2];exact l
  have r2:X%(2*h)<2*h:=F4 _ h2;have q1:X%(2*h)/h<2:=by rw[S5 p];exact r2
  have d2:=M8 X (2*h);have d1:=M8 (X%(2*h)) h;have m1:=F4 (X%(2*h)) p;refine⟨?_,q1,q2⟩;generalize X/(2*h)=u at *
  generalize X%(2*h)/h=v at *
  generalize X%(2*h)%h=t at *
  generalize X%(2*h)=rr at *
  have hu:u=0\/u=1:=by lia
  have hv:v=0\/v=1:=by lia
  rcases hu with rfl|rfl<;>rcases hv with rfl|rfl<;>simp only[Nat.mul_zero,Nat.mul_one,O1]at d1 d2<;>lia
 obtain⟨kx,x1,x2⟩:=key eX hX;obtain⟨ky,y1,y2⟩:=key eY hY;clear key;generalize X%(2*h)/h=A at *
 generalize X/(2*h)=B at *
 generalize Y%(2*h)/h=C at *
 generalize Y/(2*h)=D at *
 constructor
 ·intro z;have zx:=kx.mp A0;have zy:=ky.mp A0;exact⟨zx.1,zx.2,zy.1,zy.2⟩
 ·rintro z0_;apply GC;intro G_ hG_;obtain⟨z1,z2,z3,z4⟩:=z0_;apply hG_;clear hG_ G_;have zx:=kx.mpr ⟨z1,z2⟩;have zy:=ky.mpr ⟨z3,z4⟩;lia
theorem NO{G r:Gv}(e0:G=G0++r)(ok:GOk G){n i m:Nat}(hn:n<=46){qs:Nat->Nat}{ps:Nat->Nat->Nat}(h:Lx G n i qs ps)(ba:BA n ps)(em:G[m]?=some ⟨[(ps 0 3:Int),(ps 1 2:Int),(ps 2 1:Int),(ps 3 0:Int)],(n:Int)+1⟩)(x y:Int):fieldF G (n+1) i x y=fieldF G n m x y:=by
 have s1:=Fo n;have p:=Ec n;unfold fieldF;by_cases hin:-(2^n)<=x/\x<2^n/\-(2^n)<=y/\y<2^n
 ·apply GC;intro G_ hG_;obtain⟨a1,a2,a3,a4⟩:=hin;apply hG_;clear hG_ G_;rw[Y4 ⟨by lia,by lia,by lia,by lia⟩,Y4 ⟨a1,a2,a3,a4⟩];have hu:=CD a1 a2;have hv:=CD a3 a4;have c:=DF n;have ex:(x+2^(n+1)).toNat=(x+2^n).toNat+2^n:=by lia
  have ey:(y+2^(n+1)).toNat=(y+2^n).toNat+2^n:=by lia
  rw[ex,ey];exact VT ok h em hu hv
 ·rw[Y0 hin];split
  ·rename_i z;apply GC;intro G_ hG_;obtain⟨z1,z2,z3,z4⟩:=z;apply hG_;clear hG_ G_;have hX:=CD z1 z2;have hY:=CD z3 z4;rw[JQ h hX hY];have ne:¬quad n ((x+2^(n+1)).toNat%2^(n+1)) ((y+2^(n+1)).toNat%2^(n+1))+quad (n+1) (x+2^(n+1)).toNat (y+2^(n+1)).toNat=3:=λq=>hin ((mid_iff' (M3 A0) (M3 A0) hX hY).mp q);rw[ba _ _ (Dh hX hY) (Dh (F4 _ (AY _)) (F4 _ (AY _))) ne];exact CY e0 ok A0 (F4 _ (AY _)) (F4 _ (AY _))
  ·rfl
theorem Ii{G r0:Gv}(e0:G=G0++r0)(ok:GOk G):∀{n f r:Nat},n<=47->Aj G f ((n+1:Nat):Int)->DI G (n+1) f r->∃m,m<=n/\Aj G r ((m+1:Nat):Int)/\Jm G m r/\∀x y,fieldF G m r x y=fieldF G n f x y
 |0,f,r,_,hl,h=>by
  have h:r=f:=h;subst h;exact⟨0,B5 _,hl,.inl rfl,λ_ _=>rfl⟩
 |n+1,f,r,hn,hl,h=>by
  apply GC;intro G_ hG_;obtain⟨qs,ps,d,h⟩:=h;apply hG_;clear hG_ G_;rcases h with ⟨nb,rfl⟩|⟨ba,m,em,h⟩
  ·exact⟨n+1,B5 _,hl,.inr ⟨n,qs,ps,rfl,d,nb⟩,λ_ _=>rfl⟩
  ·obtain⟨k,hk,lk,tk,ek⟩:=Ii e0 ok A0 ⟨_,em,by show(n:Int)+1=_;lia⟩ h;refine⟨k,by lia,lk,tk,λx y=>?_⟩;rw[ek x y,NO e0 ok A0 d ba em x y]
theorem Te{G r:Gv}(e0:G=G0++r)(ok:GOk G){n f w:Nat}(hn:n<=46)(h:Wid G n f w)(x y:Int):fieldF G (n+1) w x y=fieldF G n f x y:=by
 apply GC;intro G_ hG_;obtain⟨q,a,b,c,d,w0,w1,w2,w3,nd,ea,eb,ec,ed,ew⟩:=h.ex;apply hG_;clear hG_ G_;have lb:=CK e0 (n:=n) A0;have lv:∀{p:Nat}{l:List Int},G[p]?=some ⟨l,(n:Int)+1⟩->Aj G p ((n+1:Nat):Int):=λ{p l} e=>⟨_,e,by show(n:Int)+1=_;lia⟩
 have dp:Lx G n w (f4 w0 w1 w2 w3) (λk j=>if j+k=3 then f4 a b c d k else bareN n):=by
  refine⟨⟨_,ew,rfl,by show(n:Int)+2=_;lia,lv ea,lv eb,lv ec,lv ed⟩,λk hk=>?_⟩
  match k,hk with
  |0,_=>exact⟨_,ea,rfl,rfl,lb,lb,lb,nd.hx⟩
  |1,_=>exact⟨_,eb,rfl,rfl,lb,lb,nd.hy,lb⟩
  |2,_=>exact⟨_,ec,rfl,rfl,lb,nd.hz,lb,lb⟩
  |3,_=>exact⟨_,ed,rfl,rfl,nd.hw,lb,lb,lb⟩
 have g:=nd.g;have l:=nd.lev;have ps:=nd.ps;refine NO e0 ok hn dp (λk j _ _ ne=>Y0 ne) ?_ x y;rw[g];cases q with
 |mk pp ll=>cases ps;cases l;rfl
theorem Fv{G r:Gv}(e0:G=G0++r)(ok:GOk G){n f:Nat}:∀{k w:Nat},n+k<=46->Lu G n f k w->∀x y,fieldF G (n+k) w x y=fieldF G n f x y
 |0,w,_,h,x,y=>by
  have h:w=f:=h;subst h;rfl
 |k+1,w,hk,h,x,y=>by
  obtain⟨u,h1,h2⟩:=h;rw[show n+(k+1)=n+k+1 by lia,Te e0 ok A0 h2 x y];exact Fv e0 ok A0 h1 x y
theorem PQ{G r0:Gv}(e0:G=G0++r0)(ok:GOk G){n f s r k w i:Nat}{X Y:Int}(hs:s<8)(h:FZ G n f X Y s r k w i):∃m,m<=40/\Aj G r ((m+1:Nat):Int)/\Jm G m r/\∀x y,fieldF G m r x y=if x=X/\y=Y then s else fieldF G n f x y:=by
 have le:=h.le;have li:=h.rep.lev ok hs;obtain⟨m,hm,lm,tm,em⟩:=Ii e0 ok A0 li h.tr;refine⟨m,by lia,lm,tm,λx y=>?_⟩;rw[em x y,<-Fv e0 ok A0 h.wid x y];apply GC;intro G_ hG_;obtain⟨b1,b2,b3,b4⟩:=SA h.li;obtain⟨l1,l2,l3,l4⟩:=h.li;apply hG_;clear hG_ G_;unfold fieldF;split
 ·rename_i z;apply GC;intro G_ hG_;obtain⟨z1,z2,z3,z4⟩:=z;apply hG_;clear hG_ G_;rw[PH ok hs b1 b2 (CD z1 z2) (CD z3 z4) h.rep];by_cases hxy:x=X/\y=Y
  ·rw[Y4 hxy,Y4 ⟨by rw[hxy.1],by rw[hxy.2]⟩]
  ·rw[Y0 hxy,Y0 λq=>hxy ⟨by lia,by lia⟩]
 ·rename_i z;rw[Y0 λq=>z ⟨by lia,by lia,by lia,by lia⟩]
theorem VW{G r:Gv}(e0:G=G0++r)(ok:GOk G){n i:Nat}(hn:n<=48)(h:Aj G i (n:Int))(ne:i≠bareN n):∃x y,x<2^n/\y<2^n/\cellF G n i x y≠0:=by
 refine X6 λz=>ne (En ok h (CK e0 hn) λx y hx hy=>?_);rw[CY e0 ok hn hx hy];exact X6 λq=>z ⟨x,y,hx,hy,q⟩
theorem Uy{G r:Gv}(e0:G=G0++r)(ok:GOk G){m f:Nat}(hm:m<=46)(h:Jm G (m+1) f):∃x y:Int,¬(-(2^m)<=x/\x<2^m/\-(2^m)<=y/\y<2^m)/\fieldF G (m+1) f x y≠0:=by
 rcases h with h|⟨m',qs,ps,e,dp,nb⟩
 ·lia
 ·have:m'=m:=by lia
  subst this;have:∃k j,k<4/\j<4/\j+k≠3/\ps k j≠bareN m':=by
   refine X6 λz=>nb λk j hk hj ne=>X6 λq=>z ⟨k,j,hk,hj,ne,q⟩
  apply GC;intro G_ hG_;obtain⟨k,j,hk,hj,ne,nbare⟩:=this;obtain⟨qk,nk⟩:=dp.sub k hk;apply hG_;clear hG_ G_;have lp:Aj G (ps k j) (m':Int):=by
   have:=(nk.nat hj).2;rw[MT (ps k) hj]at this;exact this
  obtain⟨u,v,hu,hv,hc⟩:=VW e0 ok A0 lp nbare;apply GC;intro G_ hG_;obtain⟨a1,a2,a3,a4,a5⟩:=Dv hj hu hv;obtain⟨b1,b2,b3,b4,b5⟩:=Dv (n:=m'+1) hk a1 a2;apply hG_;clear hG_ G_;generalize hX:u+2^m'*(j%2)+2^(m'+1)*(k%2)=X at *
  generalize hY:v+2^m'*(j/2)+2^(m'+1)*(k/2)=Y at *
  have c1:=DF (m'+1);have c2:=DF (m'+2);have s2:=Fo (m'+1);rw[s2]at c2;refine⟨(X:Int)-2^(m'+1),(Y:Int)-2^(m'+1),λz=>ne ?_,?_⟩
  ·have:=(mid_iff' (X:=X) (Y:=Y) A0 A0 b1 b2).mpr z;rw[b3,b4,b5,a3]at this;exact this
  ·unfold fieldF;rw[Y4 ⟨by lia,by lia,by lia,by lia⟩,show((X:Int)-2^(m'+1)+2^(m'+1)).toNat=X by lia,show((Y:Int)-2^(m'+1)+2^(m'+1)).toNat=Y by lia,JQ dp b1 b2,b3,b4,b5,a3];have d1:X%2^m'=u:=by rw[<-Jb,b4,a4]
   have d2:Y%2^m'=v:=by rw[<-Jb,b5,a5]
   rw[d1,d2];exact hc
theorem RI{G r:Gv}(e0:G=G0++r)(ok:GOk G){n m f f':Nat}(hn:n<=47)(hm:m<=47)(lf:Aj G f ((n+1:Nat):Int))(lf':Aj G f' ((m+1:Nat):Int))(t:Jm G n f)(t':Jm G m f')(h:∀x y,fieldF G n f x y=fieldF G m f' x y):n=m/\f=f':=by
 have le:∀{n m f f':Nat},m<=47->Jm G m f'->(∀x y,fieldF G n f x y=fieldF G m f' x y)->m<=n:=by
  intro n m f f' hm t' h;refine R3 λz=>?_;obtain⟨k,rfl⟩:∃k,m=k+1:=⟨m-1,by lia⟩
  obtain⟨x,y,out,lv⟩:=Uy e0 ok A0 t';rw[<-h x y]at lv;unfold fieldF at lv;split at lv
  ·rename_i q;have:(2:Int)^n<=2^k:=by
    have:=S9 (show 0<2 by decide) (show n<=k by lia)
    exact_mod_cast this
   exact out ⟨by lia,by lia,by lia,by lia⟩
  ·exact lv rfl
 have e1:=le hm t' h;have e2:=le hn t λx y=>(h x y).symm;have e:n=m:=by lia
 subst e;refine⟨rfl,En ok lf lf' λx y hx hy=>?_⟩;have c1:=DF n;have c2:=DF (n+1);have s2:=Fo n;rw[s2]at c2;have:=h ((x:Int)-2^n) ((y:Int)-2^n);unfold fieldF at this;rw[Y4 ⟨by lia,by lia,by lia,by lia⟩,Y4 ⟨by lia,by lia,by lia,by lia⟩,show((x:Int)-2^n+2^n).toNat=x by lia,show((y:Int)-2^n+2^n).toNat=y by lia]at this;exact this
def Fix:HO->Prop
 |.tup _=>True
 |.ins _ _ _=>True
 |_=>False
def Fx(l:List Addr)(H H':Hp):Prop:=∀b o,H b=some o->(b∈l->Fix o)->H' b=some o
theorem Fx.refl(l:List Addr)(H:Hp):Fx l H H:=λ_ _ e _=>e
theorem Fx.trans{l:List Addr}{H1 H2 H3:Hp}(h:Fx l H1 H2)(h2:Fx l H2 H3):Fx l H1 H3:=λb o e n=>h2 b o (h b o e n) n
theorem Az.fx{l:List Addr}{H1 H2:Hp}(h:Az H1 H2):Fx l H1 H2:=λb o e _=>h b o e
theorem Fx.mono{l m:List Addr}{H1 H2:Hp}(h:Fx l H1 H2)(s:∀x∈l,x∈m):Fx m H1 H2:=λb o e n=>h b o e λz=>n (s b z)
theorem Fx.get{l:List Addr}{H1 H2:Hp}(h:Fx l H1 H2){b:Addr}{o:HO}(n:b∉l)(e:H1 b=some o):H2 b=some o:=h b o e λz=>absurd z n
theorem Fx.tup{l:List Addr}{H1 H2:Hp}(h:Fx l H1 H2){b:Addr}{xs:List V}(e:H1 b=some (.tup xs)):H2 b=some (.tup xs):=h b _ e λ_=>True.intro
theorem Qv{H:Hp}{x:Addr}{o o':HO}(e:H x=some o)(n:¬Fix o):Fx [x] H (upd H x o'):=λb u e2 f=>by
 by_cases z:b=x
 ·subst z;rw[e]at e2;cases e2;exact absurd (f (C5.mpr rfl)) n
 ·rw[Al z];exact e2
theorem Fr.fx{a:Ad}{g:GA}{G:Gv}{H H':Hp}(h:Fr g H H')(at':AG a H g G):Fx [g.lv,g.pt,g.nm] H H':=λb o e f=>by
 obtain⟨ts,h3,_⟩:=at'.pt;refine h b o e (λz=>?_) (λz=>?_) (λz=>?_)
 ·subst z;rw[at'.lv]at e;cases e;exact f A5
 ·subst z;rw[h3]at e;cases e;exact f A5
 ·subst z;rw[at'.nm]at e;cases e;exact f A5
theorem FrQ.fx{a:Ad}{g:GA}{G:Gv}{H H':Hp}(h:FrQ g H H')(fu:AD a H g G):Fx [g.am,g.bx] H H':=λb o e f=>by
 obtain⟨ks,h1,_⟩:=fu.am;obtain⟨ks',h2,_⟩:=fu.bx;refine h b o e (λz=>?_) (λz=>?_)
 ·subst z;rw[h1]at e;cases e;exact f A5
 ·subst z;rw[h2]at e;cases e;exact f A5
def BN(g:GA):List Addr:=[g.lv,g.pt,g.nm,g.br,g.am,g.bx]
theorem AD.fx{a:Ad}{g:GA}{G:Gv}{H H':Hp}{l:List Addr}(h:AD a H g G)(f:Fx l H H')(n:∀x∈BN g,x∉l):AD a H' g G:=by
 obtain⟨at',ok,g0,br,⟨ks,h1,h2⟩,⟨ks',h3,h4⟩,n1,n2,n3⟩:=h;obtain⟨p1,p2,⟨ts,p3,p4⟩,p5,p6⟩:=at';have m:∀x∈BN g,∀o,H x=some o->H' x=some o:=λx hx o e=>f.get (n x hx) e;refine⟨⟨f _ _ p1 λ_=>True.intro,m _ (by simp[BN]) _ p2,⟨ts,m _ (by simp[BN]) _ p3,PairedM.imp (λt q z=>f.tup z) p4⟩,m _ (by simp[BN]) _ p5,p6⟩,ok,g0,m _ (by simp[BN]) _ br,⟨ks,m _ (by simp[BN]) _ h1,h2⟩,⟨ks',m _ (by simp[BN]) _ h3,h4.keys,λi v e=>?_⟩,n1,n2,n3⟩;obtain⟨l,b,t,e1,e2,e3,e4⟩:=h4.val i v e;exact⟨l,b,t,e1,e2,e3,f.tup e4⟩
theorem Az.noneOf{H H':Hp}(s:Az H H'){x:Addr}(n:H' x=none):H x=none:=by
 cases e:H x with
 |none=>rfl
 |some o=>rw[s _ _ e]at n;cases n
structure Nw(H:Hp)(l:List Addr):Prop where
 nd:l.Nodup
 s:∀x∈l,∃o,H x=some o
theorem AD.nw{a:Ad}{H:Hp}{g:GA}{G:Gv}(h:AD a H g G):Nw H (BN g):=by
 obtain⟨⟨_,h2,⟨ts,h3,_⟩,h5,h6⟩,_,_,h7,⟨ks,h8,_⟩,⟨ks',h9,_⟩,n1,n2,n3⟩:=h;have t:∀{x y:Addr}{o o':HO},H x=some o->H y=some o'->o≠o'->x≠y:=λ{x y o o'} e e' n=>AS e e' n;refine⟨?_,λx hx=>?_⟩
 ·simp only[BN,O6,B9,J9,A0a,not_or,not_false_eq_true,U2,and_true];exact⟨⟨h6,t h2 h5 A4,Z4 n1,t h2 h8 A4,t h2 h9 A4⟩,⟨t h3 h5 A4,Z4 n2,t h3 h8 A4,t h3 h9 A4⟩,⟨t h5 h7 A4,t h5 h8 A4,t h5 h9 A4⟩,⟨t h7 h8 A4,t h7 h9 A4⟩,n3⟩
 ·simp only[BN,B9,J9,A0a]at hx;rcases hx with rfl|rfl|rfl|rfl|rfl|rfl
  ·exact⟨_,h2⟩
  ·exact⟨_,h3⟩
  ·exact⟨_,h5⟩
  ·exact⟨_,h7⟩
  ·exact⟨_,h8⟩
  ·exact⟨_,h9⟩
theorem CP{H:Hp}{x y:Addr}{o:HO}(h:upd H x o y=none):H y=none:=by
 by_cases e:y=x
 ·subst e;rw[upd_same]at h;cases h
 ·rw[Al e]at h;exact h
theorem QK.none{a:Ad}{H H':Hp}{x dx:Addr}{o o':HO}{g:GA}{G:Gv}{B:List Int}{am:List (Key×V)}(N:QK a (upd (upd H dx o) x o') H' g G B am):∀y∈BN g,H y=none:=λy hy=>by
 obtain⟨f1,f2,f3,f4,f5,f6⟩:=N.fresh;simp only[BN,B9,J9,A0a]at hy;rcases hy with rfl|rfl|rfl|rfl|rfl|rfl
 ·exact CP (CP f1)
 ·exact CP (CP f2)
 ·exact CP (CP f3)
 ·exact CP (CP f4)
 ·exact CP (CP f5)
 ·exact CP (CP f6)
theorem ev_test{c:TT}{σ:St}{H:Hp}{Q:Bool->Hp->Prop}(b:Bool)(h:∀Q':Bool->Hp->Prop,Q' b H->c σ H Q')(q:Q b H):c σ H Q:=h Q q
theorem ev_val{t:TE}{σ:St}{H:Hp}{Q:VK}(P:V->Hp->Prop)(h:∀Q':VK,(∀v H',P v H'->Q' v H')->t σ H Q')(q:∀v H',P v H'->Q v H'):t σ H Q:=h Q q
theorem idx{n:Nat}(h:0<n)(v:Int):∃j:Nat,v%(n:Int)=(j:Int)/\j<n:=by
 have h1:=T7 v (show(n:Int)≠0 by lia);have h2:=R8 v (show(0:Int)<(n:Int) by lia);obtain⟨j,e⟩:=P7 h1;exact⟨j,e,by lia⟩
theorem meetH{T:St->Hp->Prop}{C:Prop}(P:St->Hp->Prop)(h:(∀σ H,P σ H->T σ H)->C)(k:∀σ H,P σ H->T σ H):C:=h k
theorem Sol.uniq{G:Gv}(ok:GOk G){s:Nat}:∀{l n m:Nat},Sol G s l n->Sol G s l m->n=m
 |0,n,m,h,h2=>by
  have h:n=s:=h;have h2:m=s:=h2;rw[h,h2]
 |l+1,n,m,h,h2=>by
  obtain⟨a,h1,e1⟩:=h;obtain⟨b,h3,e3⟩:=h2;have:=Sol.uniq ok h1 h3;subst this;exact ok.one e1 e3 rfl
structure EL(G:Gv)(n i o:Nat)(l t r b:Int)(m:Nat):Prop where
 lev:Aj G m (n:Int)
 cell:∀x y:Nat,x<2^n->y<2^n->cellF G n m x y=if(l<=x/\(x:Int)<r)/\(t<=y/\(y:Int)<b)then cellF G n i x y else cellF G n o x y
theorem EL.app{G G':Gv}{k n i o m:Nat}{l t r b:Int}(ok:GOk G)(go:AM G G' k)(hi:Aj G i (n:Int))(ho:Aj G o (n:Int))(h:EL G n i o l t r b m):EL G' n i o l t r b m:=⟨go.lev h.lev,λx y hx hy=>by rw[GG ok go h.lev hx hy,GG ok go hi hx hy,GG ok go ho hx hy];exact h.cell x y hx hy⟩
def spl(s e h:Int):Nat->Int×Int
 |0=>(s,if h<e then h else e)
 |_=>(if s-h<0 then 0 else s-h,e-h)
theorem LE{s e:Int}{n x u:Nat}(hx:x<2^(n+1))(hu:x/2^n=u):((spl s e (2^n) u).1<=((x%2^n:Nat):Int)/\((x%2^n:Nat):Int)<(spl s e (2^n) u).2)↔(s<=x/\(x:Int)<e):=by
 have p:(0:Int)<2^n:=Ec n;have e1:(2:Int)^n=((2^n:Nat):Int):=by exact_mod_cast rfl
 have dm:=M8 x (2^n);have lt:=F4 x (AY n);have hu2:=CC hx;rw[hu]at dm hu2;rw[e1]at p⊢;generalize 2^n=h at *
 match u,hu2 with
 |0,_ =>
  have ex:x%h=x:=by rw[Nat.mul_zero,O1]at dm;exact dm
  show(s<=((x%h:Nat):Int)/\((x%h:Nat):Int)<if(h:Int)<e then(h:Int)else e)↔_;rw[ex];split<;>lia
 |1,_ =>
  have ex:x=h+x%h:=by rw[Nat.mul_one]at dm;exact dm.symm
  show((if s-(h:Int)<0 then(0:Int)else s-h)<=((x%h:Nat):Int)/\((x%h:Nat):Int)<e-h)↔_;split<;>lia
theorem EL.join{G:Gv}{n i o m:Nat}{l t r b:Int}{qi qo:Sq}{i0 i1 i2 i3 o0 o1 o2 o3:Nat}{ms:Nat->Nat}(ni:BP G n i qi i0 i1 i2 i3)(no:BP G n o qo o0 o1 o2 o3)
  (h:∀k,k<4->EL G n (f4 i0 i1 i2 i3 k) (f4 o0 o1 o2 o3 k) (spl l r (2^n) (k%2)).1 (spl t b (2^n) (k/2)).1 (spl l r (2^n) (k%2)).2 (spl t b (2^n) (k/2)).2 (ms k))
  (em:G[m]?=some ⟨[(ms 0:Int),(ms 1:Int),(ms 2:Int),(ms 3:Int)],(n:Int)+1⟩):EL G (n+1) i o l t r b m:=by
 have nm:BP G n m _ (ms 0) (ms 1) (ms 2) (ms 3):=⟨em,rfl,rfl,(h 0 A3).lev,(h 1 A3).lev,(h 2 A3).lev,(h 3 A3).lev⟩
 refine⟨⟨_,em,by show(n:Int)+1=_;lia⟩,λx y hx hy=>?_⟩;have ux:=CC hx;have uy:=CC hy;have q4:quad n x y<4:=by unfold quad;lia
 have c:=(h _ q4).cell (x%2^n) (y%2^n) (F4 _ (AY n)) (F4 _ (AY n));have f:f4 (ms 0) (ms 1) (ms 2) (ms 3) (quad n x y)=ms (quad n x y):=by
  match quad n x y,q4 with
  |0,_=>rfl
  |1,_=>rfl
  |2,_=>rfl
  |3,_=>rfl
 have e1:quad n x y%2=x/2^n:=by unfold quad;lia
 have e2:quad n x y/2=y/2^n:=by unfold quad;lia
 rw[AJ nm hx hy,f,c,AJ ni hx hy,AJ no hx hy,e1,e2];have i1:=LE (s:=l) (e:=r) hx rfl;have i2:=LE (s:=t) (e:=b) hy rfl;by_cases z:(l<=(x:Int)/\(x:Int)<r)/\(t<=(y:Int)/\(y:Int)<b)
 ·rw[Y4 z,Y4 ⟨i1.mpr z.1,i2.mpr z.2⟩]
 ·rw[Y0 z,Y0 λq=>z ⟨i1.mp q.1,i2.mp q.2⟩]
def GZ(A B:Int)(n:Nat)(s e:Int):Prop:=(s=0\/s=A%2^n)/\(e=2^n\/e=B%2^n)
theorem GZ.spl{A B:Int}{n u:Nat}{s e:Int}(h:GZ A B (n+1) s e)(ne:(spl s e (2^n) u).1<(spl s e (2^n) u).2):GZ A B n (spl s e (2^n) u).1 (spl s e (2^n) u).2:=by
 have p:(0:Int)<2^n:=Ec n;have e2:(2:Int)^(n+1)=2^n+2^n:=by rw[V1];lia
 have md:∀C:Int,C%2^n=if C%2^(n+1)<2^n then C%2^(n+1)else C%2^(n+1)-2^n:=λC=>by
  have h0:=T7 C (show(2:Int)^(n+1)≠0 by lia);have h1:=R8 C (show(0:Int)<2^(n+1) by lia);have h2:C%2^n=(C%2^(n+1))%2^n:=(Int.emod_emod_of_dvd C ⟨2,by rw[e2];lia⟩).symm;rw[h2];split
  ·rename_i z;exact U5 h0 z
  ·rename_i z;rw[<-Int.sub_emod_right,U5 A0 A0]
 have a1:=md A;have b1:=md B;have a2:=T7 A (show(2:Int)^(n+1)≠0 by lia);have b2:=T7 B (show(2:Int)^(n+1)≠0 by lia);have a3:=R8 A (show(0:Int)<2^(n+1) by lia);have b3:=R8 B (show(0:Int)<2^(n+1) by lia);obtain⟨h1,h2⟩:=h;unfold GZ;rw[a1,b1];rw[e2]at h1 h2 a2 b2 a3 b3⊢;clear a1 b1 md e2;generalize (2:Int)^n=H at *
 generalize A%(H+H)=a at *
 generalize B%(H+H)=c at *
 unfold J.spl at ne⊢;split at ne
 ·dsimp only at ne⊢;split at ne<;>rcases h1 with h1|h1<;>rcases h2 with h2|h2<;>subst h1 h2<;>(constructor<;>split<;>lia)
 ·dsimp only at ne⊢;split at ne<;>rcases h1 with h1|h1<;>rcases h2 with h2|h2<;>subst h1 h2<;>(constructor<;>split<;>lia)
theorem GZ.top{A B:Int}{n:Nat}(h0:0<=A)(h1:A<B)(h2:B<=2^n):GZ A B n A B:=by
 refine⟨.inr (U5 h0 A0).symm,?_⟩;by_cases e:B=2^n
 ·exact .inl e
 ·exact .inr (U5 A0 A0).symm
def Clo(G:Gv)(S:List Nat):Prop:=∀o∈S,o<8\/∃(n:Nat)(q:Sq)(a b c d:Nat),BP G n o q a b c d/\a∈S/\b∈S/\c∈S/\d∈S
theorem Clo.app{G G':Gv}{k:Nat}{S:List Nat}(go:AM G G' k)(h:Clo G S):Clo G' S:=λo ho=>by
 rcases h o ho with z|⟨n,q,a,b,c,d,nd,m⟩
 ·exact .inl z
 ·exact .inr ⟨n,q,a,b,c,d,nd.app go,m⟩
theorem cast4'{x y z w a b c d:Nat}(e:[(x:Int),(y:Int),(z:Int),(w:Int)]=[(a:Int),(b:Int),(c:Int),(d:Int)]):x=a/\y=b/\z=c/\w=d:=by
 injection e with e1 e
 injection e with e2 e
 injection e with e3 e
 injection e with e4 e
 exact⟨Y7 e1,Y7 e2,Y7 e3,Y7 e4⟩
theorem Clo.get{G:Gv}(ok:GOk G){S:List Nat}(h:Clo G S){n o a b c d:Nat}{q:Sq}(ho:o∈S)(nd:BP G n o q a b c d):a∈S/\b∈S/\c∈S/\d∈S:=by
 rcases h o ho with z|⟨n',q',a',b',c',d',nd',m⟩
 ·have:=nd.g;rw[ok.leaf o z]at this;cases this;have:=nd.lev;have:(0:Int)=(n:Int)+1:=this;lia
 ·have e:q=q':=Y5 (nd.g.symm.trans nd'.g);subst e;obtain⟨rfl,rfl,rfl,rfl⟩:=cast4' (nd.ps.symm.trans nd'.ps);exact m
abbrev shM:List Bool:=[false,false,true]
def kMx(i o:Nat)(l t r b:Int):NK:=[.inl (i:Int),.inl (o:Int),.inr [l,t,r,b]]
theorem OY{i o i' o':Nat}{l t r b l' t' r' b':Int}(e:kMx i o l t r b=kMx i' o' l' t' r' b'):i=i'/\o=o'/\l=l'/\t=t'/\r=r'/\b=b':=by
 unfold kMx at e;injection e with e1 e
 injection e with e2 e
 injection e with e3 e
 injection e1 with e1
 injection e2 with e2
 injection e3 with e3
 injection e3 with f1 e3
 injection e3 with f2 e3
 injection e3 with f3 e3
 injection e3 with f4 e3
 exact⟨Y7 e1,Y7 e2,f1,f2,f3,f4⟩
structure Mc where
 s:Nat
 S:List Nat
 A:Int
 R:Int
 T:Int
 B:Int
 ro:Bool
def Ej(c:Mc)(i o:Nat):Nat:=if c.ro=true then i else o
def Ts(c:Mc)(i o:Nat):Nat:=if c.ro=true then o else i
structure Pd(G:Gv)(c:Mc)(n i o:Nat):Prop where
 li:Aj G i (n:Int)
 lo:Aj G o (n:Int)
 so:Sol G c.s n (Ts c i o)
 mo:Ej c i o∈c.S
theorem Pd.go{G G':Gv}{k:Nat}{c:Mc}{n i o:Nat}(h:Pd G c n i o)(go:AM G G' k):Pd G' c n i o:=⟨go.lev h.li,go.lev h.lo,Sol.goes go h.so,h.mo⟩
theorem Pd.lm{G:Gv}{c:Mc}{n i o:Nat}(h:Pd G c n i o):Aj G (Ej c i o) (n:Int):=by
 unfold Ej;split
 ·exact h.li
 ·exact h.lo
theorem f4_in{a b c d k:Nat}{S:List Nat}(hk:k<4)(h:a∈S/\b∈S/\c∈S/\d∈S):f4 a b c d k∈S:=by
 match k,hk with
 |0,_=>exact h.1
 |1,_=>exact h.2.1
 |2,_=>exact h.2.2.1
 |3,_=>exact h.2.2.2
theorem Sol.part{G:Gv}{s n i a b c d:Nat}{q:Sq}(h:Sol G s (n+1) i)(nd:BP G n i q a b c d){k:Nat}(hk:k<4):Sol G s n (f4 a b c d k):=by
 obtain⟨m,h1,e⟩:=h;have eq:q=_:=Y5 (nd.g.symm.trans e);have ps:=nd.ps;rw[eq]at ps;obtain⟨rfl,rfl,rfl,rfl⟩:=cast4' ps
 match k,hk with
 |0,_=>exact h1
 |1,_=>exact h1
 |2,_=>exact h1
 |3,_=>exact h1
theorem Pd.part{G:Gv}(ok:GOk G){c:Mc}(clo:Clo G c.S){n i o:Nat}(h:Pd G c (n+1) i o){qi qo:Sq}{i0 i1 i2 i3 o0 o1 o2 o3:Nat}(ni:BP G n i qi i0 i1 i2 i3)(no:BP G n o qo o0 o1 o2 o3){k:Nat}(hk:k<4):Pd G c n (f4 i0 i1 i2 i3 k) (f4 o0 o1 o2 o3 k):=by
 refine⟨(ni.nat hk).2,(no.nat hk).2,?_,?_⟩
 ·have:=h.so;unfold Ts at this⊢;by_cases z:c.ro=true
  ·rw[Y4 z]at this⊢;exact Sol.part this no hk
  ·rw[Y0 z]at this⊢;exact Sol.part this ni hk
 ·have:=h.mo;unfold Ej at this⊢;by_cases z:c.ro=true
  ·rw[Y4 z]at this⊢;exact f4_in hk (clo.get ok this ni)
  ·rw[Y0 z]at this⊢;exact f4_in hk (clo.get ok this no)
structure Ent(G:Gv)(c:Mc)(p:NK×V)(n i o:Nat)(l t r b:Int)(m:Nat):Prop where
 e:p=(kMx i o l t r b,.int m)
 pd:Pd G c n i o
 mx:EL G n i o l t r b m
 sx:GZ c.A c.R n l r
 sy:GZ c.T c.B n t b
structure KOk(G:Gv)(c:Mc)(kvs:List (NK×V)):Prop where
 nd:(kvs.map (·.1)).Nodup
 val:∀p∈kvs,∃n i o l t r b m,Ent G c p n i o l t r b m
theorem kok0(G:Gv)(c:Mc):KOk G c []:=⟨U2,λp hp=>by simp at hp⟩
theorem Ent.go{G G':Gv}{k:Nat}{c:Mc}{p:NK×V}{n i o:Nat}{l t r b:Int}{m:Nat}(ok:GOk G)(s8:c.s<8)(go:AM G G' k)(h:Ent G c p n i o l t r b m):Ent G' c p n i o l t r b m:=⟨h.e,h.pd.go go,h.mx.app ok go h.pd.li h.pd.lo,h.sx,h.sy⟩
theorem KOk.go{G G':Gv}{k:Nat}{c:Mc}{kvs:List (NK×V)}(ok:GOk G)(s8:c.s<8)(go:AM G G' k)(h:KOk G c kvs):KOk G' c kvs:=⟨h.nd,λp hp=>by
 obtain⟨n,i,o,l,t,r,b,m,e⟩:=h.val p hp;exact⟨n,i,o,l,t,r,b,m,e.go ok s8 go⟩⟩
theorem Uu{kvs:List (NK×V)}{k:NK}{v:V}(h:Bw kvs k=some v):(k,v)∈kvs:=by
 induction kvs with
 |nil=>cases h
 |cons p r ih =>
  by_cases e:p.1=k
  ·rw[Bu e]at h;cases h;rw[<-e];exact C2
  ·rw[Bf e]at h;exact B3 _ (ih h)
theorem KOk.put{G:Gv}{c:Mc}{kvs:List (NK×V)}{n i o:Nat}{l t r b:Int}{m:Nat}(h:KOk G c kvs)(en:Ent G c (kMx i o l t r b,.int m) n i o l t r b m)(no:Bw kvs (kMx i o l t r b)=none):KOk G c (Cc kvs (kMx i o l t r b) (.int m))/\(Cc kvs (kMx i o l t r b) (.int m)).length=kvs.length+1:=by
 have nd:=nd_putK (.int m) h.nd no;rw[IR _ no]at nd⊢;refine⟨⟨nd,λp hp=>?_⟩,by rw[B4];rfl⟩;rcases C8.mp hp with z|z
 ·exact h.val p z
 ·rw[C5]at z;subst z;exact⟨n,i,o,l,t,r,b,m,en⟩
def lvN(G:Gv)(o:Nat):Nat:=match G[o]? with
 |some q=>q.lev.toNat
 |none=>0
theorem lvN_eq{G:Gv}{o n:Nat}(h:Aj G o (n:Int)):lvN G o=n:=by
 obtain⟨q,e,el⟩:=h;unfold lvN;rw[e];show q.lev.toNat=n;rw[el,F1]
def b01(c:Prop)[Decidable c]:Nat:=if c then 0 else 1
theorem DY(c:Prop)[Decidable c]:b01 c<2:=by unfold b01;split<;>decide
theorem LS{c d:Prop}[Decidable c][Decidable d](h:b01 c=b01 d):c↔d:=by
 unfold b01 at h;split at h<;>split at h<;>simp_all
def code(G:Gv)(c:Mc)(k:NK):Nat:=match k with
 |[.inl i,.inl o,.inr [l,t,r,b]]=>c.S.idxOf (Ej c i.toNat o.toNat)*16+(b01 (l=0)+2*b01 (r=2^lvN G (Ej c i.toNat o.toNat))+4*b01 (t=0)+8*b01 (b=2^lvN G (Ej c i.toNat o.toNat)))
 |_=>0
theorem MV(G:Gv)(c:Mc)(i o:Nat)(l t r b:Int):code G c (kMx i o l t r b)=c.S.idxOf (Ej c i o)*16+(b01 (l=0)+2*b01 (r=2^lvN G (Ej c i o))+4*b01 (t=0)+8*b01 (b=2^lvN G (Ej c i o))):=rfl
theorem KOk.len{G:Gv}(ok:GOk G){c:Mc}{kvs:List (NK×V)}(h:KOk G c kvs):kvs.length<=16*c.S.length:=by
 have:=GR (16*c.S.length) ((kvs.map (·.1)).map (code G c)) (by
  rw[D7,L7];refine A1g (λ{x y} hx hy hne z=>hne ?_) (D7.mp h.nd);obtain⟨p,hp,rfl⟩:=D4.mp hx;obtain⟨p',hp',rfl⟩:=D4.mp hy;obtain⟨n,i,o,l,t,r,b,m,e⟩:=h.val p hp;obtain⟨n',i',o',l',t',r',b',m',e'⟩:=h.val p' hp';have e1:=e.e;have e2:=e'.e;subst e1 e2;dsimp only at z⊢;rw[MV,MV]at z;have q1:=DY (l=0);have q2:=DY (r=2^lvN G (Ej c i o));have q3:=DY (t=0);have q4:=DY (b=2^lvN G (Ej c i o));have q1':=DY (l'=0);have q2':=DY (r'=2^lvN G (Ej c i' o'));have q3':=DY (t'=0);have q4':=DY (b'=2^lvN G (Ej c i' o'));have io:c.S.idxOf (Ej c i o)=c.S.idxOf (Ej c i' o'):=by lia
  have eo:Ej c i o=Ej c i' o':=by
   have a1:=List.getElem_idxOf (O3 e.pd.mo);have a2:=List.getElem_idxOf (O3 e'.pd.mo);have:c.S[c.S.idxOf (Ej c i o)]?=c.S[c.S.idxOf (Ej c i' o')]?:=by rw[io]
   rw[C0 (O3 e.pd.mo),C0 (O3 e'.pd.mo),a1,a2]at this;exact Y5 this
  have en:n=n':=by
   have h1:=e.pd.lm;rw[eo]at h1;exact Y7 (h1.uniq e'.pd.lm)
  subst en;have ei:Ts c i o=Ts c i' o':=Sol.uniq ok e.pd.so e'.pd.so;obtain⟨rfl,rfl⟩:i=i'/\o=o':=by
   unfold Ej at eo;unfold Ts at ei;by_cases z:c.ro=true
   ·rw[Y4 z,Y4 z]at eo ei;exact⟨eo,ei⟩
   ·rw[Y0 z,Y0 z]at eo ei;exact⟨ei,eo⟩
  clear eo ei io;rw[lvN_eq e.pd.lm]at *
  have z1:=LS (show b01 (l=0)=b01 (l'=0) by lia);have z2:=LS (show b01 (r=2^n)=b01 (r'=2^n) by lia);have z3:=LS (show b01 (t=0)=b01 (t'=0) by lia);have z4:=LS (show b01 (b=2^n)=b01 (b'=2^n) by lia);have same:∀{x x' u v:Int},(x=u\/x=v)->(x'=u\/x'=v)->(x=u↔x'=u)->x=x':=λ{x x' u v} a1 a2 a3=>by
   rcases a1 with a1|a1
   ·rw[a1,a3.mp a1]
   ·rcases a2 with a2|a2
    ·rw[a2,a3.mpr a2]
    ·rw[a1,a2]
  rw[same e.sx.1 e'.sx.1 z1,same e.sx.2 e'.sx.2 z2,same e.sy.1 e'.sy.1 z3,same e.sy.2 e'.sy.2 z4]) (λx hx=>by
  obtain⟨y,hy,rfl⟩:=D4.mp hx;obtain⟨p,hp,rfl⟩:=D4.mp hy;obtain⟨n,i,o,l,t,r,b,m,e⟩:=h.val p hp;have e1:=e.e;subst e1;dsimp only;rw[MV];have:=O3 e.pd.mo;have q1:=DY (l=0);have q2:=DY (r=2^lvN G (Ej c i o));have q3:=DY (t=0);have q4:=DY (b=2^lvN G (Ej c i o));lia)
 rw[B0,B0]at this;exact this
def Un(G:Gv)(N:Nat)(kvs kvs':List (NK×V)):Prop:=∀(i o:Nat)(l t r b:Int)(N':Nat),Aj G o (N':Int)->N<N'->Bw kvs (kMx i o l t r b)=none->Bw kvs' (kMx i o l t r b)=none
theorem Un.refl(G:Gv)(N:Nat)(kvs:List (NK×V)):Un G N kvs kvs:=λ_ _ _ _ _ _ _ _ _ h=>h
theorem Un.trans{G G':Gv}{k N:Nat}{a b c:List (NK×V)}(go:AM G G' k)(h:Un G N a b)(h2:Un G' N b c):Un G N a c:=λi o l t r b' N' h1 hl z=>h2 i o l t r b' N' (go.lev h1) hl (h i o l t r b' N' h1 hl z)
seal L2.PA L2.PE L2.PS L2.PSs L2.PT L2.PW
theorem Fx.fresh{l:List Addr}{H H1 H2:Hp}{x:Addr}(s:Az H H1)(f:Fx (x::l) H1 H2)(n:H x=none):Fx l H H2:=λb o e z=>f b o (s _ _ e) λm=>by
 rcases B9.mp m with rfl|m
 ·rw[n]at e;cases e
 ·exact z m
theorem Bm.fx{P:Program}{w:World}{sh:List Bool}{H H':Hp}{a:Addr}{kvs:List (NK×V)}{l:List Addr}(f:Fx l H H')(n:a∉l)(h:Bm P w sh H a kvs):Bm P w sh H' a kvs:=h.keep (λb ys e=>f.tup e) (λo e=>f.get n e)
theorem Bm.same{P:Program}{w:World}{sh:List Bool}{H H':Hp}{a:Addr}{kvs:List (NK×V)}(s:Az H H')(h:Bm P w sh H a kvs):Bm P w sh H' a kvs:=h.keep (λb ys e=>s _ _ e) (λo e=>s _ _ e)
def frM(g:GA)(kn:Addr):List Addr:=[g.lv,g.pt,g.nm,kn]
section
variable{P:Program}{w:World}{K:PySem.W.Frag}{mg:Str->Option Value}{base:Heap}{a:Ad}
inductive SU(vs:List V)(H:Hp)(Q:VK):Prop
 |mk (s e h:Int) (_:vs=[.int s,.int e,.int h]) (_:∀(c0 c1 cc:Addr)(H':Hp),Az H H'->H' cc=some (.tup [.ref c0,.ref c1])->H' c0=some (.tup [.int (spl s e h 0).1,.int (spl s e h 0).2])->H' c1=some (.tup [.int (spl s e h 1).1,.int (spl s e h 1).2])->Q (.ref cc) H'):SU vs H Q
def LF:Sp:=λvs H Q _=>SU vs H Q
theorem Vu{f:Addr}{fd:FuncData}(F:Fun K "split_stretch" "split_stretch" DL f fd)(T:Top K mg a):AI P w K mg base CX0 1 f fd CO LF:=by
 refine F.ok Jo (λvs H Q E h=>?_) (λcdv A outer s H vs Q E hr h=>?_)
 ·obtain⟨s',e,h',rfl,_⟩:=h;rfl
 ·obtain⟨st,en,hf,rfl,k⟩:=h;refine⟨_,(Ae (At (Cn (BJ (Aa (pv 0) (Aa (AA (Fq rfl) rfl T.b_min X1 (Aa (pv 1) (Aa (pv 2) Ac))) Ac)) (BJ (Aa (AA (GV rfl) rfl T.b_max K5 (Bv Cd (pv 0) (pv 2) (Bh Ac))) (Bv Cd (pv 1) (pv 2) Ac)) Ac))))),?_⟩
  try dsimp only[cxK]
  refine xw3 rfl rfl rfl ⟨_,_,rfl,(by show 2<=sizeLine;decide),λc0 h0=>?_⟩;have s1:=Ak (o:=.tup [.int st,.int (if hf<en then hf else en)]) h0;have e1:upd H c0 (.tup [.int st,.int (if hf<en then hf else en)]) c0=some (.tup [.int (spl st en hf 0).1,.int (spl st en hf 0).2]):=upd_same;show ∃_,_;generalize upd H c0 (.tup [.int st,.int (if hf<en then hf else en)])=H1 at s1 e1⊢;refine xw2 rfl rfl (xq2 rfl rfl ⟨_,_,rfl,(xw2 rfl rfl (xq2 rfl rfl ⟨(by show 2<=sizeLine;decide),λc1 h1=>⟨(by show 2<=sizeLine;decide),λcc hcc=>?_⟩⟩))⟩);have s2:=Ak (o:=.tup [.int (if 0 > st-hf then 0 else st-hf),.int (en-hf)]) h1;have s3:=Ak (o:=.tup [.ref c0,.ref c1]) hcc;exact k c0 c1 cc _ (s1.trans (s2.trans s3)) upd_same (s3 _ _ (s2 _ _ e1)) (s3 _ _ upd_same)
inductive SpMQ(a:Ad)(P:Program)(w:World)(n:Nat)(vs:List V)(H:Hp)(Q:VK):Prop
 |mk (g:GA) (G:Gv) (c:Mc) (kn tk tp:Addr) (kvs:List (NK×V)) (i o N:Nat) (l t r b:Int) (_:vs=[.ref g.p,.ref tk,.int (2^N),.ref kn]) (_:AD a H g G) (_:Bm P w shM H kn kvs) (_:kn∉BN g) (_:H tk=some (.tup [.int i,.int o,.ref tp])) (_:H tp=some (.tup [.int l,.int t,.int r,.int b])) (_:KOk G c kvs) (_:Clo G c.S) (_:c.s<8) (_:Pd G c (N+1) i o) (_:N<n) (_:N<=47) (_:(0<=l/\0<=t/\r<=2^(N+1)/\b<=2^(N+1))) (_:GZ c.A c.R (N+1) l r) (_:GZ c.T c.B (N+1) t b) (_:(G.length+16*c.S.length<8000000+kvs.length/\16*c.S.length<4000000)) (_:∀(m:Nat)(G':Gv)(kvs':List (NK×V))(H':Hp),Fx (frM g kn) H H'->AD a H' g G'->Bm P w shM H' kn kvs'->KOk G' c kvs'->kvs.length<=kvs'.length->AM G G' (kvs'.length-kvs.length+1)->Un G N kvs kvs'->EL G' (N+1) i o l t r b m->Q (.int m) H'):SpMQ a P w n vs H Q
def spMQ(a:Ad)(P:Program)(w:World)(n:Nat):Sp:=λvs H Q _=>SpMQ a P w n vs H Q
inductive SpMxd(a:Ad)(P:Program)(w:World)(n:Nat)(vs:List V)(H:Hp)(Q:VK):Prop
 |mk (g:GA) (G:Gv) (c:Mc) (kn tp:Addr) (kvs:List (NK×V)) (i o N:Nat) (l t r b:Int) (_:vs=[.ref g.p,.int i,.int o,.ref tp,.ref kn]) (_:AD a H g G) (_:Bm P w shM H kn kvs) (_:kn∉BN g) (_:H tp=some (.tup [.int l,.int t,.int r,.int b])) (_:KOk G c kvs) (_:Clo G c.S) (_:c.s<8) (_:Pd G c N i o) (_:N<n) (_:N<=48) (_:(0<=l/\0<=t/\r<=2^N/\b<=2^N)) (_:(l<r->GZ c.A c.R N l r)) (_:(t<b->GZ c.T c.B N t b)) (_:(G.length+16*c.S.length<8000000+kvs.length/\16*c.S.length<4000000)) (_:∀(m:Nat)(G':Gv)(kvs':List (NK×V))(H':Hp),Fx (frM g kn) H H'->AD a H' g G'->Bm P w shM H' kn kvs'->KOk G' c kvs'->kvs.length<=kvs'.length->AM G G' (kvs'.length-kvs.length)->Un G N kvs kvs'->EL G' N i o l t r b m->Q (.int m) H'):SpMxd a P w n vs H Q
def Px(a:Ad)(P:Program)(w:World)(n:Nat):Sp:=λvs H Q _=>SpMxd a P w n vs H Q
theorem ok_mixS{n d:Nat}{f:Addr}{fd:FuncData}(F:Fun K "mixed" "mixed" LI f fd)(T:Top K mg a)(bX:Cal P w K mg base CX0 d "mixed_quarters" Cw (spMQ a P w n)):AI P w K mg base CX0 (d+1) f fd GP (Px a P w (n+1)):=by
 refine F.ok Fl (λvs H Q E h=>?_) (λcdv A outer s H vs Q E hr h=>?_)
 ·obtain⟨g,G,c,kn,tp,kvs,i,o,N,l,t,r,b,rfl,_⟩:=h;rfl
 ·obtain⟨g,G,c,kn,tp,kvs,i,o,N,l,t,r,b,rfl,fu,na,nk,htp,kok,clo,s8,pd,Nn,N48,bd,sx,sy,few,k⟩:=h;refine⟨_,(Ab (AE (PW.pt (Fn (As op_ge (Am Av (pv 3) Af (λ_ _=>rfl)) (Am Av (pv 3) Af (λ_ _=>rfl)) (Au _)) (EZ (As op_ge (Am Av (pv 3) Af (λ_ _=>rfl)) (Am Av (pv 3) Af (λ_ _=>rfl)) (Au _))))) (Ae (At (pv 2))) Ax) (Ab (Ah (i:=5) Fl.nd rfl (Or.inl rfl) (Ay FP Af (Am AB (AO (pv 0) rfl) (pv 1) (λ_ _=>rfl)))) (Ab (AE (PW.pt (Fn (As Cp (pv 1) (pv 2) (Au _)) (EZ (As (Tu hr.units) (pv 3) (Cn (Bh (Bh (Aa (pv 5) (Aa (pv 5) Ac))))) (Au _))))) (Ae (At (pv 1))) Ax) (Ab (Ah (i:=6) Fl.nd rfl (Or.inl rfl) (Cn (Aa (pv 1) (Aa (pv 2) (Aa (pv 3) Ac))))) (Ab (Ah (i:=7) Fl.nd rfl (Or.inl rfl) (Vs (sh:=[false,false,true]) hr.units (pv 4) (pv 6) ⟨rfl,rfl,rfl,rfl⟩)) (Ab (AE (As MB (pv 7) Gp (Au _)) (Ab (Ah (i:=7) Fl.nd rfl (Or.inl rfl) (Aq bX (rm hr) rfl Ao (Aa (pv 0) (Aa (pv 6) (Bv FQ (pv 5) Af (Aa (pv 4) Ac)))))) (Ae (Vg (sh:=[false,false,true]) hr.units (pv 4) (pv 6) (pv 7) rfl))) Ax) (Ae (At (pv 7))))))))),?_⟩
  try dsimp only[cxK]
  have li:=pd.li;have lo:=pd.lo;have back:∀{m:Nat}{H':Hp},Az H H'->EL G N i o l t r b m->Q (.int m) H':=λ{m H'} s' mx=>k m G kvs H' (Az.fx s') (fu.same s') (Bm.same s' na) kok (B5 _) ((AM.refl fu.ok).mono A0) (Un.refl _ _ _) mx;refine ev_test (c:=tOr (Sb (tOp (rI0 λi j=>V.bl (decide (j<=i))) (tOp (PN K) (Pt 3) (tC (V.int 0))) (tOp (PN K) (Pt 3) (tC (V.int 2))))) (Sb (tOp (rI0 λi j=>V.bl (decide (j<=i))) (tOp (PN K) (Pt 3) (tC (V.int 1))) (tOp (PN K) (Pt 3) (tC (V.int 3)))))) (decide (r<=l) || decide (b<=t)) (λQ' q'=>?_) ?_
  ·refine xwi rfl rfl rfl (SqT.of htp) (Ag (j:=0) rfl) (xwi rfl rfl rfl (SqT.of htp) (Ag (j:=2) rfl) (xq2 rfl rfl (xq1 rfl ?_)));revert q';generalize decide (r<=l)=b1;cases b1
   ·intro q';exact AT (xwi rfl rfl rfl (SqT.of htp) (Ag (j:=1) rfl) (xwi rfl rfl rfl (SqT.of htp) (Ag (j:=3) rfl) (xq2 rfl rfl (xq1 rfl (q')))))
   ·intro q';exact BH q'
  refine Pa (λhc=>?_) (λhc=>?_)
  ·refine xq1 rfl (back (Az.refl H) ⟨lo,λx y _ _=>?_⟩);rw[Y0];rcases(Bool.or_eq_true _ _).mp hc with z|z
   ·have:=Z3 z;lia
   ·have:=Z3 z;lia
  have hl:l<r:=by
   refine Int.lt_of_not_ge λz=>hc ?_;rw[Y1 (show r<=l from z)];rfl
  have ht:t<b:=by
   refine Int.lt_of_not_ge λz=>hc ?_;rw[Y1 (show b<=t from z),Bool.or_true]
  clear hc;obtain⟨qi,ei,eli⟩:=id li;refine⟨_,rfl,g.p,_,g.dx,_,_,rfl,fu.at'.hp,T.cl_Grove,T.na_Grove_levels,DX g,_,rfl,g.lv,_,(i:Int),.int qi.lev,rfl,rfl,SqL.of fu.at'.lv,Ag (by rw[B6,ei];rfl),?_⟩;rw[eli];refine xq2 rfl rfl ⟨⟨by lia,by lia,by decide⟩,?_⟩;have e1:(1:Int)*2^((N:Int)).toNat=2^N:=by rw[Int.one_mul,F1]
  show(UC _ _) _ [some (.ref g.p),some (.int i),some (.int o),some (.ref tp),some (.ref kn),some (.int (1*2^((N:Int)).toNat)),none,none] H;rw[e1];refine xw2 rfl rfl ⟨rfl,(xq1 rfl (Pa (λhio=>?_) (λ_=>?_)))⟩
  ·have hio:=Z3 hio;injection hio with hio
   obtain rfl:i=o:=Y7 hio;exact BH (xq1 rfl (back (Az.refl H) ⟨li,λx y _ _=>by split<;>rfl⟩))
  refine xw3 rfl rfl rfl ⟨(by show 4<=sizeLine;decide),λt1 ht1=>?_⟩;have s1:=Ak (o:=.tup [.int 0,.int 0,.int (2^N),.int (2^N)]) ht1;have h1:upd H t1 (.tup [.int 0,.int 0,.int (2^N),.int (2^N)]) t1=some (.tup [.int 0,.int 0,.int (2^N),.int (2^N)]):=upd_same;show ∃_,_;generalize upd H t1 (.tup [.int 0,.int 0,.int (2^N),.int (2^N)])=H1 at s1 h1⊢;refine⟨tp,t1,[l,t,r,b],[0,0,2^N,2^N],rfl,rfl,SqT.of (s1 _ _ htp),SqT.of h1,(xq1 rfl (Pa (λhe=>?_) (λhe=>?_)))⟩
  ·have he:=Z3 he;injection he with z1 he
   injection he with z2 he
   injection he with z3 he
   injection he with z4 he
   refine xq1 rfl (back s1 ⟨li,λx y hx hy=>?_⟩);have px:(x:Int)<2^N:=by have:(x:Int)<((2^N:Nat):Int):=A0;rw[Int.natCast_pow]at this;exact this
   have py:(y:Int)<2^N:=by have:(y:Int)<((2^N:Nat):Int):=A0;rw[Int.natCast_pow]at this;exact this
   rw[Y4 (by subst z1 z2 z3 z4;exact⟨⟨by lia,px⟩,by lia,py⟩)]
  have N1:1<=N:=by
   refine Nat.one_le_iff_ne_zero.mpr λz=>he ?_;subst z;have b1:r<=1:=bd.2.2.1;have b2:b<=1:=bd.2.2.2;obtain⟨rfl,rfl,rfl,rfl⟩:l=0/\t=0/\r=1/\b=1:=by lia
   exact Y1 rfl
  obtain⟨M,rfl⟩:∃M,N=M+1:=⟨N-1,by lia⟩
  refine xw3 rfl rfl rfl ⟨(by show 3<=sizeLine;decide),λtk htk=>?_⟩;have s2:=Ak (o:=.tup [.int i,.int o,.ref tp]) htk;have h2:upd H1 tk (.tup [.int i,.int o,.ref tp]) tk=some (.tup [.int i,.int o,.ref tp]):=upd_same;show(UC _ _) _ _ (upd H1 tk (.tup [.int i,.int o,.ref tp]));generalize upd H1 tk (.tup [.int i,.int o,.ref tp])=H2 at s2 h2⊢;have s12:=s1.trans s2;have na2:=Bm.same s12 na;have fu2:=fu.same s12;have htp2:=s12 _ _ htp;have kat:∀{H':Hp},H' tk=some (.tup [.int i,.int o,.ref tp])->H' tp=some (.tup [.int l,.int t,.int r,.int b])->Fh H' tk (kMx i o l t r b):=λz1 z2=>⟨_,z1,.cons rfl (.cons rfl (.cons ⟨tp,rfl,z2⟩ .nil))⟩
  refine xq1 rfl ⟨kn,rfl,⟨kvs,na2⟩,(xq1 rfl ⟨tk,kMx i o l t r b,kvs,rfl,na2,kat h2 htp2,rfl,?_⟩)⟩;cases ev:Bw kvs (kMx i o l t r b)with
  |some v =>
   obtain⟨n',i',o',l',t',r',b',m,en⟩:=kok.val _ (Uu ev);have e2:=en.e;injection e2 with e2 e3
   obtain⟨rfl,rfl,rfl,rfl,rfl,rfl⟩:=OY e2;subst e3;have:n'=M+1:=Y7 (en.pd.lo.uniq lo);subst this;exact xq1 rfl ⟨rfl,(xq1 rfl (AT (xq1 rfl (back s12 en.mx))))⟩
  |none =>
   refine xq1 rfl ⟨rfl,(xq1 rfl (BH ?_))⟩;refine xw3 rfl rfl rfl (xq2 rfl rfl ⟨⟨by decide,by decide⟩,(xq1 rfl ?_)⟩);have e4:(2:Int)^(M+1)/2=2^M:=by rw[V1,Int.mul_ediv_cancel _ A3]
   refine⟨g,G,c,kn,tk,tp,kvs,i,o,M,l,t,r,b,by rw[<-e4];rfl,fu2,na2,nk,h2,htp2,kok,clo,s8,pd,by lia,by lia,bd,sx hl,sy ht,few,λm G' kvs' H3 x3 fu3 na3 kok3 le3 go3 un3 mx3=>?_⟩;have no3:Bw kvs' (kMx i o l t r b)=none:=un3 i o l t r b (M+1) lo A0 ev;have l3:=kok3.len fu3.ok;have g3:=go3.few;refine xw3 rfl rfl rfl ⟨kn,tk,kMx i o l t r b,kvs',rfl,rfl,na3,kat (x3.tup h2) (x3.tup htp2),rfl,BF A0,λH4 x4 na4=>?_⟩;obtain⟨kok4,len4⟩:=kok3.put ⟨rfl,pd.go go3,mx3,sx hl,sy ht⟩ no3;have x4':Fx (frM g kn) H3 H4:=λcc oo e z=>x4 cc oo e λy=>by
    subst y;obtain⟨xs,e9,_⟩:=na3.ex;rw[e9]at e;cases e;exact z (by simp[frM])
   have fu4:=fu3.fx (l:=[kn]) (λcc oo e z=>x4 cc oo e λy=>by
    subst y;obtain⟨xs,e9,_⟩:=na3.ex;rw[e9]at e;cases e;exact z A5) λy hy z=>nk (by rw[C5]at z;rw[<-z];exact hy)
   refine xq1 rfl (k m G' _ H4 (((Az.fx s12).trans x3).trans x4') fu4 na4 kok4 A0 (go3.mono A0) ?_ mx3);intro i' o' l' t' r' b' N' hN hlt z;rw[IF,Y0]
   ·exact un3 i' o' l' t' r' b' N' hN A0 z
   ·intro q;obtain⟨_,rfl,_⟩:=OY q;have:=Y7 (hN.uniq lo);lia
end
theorem BP.at4{G:Gv}{n i:Nat}{q:Sq}{a b c d:Nat}(h:BP G n i q a b c d){k:Nat}(hk:k<4):(q.parts.map V.int)[k]?=some (.int (f4 a b c d k:Nat)):=by
 rw[h.ps]
 match k,hk with
 |0,_=>rfl
 |1,_=>rfl
 |2,_=>rfl
 |3,_=>rfl
section
variable{P:Program}{w:World}{K:PySem.W.Frag}{mg:Str->Option Value}{base:Heap}{a:Ad}
theorem ok_mq{n d:Nat}(hd:2<=d){f:Addr}{fd:FuncData}(F:Fun K "mixed_quarters" "mixed_quarters" Cu f fd)(T:Top K mg a)(aD:Cal P w K mg base CX0 1 "split_stretch" CO LF)(a6:Dp P w K mg base CX0 2 a.c_Grove "linked" Bp (Gg a))(bS:Cal P w K mg base CX0 d "mixed" GP (Px a P w n)):AI P w K mg base CX0 (d+1) f fd Cw (spMQ a P w n):=by
 refine F.ok AC (λvs H Q E h=>?_) (λcdv A outer s H vs Q E hr h=>?_)
 ·obtain⟨g,G,c,kn,tk,tp,kvs,i,o,N,l,t,r,b,rfl,_⟩:=h;rfl
 ·obtain⟨g,G,c,kn,tk,tp,kvs,i,o,N,l,t,r,b,rfl,fu,na,nk,htk,htp,kok,clo,s8,pd,Nn,N47,bd,sx,sy,⟨few,few2⟩,k⟩:=h;refine⟨_,(Ab (Ah (i:=4) AC.nd rfl (Or.inl rfl) (Am AB (AO (pv 0) rfl) (Am Av (pv 1) Af (λ_ _=>rfl)) (λ_ _=>rfl))) (Ab (Ah (i:=5) AC.nd rfl (Or.inl rfl) (Am AB (AO (pv 0) rfl) (Am Av (pv 1) Af (λ_ _=>rfl)) (λ_ _=>rfl))) (Ab (Ah (i:=6) AC.nd rfl (Or.inl rfl) (Am Av (pv 1) Af (λ_ _=>rfl))) (Ab (Ah (i:=7) AC.nd rfl (Or.inl rfl) (Aq aD (rm hr) rfl Ao (Aa (Am Av (pv 6) Af (λ_ _=>rfl)) (Aa (Am Av (pv 6) Af (λ_ _=>rfl)) (Aa (pv 2) Ac))))) (Ab (Ah (i:=8) AC.nd rfl (Or.inl rfl) (Aq aD (rm hr) rfl Ao (Aa (Am Av (pv 6) Af (λ_ _=>rfl)) (Aa (Am Av (pv 6) Af (λ_ _=>rfl)) (Aa (pv 2) Ac))))) (Ab (Ah (i:=9) AC.nd rfl (Or.inl rfl) (Dj Ac)) (Ab (BT Z2 rfl (GM rfl T.b_range (Bh Ac)) (AF (i:=10) AC.nd rfl (Or.inl rfl)) (Ab (Ah (i:=11) AC.nd rfl (Or.inl rfl) (Am Av (pv 7) (Ay Ce (pv 10) Af) (λ_ _=>rfl))) (Ab (Ah (i:=12) AC.nd rfl (Or.inl rfl) (Am Av (pv 8) (Ay FQ (pv 10) Af) (λ_ _=>rfl))) (Ab (Ah (i:=13) AC.nd rfl (Or.inl rfl) (Cn (Aa (Am Av (pv 11) Af (λ_ _=>rfl)) (Aa (Am Av (pv 12) Af (λ_ _=>rfl)) (Aa (Am Av (pv 11) Af (λ_ _=>rfl)) (Aa (Am Av (pv 12) Af (λ_ _=>rfl)) Ac)))))) (Ae (Bj (CH Z1 Y9 Z0 Bl (pv 9) (Aa (Aq bS (rm hr) rfl Ao (Aa (pv 0) (Aa (Am Av (pv 4) (pv 10) (λ_ _=>rfl)) (Aa (Am Av (pv 5) (pv 10) (λ_ _=>rfl)) (Aa (pv 13) (Aa (pv 3) Ac)))))) Ac)))))))) (Ae (At (AK (pv 0) a6 (rm hr) Ao (Aa (Ca Ig rfl T.b_tuple PyProof.Rows.boot_tuple (Aa (pv 9) Ac)) Ac))))))))))),?_⟩
  try dsimp only[cxK]
  have li:=pd.li;have lo:=pd.lo;obtain⟨qi,i0,i1,i2,i3,ni⟩:=AL fu.ok li;obtain⟨qo,o0,o1,o2,o3,no⟩:=AL fu.ok lo;obtain⟨ts,h3,h4⟩:=fu.at'.pt;obtain⟨ti,eti,hti⟩:=PairedM.get h4 ni.g;have hti:H ti=some (.tup (qi.parts.map V.int)):=hti;obtain⟨to',eto,hto⟩:=PairedM.get h4 no.g;have hto:H to'=some (.tup (qo.parts.map V.int)):=hto;refine xwf rfl rfl fu.at'.hp T.cl_Grove T.na_Grove_parts (DV g) (xwi rfl rfl rfl (SqT.of htk) (Ag (j:=0) rfl) (xq4 rfl rfl (SqL.of h3) (Ag (by rw[B6,eti];rfl)) ?_));refine xwf rfl rfl fu.at'.hp T.cl_Grove T.na_Grove_parts (DV g) (xwi rfl rfl rfl (SqT.of htk) (Ag (j:=1) rfl) (xq4 rfl rfl (SqL.of h3) (Ag (by rw[B6,eto];rfl)) ?_));refine xwi rfl rfl rfl (SqT.of htk) (Ag (j:=2) rfl) ?_;refine xwi rfl rfl rfl (SqT.of htp) (Ag (j:=0) rfl) (xwi rfl rfl rfl (SqT.of htp) (Ag (j:=2) rfl) (xq1 rfl ⟨l,r,2^N,rfl,λc0 c1 cc H1 s1 hcc hc0 hc1=>?_⟩));have htp1:=s1 _ _ htp;refine xwi rfl rfl rfl (SqT.of htp1) (Ag (j:=1) rfl) (xwi rfl rfl rfl (SqT.of htp1) (Ag (j:=3) rfl) (xq1 rfl ⟨t,b,2^N,rfl,λr0 r1 rr H2 s2 hrr hr0 hr1=>?_⟩));refine⟨(by show 0<=sizeLine;decide),λmd hmd=>?_⟩;have s3:=Ak (o:=.lst []) hmd;have hm3:upd H2 md (.lst []) md=some (.lst []):=upd_same;show(UC _ _) _ _ (upd H2 md (.lst []));generalize upd H2 md (.lst [])=H3 at s3 hm3⊢;have s13:=(s1.trans s2).trans s3;have nmd:H md=none:=Az.noneOf (s1.trans s2) hmd;have col:∀{u:Nat},u<2->∃x,[V.ref c0,V.ref c1][u]?=some (.ref x)/\H3 x=some (.tup [.int (spl l r (2^N) u).1,.int (spl l r (2^N) u).2]):=λ{u} hu=>by
   match u,hu with
   |0,_=>exact⟨c0,rfl,s3 _ _ (s2 _ _ hc0)⟩
   |1,_=>exact⟨c1,rfl,s3 _ _ (s2 _ _ hc1)⟩
  have row:∀{u:Nat},u<2->∃x,[V.ref r0,V.ref r1][u]?=some (.ref x)/\H3 x=some (.tup [.int (spl t b (2^N) u).1,.int (spl t b (2^N) u).2]):=λ{u} hu=>by
   match u,hu with
   |0,_=>exact⟨r0,rfl,s3 _ _ hr0⟩
   |1,_=>exact⟨r1,rfl,s3 _ _ hr1⟩
  have hcc3:=s3 _ _ (s2 _ _ hcc);have hrr3:=s3 _ _ hrr;have hti3:=s13 _ _ hti;have hto3:=s13 _ _ hto;have fu3:=fu.same s13;have na3:=Bm.same s13 na;have gmd:md∉BN g:=λz=>by
   obtain⟨oo,e⟩:=(fu.same (s1.trans s2)).nw.s md z;rw[hmd]at e;cases e
  have kmd:md≠kn:=λz=>by
   obtain⟨xs,e,_⟩:=na.ex;rw[z]at nmd;rw[nmd]at e;cases e
  have mF:md∉frM g kn:=λz=>by
   simp only[frM,B9,J9,A0a]at z;rcases z with z|z|z|z
   ·exact gmd (by rw[z];simp[BN])
   ·exact gmd (by rw[z];simp[BN])
   ·exact gmd (by rw[z];simp[BN])
   ·exact kmd z
  clear htp1 hc0 hc1 hr0 hr1 hcc hrr s1 s2 s3;refine⟨4,rfl,by decide,by decide,?_⟩;refine Dw (n:=4) (λj σ H4=>∃(G4:Gv)(kvs4:List (NK×V))(ms:Nat->Nat)(u10 u11 u12 u13:Option V),σ=[some (.ref g.p),some (.ref tk),some (.int (2^N)),some (.ref kn),some (.ref ti),some (.ref to'),some (.ref tp),some (.ref cc),some (.ref rr),some (.ref md),u10,u11,u12,u13]/\Fx (md::frM g kn) H3 H4/\H4 md=some (.lst ((List.range j).map λx=>V.int (ms x:Nat)))/\AD a H4 g G4/\Bm P w shM H4 kn kvs4/\KOk G4 c kvs4/\kvs.length<=kvs4.length/\AM G G4 (kvs4.length-kvs.length)/\Un G N kvs kvs4/\∀x,x<j->EL G4 N (f4 i0 i1 i2 i3 x) (f4 o0 o1 o2 o3 x) (spl l r (2^N) (x%2)).1 (spl t b (2^N) (x/2)).1 (spl l r (2^N) (x%2)).2 (spl t b (2^N) (x/2)).2 (ms x)) ⟨G,kvs,λ_=>0,none,none,none,none,rfl,Fx.refl _ H3,hm3,fu3,na3,kok,B5 _,(AM.refl fu.ok).mono A0,Un.refl _ _ _,λx hx=>absurd hx (F5 _)⟩ ?_ ?_
  ·rintro j σ H4 hj ⟨G4,kvs4,ms,u10,u11,u12,u13,rfl,x4,hm4,fu4,na4,kok4,le4,go4,un4,mx4⟩;have u2:j%2<2:=F4 _ A3;have v2:j/2<2:=by lia
   obtain⟨cx,ecx,hcx⟩:=col u2;obtain⟨ry,ery,hry⟩:=row v2;have hcx4:=x4.tup hcx;have hry4:=x4.tup hry;have cm:(0+(j:Int))%2=((j%2:Nat):Int):=by lia
   have cd:(0+(j:Int))/2=((j/2:Nat):Int):=by lia
   refine xq1 rfl (xq1 rfl (xq2 rfl rfl ⟨A9,cc,_,_,.ref cx,rfl,rfl,SqT.of (x4.tup hcc3),?_,?_⟩))
   ·show atI [V.ref c0,V.ref c1] ((0+(j:Int))%2)=_;rw[cm];exact Ag ecx
   refine xq1 rfl (xq1 rfl (xq2 rfl rfl ⟨⟨by decide,by decide⟩,rr,_,_,.ref ry,rfl,rfl,SqT.of (x4.tup hrr3),?_,?_⟩))
   ·show atI [V.ref r0,V.ref r1] ((0+(j:Int))/2)=_;rw[cd];exact Ag ery
   refine xwi rfl rfl rfl (SqT.of hcx4) (Ag (j:=0) rfl) (xwi rfl rfl rfl (SqT.of hry4) (Ag (j:=0) rfl) (xwi rfl rfl rfl (SqT.of hcx4) (Ag (j:=1) rfl) (xwi rfl rfl rfl (SqT.of hry4) (Ag (j:=1) rfl) ⟨(by show 4<=sizeLine;decide),λqp hqp=>?_⟩)));have s5:=Ak (o:=.tup [.int (spl l r (2^N) (j%2)).1,.int (spl t b (2^N) (j/2)).1,.int (spl l r (2^N) (j%2)).2,.int (spl t b (2^N) (j/2)).2]) hqp;have h5:upd H4 qp (.tup [.int (spl l r (2^N) (j%2)).1,.int (spl t b (2^N) (j/2)).1,.int (spl l r (2^N) (j%2)).2,.int (spl t b (2^N) (j/2)).2]) qp=some (.tup [.int (spl l r (2^N) (j%2)).1,.int (spl t b (2^N) (j/2)).1,.int (spl l r (2^N) (j%2)).2,.int (spl t b (2^N) (j/2)).2]):=upd_same;show ∃_,_;generalize upd H4 qp (.tup [.int (spl l r (2^N) (j%2)).1,.int (spl t b (2^N) (j/2)).1,.int (spl l r (2^N) (j%2)).2,.int (spl t b (2^N) (j/2)).2])=H5 at s5 h5⊢;have x5:=x4.trans (Az.fx s5);have hm5:=s5 _ _ hm4;have ai:atI (qi.parts.map V.int) (0+(j:Int))=some (.int (f4 i0 i1 i2 i3 j:Nat)):=by
    rw[Int.zero_add];exact Ag (ni.at4 hj)
   have ao:atI (qo.parts.map V.int) (0+(j:Int))=some (.int (f4 o0 o1 o2 o3 j:Nat)):=by
    rw[Int.zero_add];exact Ag (no.at4 hj)
   have pd4:Pd G4 c N (f4 i0 i1 i2 i3 j) (f4 o0 o1 o2 o3 j):=(pd.part fu.ok clo ni no hj).go go4;have pN:(0:Int)<2^N:=Ec N;have e2:(2:Int)^(N+1)=2^N+2^N:=by rw[V1];lia
   rw[e2]at bd;have bds:∀{s0 e0:Int}{u:Nat},0<=s0->e0<=2^N+2^N->0<=(spl s0 e0 (2^N) u).1/\(spl s0 e0 (2^N) u).2<=2^N:=λ{s0 e0 u} a1 a2=>by
    unfold spl;split
    ·dsimp only;split<;>lia
    ·dsimp only;split<;>lia
   have bx:=bds (u:=j%2) bd.1 bd.2.2.1;have by':=bds (u:=j/2) bd.2.1 bd.2.2.2
   have g4:=go4.few;refine xq1 rfl ⟨.inl ⟨rfl,_,SqL.of hm5⟩,(xw3 rfl rfl rfl (xq4 rfl rfl (SqT.of (x5.tup hti3)) ai (xwj rfl rfl rfl rfl (SqT.of (x5.tup hto3)) ao (xw2 rfl rfl ?_))))⟩;refine⟨g,G4,c,kn,qp,kvs4,f4 i0 i1 i2 i3 j,f4 o0 o1 o2 o3 j,N,_,_,_,_,rfl,fu4.same s5,Bm.same s5 na4,nk,h5,kok4,clo.app go4,s8,pd4,Nn,by lia,⟨bx.1,by'.1,bx.2,by'.2⟩,λz=>sx.spl z,λz=>sy.spl z,⟨by lia,few2⟩,λm G6 kvs6 H6 x6 fu6 na6 kok6 le6 go6 un6 mx6=>?_⟩;have hm6:=x6.get mF hm5;refine⟨md,_,.int m,rfl,rfl,hm6,by rw[B0,Q8];exact BF A0,?_⟩;have x7:=Qv (o':=.lst (((List.range j).map λx=>V.int (ms x:Nat))++[.int m])) hm6 (λz=>z);have le46:G.length<=G4.length:=go4.le;refine⟨G6,kvs6,λx=>if x=j then m else ms x,_,_,_,_,rfl,(x5.trans (x6.mono (by simp[frM]))).trans (x7.mono A5),?_,fu6.fx x7 λy hy z=>gmd (by rw[C5]at z;rw[<-z];exact hy),Bm.fx x7 (by simpa using Z4 kmd) na6,kok6,by lia,(go4.trans go6).mono A0,un4.trans go4 un6,λx hx=>?_⟩
   ·rw[upd_same,N9,B8];congr 3
    ·exact V7 λx hx=>by
      show V.int (ms x:Nat)=V.int ((if x=j then m else ms x:Nat):Int);rw[Y0 (by have:=L9.mp hx;lia)]
    ·show [V.int m]=[V.int ((if j=j then m else ms j:Nat):Int)]
     rw[Y4 rfl]
   ·dsimp only;by_cases z:x=j
    ·subst z;rw[Y4 rfl];exact mx6
    ·rw[Y0 z];have hx3:x<4:=by lia
     have l1:Aj G4 (f4 o0 o1 o2 o3 x) (N:Int):=go4.lev (by
      match x,hx3 with
      |0,_=>exact no.hx
      |1,_=>exact no.hy
      |2,_=>exact no.hz
      |3,_=>exact no.hw)
     have l2:Aj G4 (f4 i0 i1 i2 i3 x) (N:Int):=go4.lev (ni.nat hx3).2;exact(mx4 x A0).app fu4.ok go6 l2 l1
  ·rintro σ H4 ⟨G4,kvs4,ms,u10,u11,u12,u13,rfl,x4,hm4,fu4,na4,kok4,le4,go4,un4,mx4⟩;have g4:=go4.few;have l4:=kok4.len fu4.ok;refine xq1 rfl ⟨g.p,g.dx,(xq1 rfl ⟨fu4.at'.hp,Cz g,(xq1 rfl ⟨md,(xq1 rfl (.inl ⟨SqL.of hm4,λtl htl=>?_⟩))⟩)⟩)⟩;have s5:=Ak (o:=.tup [.int (ms 0:Nat),.int (ms 1:Nat),.int (ms 2:Nat),.int (ms 3:Nat)]) htl;refine⟨g,G4,tl,ms 0,ms 1,ms 2,ms 3,(N:Int),rfl,fu4.at'.same s5,fu4.ok,upd_same,⟨(mx4 0 A3).lev,(mx4 1 A3).lev,(mx4 2 A3).lev,(mx4 3 A3).lev⟩,by lia,by lia,λm G6 H6 fr6 hg6 go6 e6=>?_⟩;have x6:=fr6.fx (fu4.at'.same s5);have fu6:=(fu4.same s5).fr fr6 hg6 go6;have x46:Fx (md::frM g kn) H3 H6:=(x4.trans (Az.fx s5)).trans (x6.mono (by simp[frM]));have kf:kn∉[g.lv,g.pt,g.nm]:=λz=>nk (by simp[BN]at *;lia);refine k m G6 kvs4 H6 (Fx.fresh s13 x46 nmd) fu6 (Bm.fx x6 kf (Bm.same s5 na4)) (kok4.go fu4.ok s8 go6) le4 (go4.trans go6) un4 ?_;exact EL.join (ni.app (go4.trans go6)) (no.app (go4.trans go6)) (λx hx=>(mx4 x hx).app fu4.ok go6 (go4.lev (ni.nat hx).2) (go4.lev (by
    match x,hx with
    |0,_=>exact no.hx
    |1,_=>exact no.hy
    |2,_=>exact no.hz
    |3,_=>exact no.hw))) e6
theorem VA{f:Addr}{fd:FuncData}{f':Addr}{fd':FuncData}(F:Fun K "mixed" "mixed" LI f fd)(F':Fun K "mixed_quarters" "mixed_quarters" Cu f' fd')(T:Top K mg a)(hm:mg "mixed" = some (.ref f))(Bi:Ci K fd GP [])(hm':mg "mixed_quarters" = some (.ref f'))(Bi':Ci K fd' Cw [])(aD:Cal P w K mg base CX0 1 "split_stretch" CO LF)(a6:Dp P w K mg base CX0 2 a.c_Grove "linked" Bp (Gg a)):∀n,AI P w K mg base CX0 (2*n+2) f fd GP (Px a P w n)
 |0=>by
  refine F.ok Fl (λvs H Q E h=>?_) (λcdv A outer s H vs Q E hr h=>?_)
  ·obtain⟨g,G,c,kn,tp,kvs,i,o,N,l,t,r,b,rfl,_,_,_,_,_,_,_,_,h0,_⟩:=h;exact absurd h0 (F5 _)
  ·obtain⟨g,G,c,kn,tp,kvs,i,o,N,l,t,r,b,rfl,_,_,_,_,_,_,_,_,h0,_⟩:=h;exact absurd h0 (F5 _)
 |n+1=>ok_mixS F T ⟨f',fd',ok_mq (d:=2*n+2) A0 F' T aD a6 ⟨f,fd,VA F F' T hm Bi hm' Bi' aD a6 n,hm,F.kp,Bi⟩,hm',F'.kp,Bi'⟩
end
end J
namespace J
open PySem L2
theorem EL.part{G:Gv}{n i o m:Nat}{l t r b:Int}{qi qo qm:Sq}{i0 i1 i2 i3 o0 o1 o2 o3 m0 m1 m2 m3:Nat}(ni:BP G n i qi i0 i1 i2 i3)(no:BP G n o qo o0 o1 o2 o3)(nm:BP G n m qm m0 m1 m2 m3)(h:EL G (n+1) i o l t r b m){k:Nat}(hk:k<4) :
  EL G n (f4 i0 i1 i2 i3 k) (f4 o0 o1 o2 o3 k) (spl l r (2^n) (k%2)).1 (spl t b (2^n) (k/2)).1 (spl l r (2^n) (k%2)).2 (spl t b (2^n) (k/2)).2 (f4 m0 m1 m2 m3 k):=by
 refine⟨(nm.nat hk).2,λx y hx hy=>?_⟩;obtain⟨h1,h2,h3,h4,h5⟩:=Dv hk hx hy;have c:=h.cell _ _ h1 h2;rw[AJ nm h1 h2,AJ ni h1 h2,AJ no h1 h2,h3,h4,h5]at c;rw[c];have d1:(x+2^n*(k%2))/2^n=k%2:=by
  rw[T5 _ _ (AY n),P5 hx,O1]
 have d2:(y+2^n*(k/2))/2^n=k/2:=by
  rw[T5 _ _ (AY n),P5 hy,O1]
 have i1:=LE (s:=l) (e:=r) h1 d1;have i2:=LE (s:=t) (e:=b) h2 d2;rw[h4]at i1;rw[h5]at i2;by_cases z:(l<=((x+2^n*(k%2):Nat):Int)/\((x+2^n*(k%2):Nat):Int)<r)/\(t<=((y+2^n*(k/2):Nat):Int)/\((y+2^n*(k/2):Nat):Int)<b)
 ·rw[Y4 z,Y4 ⟨i1.mpr z.1,i2.mpr z.2⟩]
 ·rw[Y0 z,Y0 λq=>z ⟨i1.mp q.1,i2.mp q.2⟩]
theorem EL.empty{G:Gv}(ok:GOk G){n i o m:Nat}{l t r b:Int}(h:EL G n i o l t r b m)(lo:Aj G o (n:Int))(e:r<=l\/b<=t):m=o:=by
 refine En ok h.lev lo λx y hx hy=>?_;rw[h.cell x y hx hy,Y0 A0]
theorem EL.one{G:Gv}(ok:GOk G){n i o m m':Nat}{l t r b:Int}(h:EL G n i o l t r b m)(h':EL G n i o l t r b m'):m=m':=En ok h.lev h'.lev λx y hx hy=>by rw[h.cell x y hx hy,h'.cell x y hx hy]
def RT(G:Gv)(c:Mc)(x:Nat):Prop:=∃(k:NK)(n i o:Nat)(l t r b:Int),Ent G c (k,.int x) n i o l t r b x
theorem VS{G:Gv}(ok:GOk G){c:Mc}{l:List Nat}(nd:l.Nodup)(h:∀x∈l,RT G c x):l.length<=16*c.S.length:=by
 classical
 let f:Nat->NK:=λx=>if z:RT G c x then Classical.choose z else [];have hf:∀x∈l,∃n i o l t r b,Ent G c (f x,.int x) n i o l t r b x:=λx hx=>by
  have z:=h x hx;show ∃n i o l t r b,Ent G c ((if z:RT G c x then Classical.choose z else []),.int x) n i o l t r b x;rw[dif_pos z];exact A3b z
 have k:KOk G c (l.map λx=>(f x,V.int (x:Int))):=by
  refine⟨?_,λp hp=>?_⟩
  ·rw[M7,D7,L7];refine A1g (λ{x y} hx hy hne z=>hne ?_) (D7.mp nd);have z:f x=f y:=z;obtain⟨n,i,o,l,t,r,b,e⟩:=hf x hx;obtain⟨n',i',o',l',t',r',b',e'⟩:=hf y hy;have q1:=Z5 Prod.fst e.e;have q2:=Z5 Prod.fst e'.e;have q1:f x=kMx i o l t r b:=q1;have q2:f y=kMx i' o' l' t' r' b':=q2;obtain⟨rfl,rfl,rfl,rfl,rfl,rfl⟩:=OY (q1.symm.trans (z.trans q2));have:n=n':=Y7 (e.pd.lo.uniq e'.pd.lo);subst this;exact e.mx.one ok e'.mx
  ·obtain⟨x,hx,rfl⟩:=D4.mp hp;obtain⟨n,i,o,l,t,r,b,e⟩:=hf x hx;exact⟨n,i,o,l,t,r,b,x,e⟩
 have:=k.len ok;rw[B0]at this;exact this
structure FS(G:Gv)(f B:Nat):Prop where
 ex:∃S:List Nat,f∈S/\(∀j,j<=48->bareN j∈S)/\Clo G S/\S.length<=B
theorem FS.app{G G':Gv}{k f B:Nat}(go:AM G G' k)(h:FS G f B):FS G' f B:=by
 obtain⟨S,h1,h2,h3,h4⟩:=h.ex;exact⟨S,h1,h2,h3.app go,h4⟩
theorem FS.mono{G:Gv}{f B C:Nat}(h:FS G f B)(e:B<=C):FS G f C:=by
 obtain⟨S,h1,h2,h3,h4⟩:=h.ex;exact⟨S,h1,h2,h3,by lia⟩
theorem Clo.cons{G:Gv}{S:List Nat}(h:Clo G S){n x a b c d:Nat}{q:Sq}(nd:BP G n x q a b c d)(m:a∈S/\b∈S/\c∈S/\d∈S):Clo G (x::S):=λo ho=>by
 rcases B9.mp ho with rfl|ho
 ·exact .inr ⟨n,q,a,b,c,d,nd,B3 _ m.1,B3 _ m.2.1,B3 _ m.2.2.1,B3 _ m.2.2.2⟩
 ·rcases h o ho with z|⟨n',q',a',b',c',d',nd',m'⟩
  ·exact .inl z
  ·exact .inr ⟨n',q',a',b',c',d',nd',B3 _ m'.1,B3 _ m'.2.1,B3 _ m'.2.2.1,B3 _ m'.2.2.2⟩
theorem LP{G r:Gv}(e0:G=G0++r)(ok:GOk G){j:Nat}(h:j<=48):FS G (bareN j) 49:=by
 refine⟨(List.range 49).map bareN,D4.mpr ⟨j,L9.mpr A0,rfl⟩,λi hi=>D4.mpr ⟨i,L9.mpr A0,rfl⟩,λo ho=>?_,by rw[B0,Q8];exact B5 _⟩;obtain⟨i,hi,rfl⟩:=D4.mp ho;have hi:=L9.mp hi;cases i with
 |zero=>exact .inl A3
 |succ i =>
  have m:bareN i∈(List.range 49).map bareN:=D4.mpr ⟨i,L9.mpr A0,rfl⟩;have lb:=CK e0 (n:=i) A0;have g:G[bareN (i+1)]?=some ⟨[(bareN i:Int),(bareN i:Int),(bareN i:Int),(bareN i:Int)],(i:Int)+1⟩:=by
   have:=RE e0 i A0;exact this
  exact .inr ⟨i,_,bareN i,bareN i,bareN i,bareN i,⟨g,rfl,rfl,lb,lb,lb,lb⟩,m,m,m,m⟩
theorem FS.wid{G r:Gv}(e0:G=G0++r)(ok:GOk G){n f w B:Nat}(hn:n<=46)(h:FS G f B)(wd:Wid G n f w):FS G w (B+5):=by
 obtain⟨S,h1,h2,h3,h4⟩:=h.ex;obtain⟨q,x,y,z,v,a,b,c,d,nd,ea,eb,ec,ed,ew⟩:=wd.ex;obtain⟨m1,m2,m3,m4⟩:=h3.get ok h1 nd;have lb:=CK e0 (n:=n) A0;have mb:=h2 n A0;have na:BP G n a _ (bareN n) (bareN n) (bareN n) x:=⟨ea,rfl,rfl,lb,lb,lb,nd.hx⟩
 have nb:BP G n b _ (bareN n) (bareN n) y (bareN n):=⟨eb,rfl,rfl,lb,lb,nd.hy,lb⟩
 have nc:BP G n c _ (bareN n) z (bareN n) (bareN n):=⟨ec,rfl,rfl,lb,nd.hz,lb,lb⟩
 have nD:BP G n d _ v (bareN n) (bareN n) (bareN n):=⟨ed,rfl,rfl,nd.hw,lb,lb,lb⟩
 have la:Aj G a ((n+1:Nat):Int):=⟨_,ea,by show(n:Int)+1=_;lia⟩
 have lb':Aj G b ((n+1:Nat):Int):=⟨_,eb,by show(n:Int)+1=_;lia⟩
 have lc:Aj G c ((n+1:Nat):Int):=⟨_,ec,by show(n:Int)+1=_;lia⟩
 have ld:Aj G d ((n+1:Nat):Int):=⟨_,ed,by show(n:Int)+1=_;lia⟩
 have nw:BP G (n+1) w _ a b c d:=⟨ew,rfl,by show(n:Int)+2=((n+1:Nat):Int)+1;lia,la,lb',lc,ld⟩
 refine⟨w::a::b::c::d::S,by simp,λj hj=>by simp[h2 j hj],?_,by simp only[D0];lia⟩;refine Clo.cons (Clo.cons (Clo.cons (Clo.cons (Clo.cons h3 nD ⟨m4,mb,mb,mb⟩) nc ?_) nb ?_) na ?_) nw ?_
 ·exact⟨B3 _ mb,B3 _ m3,B3 _ mb,B3 _ mb⟩
 ·simp[mb,m2]
 ·simp[mb,m1]
 ·simp
theorem FS.widN{G r:Gv}(e0:G=G0++r)(ok:GOk G){n f B:Nat}(h:FS G f B):∀{k w:Nat},n+k<=46->Lu G n f k w->FS G w (B+5*k)
 |0,w,_,e=>by
  have e:w=f:=e;subst e;exact h
 |k+1,w,hn,e=>by
  obtain⟨u,e1,e2⟩:=e;exact((FS.widN e0 ok h (k:=k) A0 e1).wid e0 ok A0 e2).mono A0
theorem FS.trim{G:Gv}(ok:GOk G):∀{n f r B:Nat},FS G f B->DI G n f r->FS G r (B+n)
 |0,_,_,_,_,t=>absurd t (by intro z;exact z)
 |1,f,r,B,h,t=>by
  have t:r=f:=t;subst t;exact h.mono A0
 |n+2,f,r,B,h,t=>by
  obtain⟨qs,ps,dp,t⟩:=t;rcases t with ⟨_,rfl⟩|⟨_,m,em,t⟩
  ·exact h.mono A0
  ·obtain⟨S,h1,h2,h3,h4⟩:=h.ex;obtain⟨q,nd⟩:=dp.node;obtain⟨m0,m1,m2,m3⟩:=h3.get ok h1 nd;have sub:∀k,k<4->qs k∈S:=λk hk=>by
    match k,hk with
    |0,_=>exact m0
    |1,_=>exact m1
    |2,_=>exact m2
    |3,_=>exact m3
   have sub2:∀k j,k<4->j<4->ps k j∈S/\Aj G (ps k j) (n:Int):=λk j hk hj=>by
    obtain⟨q',nd'⟩:=dp.sub k hk;obtain⟨a0,a1,a2,a3⟩:=h3.get ok (sub k hk) nd'
    match j,hj with
    |0,_=>exact⟨a0,nd'.hx⟩
    |1,_=>exact⟨a1,nd'.hy⟩
    |2,_=>exact⟨a2,nd'.hz⟩
    |3,_=>exact⟨a3,nd'.hw⟩
   have p0:=sub2 0 3 A3 A3;have p1:=sub2 1 2 A3 A3;have p2:=sub2 2 1 A3 A3;have p3:=sub2 3 0 A3 A3;have nm:BP G n m _ (ps 0 3) (ps 1 2) (ps 2 1) (ps 3 0):=⟨em,rfl,rfl,p0.2,p1.2,p2.2,p3.2⟩
   have:FS G m (B+1):=⟨m::S,by simp,λj hj=>by simp[h2 j hj],Clo.cons h3 nm ⟨p0.1,p1.1,p2.1,p3.1⟩,by simp only[D0];lia⟩
   exact(FS.trim ok this t).mono A0
theorem fs_mix{G:Gv}(ok:GOk G){c:Mc}(clo:Clo G c.S)(hb:∀j,j<=48->bareN j∈c.S){m:Nat}(h:RT G c m)(s8:c.s<8)(bo:c.ro=true->∀{n o:Nat},Aj G o (n:Int)->Sol G c.s n o->o∈c.S):FS G m (17*c.S.length):=by
 classical
 let L:=(List.range G.length).filter λx=>decide (RT G c x);have inL:∀{x:Nat},RT G c x->x∈L:=λ{x} hx=>R6.mpr ⟨L9.mpr (by
  obtain⟨k,n,i,o,l,t,r,b,e⟩:=hx;exact e.mx.lev.lt),Y1 hx⟩
 have len:L.length<=16*c.S.length:=VS ok (List.Pairwise.filter _ List.nodup_range) λx hx=>Z3 (R6.mp hx).2;refine⟨c.S++L,C8.mpr (.inr (inL h)),λj hj=>C8.mpr (.inl (hb j hj)),λx hx=>?_,by rw[B4];lia⟩;rcases C8.mp hx with hx|hx
 ·rcases clo x hx with z|⟨n,q,a,b,c',d,nd,m1,m2,m3,m4⟩
  ·exact .inl z
  ·exact .inr ⟨n,q,a,b,c',d,nd,C8.mpr (.inl m1),C8.mpr (.inl m2),C8.mpr (.inl m3),C8.mpr (.inl m4)⟩
 ·obtain⟨k,n,i,o,l,t,r,b,e⟩:=Z3 (R6.mp hx).2;cases n with
  |zero=>exact .inl (OU ok e.mx.lev)
  |succ n =>
   obtain⟨qm,m0,m1,m2,m3,nm⟩:=AL ok e.mx.lev;obtain⟨qo,o0,o1,o2,o3,no⟩:=AL ok e.pd.lo;obtain⟨qi,i0,i1,i2,i3,ni⟩:=AL ok e.pd.li;have all:∀k',k'<4->f4 m0 m1 m2 m3 k'∈c.S++L:=λk' hk=>by
    have mp:=e.mx.part ni no nm hk;have pd':=e.pd.part ok clo ni no hk;by_cases z:(spl l r (2^n) (k'%2)).1<(spl l r (2^n) (k'%2)).2/\(spl t b (2^n) (k'/2)).1<(spl t b (2^n) (k'/2)).2
    ·exact C8.mpr (.inr (inL ⟨_,n,_,_,_,_,_,_,⟨rfl,pd',mp,e.sx.spl z.1,e.sy.spl z.2⟩⟩))
    ·rw[mp.empty ok pd'.lo A0];refine C8.mpr (.inl ?_);have q1:=pd'.mo;have q2:=pd'.so;unfold Ej at q1;unfold Ts at q2;by_cases y:c.ro=true
     ·rw[Y4 y]at q2;exact bo y pd'.lo q2
     ·rw[Y0 y]at q1;exact q1
   exact .inr ⟨n,qm,m0,m1,m2,m3,nm,all 0 A3,all 1 A3,all 2 A3,all 3 A3⟩
seal L2.PA L2.PE L2.PS L2.PSs L2.PT L2.PW
theorem QF{G:Gv}(ok:GOk G){s:Nat}(hs:s<8):∀{n i x y:Nat},Sol G s n i->x<2^n->y<2^n->cellF G n i x y=s
 |0,i,x,y,h,_,_=>h
 |n+1,i,x,y,h,hx,hy=>by
  obtain⟨m,h1,e⟩:=h;have lm:=Sol.lev ok hs h1;have nd:BP G n i _ m m m m:=⟨e,rfl,rfl,lm,lm,lm,lm⟩
  rw[AJ nd hx hy];have:f4 m m m m (quad n x y)=m:=by unfold f4;split<;>rfl
  rw[this];exact QF ok hs h1 (F4 _ (AY n)) (F4 _ (AY n))
def InB(x y wd ht u v:Int):Prop:=(x<=u/\u<x+wd)/\(y<=v/\v<y+ht)
instance(x y wd ht u v:Int):Decidable (InB x y wd ht u v):=by unfold InB;infer_instance
theorem TJ{G:Gv}(ok:GOk G){n s i o m:Nat}{x y wd ht:Int}(s8:s<8)(so:Sol G s (n+1) i)(li:Db x y wd ht (2^n))(h:EL G (n+1) i o (x+2^n) (y+2^n) (x+2^n+wd) (y+2^n+ht) m)(u v:Int):fieldF G n m u v=if InB x y wd ht u v then s else fieldF G n o u v:=by
 unfold fieldF;by_cases z:-(2^n)<=u/\u<2^n/\-(2^n)<=v/\v<2^n
 ·rw[Y4 z,Y4 z];have h1:=CD z.1 z.2.1;have h2:=CD z.2.2.1 z.2.2.2;rw[h.cell _ _ h1 h2,QF ok s8 so h1 h2];have e1:((u+2^n).toNat:Int)=u+2^n:=M3 A0;have e2:((v+2^n).toNat:Int)=v+2^n:=M3 A0;rw[e1,e2];by_cases q:InB x y wd ht u v
  ·rw[Y4 q,Y4 (by unfold InB at q;lia)]
  ·rw[Y0 q,Y0 (by unfold InB at q;lia)]
 ·rw[Y0 z,Y0 z,Y0];unfold InB;unfold Db at li;lia
def clL(v:Int):Int:=if 0 > v then 0 else v
def clR(n:Nat)(v:Int):Int:=if 2*2^n<v then 2*2^n else v
theorem Wu{v:Int}(h:0<=v):clL v=v:=by unfold clL;rw[Y0 A0]
theorem Wt{n:Nat}{v:Int}(h:v<=2*2^n):clR n v=v:=by unfold clR;rw[Y0 A0]
section
variable{P:Program}{w:World}{K:PySem.W.Frag}{mg:Str->Option Value}{base:Heap}{a:Ad}
inductive SpChB(vs:List V)(H:Hp)(Q:VK):Prop
 |mk (t:Addr) (x y wd ht:Int) (_:vs=[.ref t]) (_:H t=some (.tup [.int x,.int y,.int wd,.int ht])) (_:0<=wd) (_:0<=ht) (_:Q .non H):SpChB vs H Q
def UU:Sp:=λvs H Q _=>SpChB vs H Q
theorem ok_chb{f:Addr}{fd:FuncData}(F:Fun K "check_box" "check_box" Gm f fd)(T:Top K mg a):AI P w K mg base CX0 1 f fd Gu UU:=by
 refine F.ok Ov (λvs H Q E h=>?_) (λcdv A outer s H vs Q E hr h=>?_)
 ·obtain⟨t,x,y,wd,ht,rfl,_⟩:=h;rfl
 ·obtain⟨t,x,y,wd,ht,rfl,hb,w0,h0,k⟩:=h;refine⟨_,(Ae (AE (PW.pt (Fn (As JY (Am Av (pv 0) Af (λ_ _=>rfl)) Af (Au _)) (EZ (As JY (Am Av (pv 0) Af (λ_ _=>rfl)) Af (Au _))))) (Ae AZ) Ax)),?_⟩
  try dsimp only[cxK]
  refine xwi rfl rfl rfl (SqT.of hb) (Ag (j:=2) rfl) (xq2 rfl rfl (xq1 rfl ?_));rw[Y3 (by lia:¬wd<0)];refine AT (xwi rfl rfl rfl (SqT.of hb) (Ag (j:=3) rfl) (xq2 rfl rfl (xq1 rfl ?_)));rw[Y3 (by lia:¬ht<0)];exact AT k
inductive SpPI(a:Ad)(vs:List V)(H:Hp)(Q:VK):Prop
 |mk (g:GA) (G:Gv) (f n:Nat) (t:Addr) (x y wd ht:Int) (_:vs=[.ref g.p,.int f,.ref t]) (_:AD a H g G) (_:Aj G f ((n+1:Nat):Int)) (_:n<48) (_:H t=some (.tup [.int x,.int y,.int wd,.int ht])) (_:∀(t':Addr)(H':Hp),Az H H'->H' t'=some (.tup [.int (clL (x+2^n)),.int (clL (y+2^n)),.int (clR n (x+2^n+wd)),.int (clR n (y+2^n+ht))])->Q (.ref t') H'):SpPI a vs H Q
def spPI(a:Ad):Sp:=λvs H Q _=>SpPI a vs H Q
theorem ok_pi{f:Addr}{fd:FuncData}(F:Fun K "part_in" "part_in" Jt f fd)(T:Top K mg a)(aA:Cal P w K mg base CX0 4 "reach_of" CQ (Fw a)):AI P w K mg base CX0 5 f fd JC (spPI a):=by
 refine F.ok Er (λvs H Q E h=>?_) (λcdv A outer s H vs Q E hr h=>?_)
 ·obtain⟨g,G,f',n,t,x,y,wd,ht,rfl,_⟩:=h;rfl
 ·obtain⟨g,G,f',n,t,x,y,wd,ht,rfl,fu,lf,n48,hb,k⟩:=h;refine⟨_,(Ab (Ah (i:=3) Er.nd rfl (Or.inl rfl) (Aq aA (rm hr) rfl Ao (Aa (pv 0) (Aa (pv 1) Ac)))) (Ab (Ah (i:=4) Er.nd rfl (Or.inl rfl) (Ay AW (Am Av (pv 2) Af (λ_ _=>rfl)) (pv 3))) (Ab (Ah (i:=5) Er.nd rfl (Or.inl rfl) (Ay AW (Am Av (pv 2) Af (λ_ _=>rfl)) (pv 3))) (Ab (Ah (i:=6) Er.nd rfl (Or.inl rfl) (Ay EF Af (pv 3))) (Ae (At (Cn (Aa (AA (GV rfl) rfl T.b_max K5 (Aa (pv 4) (Bh Ac))) (Aa (AA (GV rfl) rfl T.b_max K5 (Aa (pv 5) (Bh Ac))) (Aa (AA (Fq rfl) rfl T.b_min X1 (Bv AW (pv 4) (Am Av (pv 2) Af (λ_ _=>rfl)) (Aa (pv 6) Ac))) (Aa (AA (Fq rfl) rfl T.b_min X1 (Bv AW (pv 5) (Am Av (pv 2) Af (λ_ _=>rfl)) (Aa (pv 6) Ac))) Ac))))))))))),?_⟩
  try dsimp only[cxK]
  refine xw2 rfl rfl ⟨g,G,f',n,rfl,fu.at',lf,n48,?_⟩;refine xwi rfl rfl rfl (SqT.of hb) (Ag (j:=0) rfl) (xwb rfl rfl rfl ?_);refine xwi rfl rfl rfl (SqT.of hb) (Ag (j:=1) rfl) (xwb rfl rfl rfl ?_);refine xwb rfl rfl rfl ⟨.inl ⟨by decide,by decide⟩,?_⟩;refine xq1 rfl ⟨_,_,rfl,(xq1 rfl ⟨_,_,rfl,(xwj rfl rfl rfl rfl (SqT.of hb) (Ag (j:=2) rfl) (xq2 rfl rfl (xq1 rfl ⟨_,_,rfl,(xwj rfl rfl rfl rfl (SqT.of hb) (Ag (j:=3) rfl) (xq2 rfl rfl (xq1 rfl ⟨_,_,rfl,(by show 4<=sizeLine;decide),λt' ht'=>?_⟩)))⟩)))⟩)⟩;exact k t' _ (Ak ht') upd_same
end
end J
namespace J
open PySem L2
theorem Clo.un{G:Gv}{U:List Nat}(h:∀o∈U,∃S,Clo G S/\o∈S/\∀x∈S,x∈U):Clo G U:=λo ho=>by
 obtain⟨S,c,m,sub⟩:=h o ho;rcases c o m with z|⟨n,q,a,b,d,e,nd,m1,m2,m3,m4⟩
 ·exact .inl z
 ·exact .inr ⟨n,q,a,b,d,e,nd,sub _ m1,sub _ m2,sub _ m3,sub _ m4⟩
theorem spl_w{l r h:Int}(l0:0<=l):((spl l r h 0).2-(spl l r h 0).1).toNat+((spl l r h 1).2-(spl l r h 1).1).toNat=(r-l).toNat:=by
 show((if h<r then h else r)-l).toNat+(r-h-(if l-h<0 then 0 else l-h)).toNat=(r-l).toNat;split<;>split<;>lia
theorem UG{l r h:Int}(l0:0<=l)(k:Nat):0<=(spl l r h k).1:=by
 match k with
 |0=>exact l0
 |k+1=>show 0<=(if l-h<0 then 0 else l-h);split<;>lia
theorem area4(a b c d:Nat):a*c+b*c+a*d+b*d=(a+b)*(c+d):=by
 rw[Nat.add_mul,Nat.mul_add,Nat.mul_add];lia
theorem SQ{G:Gv}(ok:GOk G){S:List Nat}(clo:Clo G S):∀{n i o m:Nat}{l t r b:Int},Aj G i (n:Int)->Aj G o (n:Int)->o∈S->EL G n i o l t r b m->0<=l->0<=t->∃T:List Nat,T.length<=(r-l).toNat*(b-t).toNat*(n+1)/\m∈T++S/\Clo G (T++S)
 |n,i,o,m,l,t,r,b,li,lo,mo,mx,l0,t0=>by
  by_cases em:r<=l\/b<=t
  ·refine⟨[],J7 _,?_,clo⟩;rw[mx.empty ok lo em];exact mo
  have p1:1<=(r-l).toNat:=by lia
  have p2:1<=(b-t).toNat:=by lia
  have pa:1<=(r-l).toNat*(b-t).toNat:=Nat.mul_pos p1 p2;cases n with
  |zero =>
   refine⟨[m],by show 1<=_;lia,by simp,λx hx=>?_⟩;rcases B9.mp hx with rfl|hx
   ·exact .inl (OU ok mx.lev)
   ·rcases clo x hx with z|⟨n,q,a,b,d,e,nd,m1,m2,m3,m4⟩
    ·exact .inl z
    ·exact .inr ⟨n,q,a,b,d,e,nd,B3 _ m1,B3 _ m2,B3 _ m3,B3 _ m4⟩
  |succ n =>
   obtain⟨qm,m0,m1,m2,m3,nm⟩:=AL ok mx.lev;obtain⟨qo,o0,o1,o2,o3,no⟩:=AL ok lo;obtain⟨qi,i0,i1,i2,i3,ni⟩:=AL ok li;have oS:∀k,k<4->f4 o0 o1 o2 o3 k∈S:=λk hk=>by
    obtain⟨a0,a1,a2,a3⟩:=clo.get ok mo no
    match k,hk with
    |0,_=>exact a0
    |1,_=>exact a1
    |2,_=>exact a2
    |3,_=>exact a3
   have all:∀k,k<4->∃T:List Nat,T.length<=((spl l r (2^n) (k%2)).2-(spl l r (2^n) (k%2)).1).toNat*((spl t b (2^n) (k/2)).2-(spl t b (2^n) (k/2)).1).toNat*(n+1)/\f4 m0 m1 m2 m3 k∈T++S/\Clo G (T++S):=λk hk=>SQ ok clo (ni.nat hk).2 (no.nat hk).2 (oS k hk) (mx.part ni no nm hk) (UG l0 _) (UG t0 _);obtain⟨T0,l0',h0,c0⟩:=all 0 A3;obtain⟨T1,l1',h1,c1⟩:=all 1 A3;obtain⟨T2,l2',h2,c2⟩:=all 2 A3;obtain⟨T3,l3',h3,c3⟩:=all 3 A3;have wx:=spl_w (l:=l) (r:=r) (h:=2^n) l0;have wy:=spl_w (l:=t) (r:=b) (h:=2^n) t0;have e0:(0%2:Nat)=0:=rfl;rw[show(0%2:Nat)=0 from rfl,show(0/2:Nat)=0 from rfl]at l0';rw[show(1%2:Nat)=1 from rfl,show(1/2:Nat)=0 from rfl]at l1';rw[show(2%2:Nat)=0 from rfl,show(2/2:Nat)=1 from rfl]at l2';rw[show(3%2:Nat)=1 from rfl,show(3/2:Nat)=1 from rfl]at l3';generalize ((spl l r (2^n) 0).2-(spl l r (2^n) 0).1).toNat=a at *
   generalize ((spl l r (2^n) 1).2-(spl l r (2^n) 1).1).toNat=b' at *
   generalize ((spl t b (2^n) 0).2-(spl t b (2^n) 0).1).toNat=c at *
   generalize ((spl t b (2^n) 1).2-(spl t b (2^n) 1).1).toNat=d at *
   have ar:=area4 a b' c d;rw[wx,wy]at ar;generalize (r-l).toNat*(b-t).toNat=A at *
   have sum:a*c*(n+1)+b'*c*(n+1)+a*d*(n+1)+b'*d*(n+1)=A*(n+1):=by rw[<-ar,Nat.add_mul,Nat.add_mul,Nat.add_mul]
   have up:A*(n+1+1)=A*(n+1)+A:=Nat.mul_succ _ _;have cu:Clo G (T0++(T1++(T2++T3))++S):=Clo.un λx hx=>by
    simp only[C8]at hx;rcases hx with (hx|hx|hx|hx)|hx
    ·exact⟨_,c0,by simp[hx],λy hy=>by simp only[C8]at hy⊢;rcases hy with hy|hy<;>simp[hy]⟩
    ·exact⟨_,c1,by simp[hx],λy hy=>by simp only[C8]at hy⊢;rcases hy with hy|hy<;>simp[hy]⟩
    ·exact⟨_,c2,by simp[hx],λy hy=>by simp only[C8]at hy⊢;rcases hy with hy|hy<;>simp[hy]⟩
    ·exact⟨_,c3,by simp[hx],λy hy=>by simp only[C8]at hy⊢;rcases hy with hy|hy<;>simp[hy]⟩
    ·exact⟨_,clo,hx,λy hy=>by simp[hy]⟩
   have g0:m0∈T0++S:=h0;have g1:m1∈T1++S:=h1;have g2:m2∈T2++S:=h2;have g3:m3∈T3++S:=h3;simp only[C8]at g0 g1 g2 g3;refine⟨m::(T0++(T1++(T2++T3))),by simp only[D0,B4];lia,by simp,Clo.cons cu nm ⟨?_,?_,?_,?_⟩⟩
   ·simp only[C8];rcases g0 with z|z<;>simp[z]
   ·simp only[C8];rcases g1 with z|z<;>simp[z]
   ·simp only[C8];rcases g2 with z|z<;>simp[z]
   ·simp only[C8];rcases g3 with z|z<;>simp[z]
theorem fs_area{G:Gv}(ok:GOk G){S:List Nat}(clo:Clo G S)(hb:∀j,j<=48->bareN j∈S){n i o m A:Nat}{l t r b:Int}(li:Aj G i (n:Int))(lo:Aj G o (n:Int))(mo:o∈S)(mx:EL G n i o l t r b m)(l0:0<=l)(t0:0<=t)(hn:n<=49)(ha:(r-l).toNat*(b-t).toNat<=A):FS G m (S.length+A*50):=by
 obtain⟨T,h1,h2,h3⟩:=SQ ok clo li lo mo mx l0 t0;refine⟨T++S,h2,λj hj=>C8.mpr (.inr (hb j hj)),h3,?_⟩;rw[B4];have:(r-l).toNat*(b-t).toNat*(n+1)<=A*50:=Nat.mul_le_mul ha A0;lia
seal L2.PA L2.PE L2.PS L2.PSs L2.PT L2.PW
theorem Ul{G r:Gv}(e0:G=G0++r)(ok:GOk G){n j w:Nat}(hn:n+j<=46)(lb:Aj G (bareN (n+1)) ((n+1:Nat):Int))(wi:Lu G n (bareN (n+1)) j w)(lw:Aj G w ((n+j+1:Nat):Int)):w=bareN (n+j+1):=by
 refine En ok lw (CK e0 A0) λx y hx hy=>?_;rw[CY e0 ok A0 hx hy];have c:=DF (n+j);have s:=Mu (n+j);have e:=Fv e0 ok A0 wi ((x:Int)-2^(n+j)) ((y:Int)-2^(n+j));unfold fieldF at e;rw[Y4 ⟨by lia,by lia,by lia,by lia⟩,show((x:Int)-2^(n+j)+2^(n+j)).toNat=x by lia,show((y:Int)-2^(n+j)+2^(n+j)).toNat=y by lia]at e;rw[e];split
 ·rename_i z;exact CY e0 ok A0 (CD z.1 z.2.1) (CD z.2.2.1 z.2.2.2)
 ·rfl
section
variable{P:Program}{w:World}{K:PySem.W.Frag}{mg:Str->Option Value}{base:Heap}{a:Ad}
inductive WM(a:Ad)(vs:List V)(H:Hp)(Q:VK):Prop
 |mk (g:GA) (G:Gv) (f n:Nat) (t:Addr) (x y wd ht:Int) (s B C:Nat) (_:vs=[.ref g.p,.int f,.ref t,.int s]) (_:AD a H g G) (_:Aj G f ((n+1:Nat):Int)) (_:n<=40) (_:Jm G n f) (_:H t=some (.tup [.int x,.int y,.int wd,.int ht])) (_:0<=wd) (_:0<=ht) (_:(0<wd->0<ht->Db x y wd ht (2^40))) (_:s<8) (_:FS G f B) (_:(f=bareN (n+1)/\900<=C)\/17*B+4000<=C\/wd.toNat*ht.toNat*50+B+300<=C) (_:B<=200000) (_:G.length+16*B<7500000) (_:∀(r m:Nat)(G':Gv)(H':Hp),Fr g H H'->AD a H' g G'->AM G G' (16*B+4000)->Aj G' r ((m+1:Nat):Int)->m<=40->Jm G' m r->(∀u v,fieldF G' m r u v=if InB x y wd ht u v then s else fieldF G n f u v)->FS G' r C->Q (.int r) H'):WM a vs H Q
def Ij(a:Ad):Sp:=λvs H Q _=>WM a vs H Q
theorem ok_fill{f:Addr}{fd:FuncData}(F:Fun K "filled" "filled" Mm f fd)(T:Top K mg a)(bM:Cal P w K mg base CX0 1 "check_box" Gu UU)(aC:Cal P w K mg base CX0 1 "lies_within" CJ Py)(aK:Cal P w K mg base CX0 2 "is_state" ED UR)(aG:Cal P w K mg base CX0 5 "widened_over" Dl (spWO a))(bC:Dp P w K mg base CX0 4 a.c_Grove "solid" Fd (Ol a))(a7:Dp P w K mg base CX0 3 a.c_Grove "level_of" Bk (Mb a))(bW:Cal P w K mg base CX0 5 "part_in" JC (spPI a))(bS:Cal P w K mg base CX0 102 "mixed" GP (Px a P w 50))(b7:Cal P w K mg base CX0 4 "trimmed" GO (Oj a)):AI P w K mg base CX0 103 f fd IT (Ij a):=by
 refine F.ok GJ (λvs H Q E h=>?_) (λcdv A outer s H vs Q E hr h=>?_)
 ·obtain⟨g,G,f',n,t,x,y,wd,ht,st,B,C,rfl,_⟩:=h;rfl
 ·obtain⟨g,G,f',n,t,x,y,wd,ht,st,B,C,rfl,fu,lf,n40,tr,hb,w0,h0,far,s8,fs,hC,B2,few,k⟩:=h;refine⟨_,(Ab (Bj (Aq bM (rm hr) rfl Ao (Aa (pv 2) Ac))) (Ab (Ah (i:=4) GJ.nd rfl (Or.inl rfl) (Jz (DD Ea (Am Av (pv 2) Af (λ_ _=>rfl)) Af (Au _)) (OB (DD Ea (Am Av (pv 2) Af (λ_ _=>rfl)) Af (Au _))))) (Ab (AE (PW.pt (Ms (Cm (pv 4)) (IQ (CG (Cm (Aq aC (rm hr) rfl Ao (Aa (pv 2) (Aa (BU rfl T.k_LIMIT) Ac)))))))) (Ae AZ) Ax) (Ab (AE (CG (Cm (Aq aK (rm hr) rfl Ao (Aa (pv 3) Ac)))) (Ae AZ) Ax) (Ab (AE (CG (Cm (pv 4))) (Ae (At (pv 1))) Ax) (Ab (Ah (i:=5) GJ.nd rfl (Or.inl rfl) (Aq aG (rm hr) rfl Ao (Aa (pv 0) (Aa (pv 1) (Aa (pv 2) Ac))))) (Ab (Ah (i:=6) GJ.nd rfl (Or.inl rfl) (AK (pv 0) bC (rm hr) Ao (Aa (AK (pv 0) a7 (rm hr) Ao (Aa (pv 5) Ac)) (Aa (pv 3) Ac)))) (Ae (At (Aq b7 (rm hr) rfl Ao (Aa (pv 0) (Aa (Aq bS (rm hr) rfl Ao (Aa (pv 0) (Aa (pv 6) (Aa (pv 5) (Aa (Aq bW (rm hr) rfl Ao (Aa (pv 0) (Aa (pv 5) (Aa (pv 2) Ac)))) (Aa (Vr (sh:=[false,false,true])) Ac)))))) Ac)))))))))))),?_⟩
  try dsimp only[cxK]
  refine xq1 rfl ⟨t,x,y,wd,ht,rfl,hb,w0,h0,?_⟩;refine ev_val (t:=tAndV (tOp (rI0 λi j=>V.bl (decide (j<i))) (tOp (PN K) (Pt 2) (tC (V.int 2))) (tC (V.int 0))) (tOp (rI0 λi j=>V.bl (decide (j<i))) (tOp (PN K) (Pt 2) (tC (V.int 3))) (tC (V.int 0)))) (λv H1=>v=.bl (decide (0<wd) && decide (0<ht))/\H=H1) (λQ' q'=>?_) ?_
  ·refine xwi rfl rfl rfl (SqT.of hb) (Ag (j:=2) rfl) (xq2 rfl rfl (xq1 rfl ?_));revert q';generalize decide ((0:Int)<wd)=b1;cases b1
   ·intro q';exact AT (q' _ _ ⟨rfl,rfl⟩)
   ·intro q';exact BH (xwi rfl rfl rfl (SqT.of hb) (Ag (j:=3) rfl) (xq2 rfl rfl (q' _ _ ⟨rfl,rfl⟩)))
  rintro v H1 ⟨rfl,rfl⟩;by_cases hp:0<wd/\0<ht
  ·have li:=far hp.1 hp.2;rw[Y1 hp.1,Y1 hp.2];refine xq1 rfl ⟨true,rfl,BH (xq1 rfl ⟨t,x,y,wd,ht,2^40,rfl,hb,(xq1 rfl ?_)⟩)⟩;rw[Y1 li];refine AT (xq1 rfl ⟨(st:Int),rfl,by lia,by lia,true,rfl,AT (xq1 rfl ⟨true,rfl,AT ?_⟩)⟩);refine xw3 rfl rfl rfl ⟨g,G,f',n,t,x,y,wd,ht,rfl,fu,lf,n40,hb,li,by lia,λj w' G1 H1 fr1 fu1 go1 nk wi lw liw _=>?_⟩;have g1:=go1.few;have ft1:H1 t=some (.tup [.int x,.int y,.int wd,.int ht]):=fr1.tup fu.at' hb;obtain⟨qw,ew,elw⟩:=id lw;refine xq1 rfl ⟨g.p,g.dx,(xq1 rfl ⟨fu1.at'.hp,VJ g,(xq1 rfl ⟨g.p,g.dx,(xq1 rfl ⟨fu1.at'.hp,EH g,(xq1 rfl ⟨g,G1,w',qw,rfl,fu1.at',ew,(xq1 rfl ?_)⟩)⟩)⟩)⟩)⟩;refine⟨g,G1,n+j+1,st,by rw[elw];rfl,fu1.at',fu1.ok,by lia,s8,by lia,λi G2 H2 fr2 hg2 go2 so2=>?_⟩;have fu2:=fu1.fr fr2 hg2 go2;have g2:=go2.few;have ft2:H2 t=some (.tup [.int x,.int y,.int wd,.int ht]):=fr2.tup fu1.at' ft1;have lw2:=go2.lev lw;refine xw3 rfl rfl rfl (xw3 rfl rfl rfl (xq1 rfl ⟨g,G2,w',n+j,t,x,y,wd,ht,rfl,fu2,lw2,by lia,ft2,λtp H3 s3 htp=>?_⟩));rw[Wu (by unfold Db at liw;lia),Wu (by unfold Db at liw;lia),Wt (by unfold Db at liw;lia),Wt (by unfold Db at liw;lia)]at htp;intro kn H4 hkn s4 na;have fu4:=(fu2.same s3).same s4;have htp4:=s4 _ _ htp;have nkn:H kn=none:=by
    cases e:H kn with
    |none=>rfl
    |some oo =>
     have z:kn=g.lv\/kn=g.pt\/kn=g.nm:=by
      refine X6 λz=>?_;have q1:=fr1 _ _ e (λq=>z (.inl q)) (λq=>z (.inr (.inl q))) (λq=>z (.inr (.inr q)));have q2:=fr2 _ _ q1 (λq=>z (.inl q)) (λq=>z (.inr (.inl q))) (λq=>z (.inr (.inr q)));rw[s3 _ _ q2]at hkn;cases hkn
     have w3:=(fu2.same s3).nw;obtain⟨o1,e1⟩:=w3.s kn (by simp[BN];lia);rw[hkn]at e1;cases e1
   have kg:kn∉BN g:=λz=>by
    obtain⟨o1,e1⟩:=(fu2.same s3).nw.s kn z;rw[hkn]at e1;cases e1
   obtain⟨r0,e0⟩:=fu4.g0;obtain⟨S,m1,m2,clo,lS,lC⟩:∃S:List Nat,w'∈S/\(∀j,j<=48->bareN j∈S)/\Clo G2 S/\S.length<=B+200/\(17*S.length+50<=C\/wd.toNat*ht.toNat*50+S.length+50<=C):=by
    rcases hC with ⟨rfl,hC⟩|hC
    ·have e1:=A3b fu1.g0;have eb:=Ul e1 fu1.ok A0 (CK e1 (n:=n+1) A0) wi lw;obtain⟨S,h1,h2,h3,h4⟩:=((LP e1 fu1.ok (j:=n+j+1) A0).app go2).ex;obtain⟨S0,q1,q2,q3,q4⟩:=fs.ex;exact⟨S,by rw[eb];exact h1,h2,h3,by lia,.inl A0⟩
    ·obtain⟨S,h1,h2,h3,h4⟩:=(((FS.widN (n:=n) (B:=B) (f:=f') (A3b fu1.g0) fu1.ok (fs.app go1) A0 wi)).app go2).ex;exact⟨S,h1,h2,h3,by lia,hC.imp (λz=>by lia) (λz=>by lia)⟩
   have p2:=Ec (n+j);have e2:(2:Int)^(n+j+1)=2^(n+j)+2^(n+j):=by rw[V1];lia
   have liw':=liw;unfold Db at liw';have sx:GZ (x+2^(n+j)) (x+2^(n+j)+wd) (n+j+1) (x+2^(n+j)) (x+2^(n+j)+wd):=GZ.top A0 A0 A0;have sy:GZ (y+2^(n+j)) (y+2^(n+j)+ht) (n+j+1) (y+2^(n+j)) (y+2^(n+j)+ht):=GZ.top A0 A0 A0;refine⟨g,G2,⟨st,S,x+2^(n+j),x+2^(n+j)+wd,y+2^(n+j),y+2^(n+j)+ht,false⟩,kn,tp,[],i,w',n+j+1,x+2^(n+j),y+2^(n+j),x+2^(n+j)+wd,y+2^(n+j)+ht,rfl,fu4,na,kg,htp4,kok0 _ _,clo,s8,⟨Sol.lev fu2.ok s8 so2,lw2,so2,m1⟩,by lia,by lia,⟨by lia,by lia,by lia,by lia⟩,λ_=>sx,λ_=>sy,⟨by show G2.length+16*S.length<8000000+0;lia,by show 16*S.length<4000000;lia⟩,λm G5 kvs5 H5 x5 fu5 na5 kok5 le5 go5 un5 mx5=>?_⟩;have l5:=kok5.len fu5.ok;have l5:kvs5.length<=16*S.length:=l5;have g5:=go5.few;have g5:G5.length<=G2.length+(kvs5.length-0):=g5;refine⟨g,G5,m,n+j,rfl,fu5,mx5.lev,by lia,λr G6 H6 fr6 fu6 go6 tr6=>?_⟩;have g6:=go6.few;obtain⟨r6,e6⟩:=fu6.g0;obtain⟨m6,hm6,lm6,tm6,em6⟩:=Ii e6 fu6.ok A0 (go6.lev mx5.lev) tr6;have go26:AM G2 G6 (kvs5.length-0+48):=go5.trans go6;have goA:AM G G6 (16*B+4000):=((go1.trans go2).trans go26).mono A0;have md:RT G5 ⟨st,S,x+2^(n+j),x+2^(n+j)+wd,y+2^(n+j),y+2^(n+j)+ht,false⟩ m:=⟨_,n+j+1,i,w',_,_,_,_,⟨rfl,⟨go5.lev (Sol.lev fu2.ok s8 so2),go5.lev lw2,Sol.goes go5 so2,m1⟩,mx5,sx,sy⟩⟩
   have fs5:=fs_mix fu5.ok (clo.app go5) m2 md s8 (λz=>nomatch z);have fs5:FS G5 m (C-50):=by
    rcases lC with lC|lC
    ·exact FS.mono fs5 (show 17*S.length<=C-50 by lia)
    ·exact(fs_area fu5.ok (clo.app go5) m2 (go5.lev (Sol.lev fu2.ok s8 so2)) (go5.lev lw2) m1 mx5 A0 A0 A0 (A:=wd.toNat*ht.toNat) (by rw[show x+2^(n+j)+wd-(x+2^(n+j))=wd by lia,show y+2^(n+j)+ht-(y+2^(n+j))=ht by lia];exact B5 _)).mono A0
   refine k r m6 G6 H6 ?_ fu6 goA lm6 A0 tm6 (λu v=>?_) (((fs5.app go6).trim fu6.ok tr6).mono A0)
   ·intro bb oo e n1 n2 n3;have q1:=fr2 _ _ (fr1 _ _ e n1 n2 n3) n1 n2 n3;have q2:=s4 _ _ (s3 _ _ q1);have q3:=x5.get (b:=bb) (by
     simp only[frM,B9,J9,A0a,not_or];exact⟨n1,n2,n3,λz=>by rw[z,nkn]at e;cases e⟩) q2
    exact fr6 _ _ q3 n1 n2 n3
   ·obtain⟨ra,ea⟩:=fu1.g0;rw[em6 u v,Fp fu5.ok go6 mx5.lev,TJ fu5.ok s8 (Sol.goes go5 so2) liw mx5,Fp fu2.ok go5 lw2,Fp fu1.ok go2 lw,Fv ea fu1.ok A0 wi,Fp fu.ok go1 lf]
  ·have e:(decide (0<wd) && decide (0<ht))=false:=by
    by_cases z:0<wd
    ·rw[Y3 (λq=>hp ⟨z,q⟩),Bool.and_false]
    ·rw[Y3 z,Bool.false_and]
   rw[e];refine xq1 rfl ⟨false,rfl,AT (AT (xq1 rfl ⟨(st:Int),rfl,by lia,by lia,true,rfl,AT (xq1 rfl ⟨false,rfl,BH (xq1 rfl ?_)⟩)⟩))⟩;have fsC:FS G f' C:=by
    rcases hC with ⟨rfl,hC⟩|hC
    ·exact(LP (A3b fu.g0) fu.ok A0).mono A0
    ·exact fs.mono (by rcases hC with hC|hC<;>lia)
   refine k f' n G H (Fr.refl g H) fu ((AM.refl fu.ok).mono A0) lf n40 tr (λu v=>?_) fsC;rw[Y0];unfold InB;lia
end
theorem pow2_le{b:Nat}(h:b<=40):(2:Int)^b<=2^40:=by
 have:=S9 (show 0<2 by decide) h
 exact_mod_cast this
section
variable{P:Program}{w:World}{K:PySem.W.Frag}{mg:Str->Option Value}{base:Heap}{a:Ad}
inductive WK(vs:List V)(H:Hp)(Q:VK):Prop
 |mk (c k:Int) (_:vs=[.int c,.int k]) (_:0<=k) (_:k<=1000) (_:∀v:Int,Q (.int v) H):WK vs H Q
def Oo:Sp:=λvs H Q _=>WK vs H Q
theorem ok_lmix{f:Addr}{fd:FuncData}(F:Fun K "_law_mix" "_law_mix" Iv f fd)(T:Top K mg a):AI P w K mg base CX0 1 f fd FM Oo:=by
 refine F.ok Gi (λvs H Q E h=>?_) (λcdv A outer s H vs Q E hr h=>?_)
 ·obtain⟨c,k,rfl,_⟩:=h;rfl
 ·obtain⟨c,k,rfl,k0,k1,q⟩:=h;refine⟨_,(Ab (Ah (i:=2) Gi.nd rfl (Or.inl rfl) (Ay AW (Ay AW (Ay Ce (pv 0) Af) (Ay EF Af (pv 1))) Af)) (Ab (Ah (i:=2) Gi.nd rfl (Or.inl rfl) (Ay Ce (Ay EF (pv 2) (Ay AW Af (Ay EF Af (pv 1)))) Af)) (Ae (At (Ay Ce (Ay EF (Ay AW (Ay FQ (pv 2) Af) (Ay EF (pv 2) Af)) Af) Af))))),?_⟩
  try dsimp only[cxK]
  refine xwb rfl rfl rfl ⟨A7,(xwb rfl rfl rfl ⟨.inl ⟨by decide,by decide⟩,(xq2 rfl rfl (xq2 rfl rfl ?_))⟩)⟩;refine xw2 rfl rfl (xq2 rfl rfl ⟨.inl ⟨by decide,by decide⟩,(xq2 rfl rfl (xq2 rfl rfl ⟨.inr ⟨by lia,by lia⟩,(xq2 rfl rfl ⟨A7,?_⟩)⟩))⟩);exact xwb rfl rfl rfl ⟨⟨by decide,by decide⟩,(xwb rfl rfl rfl ⟨.inr ⟨by decide,by decide⟩,(xq2 rfl rfl (xq2 rfl rfl ⟨.inr ⟨by decide,by decide⟩,(xq2 rfl rfl ⟨A7,q _⟩)⟩))⟩)⟩
inductive WN(vs:List V)(H:Hp)(Q:VK):Prop
 |mk (c:Int) (_:vs=[.int c]) (_:∀b:Nat,b<=40->Q (.int (b:Int)) H):WN vs H Q
def QW:Sp:=λvs H Q _=>WN vs H Q
theorem ok_bits{f:Addr}{fd:FuncData}(F:Fun K "_law_bits" "_law_bits" Go f fd)(T:Top K mg a):AI P w K mg base CX0 1 f fd Gy QW:=by
 refine F.ok Ox (λvs H Q E h=>?_) (λcdv A outer s H vs Q E hr h=>?_)
 ·obtain⟨c,rfl,_⟩:=h;rfl
 ·obtain⟨c,rfl,q⟩:=h;refine⟨_,(Ab (AE (As Cp (Ay Ce (pv 0) Af) Af (Au _)) (Ae (At (Ay Ce (Ay FQ (pv 0) Af) Af))) Ax) (Ae (At (Ay Ce (Ay FQ (pv 0) Af) Af)))),?_⟩
  try dsimp only[cxK]
  have nat:∀{v:Int},0<=v->v<=40->Q (.int v) H:=λ{v} h0 h1=>by
   obtain⟨n,rfl⟩:=P7 h0;exact q n A0
  refine xwb rfl rfl rfl ⟨A9,rfl,(xq1 rfl ?_)⟩;refine Pa (λ_=>?_) (λ_=>?_)
  ·exact xwb rfl rfl rfl ⟨⟨by decide,by decide⟩,(xq2 rfl rfl ⟨(by show(0:Int)<5;decide),nat (by show 0<=c/2%5;lia) (by show c/2%5<=40;lia)⟩)⟩
  ·exact xwb rfl rfl rfl ⟨⟨by decide,by decide⟩,(xq2 rfl rfl ⟨(by show(0:Int)<41;decide),nat (by show 0<=c/2%41;lia) (by show c/2%41<=40;lia)⟩)⟩
inductive SpPl(vs:List V)(H:Hp)(Q:VK):Prop
 |mk (c k:Int) (b:Nat) (_:vs=[.int c,.int k,.int (b:Int)]) (_:0<=k) (_:k<=1000) (_:b<=40) (_:∀p:Int,-(2^b)<=p->p<2^b->Q (.int p) H):SpPl vs H Q
def spPl:Sp:=λvs H Q _=>SpPl vs H Q
theorem ok_pl{f:Addr}{fd:FuncData}(F:Fun K "_law_place" "_law_place" FD f fd)(T:Top K mg a)(aV:Cal P w K mg base CX0 1 "_law_mix" FM Oo):AI P w K mg base CX0 2 f fd Eg spPl:=by
 refine F.ok Nh (λvs H Q E h=>?_) (λcdv A outer s H vs Q E hr h=>?_)
 ·obtain⟨c,k,b,rfl,_⟩:=h;rfl
 ·obtain⟨c,k,b,rfl,k0,k1,b40,q⟩:=h;have p:=Ec b;have e1:(2:Int)*2^((b:Int)).toNat=2^b+2^b:=by rw[F1];lia
  have e2:(1:Int)*2^((b:Int)).toNat=2^b:=by rw[F1];lia
  refine⟨_,(Ae (At (Ay Cd (Ay Ce (Aq aV (rm hr) rfl Ao (Aa (pv 0) (Aa (pv 1) Ac))) (Ay FP Af (pv 2))) (Ay FP Af (pv 2))))),?_⟩
  try dsimp only[cxK]
  refine xw2 rfl rfl ⟨c,k,rfl,k0,k1,λv=>?_⟩;refine xwb rfl rfl rfl ⟨⟨by lia,by lia,by decide⟩,(xq2 rfl rfl ⟨(by show(0:Int)<2*2^((b:Int)).toNat;lia),(xwb rfl rfl rfl ⟨⟨by lia,by lia,by decide⟩,(xq2 rfl rfl ?_)⟩)⟩)⟩;show Q (.int (v%(2*2^((b:Int)).toNat)-1*2^((b:Int)).toNat)) H;rw[e1,e2];have m1:=T7 v (show(2:Int)^b+2^b≠0 by lia);have m2:=R8 v (show(0:Int)<2^b+2^b by lia);exact q _ A0 A0
end
def stC:List Cl->Int->Int->Nat
 |[],_,_=>0
 |c::cs,x,y=>if x=c.x/\y=c.y then c.s else stC cs x y
theorem Ub{G r0:Gv}(e0:G=G0++r0)(ok:GOk G){cs:List Cl}{n f:Nat}(h:Nz G cs n f):(∀c∈cs,c.s<8)->Jm G n f/\∀x y,fieldF G n f x y=stC cs x y:=by
 induction h with
 |nil =>
  intro _;refine⟨.inl rfl,λx y=>?_⟩;unfold fieldF;split
  ·rename_i z;exact CY e0 ok A3 (CD z.1 z.2.1) (CD z.2.2.1 z.2.2.2)
  ·rfl
 |@cons cs c n f r k w i m h l p l' ih =>
  intro hs;obtain⟨t,e⟩:=ih λc hc=>hs c (B3 _ hc);obtain⟨m',_,lm,tm,em⟩:=PQ e0 ok (hs c (C2 ..)) p;have:m'=m:=by
   have:=Y7 (lm.uniq l');lia
  subst this;refine⟨tm,λx y=>?_⟩;rw[em x y,e x y];rfl
theorem Sk{G:Gv}(ok:GOk G){s:Nat}(s8:s<8):∀{l i x y r:Nat}{S:List Nat},Clo G S->i∈S->Rep G s l i x y r->∃S':List Nat,(∀z∈S,z∈S')/\r∈S'/\Clo G S'/\S'.length<=S.length+l+1
 |0,i,x,y,r,S,h,hi,e=>by
  have e:r=s:=e;subst e;refine⟨r::S,λz hz=>B3 _ hz,by simp,λo ho=>?_,by simp⟩;rcases B9.mp ho with rfl|ho
  ·exact .inl s8
  ·rcases h o ho with z|⟨n',q',a',b',c',d',nd',m'⟩
   ·exact .inl z
   ·exact .inr ⟨n',q',a',b',c',d',nd',B3 _ m'.1,B3 _ m'.2.1,B3 _ m'.2.2.1,B3 _ m'.2.2.2⟩
 |l+1,i,x,y,r,S,h,hi,e=>by
  obtain⟨q,a,b,c,d,j,nd,h1,e⟩:=e;obtain⟨m0,m1,m2,m3⟩:=h.get ok hi nd;have all:∀k,f4 a b c d k∈S/\Aj G (f4 a b c d k) (l:Int):=λk=>by
   unfold f4;split
   ·exact⟨m0,nd.hx⟩
   ·exact⟨m1,nd.hy⟩
   ·exact⟨m2,nd.hz⟩
   ·exact⟨m3,nd.hw⟩
  obtain⟨S1,g1,g2,g3,g4⟩:=Sk ok s8 h (all _).1 h1;have lj:=Rep.lev ok s8 h1;have st:∀k,st4 a b c d (quad l x y) j k∈S1/\Aj G (st4 a b c d (quad l x y) j k) (l:Int):=λk=>by
   unfold st4;split
   ·exact⟨g2,lj⟩
   ·exact⟨g1 _ (all k).1,(all k).2⟩
  have nr:BP G l r _ (st4 a b c d (quad l x y) j 0) (st4 a b c d (quad l x y) j 1) (st4 a b c d (quad l x y) j 2) (st4 a b c d (quad l x y) j 3):=⟨e,rfl,rfl,(st 0).2,(st 1).2,(st 2).2,(st 3).2⟩
  exact⟨r::S1,λz hz=>B3 _ (g1 z hz),by simp,Clo.cons g3 nr ⟨(st 0).1,(st 1).1,(st 2).1,(st 3).1⟩,by simp only[D0];lia⟩
theorem FS.plant{G r0:Gv}(e0:G=G0++r0)(ok:GOk G){n f B s r k w i:Nat}{X Y:Int}(s8:s<8)(h:FS G f B)(p:FZ G n f X Y s r k w i):FS G r (B+300):=by
 have le:=p.le;obtain⟨S,h1,h2,h3,h4⟩:=(h.widN e0 ok A0 p.wid).ex;obtain⟨S',g1,g2,g3,g4⟩:=Sk ok s8 h3 h1 p.rep;have:FS G i (B+5*k+(n+k+2)):=⟨S',g2,λj hj=>g1 _ (h2 j hj),g3,by lia⟩
 exact(this.trim ok p.tr).mono A0
theorem fs_fld{G r0:Gv}(e0:G=G0++r0)(ok:GOk G){cs:List Cl}{n f:Nat}(h:Nz G cs n f):(∀c∈cs,c.s<8)->FS G f (49+300*cs.length):=by
 induction h with
 |nil=>exact λ_=>LP e0 ok (j:=1) A3
 |@cons cs c n f r k w i m h l p l' ih =>
  intro hs;exact((ih λc hc=>hs c (B3 _ hc)).plant e0 ok (hs c (C2 ..)) p).mono (by rw[D0];lia)
structure Vl(G:Gv)(f:Nat)(φ:Int->Int->Nat)(B:Nat):Prop where
 ex:∃n:Nat,(Aj G f ((n+1:Nat):Int)/\Jm G n f/\n<=40)/\∀u v,fieldF G n f u v=φ u v
 fs:FS G f B
theorem Vl.app{G G':Gv}{k f B:Nat}{φ:Int->Int->Nat}(ok:GOk G)(go:AM G G' k)(h:Vl G f φ B):Vl G' f φ B:=by
 obtain⟨n,⟨h1,h2,h3⟩,h4⟩:=h.ex;exact⟨⟨n,⟨go.lev h1,h2.app go,h3⟩,λu v=>by rw[Fp ok go h1];exact h4 u v⟩,h.fs.app go⟩
theorem Vl.eq{G r:Gv}(e0:G=G0++r)(ok:GOk G){f f' B B':Nat}{φ ψ:Int->Int->Nat}(h:Vl G f φ B)(h':Vl G f' ψ B')(e:∀u v,φ u v=ψ u v):f=f':=by
 obtain⟨n,⟨h1,h2,h3⟩,h4⟩:=h.ex;obtain⟨m,⟨g1,g2,g3⟩,g4⟩:=h'.ex;exact(RI e0 ok A0 A0 h1 g1 h2 g2 λu v=>by rw[h4,g4,e]).2
structure Bo where
 x:Int
 y:Int
 wd:Int
 ht:Int
structure BoOk(q:Bo):Prop where
 w0:0<=q.wd
 h0:0<=q.ht
 li:Db q.x q.y q.wd q.ht (2^40)
def BoAt(H:Hp)(t:Addr)(q:Bo):Prop:=H t=some (.tup [.int q.x,.int q.y,.int q.wd,.int q.ht])
def FU(q:Bo)(s:Nat)(φ:Int->Int->Nat)(u v:Int):Nat:=if InB q.x q.y q.wd q.ht u v then s else φ u v
section
variable{P:Program}{w:World}{K:PySem.W.Frag}{mg:Str->Option Value}{base:Heap}{a:Ad}
theorem fill_c{g:GA}{G:Gv}{H:Hp}{Q:VK}{E:XK}{f s B C:Nat}{φ:Int->Int->Nat}{t:Addr}{q:Bo}(fu:AD a H g G)(h:Vl G f φ B)(hb:BoAt H t q)(w0:0<=q.wd)(h0:0<=q.ht)(far:0<q.wd->0<q.ht->Db q.x q.y q.wd q.ht (2^40))(s8:s<8)(hC:∀n:Nat,Aj G f ((n+1:Nat):Int)->(f=bareN (n+1)/\900<=C)\/17*B+4000<=C)(hB:B<=200000)(few:G.length+16*B<7500000)(k:∀(r:Nat)(G':Gv)(H':Hp),Fr g H H'->AD a H' g G'->AM G G' (16*B+4000)->Vl G' r (FU q s φ) C->Q (.int r) H'):Ij a [.ref g.p,.int f,.ref t,.int s] H Q E:=by
 obtain⟨n,⟨h1,h2,h3⟩,h4⟩:=h.ex;refine⟨g,G,f,n,t,q.x,q.y,q.wd,q.ht,s,B,C,rfl,fu,h1,h3,h2,hb,w0,h0,far,s8,h.fs,(hC n h1).imp id Or.inl,hB,few,λr m G' H' fr fu' go lr m40 tr e fs=>k r G' H' fr fu' go ⟨⟨m,⟨lr,tr,m40⟩,λu v=>?_⟩,fs⟩⟩;rw[e u v];unfold FU;split
 ·rfl
 ·exact h4 u v
theorem fill_a{g:GA}{G:Gv}{H:Hp}{Q:VK}{E:XK}{f s B C:Nat}{φ:Int->Int->Nat}{t:Addr}{q:Bo}(fu:AD a H g G)(h:Vl G f φ B)(hb:BoAt H t q)(w0:0<=q.wd)(h0:0<=q.ht)(far:0<q.wd->0<q.ht->Db q.x q.y q.wd q.ht (2^40))(s8:s<8)(hC:q.wd.toNat*q.ht.toNat*50+B+300<=C)(hB:B<=200000)(few:G.length+16*B<7500000)(k:∀(r:Nat)(G':Gv)(H':Hp),Fr g H H'->AD a H' g G'->AM G G' (16*B+4000)->Vl G' r (FU q s φ) C->Q (.int r) H'):Ij a [.ref g.p,.int f,.ref t,.int s] H Q E:=by
 obtain⟨n,⟨h1,h2,h3⟩,h4⟩:=h.ex;refine⟨g,G,f,n,t,q.x,q.y,q.wd,q.ht,s,B,C,rfl,fu,h1,h3,h2,hb,w0,h0,far,s8,h.fs,.inr (.inr hC),hB,few,λr m G' H' fr fu' go lr m40 tr e fs=>k r G' H' fr fu' go ⟨⟨m,⟨lr,tr,m40⟩,λu v=>?_⟩,fs⟩⟩;rw[e u v];unfold FU;split
 ·rfl
 ·exact h4 u v
theorem fill_of{g:GA}{G:Gv}{H:Hp}{Q:VK}{E:XK}{f s B:Nat}{φ:Int->Int->Nat}{t:Addr}{q:Bo}(fu:AD a H g G)(h:Vl G f φ B)(hb:BoAt H t q)(qk:BoOk q)(s8:s<8)(hB:B<=200000)(few:G.length+16*B<7500000)(k:∀(r:Nat)(G':Gv)(H':Hp),Fr g H H'->AD a H' g G'->AM G G' (16*B+4000)->Vl G' r (FU q s φ) (17*B+4000)->Q (.int r) H'):Ij a [.ref g.p,.int f,.ref t,.int s] H Q E:=fill_c fu h hb qk.w0 qk.h0 (λ_ _=>qk.li) s8 (λ_ _=>.inr (B5 _)) hB few k
inductive SpCB(K:PySem.W.Frag)(vs:List V)(H:Hp)(Q:VK):Prop
 |mk (l:Addr) (ns:List Int) (fi:Int) (b:Nat) (_:vs=[.ref l,.int fi,.int (b:Int)]) (_:SqL K H l (ns.map V.int)) (_:0<=fi) (_:fi<=100) (_:b<=40) (_:∀(L:Addr)(ts:List Addr)(cs:List Cl)(H':Hp),Az H H'->H L=none->H' L=some (.lst (ts.map V.ref))->Paired (IC H') ts cs->(∀c∈cs,ClOk c/\1<=c.s)->cs.length<=12->Q (.ref L) H'):SpCB K vs H Q
def spCB(K:PySem.W.Frag):Sp:=λvs H Q _=>SpCB K vs H Q
theorem ok_cb{f:Addr}{fd:FuncData}(F:Fun K "_law_cells_by" "_law_cells_by" DP f fd)(T:Top K mg a)(aE:Cal P w K mg base CX0 1 "_law_at" GQ (spAt K))(aV:Cal P w K mg base CX0 1 "_law_mix" FM Oo)(aF:Cal P w K mg base CX0 2 "_law_place" Eg spPl):AI P w K mg base CX0 3 f fd DU (spCB K):=by
 refine F.ok BC (λvs H Q E h=>?_) (λcdv A outer s H vs Q E hr h=>?_)
 ·obtain⟨l,ns,fi,b,rfl,_⟩:=h;rfl
 ·obtain⟨l,ns,fi,b,rfl,hS,f0,f1,b40,k⟩:=h;refine⟨_,(Ab (Ah (i:=3) BC.nd rfl (Or.inl rfl) (Dj Ac)) (Ab (Ah (i:=4) BC.nd rfl (Or.inl rfl) (Ay Ce (Aq aE (rm hr) rfl Ao (Aa (pv 0) (Aa (pv 1) Ac))) Af)) (Ab (AE (As Cp (Ay Ce (Aq aE (rm hr) rfl Ao (Aa (pv 0) (Aa (pv 1) Ac))) Af) Af (Au _)) (Ae (Ah (i:=4) BC.nd rfl (Or.inl rfl) Af)) Ax) (Ab (BT Z2 rfl (GM rfl T.b_range (Aa (pv 4) Ac)) (AF (i:=5) BC.nd rfl (Or.inl rfl)) (Ab (Ah (i:=6) BC.nd rfl (Or.inl rfl) (Aq aE (rm hr) rfl Ao (Aa (pv 0) (Bv AW (Ay AW (pv 1) Af) (pv 5) Ac)))) (Ae (Bj (CH Z1 Y9 Z0 Bl (pv 3) (BJ (Aa (Aq aF (rm hr) rfl Ao (Aa (pv 6) (Bv AW Af (pv 5) (Aa (pv 2) Ac)))) (Aa (Aq aF (rm hr) rfl Ao (Aa (pv 6) (Bv AW Af (pv 5) (Aa (pv 2) Ac)))) (Bv AW Af (Ay Ce (Aq aV (rm hr) rfl Ao (Aa (pv 6) (Bv AW Af (pv 5) Ac))) Af) Ac))) Ac)))))) (Ae (At (pv 3))))))),?_⟩
  try dsimp only[cxK]
  refine⟨(by show 0<=sizeLine;decide),λL hL=>?_⟩;have s1:=Ak (o:=.lst []) hL;have hL1:upd H L (.lst []) L=some (.lst []):=upd_same;generalize upd H L (.lst [])=H1 at s1 hL1⊢;have hS1:=s1.seq hS;refine⟨_,rfl,_,rfl,l,ns,fi,rfl,hS1,f0,_,_,rfl,rfl,A8,?_⟩;obtain⟨m0,hm0⟩:=P7 (show 0<=atN ns fi%7 by lia);apply meetH (fun σ H'=>H1=H'/\∃m:Nat,m<=12/\σ=[some (.ref l),some (.int fi),some (.int (b:Int)),some (.ref L),some (.int (m:Int)),none,none])
  ·intro rest;refine⟨_,rfl,_,rfl,l,ns,fi,rfl,hS1,f0,_,_,rfl,rfl,(by show(0:Int)<5;decide),rfl,_,rfl,?_⟩;refine(λ(h1:_) h2=>Pa h2 h1) (λ_=>?_) (λ_=>?_)
   ·refine rest _ _ ⟨rfl,m0,by lia,?_⟩;have e:V.int (m0:Int)=V.int (atN ns fi%7):=by rw[hm0]
    rw[e];rfl
   ·exact rest _ _ ⟨rfl,12,B5 _,rfl⟩
  ·rintro σ H' ⟨rfl,m,hm,rfl⟩;refine⟨_,rfl,_,rfl,by lia,by lia,?_⟩;rw[F1];have pb:=pow2_le b40;refine Dw (n:=m) (λj σ H3=>∃(ts:List Addr)(cs:List Cl)(u5 u6:Option V),σ=[some (.ref l),some (.int fi),some (.int (b:Int)),some (.ref L),some (.int (m:Int)),u5,u6]/\Az H H3/\H3 L=some (.lst (ts.map V.ref))/\Paired (IC H3) ts cs/\cs.length=j/\∀c∈cs,ClOk c/\1<=c.s) ⟨[],[],none,none,rfl,s1,hL1,.nil,rfl,λc hc=>(by simp at hc)⟩ ?_ ?_
   ·rintro j σ H3 hj ⟨ts,cs,u5,u6,rfl,sm,hL3,pr,lc,oks⟩;have lts:=Y6 pr;refine⟨_,rfl,_,rfl,_,_,rfl,rfl,_,rfl,_,_,rfl,rfl,l,ns,_,rfl,sm.seq hS,by show 0<=fi+1+(0+(j:Int));lia,?_⟩;refine⟨_,rfl,.inl ⟨rfl,_,SqL.of hL3⟩,_,rfl,_,rfl,_,_,rfl,rfl,_,rfl,?_⟩;refine⟨_,_,b,rfl,by lia,by lia,b40,λxx x1 x2=>?_⟩;refine⟨_,rfl,_,rfl,_,_,rfl,rfl,_,rfl,_,_,b,rfl,by lia,by lia,b40,λyy y1 y2=>?_⟩;refine⟨_,rfl,_,rfl,_,_,rfl,rfl,_,_,rfl,by lia,by lia,λv=>?_⟩;refine⟨_,_,rfl,rfl,A8,_,_,rfl,rfl,(by show 3<=sizeLine;decide),λt ht=>?_⟩;obtain⟨st,hst⟩:=P7 (show 0<=1+v%7 by lia);rw[show(λ(i j:Int)=>V.int (i+j)) 1 (v%7)=V.int (st:Int)from Z5 V.int hst];have s6:=Ak (o:=.tup [.int xx,.int yy,.int st]) ht;have ht6:IC (upd H3 t (.tup [.int xx,.int yy,.int st])) t ⟨xx,yy,st⟩:=upd_same;generalize upd H3 t (.tup [.int xx,.int yy,.int st])=H6 at s6 ht6⊢;have hL6:=s6 _ _ hL3;refine⟨L,_,_,rfl,rfl,hL6,by rw[B0];exact BF A0,?_⟩;have tp:∀{b:Addr}{ys:List V},H6 b=some (.tup ys)->upd H6 L (.lst (ts.map V.ref++[.ref t])) b=some (.tup ys):=λ{b ys} e=>by rw[Al (AS e hL6 A4)];exact e
    refine⟨ts++[t],cs++[⟨xx,yy,st⟩],_,_,rfl,λb o e=>?_,by rw[upd_same,B8];rfl,K2 (PairedM.imp (λb c z=>tp (s6 _ _ z)) pr) (show IC _ t ⟨xx,yy,st⟩from tp ht6),by rw[B4,lc];rfl,λc hc=>?_⟩
    ·rw[Al (An e hL)];exact s6 _ _ (sm _ _ e)
    ·rcases C8.mp hc with z|z
     ·exact oks c z
     ·rw[C5.mp z];exact⟨⟨⟨by show -(2^40)<=xx;lia,by show -(2^40)<=yy;lia,by show xx+1<=2^40;lia,by show yy+1<=2^40;lia⟩,by show st<8;lia⟩,by show 1<=st;lia⟩
   ·rintro σ H3 ⟨ts,cs,u5,u6,rfl,sm,hL3,pr,lc,oks⟩;exact⟨_,rfl,k L ts cs H3 sm hL hL3 pr oks A0⟩
end
end J
namespace J
open PySem L2
def Dx(G:Gv):Nat->Nat->Int->Int->List (List Int)
 |0,i,x,y=>if i=0 then []else [[y,x,(i:Int)]]
 |n+1,i,x,y=>match G[i]? with
  |some q=>(List.range 4).flatMap λk=>Dx G n (q.parts.getD k 0).toNat (x+((k%2:Nat):Int)*2^n) (y+((k/2:Nat):Int)*2^n)
  |none=>[]
def EY(G:Gv)(n:Nat)(f:Nat->Nat)(x y:Int)(k:Nat):List (List Int):=Dx G n (f k) (x+((k%2:Nat):Int)*2^n) (y+((k/2:Nat):Int)*2^n)
theorem MR{α β:Type}{f g:α->List β}:∀{l:List α},(∀x∈l,f x=g x)->l.flatMap f=l.flatMap g
 |[],_=>rfl
 |x::l,h=>by rw[W6,W6,h x (C2 ..),MR λy hy=>h y (B3 _ hy)]
theorem FW{G:Gv}{n i:Nat}{q:Sq}{a b c d:Nat}(h:BP G n i q a b c d)(x y:Int):Dx G (n+1) i x y=(List.range 4).flatMap (EY G n (f4 a b c d) x y):=by
 rw[show Dx G (n+1) i x y=(match G[i]? with|some q=>(List.range 4).flatMap λk=>Dx G n (q.parts.getD k 0).toNat (x+((k%2:Nat):Int)*2^n) (y+((k/2:Nat):Int)*2^n)|none=>[])from rfl,h.g];refine MR λk hk=>?_;have:=(h.nat (by simpa using hk)).1;unfold EY;rw[C1,this];rfl
theorem CV{G:Gv}(ok:GOk G):∀{n i:Nat}{x y:Int},Aj G i (n:Int)->((Dx G n i x y).length:Int)=BD G n i
 |0,i,x,y,_=>by
  show(((if i=0 then []else [[y,x,(i:Int)]]:List (List Int)).length:Nat):Int)=if i=0 then 0 else 1;split<;>rfl
 |n+1,i,x,y,h=>by
  obtain⟨q,a,b,c,d,nd⟩:=AL ok h;rw[FW nd,Em nd];show(((EY G n (f4 a b c d) x y 0++(EY G n (f4 a b c d) x y 1++(EY G n (f4 a b c d) x y 2++(EY G n (f4 a b c d) x y 3++[])))).length:Nat):Int)=BD G n a+(BD G n b+(BD G n c+(BD G n d+0)))
  have e0:=CV ok (x:=x+((0%2:Nat):Int)*2^n) (y:=y+((0/2:Nat):Int)*2^n) nd.hx;have e1:=CV ok (x:=x+((1%2:Nat):Int)*2^n) (y:=y+((1/2:Nat):Int)*2^n) nd.hy;have e2:=CV ok (x:=x+((2%2:Nat):Int)*2^n) (y:=y+((2/2:Nat):Int)*2^n) nd.hz;have e3:=CV ok (x:=x+((3%2:Nat):Int)*2^n) (y:=y+((3/2:Nat):Int)*2^n) nd.hw;rw[<-e0,<-e1,<-e2,<-e3];simp only[B4,T6,Q4];rfl
theorem dm_c(v h:Nat):(v:Int)=((v/h:Nat):Int)*(h:Int)+((v%h:Nat):Int):=by
 have:=M8 v h;rw[<-O8,<-Q4,W5,this]
theorem Ek{G:Gv}(ok:GOk G):∀{n i:Nat}{x y:Int}{r:List Int},Aj G i (n:Int)->(r∈Dx G n i x y ↔ ∃u v:Nat,u<2^n/\v<2^n/\cellF G n i u v≠0/\r=[y+v,x+u,(cellF G n i u v:Int)])
 |0,i,x,y,r,_=>by
  show r∈(if i=0 then []else [[y,x,(i:Int)]]:List (List Int))↔_;constructor
  ·intro h;by_cases z:i=0
   ·rw[Y4 z]at h;cases h
   ·rw[Y0 z]at h;refine⟨0,0,by decide,by decide,z,?_⟩;rw[C5.mp h];show [y,x,(i:Int)]=[y+0,x+0,(i:Int)]
    rw[V2,V2]
  ·rintro⟨u,v,hu,hv,ne,rfl⟩;have hu:u=0:=S4.mp hu;have hv:v=0:=S4.mp hv;subst hu hv;have ne:i≠0:=ne;rw[Y0 ne];show [y+0,x+0,(i:Int)]∈_;rw[V2,V2];exact C5.mpr rfl
 |n+1,i,x,y,r,h=>by
  obtain⟨q,a,b,c,d,nd⟩:=AL ok h;have cc:=DF n;rw[FW nd,List.mem_flatMap];constructor
  ·rintro⟨k,hk,hr⟩;have hk:k<4:=by simpa using hk
   obtain⟨u,v,hu,hv,ne,rfl⟩:=(Ek ok (nd.nat hk).2).mp hr;obtain⟨h1,h2,h3,h4,h5⟩:=Dv hk hu hv;have e:=AJ nd h1 h2;rw[h3,h4,h5]at e;refine⟨_,_,h1,h2,by rw[e];exact ne,?_⟩;rw[e,<-cc,Q4,O8,Q4,O8,W7 ((k/2:Nat):Int),W7 ((k%2:Nat):Int),W1,W1,Int.add_comm (v:Int),Int.add_comm (u:Int)]
  ·rintro⟨u,v,hu,hv,ne,rfl⟩;rw[AJ nd hu hv]at ne⊢;have qk:=Dh hu hv;refine⟨quad n u v,by simpa using qk,(Ek ok (nd.nat qk).2).mpr ⟨u%2^n,v%2^n,F4 _ (AY n),F4 _ (AY n),ne,?_⟩⟩;have q1:quad n u v/2=v/2^n:=by
    have:=CC hu;unfold quad;generalize u/2^n=A at *
    generalize v/2^n=B at *
    lia
   have q2:quad n u v%2=u/2^n:=by
    have:=CC hu;unfold quad;generalize u/2^n=A at *
    generalize v/2^n=B at *
    lia
   rw[q1,q2,<-cc,W1,W1,<-dm_c,<-dm_c]
theorem La{G:Gv}(ok:GOk G):∀{n i:Nat}{x y:Int},Aj G i (n:Int)->(Dx G n i x y).Nodup
 |0,i,x,y,_=>by
  show(if i=0 then []else [[y,x,(i:Int)]]:List (List Int)).Nodup;split
  ·exact U2
  ·simp
 |n+1,i,x,y,h=>by
  obtain⟨q,a,b,c,d,nd⟩:=AL ok h;rw[FW nd,D7,List.pairwise_flatMap];refine⟨λk hk=>?_,?_⟩
  ·have hk:k<4:=by simpa using hk
   exact D7.mp (La ok (nd.nat hk).2)
  ·refine A1g (λ{k j} hk hj kj r hr r' hr' e=>kj ?_) (D7.mp (List.nodup_range (n:=4)));subst e;have hk:k<4:=by simpa using hk
   have hj:j<4:=by simpa using hj
   obtain⟨u,v,hu,hv,ne,e1⟩:=(Ek ok (nd.nat hk).2).mp hr;obtain⟨u',v',hu',hv',ne',e2⟩:=(Ek ok (nd.nat hj).2).mp hr';rw[e1]at e2;injection e2 with f1 e2
   injection e2 with f2 e2
   have cc:=DF n;rw[<-cc]at f1 f2;have side:∀{A B h u u':Nat},A<2->B<2->u<h->u'<h->(A:Int)*(h:Int)+u=(B:Int)*(h:Int)+u'->A=B:=by
    intro A B h u u' hA hB hu hu' e;have hA:A=0\/A=1:=by lia
    have hB:B=0\/B=1:=by lia
    rcases hA with rfl|rfl<;>rcases hB with rfl|rfl<;>simp at e<;>first|rfl|lia
   have g1:=side (A:=k/2) (B:=j/2) A0 A0 hv hv' A0;have g2:=side (A:=k%2) (B:=j%2) A0 A0 hu hu' A0;lia
def kvC(ds:List Cl):List (List Key×V):=ds.map λc=>(kOf [c.x,c.y],V.int (c.s:Int))
theorem SE:∀{ds:List Cl},(ds.map λc=>(c.x,c.y)).Nodup->∀{c:Cl},c∈ds->Bw (kvC ds) (kOf [c.x,c.y])=some (.int (c.s:Int))
 |d::ds,nd,c,hc=>by
  rw[D5,O6]at nd;show Bw ((kOf [d.x,d.y],V.int (d.s:Int))::kvC ds) (kOf [c.x,c.y])=_;rcases B9.mp hc with rfl|hc
  ·exact Bu rfl
  ·rw[Bf λz=>?_]
   ·exact SE nd.2 hc
   ·have z:=LM z;injection z with z1 z
    injection z with z2 z
    exact nd.1 (D4.mpr ⟨c,hc,by rw[z1,z2]⟩)
def rowC(c:Cl):List Int:=[c.y,c.x,(c.s:Int)]
def IS(ds:List Cl)(c:Cl):List Cl:=if ds.any (λd=>decide (d.x=c.x/\d.y=c.y))=true then ds.map (λd=>if d.x=c.x/\d.y=c.y then c else d)else ds++[c]
theorem VU{ds:List Cl}{c d:Cl}:d∈IS ds c↔d=c\/(d∈ds/\¬(d.x=c.x/\d.y=c.y)):=by
 unfold IS;by_cases h:ds.any (λd=>decide (d.x=c.x/\d.y=c.y))=true
 ·rw[Y4 h,D4];obtain⟨z,hz,ez⟩:=R5.mp h;have ez:=Z3 ez;constructor
  ·rintro⟨e,he,rfl⟩;by_cases q:e.x=c.x/\e.y=c.y
   ·rw[Y4 q];exact .inl rfl
   ·rw[Y0 q];exact .inr ⟨he,q⟩
  ·rintro(rfl|⟨hd,q⟩)
   ·exact⟨z,hz,Y4 ez⟩
   ·exact⟨d,hd,Y0 q⟩
 ·rw[Y0 h,C8,C5];have no:∀e∈ds,¬(e.x=c.x/\e.y=c.y):=λe he q=>h (R5.mpr ⟨e,he,Y1 q⟩);constructor
  ·rintro(hd|rfl)
   ·exact .inr ⟨hd,no d hd⟩
   ·exact .inl rfl
  ·rintro(rfl|⟨hd,_⟩)
   ·exact .inr rfl
   ·exact .inl hd
theorem VY(ds:List Cl)(c:Cl):(IS ds c).length<=ds.length+1:=by
 unfold IS;split
 ·rw[B0];lia
 ·rw[B4];exact B5 _
theorem nd_putC {ds:List Cl} {c:Cl} (h:(ds.map λc=>(c.x,c.y)).Nodup):((IS ds c).map λc=>(c.x,c.y)).Nodup:=by
 unfold IS;by_cases q:ds.any (λd=>decide (d.x=c.x/\d.y=c.y))=true
 ·rw[Y4 q,M7];have:((λc:Cl=>(c.x,c.y)) ∘ λd=>if d.x=c.x/\d.y=c.y then c else d)=λd=>(d.x,d.y):=by
   funext d
   show((if d.x=c.x/\d.y=c.y then c else d).x,(if d.x=c.x/\d.y=c.y then c else d).y)=(d.x,d.y)
   split
   ·rename_i z;rw[z.1,z.2]
   ·rfl
  rw[this];exact h
 ·rw[Y0 q,B8,Q7];refine⟨h,by simp,λa ha b hb e=>q ?_⟩;obtain⟨d,hd,rfl⟩:=D4.mp ha;rw[D5,List.map_nil,C5]at hb;rw[hb]at e;injection e with e1 e2
  exact R5.mpr ⟨d,hd,Y1 ⟨e1,e2⟩⟩
theorem SD(ds:List Cl)(c:Cl):Cc (kvC ds) (kOf [c.x,c.y]) (.int (c.s:Int))=kvC (IS ds c):=by
 have key:∀d:Cl,(kOf [d.x,d.y]=kOf [c.x,c.y])↔(d.x=c.x/\d.y=c.y):=λd=>⟨λz=>by
  have z:=LM z;injection z with z1 z
  injection z with z2 z
  exact⟨z1,z2⟩,λz=>by rw[z.1,z.2]⟩
 unfold Cc IS kvC;rw[List.any_map];have:((λkv:List Key×V=>decide (kv.1=kOf [c.x,c.y])) ∘ λc:Cl=>(kOf [c.x,c.y],V.int (c.s:Int)))=λd=>decide (d.x=c.x/\d.y=c.y):=by
  funext d
  exact decide_eq_decide.mpr (key d)
 rw[this];split
 ·rw[M7,M7];congr 1
  funext d
  show(if kOf [d.x,d.y]=kOf [c.x,c.y]then(kOf [d.x,d.y],V.int (c.s:Int))else(kOf [d.x,d.y],V.int (d.s:Int)))=(kOf [(if d.x=c.x/\d.y=c.y then c else d).x,(if d.x=c.x/\d.y=c.y then c else d).y],V.int ((if d.x=c.x/\d.y=c.y then c else d).s:Int))
  by_cases q:d.x=c.x/\d.y=c.y
  ·rw[Y4 ((key d).mpr q),Y4 q,q.1,q.2]
  ·rw[Y0 λz=>q ((key d).mp z),Y0 q]
 ·rw[B8];rfl
structure Of(G:Gv)(n f:Nat)(ds:List Cl):Prop where
 nd:(ds.map λc=>(c.x,c.y)).Nodup
 mem:∀c:Cl,c∈ds↔(1<=c.s/\fieldF G n f c.x c.y=c.s)
theorem TK{G:Gv}(ok:GOk G){n f:Nat}(l:Aj G f ((n+1:Nat):Int)){r:List Int}:r∈Dx G (n+1) f (-(2^n)) (-(2^n)) ↔ ∃x y:Int,fieldF G n f x y≠0/\r=[y,x,(fieldF G n f x y:Int)]:=by
 have c:=DF n;have e:=Mu n;rw[Ek ok l];constructor
 ·rintro⟨u,v,hu,hv,ne,rfl⟩;have ef:fieldF G n f (-(2^n)+u) (-(2^n)+v)=cellF G (n+1) f u v:=by
   unfold fieldF;rw[Y4 ⟨by lia,by lia,by lia,by lia⟩];congr 1<;>lia
  refine⟨-(2^n)+u,-(2^n)+v,by rw[ef];exact ne,by rw[ef]⟩
 ·rintro⟨x,y,ne,rfl⟩;have ne':=ne;unfold fieldF at ne';split at ne'
  ·rename_i z;obtain⟨z1,z2,z3,z4⟩:=z;refine⟨(x+2^n).toNat,(y+2^n).toNat,CD z1 z2,CD z3 z4,ne',?_⟩;unfold fieldF;rw[Y4 ⟨z1,z2,z3,z4⟩,show -(2^n)+(((y+2^n).toNat:Nat):Int)=y by lia,show -(2^n)+(((x+2^n).toNat:Nat):Int)=x by lia]
  ·exact absurd rfl ne'
theorem Of.perm{G:Gv}(ok:GOk G){n f:Nat}(l:Aj G f ((n+1:Nat):Int)){ds:List Cl}(h:Of G n f ds):(Dx G (n+1) f (-(2^n)) (-(2^n))).Perm (ds.map rowC):=by
 refine(List.perm_ext_iff_of_nodup (La ok l) ?_).mpr λr=>?_
 ·rw[D7,L7];have nd:=h.nd;rw[D7,L7]at nd;refine nd.imp λ{c d} hne e=>hne ?_;injection e with e1 e
  injection e with e2 e
  rw[e1,e2]
 ·rw[TK ok l,D4];constructor
  ·rintro⟨x,y,ne,rfl⟩;exact⟨⟨x,y,fieldF G n f x y⟩,(h.mem _).mpr ⟨W2 ne,rfl⟩,rfl⟩
  ·rintro⟨c,hc,rfl⟩;obtain⟨h1,h2⟩:=(h.mem c).mp hc;exact⟨c.x,c.y,by lia,by rw[h2];rfl⟩
theorem Of.cnt{G:Gv}(ok:GOk G){n f:Nat}(l:Aj G f ((n+1:Nat):Int)){ds:List Cl}(h:Of G n f ds):BD G (n+1) f=(ds.length:Int):=by
 rw[<-CV ok (x:=-(2^n)) (y:=-(2^n)) l,(h.perm ok l).length_eq,B0]
theorem dput{H:Hp}{D t:Addr}{ds:List Cl}{c:Cl}(e:H D=some (.dT (kvC ds)))(ht:H t=some (.tup [.int c.x,.int c.y]))(hl:ds.length<1000):Ly H D (.ref t) (.int (c.s:Int)) (upd H D (.dT (kvC (IS ds c)))):=by
 rw[<-SD];exact Ly.t (k:=kOf [c.x,c.y]) e ht (BF (by rw[show(kvC ds).length=ds.length from B0 _];lia))
theorem Mp:∀{l m:List (List Int)},l.Pairwise (λp q=>BR q p=false)->m.Pairwise (λp q=>BR q p=false)->l.Perm m->l=m
 |[],m,_,_,h=>(List.nil_perm.mp h).symm
 |a::l,[],_,_,h=>absurd h.length_eq A5
 |a::l,b::m,h1,h2,h=>by
  rw[R7]at h1 h2;have e:a=b:=by
   have ha:a∈b::m:=h.mem_iff.mp (C2 ..);have hb:b∈a::l:=h.mem_iff.mpr (C2 ..);rcases B9.mp ha with z|z
   ·exact z
   ·rcases B9.mp hb with y|y
    ·exact y.symm
    ·exact Qo (h2.1 a z) (h1.1 b y)
  subst e;rw[Mp h1.2 h2.2 h.cons_inv]
def stO:List Cl->Int->Int->Option Nat
 |[],_,_=>none
 |c::cs,x,y=>if x=c.x/\y=c.y then some c.s else stO cs x y
theorem LD:∀(cs:List Cl)(x y:Int),stC cs x y=(stO cs x y).getD 0
 |[],_,_=>rfl
 |c::cs,x,y=>by
  unfold stC stO;split
  ·rfl
  ·exact LD cs x y
structure Dz(ds cs:List Cl):Prop where
 nd:(ds.map λc=>(c.x,c.y)).Nodup
 mem:∀c:Cl,c∈ds↔stO cs c.x c.y=some c.s
 len:ds.length<=cs.length
theorem Dz.nil:Dz [] []:=⟨by simp,λc=>⟨(λh=>by cases h),λh=>by cases h⟩,B5 _⟩
theorem Dz.put{ds cs:List Cl}{c:Cl}(h:Dz ds cs):Dz (IS ds c) (c::cs):=by
 refine⟨nd_putC h.nd,λd=>?_,by have:=VY ds c;have:=h.len;rw[D0];lia⟩;rw[VU,h.mem];show _↔(if d.x=c.x/\d.y=c.y then some c.s else stO cs d.x d.y)=some d.s;by_cases q:d.x=c.x/\d.y=c.y
 ·rw[Y4 q];constructor
  ·rintro(rfl|⟨_,z⟩)
   ·rfl
   ·exact absurd q z
  ·intro e;refine .inl ?_;cases d;cases c;obtain⟨q1,q2⟩:=q;cases q1;cases q2;cases e;rfl
 ·rw[Y0 q];constructor
  ·rintro(rfl|⟨z,_⟩)
   ·exact absurd ⟨rfl,rfl⟩ q
   ·exact z
  ·exact λz=>.inr ⟨z,q⟩
structure Pm(ds:List Cl)(φ:Int->Int->Nat):Prop where
 nd:(ds.map λc=>(c.x,c.y)).Nodup
 mem:∀c:Cl,c∈ds↔(1<=c.s/\φ c.x c.y=c.s)
theorem stC_ds{ds:List Cl}{φ:Int->Int->Nat}(h:Pm ds φ)(x y:Int):stC ds.reverse x y=φ x y:=by
 have key:∀{es:List Cl},(∀c∈es,1<=c.s/\φ c.x c.y=c.s)->(∃c∈es,c.x=x/\c.y=y)->stC es x y=φ x y:=by
  intro es;induction es with
  |nil=>rintro _ ⟨c,hc,_⟩;cases hc
  |cons d es ih =>
   intro h1 ⟨c,hc,ex,ey⟩;show(if x=d.x/\y=d.y then d.s else stC es x y)=_;by_cases q:x=d.x/\y=d.y
   ·rw[Y4 q,q.1,q.2];exact(h1 d (C2 ..)).2.symm
   ·rw[Y0 q];refine ih (λc hc=>h1 c (B3 _ hc)) ?_;rcases B9.mp hc with rfl|hc
    ·exact absurd ⟨ex.symm,ey.symm⟩ q
    ·exact⟨c,hc,ex,ey⟩
 have non:∀{es:List Cl},(∀c∈es,¬(c.x=x/\c.y=y))->stC es x y=0:=by
  intro es;induction es with
  |nil=>intro _;rfl
  |cons d es ih =>
   intro h1;show(if x=d.x/\y=d.y then d.s else stC es x y)=_;rw[Y0 λq=>h1 d (C2 ..) ⟨q.1.symm,q.2.symm⟩];exact ih λc hc=>h1 c (B3 _ hc)
 by_cases z:φ x y=0
 ·rw[z];refine non λc hc q=>?_;obtain⟨a1,a2⟩:=(h.mem c).mp (U6.mp hc);rw[q.1,q.2,z]at a2;lia
 ·refine key (λc hc=>(h.mem c).mp (U6.mp hc)) ⟨⟨x,y,φ x y⟩,U6.mpr ((h.mem _).mpr ⟨by show 1<=φ x y;lia,rfl⟩),rfl,rfl⟩
structure Vf(G:Gv)(f:Nat)(φ:Int->Int->Nat):Prop where
 ex:∃n,n<=40/\Aj G f ((n+1:Nat):Int)/\Jm G n f/\∀u v,fieldF G n f u v=φ u v
seal L2.PA L2.PE L2.PS L2.PSs L2.PT L2.PW
def Vb(q:It3):List Int:=q.y::q.x::q.r
theorem len_pre{α:Type}{f:Nat->List α}{j:Nat}(hj:j<=4):((List.range j).flatMap f).length<=((List.range 4).flatMap f).length:=by
 match j,hj with
 |0,_=>simp
 |1,_=>simp[N9]
 |2,_=>simp[N9]
 |3,_=>simp[N9]
 |4,_=>exact B5 _
section
variable{P:Program}{w:World}{K:PySem.W.Frag}{mg:Str->Option Value}{base:Heap}{a:Ad}
theorem ok_row{f:Addr}{fd:FuncData}(F:Fun K "by_rows" "by_rows" Ju f fd)(T:Top K mg a):AI P w K mg base CX0 1 f fd JD Ma:=by
 refine F.ok QZ (λvs H Q E h=>?_) (λcdv A outer s H vs Q E hr h=>?_)
 ·obtain⟨t,x,y,r,rfl,_⟩:=h;rfl
 ·obtain⟨t,x,y,r,rfl,ht,k⟩:=h;refine⟨_,(Ae (At (Cn (Aa (Am Av (pv 0) Af (λ_ _=>rfl)) (Aa (Am Av (pv 0) Af (λ_ _=>rfl)) Ac))))),?_⟩
  try dsimp only[cxK]
  exact⟨_,rfl,t,_,1,.int y,rfl,rfl,SqT.of ht,Ag (j:=1) rfl,_,rfl,t,_,0,.int x,rfl,rfl,SqT.of ht,Ag (j:=0) rfl,(by show 2<=sizeLine;decide),λu hu=>k u hu⟩
inductive SpGa(a:Ad)(n:Nat)(vs:List V)(H:Hp)(Q:VK):Prop
 |mk (g:GA) (G:Gv) (i l:Nat) (x y:Int) (L:Addr) (it0:List It3) (_:vs=[.ref g.p,.int i,.int x,.int y,.ref L]) (_:AD a H g G) (_:Aj G i (l:Int)) (_:l<n) (_:H L=some (.lst (it0.map λq=>V.ref q.a))) (_:L∉BN g) (_:(it0.length:Int)+BD G l i<=5000) (_:∀(items:List It3)(H':Hp),Fx [L] H H'->H' L=some (.lst ((it0++items).map λq=>V.ref q.a))->(∀q∈items,H' q.a=some (.tup (q.ns.map V.int)))->items.map Vb=Dx G l i x y->Q .non H'):SpGa a n vs H Q
def spGa(a:Ad)(n:Nat):Sp:=λvs H Q _=>SpGa a n vs H Q
theorem ok_ga{f:Addr}{fd:FuncData}(F:Fun K "gather_cells" "gather_cells" Ev f fd)(T:Top K mg a)(hm:mg "gather_cells" = some (.ref f))(Bi:Ci K fd Co [])(aO:Dp P w K mg base CX0 4 a.c_Grove "state_of" Du (UJ a)):∀n,AI P w K mg base CX0 (n+5) f fd Co (spGa a n)
 |0=>by
  refine F.ok BK (λvs H Q E h=>?_) (λcdv A outer s H vs Q E hr h=>?_)
  ·obtain⟨g,G,i,l,x,y,L,it0,rfl,_,_,h0,_⟩:=h;exact absurd h0 (F5 _)
  ·obtain⟨g,G,i,l,x,y,L,it0,rfl,_,_,h0,_⟩:=h;exact absurd h0 (F5 _)
 |n+1=>by
  have aN:Cal P w K mg base CX0 (n+5) "gather_cells" Co (spGa a n):=⟨f,fd,ok_ga F T hm Bi aO n,hm,F.kp,Bi⟩
  refine F.ok BK (λvs H Q E h=>?_) (λcdv A outer s H vs Q E hr h=>?_)
  ·obtain⟨g,G,i,l,x,y,L,it0,rfl,_⟩:=h;rfl
  ·obtain⟨g,G,i,l,x,y,L,it0,rfl,fu,hl,ln,hL,nL,cn,k⟩:=h;obtain⟨q0,eq0,l0⟩:=id hl;have l48:l<=48:=by have:=(fu.ok.lev eq0).2;lia
   obtain⟨r0,e0⟩:=fu.g0;have nLg:∀z∈BN g,z∉[L]:=λz hz m=>nL (by rw[C5]at m;rw[<-m];exact hz);refine⟨_,(Ab (Ah (i:=5) BK.nd rfl (Or.inl rfl) (Am AB (AO (pv 0) rfl) (pv 1) (λ_ _=>rfl))) (Ab (AE (As Cp (pv 1) (Am AB (AO (pv 0) rfl) (pv 5) (λ_ _=>rfl)) (Au _)) (Ae Sm) Ax) (Ab (AE (As Cp (pv 5) Af (Au _)) (Ab (Bj (CH Z1 Y9 Z0 Bl (pv 4) (BJ (Aa (pv 2) (Aa (pv 3) (Aa (AK (pv 0) aO (rm hr) Ao (Aa (pv 1) Ac)) Ac))) Ac))) (Ae Sm)) Ax) (Ab (Ah (i:=6) BK.nd rfl (Or.inl rfl) (Ay FP Af (Ay Cd (pv 5) Af))) (Ae (BT Z2 rfl (LJ true rfl T.b_enumerate (Aa (Am AB (AO (pv 0) rfl) (pv 1) (λ_ _=>rfl)) Ac)) (Ey rfl (AN (AF (i:=7) BK.nd rfl (Or.inl rfl)) (AN (AF (i:=8) BK.nd rfl (Or.inl rfl)) Di))) (Ae (Bj (Aq aN (rm hr) rfl Ao (Aa (pv 0) (Aa (pv 8) (Bv AW (pv 2) (Ay EF (pv 6) (Ay Ce (pv 7) Af)) (Bv AW (pv 3) (Ay EF (pv 6) (Ay FQ (pv 7) Af)) (Aa (pv 4) Ac)))))))))))))),?_⟩
   try dsimp only[cxK]
   refine⟨_,rfl,g.p,_,g.dx,_,_,rfl,fu.at'.hp,T.cl_Grove,T.na_Grove_levels,DX g,_,rfl,g.lv,_,(i:Int),.int q0.lev,rfl,rfl,SqL.of fu.at'.lv,Ag (by rw[B6,eq0];rfl),?_⟩;refine⟨_,rfl,_,rfl,g.p,_,g.dx,_,_,rfl,fu.at'.hp,T.cl_Grove,T.na_Grove_bares,IB g,_,rfl,g.br,_,q0.lev,.int (bareN l:Int),rfl,rfl,SqL.of fu.br,by rw[l0];exact Ag (bareL_at' A0),rfl,_,rfl,?_⟩;by_cases z:i=bareN l
   ·rw[Y1 (by rw[z])];refine BH (k [] H (Fx.refl _ _) (by rw[L5];exact hL) (λq hq=>nomatch hq) ?_);refine(List.eq_nil_iff_forall_not_mem.mpr λr hr=>?_).symm;obtain⟨u,v,hu,hv,ne,_⟩:=(Ek fu.ok hl).mp hr;rw[z]at ne;exact ne (CY e0 fu.ok l48 hu hv)
   rw[Y3 (by intro e;injection e with e;exact z A0)];refine AT ⟨_,rfl,rfl,_,rfl,?_⟩;cases l with
   |zero =>
    rw[Y1 (by rw[l0];rfl)];have i0:i≠0:=λq=>z (by rw[q];rfl);have c0:=DE G 0 i;refine BH ⟨_,rfl,.inl ⟨rfl,_,SqL.of hL⟩,_,rfl,_,rfl,_,rfl,g.p,g.dx,_,rfl,fu.at'.hp,Ri g,_,rfl,g,G,i,q0,rfl,fu.at',eq0,l0,(by show 3<=sizeLine;decide),λt ht=>?_⟩;have s1:=Ak (o:=.tup [.int x,.int y,.int i]) ht;have hL1:=s1 _ _ hL;refine⟨L,_,.ref t,rfl,rfl,hL1,BF (by rw[B0];lia),k [⟨t,x,y,[(i:Int)]⟩] _ ((Az.fx s1).trans (Qv hL1 (λz=>z))) ?_ (λq hq=>?_) ?_⟩
    ·rw[B8];exact upd_same
    ·rw[C5.mp hq,Al (AS upd_same hL1 A4)];exact upd_same
    ·show _=if i=0 then []else [[y,x,(i:Int)]];rw[Y0 i0];rfl
   |succ m =>
    rw[Y3 (by rw[l0];intro z;injection z with z;lia)];obtain⟨q,c0,c1,c2,c3,nd⟩:=AL fu.ok hl;have eq:q0=q:=Y5 (eq0.symm.trans nd.g);subst eq;obtain⟨ts,t,h3,et,ht⟩:=Ee fu.at' nd;have lpos:=Ec m;have lt64:=Sn (l:=m) A0;refine AT ⟨_,rfl,_,_,rfl,rfl,_,_,rfl,rfl,⟨by lia,by lia,by decide⟩,?_⟩;rw[show(λ(i j:Int)=>V.int (i*2^j.toNat)) 1 (q0.lev-1)=V.int (2^m)from Z5 V.int (by show(1:Int)*2^(q0.lev-1).toNat=2^m;rw[show(q0.lev-1).toNat=m by lia];lia)];refine⟨_,rfl,g.p,_,g.dx,_,_,rfl,fu.at'.hp,T.cl_Grove,T.na_Grove_parts,DV g,_,rfl,g.pt,_,(i:Int),.ref t,rfl,rfl,SqL.of h3,Ag et,t,rfl,⟨_,SqT.of ht⟩,?_⟩;have whole:=FW nd x y;have lenW:=CV fu.ok (x:=x) (y:=y) hl;rw[whole]at lenW;refine Jf (b:=true) (xs:=[.int (c0:Int),.int (c1:Int),.int (c2:Int),.int (c3:Int)]) (λj σ H3=>∃(items:List It3)(u7 u8:Option V),σ=[some (.ref g.p),some (.int i),some (.int x),some (.int y),some (.ref L),some (.int q0.lev),some (.int (2^m)),u7,u8]/\Fx [L] H H3/\H3 L=some (.lst ((it0++items).map λq=>V.ref q.a))/\(∀q∈items,H3 q.a=some (.tup (q.ns.map V.int)))/\items.map Vb=(List.range j).flatMap (EY G m (f4 c0 c1 c2 c3) x y)) ⟨[],none,none,rfl,Fx.refl _ _,(by rw[L5];exact hL),(λq hq=>nomatch hq),rfl⟩ (λj σ H3 _ z=>SqT.of (by obtain⟨_,_,_,_,fx,_⟩:=z;exact fx.tup ht)) ?_ ?_
    ·rintro j v σ H3 T' ev ⟨items,u7,u8,rfl,fx3,hL3,hi3,ei⟩ nT;have hj:j<4:=(B7.mp ev).1;have ev':v=.int (f4 c0 c1 c2 c3 j:Int):=by
      match j,hj,ev with
      |0,_,ev=>cases ev;rfl
      |1,_,ev=>cases ev;rfl
      |2,_,ev=>cases ev;rfl
      |3,_,ev=>cases ev;rfl
     subst ev';have s4:=Ak (o:=.tup [.int j,.int (f4 c0 c1 c2 c3 j)]) nT;refine Le upd_same ?_;generalize upd H3 T' (.tup [.int j,.int (f4 c0 c1 c2 c3 j)])=H4 at s4⊢;have fx4:=fx3.trans (Az.fx s4);have fu4:=fu.fx fx4 nLg;have lj:=(nd.nat hj).2;have next:(List.range (j+1)).flatMap (EY G m (f4 c0 c1 c2 c3) x y)=(List.range j).flatMap (EY G m (f4 c0 c1 c2 c3) x y)++Dx G m (f4 c0 c1 c2 c3 j) (x+((j%2:Nat):Int)*2^m) (y+((j/2:Nat):Int)*2^m):=by
      rw[N9,List.flatMap_append];simp only[W6,List.flatMap_nil,L5];rfl
     have bd:=len_pre (f:=EY G m (f4 c0 c1 c2 c3) x y) (j:=j+1) hj;rw[next,B4,<-ei,B0]at bd;have lc:=CV fu.ok (x:=x+((j%2:Nat):Int)*2^m) (y:=y+((j/2:Nat):Int)*2^m) lj;have ex:x+2^m*((j:Int)%2)=x+((j%2:Nat):Int)*2^m:=by rw[W7];rfl
     have ey:y+2^m*((j:Int)/2)=y+((j/2:Nat):Int)*2^m:=by rw[W7];rfl
     refine⟨_,rfl,_,rfl,_,rfl,_,rfl,_,rfl,_,_,rfl,rfl,A9,_,_,rfl,rfl,.inl ⟨by lia,by lia⟩,_,_,rfl,rfl,?_⟩;refine⟨_,rfl,_,rfl,_,rfl,_,_,rfl,rfl,⟨by decide,by decide⟩,_,_,rfl,rfl,.inl ⟨by lia,by lia⟩,_,_,rfl,rfl,_,rfl,?_⟩;refine⟨g,G,f4 c0 c1 c2 c3 j,m,x+2^m*((j:Int)%2),y+2^m*((j:Int)/2),L,it0++items,rfl,fu4,lj,by lia,s4 _ _ hL3,nL,by rw[B4];lia,λitems5 H5 fx5 hL5 hi5 ei5=>?_⟩;refine⟨items++items5,_,_,rfl,fx4.trans fx5,by rw[<-M6];exact hL5,λq hq=>?_,?_⟩
     ·rcases C8.mp hq with hq|hq
      ·exact fx5.tup (s4 _ _ (hi3 q hq))
      ·exact hi5 q hq
     ·rw[ex,ey]at ei5;rw[next,B8,ei,ei5]
    ·rintro σ H3 ⟨items,u7,u8,rfl,fx3,hL3,hi3,ei⟩;exact k items H3 fx3 hL3 hi3 (by rw[ei,whole];rfl)
theorem RW {out:List It3} (h:MZ out) (nd:(out.map λq=>(q.x,q.y)).Nodup):(out.map Vb).Pairwise (λp q=>BR q p=false):=by
 rw[D7,L7]at nd;rw[L7];refine(h.and nd).imp λ{p q} ⟨h1,h2⟩=>?_;show(if q.y=p.y then(if q.x=p.x then BR q.r p.r else decide (q.x<p.x))else decide (q.y<p.y))=false;have h1:(if q.y=p.y then(if q.x=p.x then BR [] []else decide (q.x<p.x))else decide (q.y<p.y))=false:=h1;by_cases e1:q.y=p.y
 ·rw[Y4 e1]at h1⊢;by_cases e2:q.x=p.x
  ·exact absurd (by rw[e1,e2]) h2
  ·rw[Y0 e2]at h1⊢;exact h1
 ·rw[Y0 e1]at h1⊢;exact h1
def frL(g:GA):List Addr:=[g.am,g.bx]
inductive SpCo(a:Ad)(vs:List V)(H:Hp)(Q:VK):Prop
 |mk (g:GA) (G:Gv) (f n:Nat) (_:vs=[.ref g.p,.int f]) (_:AD a H g G) (_:Aj G f ((n+1:Nat):Int)) (_:n<48) (_:G.length<9000000) (_:BD G (n+1) f<=63) (_:∀(L:Addr)(out:List It3)(H':Hp),Fx (frL g) H H'->AD a H' g G->H L=none->H' L=some (.lst (out.map λq=>V.ref q.a))->(∀q∈out,H' q.a=some (.tup (q.ns.map V.int)))->(out.map Vb).Perm (Dx G (n+1) f (-(2^n)) (-(2^n)))->MZ out->Q (.ref L) H'):SpCo a vs H Q
def spCo(a:Ad):Sp:=λvs H Q _=>SpCo a vs H Q
theorem ok_co{f:Addr}{fd:FuncData}(F:Fun K "cells_of" "cells_of" Ir f fd)(T:Top K mg a)(b8:Dp P w K mg base CX0 51 a.c_Grove "living" EE (UP a))(aA:Cal P w K mg base CX0 4 "reach_of" CQ (Fw a))(aN:Cal P w K mg base CX0 55 "gather_cells" Co (spGa a 50))(bY:Cal P w K mg base CX0 1 "by_rows" JD Ma):AI P w K mg base CX0 56 f fd Iy (spCo a):=by
 refine F.ok Gh (λvs H Q E h=>?_) (λcdv A outer s H vs Q E hr h=>?_)
 ·obtain⟨g,G,f,n,rfl,_⟩:=h;rfl
 ·obtain⟨g,G,f,n,rfl,fu,lf,n48,few,cn,k⟩:=h;refine⟨_,(Ab (AE (As Ea (AK (pv 0) b8 (rm hr) Ao (Aa (pv 1) Ac)) (BU rfl T.k_MOST_CELLS) (Au _)) (Ae AZ) Ax) (Ab (Ah (i:=2) Gh.nd rfl (Or.inl rfl) (Aq aA (rm hr) rfl Ao (Aa (pv 0) (Aa (pv 1) Ac)))) (Ab (Ah (i:=3) Gh.nd rfl (Or.inl rfl) (Dj Ac)) (Ab (Bj (Aq aN (rm hr) rfl Ao (Aa (pv 0) (Aa (pv 1) (Aa (EQ Dd (pv 2)) (Aa (EQ Dd (pv 2)) (Aa (pv 3) Ac))))))) (Ae (At (Rg bY (rm hr) rfl T.b_sorted rfl (Aa (pv 3) Ac)))))))),?_⟩
  try dsimp only[cxK]
  refine⟨_,rfl,g.p,g.dx,_,rfl,fu.at'.hp,Tw g,_,rfl,g,G,f,n+1,rfl,fu,lf,few,λH1 fr1 fu1=>?_⟩;refine⟨_,_,rfl,rfl,_,rfl,?_⟩;rw[Y3 A0];refine AT ⟨_,rfl,_,rfl,g,G,f,n,rfl,fu1.at',lf,n48,(by show 0<=sizeLine;decide),λL hL=>?_⟩;have s2:=Ak (o:=.lst []) hL;have hL2:upd H1 L (.lst []) L=some (.lst (([]:List It3).map λq=>V.ref q.a)):=upd_same;generalize upd H1 L (.lst [])=H2 at s2 hL2⊢;have fu2:=fu1.same s2;have nL:L∉BN g:=λz=>by
   obtain⟨o,e⟩:=fu1.nw.s L z;rw[hL]at e;cases e
  have x1:=FrQ.fx fr1 fu;refine⟨_,rfl,_,rfl,_,rfl,_,rfl,_,rfl,_,rfl,_,rfl,g,G,f,n+1,-(2^n),-(2^n),L,[],rfl,fu2,lf,by lia,hL2,nL,(by show(0:Int)+_<=5000;lia),λitems H3 fx3 hL3 hi3 ei=>?_⟩;have x3:Fx (frL g) H1 H3:=Fx.fresh s2 (fx3.mono A5) hL;have fu3:=fu2.fx fx3 λz hz m=>nL (by rw[C5]at m;rw[<-m];exact hz);have li:items.length<=63:=by
   have:=CV fu.ok (x:=-(2^n)) (y:=-(2^n)) lf;rw[<-ei,B0]at this;lia
  refine⟨_,rfl,L,items,rfl,SqL.of (by rw[List.nil_append]at hL3;exact hL3),by lia,hi3,λL' out H4 s4 nL' pm ru=>?_⟩;have s5:=Ak (o:=.lst (out.map λq=>V.ref q.a)) nL';have s45:Az H3 (upd H4 L' (.lst (out.map λq=>V.ref q.a))):=Az.trans s4 s5;refine k L' out _ ((x1.trans x3).trans (Az.fx s45)) (fu3.same s45) ?_ upd_same (λq hq=>s45 _ _ (hi3 q (pm.mem_iff.mp hq))) (by rw[<-ei];exact pm.map _) ru;cases e:H L' with
  |none=>rfl
  |some o =>
   exfalso;by_cases m:L'∈BN g
   ·obtain⟨o2,e2⟩:=fu3.nw.s L' m;have:=s4 _ _ e2;rw[nL']at this;cases this
   ·have:=s4 _ _ ((x1.trans x3).get (λz=>m (by simp[frL,BN]at *;lia)) e);rw[nL']at this;cases this
end
end J
namespace J
open PySem L2
structure Oh(L:Int->Int->Prop)(b:Bx):Prop where
 inn:∀u v,L u v->b.l<=u/\u<b.l+b.w/\b.t<=v/\v<b.t+b.h
 le:∃v,L b.l v
 to:∃u,L u b.t
 ri:∃v,L (b.l+b.w-1) v
 bo:∃u,L u (b.t+b.h-1)
theorem Qi{l:List Int}(h:l≠[]):mnL l∈l/\∀x∈l,mnL l<=x:=by
 unfold mnL;cases e:l.min? with
 |none=>exact absurd (List.min?_eq_none_iff.mp e) h
 |some m=>exact List.min?_eq_some_iff.mp e
theorem Qh{l:List Int}(h:l≠[]):mxL l∈l/\∀x∈l,x<=mxL l:=by
 unfold mxL;cases e:l.max? with
 |none=>exact absurd (List.max?_eq_none_iff.mp e) h
 |some m=>exact List.max?_eq_some_iff.mp e
theorem Ti{L:Int->Int->Prop}{bs:List Bx}(ne:bs≠[])(h1:∀b∈bs,∃M:Int->Int->Prop,Oh M b/\∀u v,M u v->L u v)(h2:∀u v,L u v->∃b∈bs,b.l<=u/\u<b.l+b.w/\b.t<=v/\v<b.t+b.h):Oh L (MN bs):=by
 have n1:bs.map (·.l)≠[]:=λz=>ne (P3.mp z);have n2:bs.map (·.t)≠[]:=λz=>ne (P3.mp z);have n3:(bs.map λb=>b.l+b.w)≠[]:=λz=>ne (P3.mp z);have n4:(bs.map λb=>b.t+b.h)≠[]:=λz=>ne (P3.mp z);obtain⟨m1,a1⟩:=Qi n1;obtain⟨m2,a2⟩:=Qi n2;obtain⟨m3,a3⟩:=Qh n3;obtain⟨m4,a4⟩:=Qh n4;obtain⟨b1,hb1,e1⟩:=D4.mp m1;obtain⟨b2,hb2,e2⟩:=D4.mp m2;obtain⟨b3,hb3,e3⟩:=D4.mp m3;obtain⟨b4,hb4,e4⟩:=D4.mp m4;unfold MN;refine⟨λu v q=>?_,?_,?_,?_,?_⟩
 ·obtain⟨b,hb,q1,q2,q3,q4⟩:=h2 u v q;have c1:=a1 _ (D4.mpr ⟨b,hb,rfl⟩);have c2:=a2 _ (D4.mpr ⟨b,hb,rfl⟩);have c3:=a3 _ (D4.mpr ⟨b,hb,rfl⟩);have c4:=a4 _ (D4.mpr ⟨b,hb,rfl⟩);dsimp only at c1 c2 c3 c4⊢;lia
 ·obtain⟨M,t,s⟩:=h1 b1 hb1;obtain⟨v,x⟩:=t.le;exact⟨v,by rw[e1]at x;exact s _ _ x⟩
 ·obtain⟨M,t,s⟩:=h1 b2 hb2;obtain⟨v,x⟩:=t.to;exact⟨v,by rw[e2]at x;exact s _ _ x⟩
 ·obtain⟨M,t,s⟩:=h1 b3 hb3;obtain⟨v,x⟩:=t.ri;refine⟨v,?_⟩;dsimp only at e3⊢;rw[e3]at x;have:=s _ _ x;rw[show mnL (bs.map (·.l))+(mxL (bs.map λb=>b.l+b.w)-mnL (bs.map (·.l)))-1=mxL (bs.map λb=>b.l+b.w)-1 by lia];exact this
 ·obtain⟨M,t,s⟩:=h1 b4 hb4;obtain⟨v,x⟩:=t.bo;refine⟨v,?_⟩;dsimp only at e4⊢;rw[e4]at x;have:=s _ _ x;rw[show mnL (bs.map (·.t))+(mxL (bs.map λb=>b.t+b.h)-mnL (bs.map (·.t)))-1=mxL (bs.map λb=>b.t+b.h)-1 by lia];exact this
theorem ML{half:Int}{b:Bx}:∀{obs:List (Option Bx)}{k:Nat},b∈Da half k obs ↔ ∃(j:Nat)(c:Bx),obs[j]?=some (some c)/\b=shB half (k+j) c
 |[],k=>⟨(λh=>by cases h),(λh=>by obtain⟨j,c,h,_⟩:=h;simp at h)⟩
 |none::r,k=>by
  rw[show Da half k (none::r)=Da half (k+1) r from rfl,ML];constructor
  ·rintro⟨j,c,h,e⟩;exact⟨j+1,c,by simpa using h,by rw[e,show k+1+j=k+(j+1) by lia]⟩
  ·rintro⟨j,c,h,e⟩;cases j with
   |zero=>simp at h
   |succ j=>exact⟨j,c,by simpa using h,by rw[e,show k+1+j=k+(j+1) by lia]⟩
 |some d::r,k=>by
  rw[show Da half k (some d::r)=shB half k d::Da half (k+1) r from rfl,B9,ML];constructor
  ·rintro(h|⟨j,c,h,e⟩)
   ·exact⟨0,d,rfl,h⟩
   ·exact⟨j+1,c,by simpa using h,by rw[e,show k+1+j=k+(j+1) by lia]⟩
  ·rintro⟨j,c,h,e⟩;cases j with
   |zero =>
    have h:d=c:=by simpa using h
    subst h;exact .inl e
   |succ j=>exact .inr ⟨j,c,by simpa using h,by rw[e,show k+1+j=k+(j+1) by lia]⟩
def Lv(G:Gv)(n i:Nat)(u v:Int):Prop:=∃a b:Nat,u=a/\v=b/\a<2^n/\b<2^n/\cellF G n i a b≠0
theorem Sz{G:Gv}{n i:Nat}{q:Sq}{a b c d:Nat}(nd:BP G n i q a b c d)(u v:Int):Lv G (n+1) i u v ↔ ∃k,k<4/\Lv G n (f4 a b c d k) (u-2^n*((k:Int)%2)) (v-2^n*((k:Int)/2)):=by
 have cc:=DF n;constructor
 ·rintro⟨x,y,rfl,rfl,hx,hy,ne⟩;rw[AJ nd hx hy]at ne;have x2:=CC hx;have y2:=CC hy;refine⟨quad n x y,Dh hx hy,x%2^n,y%2^n,?_,?_,F4 _ (AY n),F4 _ (AY n),ne⟩
  ·have e:=M8 x (2^n);have q2:((quad n x y:Nat):Int)%2=((x/2^n:Nat):Int):=by
    unfold quad;generalize x/2^n=A at *
    generalize y/2^n=B at *
    lia
   rw[q2,<-cc,<-O8];lia
  ·have e:=M8 y (2^n);have q2:((quad n x y:Nat):Int)/2=((y/2^n:Nat):Int):=by
    unfold quad;generalize x/2^n=A at *
    generalize y/2^n=B at *
    lia
   rw[q2,<-cc,<-O8];lia
 ·rintro⟨k,hk,x,y,ex,ey,hx,hy,ne⟩;obtain⟨h1,h2,h3,h4,h5⟩:=Dv hk hx hy;refine⟨x+2^n*(k%2),y+2^n*(k/2),?_,?_,h1,h2,?_⟩
  ·rw[Q4,O8,cc,show((k%2:Nat):Int)=(k:Int)%2 from rfl];lia
  ·rw[Q4,O8,cc,show((k/2:Nat):Int)=(k:Int)/2 from rfl];lia
  ·rw[AJ nd h1 h2,h3,h4,h5];exact ne
theorem NH{L:Int->Int->Prop}{b:Bx}{half:Int}{k:Nat}(h:Oh L b):Oh (λu v=>L (u-half*((k:Int)%2)) (v-half*((k:Int)/2))) (shB half k b):=by
 obtain⟨v1,a1⟩:=h.le;obtain⟨v2,a2⟩:=h.to;obtain⟨v3,a3⟩:=h.ri;obtain⟨v4,a4⟩:=h.bo;unfold shB;generalize half*((k:Int)%2)=p;generalize half*((k:Int)/2)=q;refine⟨λu v m=>?_,⟨v1+q,?_⟩,⟨v2+p,?_⟩,⟨v3+q,?_⟩,⟨v4+p,?_⟩⟩
 ·have:=h.inn _ _ m;dsimp only;lia
 ·show L (b.l+p-p) (v1+q-q);rw[P9,P9];exact a1
 ·show L (v2+p-p) (b.t+q-q);rw[P9,P9];exact a2
 ·show L (b.l+p+b.w-1-p) (v3+q-q);rw[P9,show b.l+p+b.w-1-p=b.l+b.w-1 by lia];exact a3
 ·show L (v4+p-p) (b.t+q+b.h-1-q);rw[P9,show b.t+q+b.h-1-q=b.t+b.h-1 by lia];exact a4
theorem GW{G:Gv}(ok:GOk G):∀{n i:Nat}{b:Bx},Aj G i (n:Int)->BE G n i=some b->Oh (Lv G n i) b
 |0,i,b,_,h=>by
  have h:(if i=0 then none else some (⟨0,0,1,1⟩:Bx))=some b:=h;by_cases z:i=0
  ·rw[Y4 z]at h;cases h
  ·rw[Y0 z]at h;cases h;have l0:Lv G 0 i 0 0:=⟨0,0,rfl,rfl,by decide,by decide,z⟩
   refine⟨λu v m=>?_,⟨0,l0⟩,⟨0,l0⟩,⟨0,l0⟩,⟨0,l0⟩⟩;obtain⟨x,y,rfl,rfl,hx,hy,_⟩:=m;have hx:x<1:=hx;have hy:y<1:=hy;dsimp only;lia
 |n+1,i,b,l,h=>by
  obtain⟨q,a,b',c,d,nd⟩:=AL ok l;rw[Eo nd]at h;have obs:∀k,k<4->[BE G n a,BE G n b',BE G n c,BE G n d][k]?=some (BE G n (f4 a b' c d k)):=λk hk=>by
   match k,hk with
   |0,_=>rfl
   |1,_=>rfl
   |2,_=>rfl
   |3,_=>rfl
  have key:∀e,e∈Da (2^n) 0 [BE G n a,BE G n b',BE G n c,BE G n d] ↔ ∃k e',k<4/\BE G n (f4 a b' c d k)=some e'/\e=shB (2^n) k e':=λe=>by
   rw[ML];constructor
   ·rintro⟨j,c',hj,rfl⟩;have j4:j<4:=(B7.mp hj).1;rw[obs j j4]at hj;exact⟨j,c',j4,Y5 hj,by rw[O1]⟩
   ·rintro⟨k,e',hk,h1,rfl⟩;exact⟨k,e',by rw[obs k hk,h1],by rw[O1]⟩
  unfold Nk at h;cases hg:Da (2^n) 0 [BE G n a,BE G n b',BE G n c,BE G n d]with
  |nil=>rw[hg]at h;cases h
  |cons e0 es =>
   rw[hg]at h;have h:=Y5 h;rw[hg]at key;subst h;refine Ti A5 (λe he=>?_) λu v m=>?_
   ·obtain⟨k,e',hk,h1,rfl⟩:=(key e).mp he;refine⟨_,NH (GW ok (nd.nat hk).2 h1),λu v m=>(Sz nd u v).mpr ⟨k,hk,m⟩⟩
   ·obtain⟨k,hk,m⟩:=(Sz nd u v).mp m;cases hb:BE G n (f4 a b' c d k)with
    |none =>
     have c0:=(GX ok n _ (nd.nat hk).2).mp hb;obtain⟨x,y,_,_,hx,hy,ne⟩:=m;exact absurd (cell_none ok (nd.nat hk).2 c0 hx hy) ne
    |some e' =>
     have t:=NH (half:=2^n) (k:=k) (GW ok (nd.nat hk).2 hb);exact⟨_,(key _).mpr ⟨k,e',hk,hb,rfl⟩,t.inn u v m⟩
where cell_none {G:Gv} (ok:GOk G):∀{n i x y:Nat},Aj G i (n:Int)->BD G n i=0->x<2^n->y<2^n->cellF G n i x y=0
 |0,i,x,y,_,h,_,_=>by
  have h:(if i=0 then(0:Int)else 1)=0:=h;show i=0;by_cases z:i=0
  ·exact z
  ·rw[Y0 z]at h;lia
 |n+1,i,x,y,l,h,hx,hy=>by
  obtain⟨q,a,b,c,d,nd⟩:=AL ok l;have e:=Em nd;have e:BD G (n+1) i=BD G n a+(BD G n b+(BD G n c+(BD G n d+0))):=e;have ea:=DE G n a;have eb:=DE G n b;have ec:=DE G n c;have ed:=DE G n d;have qk:=Dh hx hy;rw[AJ nd hx hy];refine cell_none ok (nd.nat qk).2 ?_ (F4 _ (AY n)) (F4 _ (AY n));generalize quad n x y=k at qk
  match k,qk with
  |0,_=>show BD G n a=0;lia
  |1,_=>show BD G n b=0;lia
  |2,_=>show BD G n c=0;lia
  |3,_=>show BD G n d=0;lia
seal L2.PA L2.PE L2.PS L2.PSs L2.PT L2.PW
theorem Qm{G:Gv}{n f:Nat}(x y:Int):Lv G (n+1) f (x+2^n) (y+2^n)↔fieldF G n f x y≠0:=by
 have c:=DF n;have e:=Mu n;constructor
 ·rintro⟨u,v,eu,ev,hu,hv,ne⟩;unfold fieldF;rw[Y4 ⟨by lia,by lia,by lia,by lia⟩,show(x+2^n).toNat=u by lia,show(y+2^n).toNat=v by lia];exact ne
 ·intro ne;unfold fieldF at ne;split at ne
  ·rename_i z;obtain⟨z1,z2,z3,z4⟩:=z;exact⟨(x+2^n).toNat,(y+2^n).toNat,by lia,by lia,CD z1 z2,CD z3 z4,ne⟩
  ·exact absurd rfl ne
def mvB(r:Int)(b:Bx):Bx:=⟨b.l+-r,b.t+-r,b.w,b.h⟩
theorem Ps{G:Gv}(ok:GOk G){n f:Nat}(l:Aj G f ((n+1:Nat):Int)){b:Bx}(h:BE G (n+1) f=some b):Oh (λx y=>fieldF G n f x y≠0) (mvB (2^n) b):=by
 have t:=GW ok l h;obtain⟨v1,a1⟩:=t.le;obtain⟨v2,a2⟩:=t.to;obtain⟨v3,a3⟩:=t.ri;obtain⟨v4,a4⟩:=t.bo;have go:∀{u v:Int},Lv G (n+1) f u v->fieldF G n f (u+-(2^n)) (v+-(2^n))≠0:=λ{u v} m=>(Qm _ _).mp (by rw[show u+-(2^n)+2^n=u by lia,show v+-(2^n)+2^n=v by lia];exact m);unfold mvB;refine⟨λx y m=>?_,⟨_,go a1⟩,⟨_,go a2⟩,⟨v3+-(2^n),?_⟩,⟨v4+-(2^n),?_⟩⟩
 ·have:=t.inn _ _ ((Qm x y).mpr m);dsimp only;lia
 ·have:=go a3;rw[show b.l+b.w-1+-(2^n)=b.l+-(2^n)+b.w-1 by lia]at this;exact this
 ·have:=go a4;rw[show b.t+b.h-1+-(2^n)=b.t+-(2^n)+b.h-1 by lia]at this;exact this
theorem Rh{G:Gv}(ok:GOk G){n f:Nat}(l:Aj G f ((n+1:Nat):Int))(h:BE G (n+1) f=none)(x y:Int):fieldF G n f x y=0:=by
 have c:=(GX ok _ _ l).mp h;unfold fieldF;split
 ·rename_i z;exact GW.cell_none ok l c (CD z.1 z.2.1) (CD z.2.2.1 z.2.2.2)
 ·rfl
section
variable{P:Program}{w:World}{K:PySem.W.Frag}{mg:Str->Option Value}{base:Heap}{a:Ad}
inductive Tb(a:Ad)(vs:List V)(H:Hp)(Q:VK):Prop
 |mk (g:GA) (G:Gv) (f n:Nat) (_:vs=[.ref g.p,.int f]) (_:AD a H g G) (_:Aj G f ((n+1:Nat):Int)) (_:n<48) (_:G.length<8000000) (_:(BE G (n+1) f=none->∀H',FrQ g H H'->AD a H' g G->Q .non H')) (_:∀b,BE G (n+1) f=some b->∀t H',FrQ g H H'->AD a H' g G->JU H' t (mvB (2^n) b)->Q (.ref t) H'):Tb a vs H Q
def Os(a:Ad):Sp:=λvs H Q _=>Tb a vs H Q
theorem VE{f:Addr}{fd:FuncData}(F:Fun K "box_of" "box_of" Mn f fd)(T:Top K mg a)(bG:Dp P w K mg base CX0 101 a.c_Grove "span" FN (QT a))(aA:Cal P w K mg base CX0 4 "reach_of" CQ (Fw a))(aB:Cal P w K mg base CX0 1 "shifted_box" CI IK):AI P w K mg base CX0 102 f fd Mz (Os a):=by
 refine F.ok Jp (λvs H Q E h=>?_) (λcdv A outer s H vs Q E hr h=>?_)
 ·obtain⟨g,G,f',n,rfl,_⟩:=h;rfl
 ·obtain⟨g,G,f',n,rfl,fu,lf,n48,few,k0,k1⟩:=h;refine⟨_,(Ab (Ah (i:=2) Jp.nd rfl (Or.inl rfl) (AK (pv 0) bG (rm hr) Ao (Aa (pv 1) Ac))) (Ab (AE (As MB (pv 2) Gp (Au _)) (Ae (At Gp)) Ax) (Ab (Ah (i:=3) Jp.nd rfl (Or.inl rfl) (Aq aA (rm hr) rfl Ao (Aa (pv 0) (Aa (pv 1) Ac)))) (Ae (At (Aq aB (rm hr) rfl Ao (Aa (pv 2) (Aa (EQ Dd (pv 3)) (Aa (EQ Dd (pv 3)) Ac))))))))),?_⟩
  try dsimp only[cxK]
  refine xq1 rfl ⟨g.p,g.dx,(xq1 rfl ⟨fu.at'.hp,no_span g,(xq1 rfl ⟨g,G,f',n+1,rfl,fu,lf,by lia,λhn H1 fr1 fu1=>?_,λb hb t H1 fr1 fu1 ht=>?_⟩)⟩)⟩
  ·exact xq1 rfl ⟨rfl,(xq1 rfl (BH (k0 hn H1 fr1 fu1)))⟩
  ·refine xq1 rfl ⟨rfl,(xq1 rfl (AT ?_))⟩;refine xw2 rfl rfl ⟨g,G,f',n,rfl,fu1.at',lf,n48,?_⟩;refine xw3 rfl rfl rfl (xw2 rfl rfl ⟨t,b,_,_,rfl,ht,λt' ht'=>?_⟩);have s2:=Ak (o:=.tup [.int (b.l+-(2^n)),.int (b.t+-(2^n)),.int b.w,.int b.h]) ht';exact k1 b hb t' _ (fr1.trans (Az.frq s2)) (fu1.same s2) upd_same
end
theorem OX(K:PySem.W.Frag):kitOne K (.type "str") (.type "str")=some true:=by kernel_rfl
structure Rn where
 a:Nat
 c:Nat
def EM(a:Nat):List Nat:=if a=1 then []else Tn.dg a
def wd(r:Rn):List Nat:=EM r.a++[r.c]
def sg:List Nat:=[46,65,66,67,68,69,70,71,47]
def Ch(H:Hp)(t:Addr)(r:Rn):Prop:=H t=some (.tup [.int r.a,.str ⟨#[r.c]⟩])
structure DZ(r:Rn):Prop where
 a1:1<=r.a
 a2:r.a<10^13
 c:r.c∈sg
def txt(rs:List Rn):List Nat:=(rs.map wd).flatten
abbrev runS:Str:=Str.ofString ".ABCDEFG/"
theorem sg_in:∀c∈sg,(!(Builtin.Str.occurrences runS ⟨#[c]⟩ 0 runS.length 1).isEmpty)=true:=by decide +kernel
theorem sg_dig:∀c∈sg,Nu.dig c=false:=by decide
theorem str_e{z:Str}(h:z.cps.toList=[]):z=Str.ofString "" := Nu.ext (by rw[h];decide +kernel)
theorem txt_at{rs:List Rn}{k:Nat}{r:Rn}(h:rs[k]?=some r){p:Nat}(hp:p<(wd r).length):(txt rs)[(txt (rs.take k)).length+p]?=(wd r)[p]?:=by
 have hk:=(B7.mp h).1;have e:txt rs=txt (rs.take k)++(wd r++txt (rs.drop (k+1))):=by
  have:rs=rs.take k++(r::rs.drop (k+1)):=by
   rw[<-(B7.mp h).2,<-List.drop_eq_getElem_cons hk,Q6]
  unfold txt
  conv=>lhs;rw[this]
  rw[B8,U0,D5,List.flatten_cons]
 rw[e,F3 A6,Nat.add_sub_cancel_left,J8 hp]
theorem Pq{rs:List Rn}{k:Nat}{r:Rn}(h:rs[k]?=some r):(txt (rs.take (k+1))).length=(txt (rs.take k)).length+(wd r).length:=by
 unfold txt;rw[D1,h,N3,B8,U0,B4];simp
section
variable{P:Program}{w:World}{K:PySem.W.Frag}{mg:Str->Option Value}{base:Heap}{a:Ad}
def UV:Sp:=λvs H Q _=>∃(z:Str)(n:Nat),vs=[.str z]/\z.cps.toList=EM n/\1<=n/\n<10^13/\Q (.int n) H
theorem ok_amt{f:Addr}{fd:FuncData}(F:Fun K "read_amount" "read_amount" EV f fd)(T:Top K mg a):AI P w K mg base CX0 1 f fd Fb UV:=by
 refine F.ok Mi (λvs H Q E h=>?_) (λcdv A outer s H vs Q E hr h=>?_)
 ·obtain⟨z,n,rfl,_⟩:=h;rfl
 ·obtain⟨z,n,rfl,hz,n1,n2,k⟩:=h;refine⟨_,(Ab (AE (As Cp (pv 0) BM (Au _)) (Ae (At Af)) Ax) (Ab (AE (PW.pt (Fn (As Ea (AA FX rfl T.b_len X9 (Aa (pv 0) Ac)) (BU rfl T.k_MOST_AMOUNT_FIGURES) (Au _)) (Fn (As Cp (Am OZ (pv 0) Af (λ_ _=>rfl)) BM (Au _)) (EZ (As Cp (pv 0) BM (Au _)))))) (Ae AZ) Ax) (Ae (At (Ca Ih rfl T.b_int A0e (Aa (pv 0) Ac)))))),?_⟩
  try dsimp only[cxK]
  refine xq1 rfl ⟨rfl,(xq1 rfl ?_)⟩;by_cases e1:n=1
  ·subst e1;rw[show z=Str.ofString "" from str_e hz,Y1 rfl];exact BH k
  ·have hz':z.cps.toList=Tn.dg n:=by rw[hz];exact Y0 e1
   obtain⟨c,r,ec,nc,_⟩:=Tn.GS n n1;have len:z.length=(Tn.dg n).length:=by rw[Nu.len,hz']
   have l13:=Tn.Fe 12 n n2;have l1:1<=z.length:=by rw[len,ec];exact R0 (J7 _)
   rw[Y3 (by
    intro q;injection q with q
    rw[q]at hz';rw[ec]at hz';exact absurd hz' (by rw[show(Str.ofString "").cps.toList=[] by decide +kernel];intro z;cases z))]
   refine AT (xq1 rfl ⟨z,rfl,Gd A6,(xq2 rfl rfl (xq1 rfl ?_))⟩);rw[Y3 (by omega:¬(13:Int)<(z.length:Int))];refine AT (xq1 rfl ⟨z,0,c,rfl,rfl,Gd A6,Ag (j:=0) (by rw[hz',ec];rfl),rfl,(xq1 rfl ?_)⟩);rw[Y3 (by
    intro q;injection q with q
    have:[c]=[48]:=by
     have:=Z5 (λs:Str=>s.cps.toList) q;rw[show(Str.ofString "0").cps.toList=[48] by decide +kernel]at this;exact this
    injection this with this
    exact nc this)]
   refine AT (xq1 rfl ⟨rfl,(xq1 rfl ?_)⟩);rw[Y3 (by
    intro q;injection q with q
    rw[q,show(Str.ofString "1").cps.toList=Tn.dg 1 by decide +kernel]at hz';exact e1 (Tn.dg_inj hz'.symm))]
   exact AT (xq1 rfl ⟨z,n,rfl,Nu.Wf (by rw[hz'];exact Tn.dg_due n1 n2),by omega,k⟩)
def QV:Sp:=λvs H Q _=>∃(x:Str)(rs:List Rn),vs=[.str x]/\x.cps.toList=txt rs/\(∀r∈rs,DZ r)/\rs.length<=1000/\∀(L:Addr)(ts:List Addr)(H':Hp),H L=none->Az H H'->H' L=some (.lst (ts.map V.ref))->Paired (Ch H') ts rs->Q (.ref L) H'
theorem ok_read{f:Addr}{fd:FuncData}(F:Fun K "read_runs" "read_runs" Gk f fd)(T:Top K mg a)(bD:Cal P w K mg base CX0 1 "read_amount" Fb UV):AI P w K mg base CX0 2 f fd Gr QV:=by
 refine F.ok Cs (λvs H Q E h=>?_) (λcdv A outer s H vs Q E hr h=>?_)
 ·obtain⟨x,rs,rfl,_⟩:=h;rfl
 ·obtain⟨x,rs,rfl,hx,oks,lrs,k⟩:=h;refine⟨_,(Ab (AE (CG (Cm (AA Fs rfl T.b_isinstance X3 (Aa (pv 0) (Aa (GN (v:=.ty "str") rfl T.b_str K6 rfl) Ac))))) (Ae AZ) Ax) (Ab (Ah (i:=1) Cs.nd rfl (Or.inl rfl) (Dj Ac)) (Ab (Ah (i:=2) Cs.nd rfl (Or.inl rfl) BM) (Ab (BT Z2 rfl (Vi (pv 0)) (AF (i:=3) Cs.nd rfl (Or.inl rfl)) (Ae (AE (As JE (pv 3) (Ed rfl T.k_FIGURES) rfl) (Ae (Ah (i:=2) Cs.nd rfl (Or.inl rfl) (Ay EG (pv 2) (pv 3)))) (Ae (AE (As JE (pv 3) (Ed rfl T.k_RUN_SIGNS) rfl) (Ab (Bj (CH Z1 Y9 Z0 Bl (pv 1) (BJ (Aa (Aq bD (rm hr) rfl Ao (Aa (pv 2) Ac)) (Aa (pv 3) Ac)) Ac))) (Ae (Ah (i:=2) Cs.nd rfl (Or.inl rfl) BM))) (Ae AZ)))))) (Ab (AE (As MA (pv 2) BM (Au _)) (Ae AZ) Ax) (Ae (At (pv 1)))))))),?_⟩
  try dsimp only[cxK]
  refine xq1 rfl ⟨_,_,_,.type "str",true,rfl,rfl,.of (.str x),OX K,true,rfl,AT ⟨(by show 0<=sizeLine;decide),λL hL=>?_⟩⟩;have s1:=Ak (o:=.lst []) hL;have hL1:upd H L (.lst []) L=some (.lst []):=upd_same;generalize upd H L (.lst [])=H1 at s1 hL1⊢;refine xq1 rfl ⟨x,rfl,?_⟩;refine for_str (x:=x) (λi σ H2=>∃(kk p:Nat)(z:Str)(ts:List Addr)(u3:Option V),σ=[some (.str x),some (.ref L),some (.str z),u3]/\i=(txt (rs.take kk)).length+p/\(∀r,rs[kk]?=some r->p<=(EM r.a).length/\z.cps.toList=(EM r.a).take p)/\(rs[kk]?=none->p=0/\z.cps.toList=[])/\kk<=rs.length/\Az H H2/\H2 L=some (.lst (ts.map V.ref))/\Paired (Ch H2) ts (rs.take kk)) ⟨0,0,Str.ofString "",[],none,rfl,rfl,λr _=>⟨J7 _,by rw[List.take_zero];decide +kernel⟩,λ_=>⟨rfl,by decide +kernel⟩,J7 _,s1,hL1,.nil⟩ ?_ ?_
  ·rintro i c σ H2 ec ⟨kk,p,z,ts,u3,rfl,rfl,hz,hz0,lk,sm,hL2,pr⟩;have ec':(txt rs)[(txt (rs.take kk)).length+p]?=some c:=by
    rw[<-hx,Array.getElem?_toList];exact ec
   have lts:=Y6 pr;rw[F8]at lts;cases er:rs[kk]? with
   |none =>
    obtain⟨rfl,_⟩:=hz0 er;have hk:rs.length<=kk:=U4.mp er;rw[V0 hk,M0 A6]at ec';cases ec'
   |some r =>
    obtain⟨pl,zt⟩:=hz r er;have rok:=oks r (F6 er);have hk:kk<rs.length:=(B7.mp er).1;have f13:(EM r.a).length<=13:=by
     unfold EM;split
     ·exact J7 _
     ·exact Tn.Fe 12 r.a rok.a2
    have wl:(wd r).length=(EM r.a).length+1:=by unfold wd;rw[B4];rfl
    rw[txt_at er A6]at ec';have zl:z.length=p:=by rw[Nu.len,zt,F8];omega
    refine xwb rfl rfl rfl (xq1 rfl ?_);rw[Nu.NT c];by_cases hp:p<(EM r.a).length
    ·have ec2:(EM r.a)[p]?=some c:=by
      unfold wd at ec';rw[J8 hp]at ec';exact ec'
     have hd:Nu.dig c=true:=by
      have:=F6 ec2;unfold EM at this;split at this
      ·simp at this
      ·exact N5.mp (Tn.JP r.a) c this
     rw[hd];refine BH (xw2 rfl rfl (xq2 rfl rfl ⟨by rw[zl];exact Gd (by show p+1<=10000000;omega),?_⟩));refine⟨kk,p+1,_,ts,(xq1 rfl ⟨by omega,λr' er'=>?_,λen=>(by rw[er]at en;cases en),lk,sm,hL2,pr⟩)⟩;rw[er]at er';cases er';refine⟨hp,?_⟩;rw[Tx.AU,zt,D1,ec2];rfl
    ·have hp':p=(EM r.a).length:=by omega
     subst hp';have ec2:c=r.c:=by
      unfold wd at ec';rw[F3 (B5 _),U8]at ec';exact(Y5 ec').symm
     subst ec2;rw[sg_dig _ rok.c];refine AT (xwb rfl rfl rfl (xq1 rfl ?_));rw[sg_in _ rok.c];refine BH (xq1 rfl ⟨.inl ⟨rfl,_,SqL.of hL2⟩,(xq1 rfl ⟨z,r.a,rfl,by rw[zt,D9],rok.a1,rok.a2,(xq1 rfl ⟨(by show 2<=sizeLine;decide),λt ht=>?_⟩)⟩)⟩);have s3:=Ak (o:=.tup [.int r.a,.str ⟨#[r.c]⟩]) ht;have ht3:Ch (upd H2 t (.tup [.int r.a,.str ⟨#[r.c]⟩])) t r:=upd_same;generalize upd H2 t (.tup [.int r.a,.str ⟨#[r.c]⟩])=H3 at s3 ht3⊢;have hL3:=s3 _ _ hL2;refine⟨L,(xq2 rfl rfl ⟨hL3,by rw[B0];exact BF A6,?_⟩)⟩;have tp:∀{b:Addr}{ys:List V},H3 b=some (.tup ys)->upd H3 L (.lst (ts.map V.ref++[.ref t])) b=some (.tup ys):=λ{b ys} e=>by rw[Al (AS e hL3 A4)];exact e
     refine⟨kk+1,0,Str.ofString "",ts++[t],(xq1 rfl ⟨by rw[Pq er];omega,λr' _=>⟨J7 _,by rw[List.take_zero];decide +kernel⟩,λ_=>⟨rfl,by decide +kernel⟩,by omega,λb o e=>?_,by rw[upd_same,B8];rfl,?_⟩)⟩
     ·rw[Al (An e hL)];exact s3 _ _ (sm _ _ e)
     ·rw[D1,er];exact K2 (PairedM.imp (λb c z=>tp (s3 _ _ z)) pr) (show Ch _ t r from tp ht3)
  ·rintro σ H2 ⟨kk,p,z,ts,u3,rfl,ei,hz,hz0,lk,sm,hL2,pr⟩;have ei:(txt rs).length=(txt (rs.take kk)).length+p:=by
    rw[<-ei,<-hx,F9]
   have ek:kk=rs.length:=by
    refine Nat.le_antisymm lk (R3 λh=>?_);obtain⟨r,er⟩:∃r,rs[kk]?=some r:=⟨_,C0 h⟩
    obtain⟨pl,_⟩:=hz r er;have h1:=Pq er;have h2:(txt (rs.take (kk+1))).length<=(txt rs).length:=by
     have:txt rs=txt (rs.take (kk+1))++txt (rs.drop (kk+1)):=by
      unfold txt;rw[<-U0,<-B8,Q6]
     rw[this,B4];omega
    have wl:(wd r).length=(EM r.a).length+1:=by unfold wd;rw[B4];rfl
    omega
   subst ek;obtain⟨_,ze⟩:=hz0 (M0 (B5 _));rw[D9]at pr;obtain rfl:=str_e ze;exact xq1 rfl ⟨rfl,(xq1 rfl (iteNS rfl (xq1 rfl (k L ts H2 hL sm hL2 pr))))⟩
end
def Cf(n:Int):List Nat:=if n<0 then 45::Tn.dg n.natAbs else Tn.dg n.toNat
theorem IU(n:Int):(Str.ofString (toString n)).cps.toList=Cf n:=by
 unfold Cf
 match n with
 |.ofNat m=>rw[Y0 (by show ¬(m:Int)<0;lia)];exact Tn.QR m
 |.negSucc m =>
  rw[Y4 (Int.negSucc_lt_zero m)];have e:toString (Int.negSucc m)="-" ++ toString ((m+1:Nat):Int):=rfl;have e2:(Str.ofString ("-" ++ toString ((m+1:Nat):Int))).cps.toList=45::(Str.ofString (toString ((m+1:Nat):Int))).cps.toList:=by
   rw[PyProof.Rows.signs_ofString,PyProof.Rows.signs_ofString,String.toList_append,B8];rfl
  rw[e,e2,Tn.QR];rfl
theorem Td:Cf 0=[48]:=by decide +kernel
theorem Sv{n:Int}(h:n≠0):Nu.fig (Cf n)=Tn.dg n.natAbs/\(Nu.neg (Cf n)=true↔n<0):=by
 obtain⟨c,r,ec,_,c45⟩:=Tn.GS n.natAbs A0;unfold Cf;split
 ·rename_i z;exact⟨rfl,λ_=>z,λ_=>rfl⟩
 ·rename_i z;have e:n.toNat=n.natAbs:=by lia
  rw[e];have nn:Nu.neg (Tn.dg n.natAbs)=false:=by
   rw[ec];cases q:Nu.neg (c::r)with
   |false=>rfl
   |true =>
    have:=(Nu.OI _).mp q;simp at this;exact absurd this c45
  exact⟨Nu.FV nn,λq=>(by rw[nn]at q;cases q),λq=>absurd q z⟩
theorem num_due{n:Int}(h:n≠0)(h2:n.natAbs<10^13):Nu.due (Cf n)=some n:=by
 obtain⟨f,g⟩:=Sv h;obtain⟨c,r,ec,c48,c45⟩:=Tn.GS n.natAbs A0;have l13:=Tn.Fe 12 n.natAbs h2;unfold Nu.due;rw[f,Y0,Y4 (Tn.JP _),Tn.Pg]
 ·by_cases z:n<0
  ·rw[Y4 (g.mpr z)];congr 1;lia
  ·rw[Y0 λq=>z (g.mp q)];congr 1;lia
 ·intro q;rcases q with q|q|q
  ·rw[ec]at q;cases q
  ·lia
  ·rw[ec]at q;exact c48 (Y5 q.1)
theorem FR{n:Int}(h2:n.natAbs<10^13):(Cf n).length<=14:=by
 have l13:=Tn.Fe 12 n.natAbs h2;unfold Cf;split
 ·rw[D0];lia
 ·rename_i z;rw[show n.toNat=n.natAbs by lia];lia
theorem VH{n:Int}{c:Nat}(h:c∈Cf n):c=45\/Nu.dig c=true:=by
 unfold Cf at h;split at h
 ·rcases B9.mp h with z|z
  ·exact .inl z
  ·exact .inr (N5.mp (Tn.JP _) c z)
 ·exact .inr (N5.mp (Tn.JP _) c h)
section
variable{P:Program}{w:World}{K:PySem.W.Frag}{mg:Str->Option Value}{base:Heap}{a:Ad}
inductive SpMin(vs:List V)(H:Hp)(Q:VK):Prop
 |mk (x:Str) (_:vs=[.str x]) (_:x.length<=1000) (_:∀y:Str,y.cps.toList=Nu.fig x.cps.toList->Q (.str y) H):SpMin vs H Q
def UN:Sp:=λvs H Q _=>SpMin vs H Q
theorem ok_min{f:Addr}{fd:FuncData}(F:Fun K "without_minus" "without_minus" DK f fd)(T:Top K mg a):AI P w K mg base CX0 1 f fd DQ UN:=by
 refine F.ok Jn (λvs H Q E h=>?_) (λcdv A outer s H vs Q E hr h=>?_)
 ·obtain⟨x,rfl,_⟩:=h;rfl
 ·obtain⟨x,rfl,hx,k⟩:=h;refine⟨_,(Ab (AE (Cm (CH K3 PySem.F.slot_str_startswith PySem.F.type_str_startswith Nt (pv 0) (OD Ac))) (Ae (At (Mw sl_str (pv 0) (Oz Af) OA))) Ax) (Ae (At (pv 0)))),?_⟩
  try dsimp only[cxK]
  refine xq1 rfl ⟨rfl,(xq2 rfl rfl (xq1 rfl ?_))⟩;show if Txt.startswith x (Str.ofString "-")=true then _ else _;rw[Nu.starts];refine Pa (λhn=>?_) (λhn=>?_)
  ·refine xw2 rfl rfl ⟨x,rfl,C4 hx A3,?_⟩;exact k _ (by rw[Nu.cut1',(Nu.MS hn).1])
  ·exact xq1 rfl (k x (Nu.FV (by simpa using hn)).symm)
inductive SpFig(vs:List V)(H:Hp)(Q:VK):Prop
 |mk (x:Str) (m:Nat) (_:vs=[.str x]) (_:x.cps.toList=Tn.dg m) (_:1<=m) (_:m<10^13) (_:∀H',Az H H'->Q (.bl true) H'):SpFig vs H Q
def UT:Sp:=λvs H Q _=>SpFig vs H Q
theorem ok_fig{f:Addr}{fd:FuncData}(F:Fun K "are_figures" "are_figures" DA f fd)(T:Top K mg a):AI P w K mg base CX0 1 f fd Fc UT:=by
 refine F.ok Ml (λvs H Q E h=>?_) (λcdv A outer s H vs Q E hr h=>?_)
 ·obtain⟨x,m,rfl,_⟩:=h;rfl
 ·obtain⟨x,m,rfl,hx,m1,m2,k⟩:=h;obtain⟨c,r,ec,c48,c45⟩:=Tn.GS m m1;have l13:=Tn.Fe 12 m m2;have hl:=Nu.len x;rw[hx]at hl;have l1:1<=(Tn.dg m).length:=by rw[ec];exact R0 (J7 _)
  refine⟨_,(Ab (AE (PW.pt (Fn (As JY (AA FX rfl T.b_len X9 (Aa (pv 0) Ac)) Af (Au _)) (Fn (As Ea (AA FX rfl T.b_len X9 (Aa (pv 0) Ac)) (BU rfl T.k_MOST_FIGURES) (Au _)) (EZ (As Cp (Am OZ (pv 0) Af (λ_ _=>rfl)) BM (Au _)))))) (Ae (At Sr)) Ax) (Ae (At (AA (Ww rfl) rfl T.b_all PyProof.Rows.boot_all (Aa (Dk rfl (BX.of (So:=Ai DA) (No:=Ic) (N:=["sign"]) (k:=1) (cs:=[]) rfl rfl A1) (Vi (pv 0)) (λ_ _ _=>(BQ (i:=0) A1 rfl rfl)) (λ_ _ _=>DC) (λ_ _ _=>(DD JE (pv 0) (Ed rfl T.k_FIGURES) rfl))) Ac))))),?_⟩
  try dsimp only[cxK]
  refine xq1 rfl ⟨x,rfl,Gd A0,(xq2 rfl rfl (xq1 rfl ?_))⟩;rw[Y3 (by lia:¬(x.length:Int)<1)];refine AT (xq1 rfl ⟨x,rfl,Gd A0,(xq2 rfl rfl (xq1 rfl ?_))⟩);rw[Y3 (by lia:¬(30:Int)<(x.length:Int))];refine AT (xq1 rfl ⟨x,0,c,rfl,rfl,Gd A0,Ag (j:=0) (by rw[hx,ec];rfl),rfl,(xq1 rfl ?_)⟩);rw[Y3 (by
   intro q;injection q with q
   have:[c]=[48]:=by
    have:=Z5 (λs:Str=>s.cps.toList) q;rw[show(Str.ofString "0").cps.toList=[48] by decide +kernel]at this;exact this
   injection this with this
   exact c48 this)]
  refine AT (xq1 rfl ⟨x,rfl,?_⟩);refine blk_str (λi acc H2=>H2=H/\acc=(List.replicate i true).map V.bl) ⟨rfl,rfl⟩ ?_ ?_
  ·rintro i ch acc H2 hch ⟨rfl,rfl⟩;have hi:i<(Tn.dg m).length:=by rw[hx]at hch;exact(B7.mp hch).1
   refine⟨⟨[some (.str ⟨#[ch]⟩)],rfl,rfl⟩,by rw[B0,N2];exact BF A0,Nb (xwb rfl rfl rfl ⟨rfl,?_⟩)⟩;rw[Nu.NT,N5.mp (Tn.JP m) ch (by rw[<-hx];exact F6 hch),List.replicate_succ',B8];rfl
  ·rintro acc H2 ⟨rfl,rfl⟩ q nq;refine⟨q,(xq1 rfl ⟨SqL.of upd_same,?_⟩)⟩;rw[List.all_replicate,show(if x.cps.toList.length=0 then true else id true)=true by split<;>rfl];exact k _ (Ak nq)
inductive SpRW(vs:List V)(H:Hp)(Q:VK):Prop
 |mk (x:Str) (n:Int) (_:vs=[.str x]) (_:x.cps.toList=Cf n) (_:n.natAbs<10^13) (_:∀H',Az H H'->Q (.int n) H'):SpRW vs H Q
def spRW:Sp:=λvs H Q _=>SpRW vs H Q
theorem ok_rw{f:Addr}{fd:FuncData}(F:Fun K "read_whole" "read_whole" FA f fd)(T:Top K mg a)(aW:Cal P w K mg base CX0 1 "without_minus" DQ UN)(bE:Cal P w K mg base CX0 1 "are_figures" Fc UT):AI P w K mg base CX0 2 f fd FK spRW:=by
 refine F.ok Nf (λvs H Q E h=>?_) (λcdv A outer s H vs Q E hr h=>?_)
 ·obtain⟨x,n,rfl,_⟩:=h;rfl
 ·obtain⟨x,n,rfl,hx,n2,k⟩:=h;have hl:=Nu.len x;rw[hx]at hl;have l14:=FR n2;refine⟨_,(Ab (AE (CG (Cm (AA Fs rfl T.b_isinstance X3 (Aa (pv 0) (Aa (GN (v:=.ty "str") rfl T.b_str K6 rfl) Ac))))) (Ae AZ) Ax) (Ab (AE (As Cp (pv 0) BM (Au _)) (Ae (At Af)) Ax) (Ab (AE (CG (Cm (Aq bE (rm hr) rfl Ao (Aa (Aq aW (rm hr) rfl Ao (Aa (pv 0) Ac)) Ac)))) (Ae AZ) Ax) (Ae (At (Ca Ih rfl T.b_int A0e (Aa (pv 0) Ac))))))),?_⟩
  try dsimp only[cxK]
  refine xq1 rfl ⟨_,_,_,.type "str",true,rfl,rfl,.of (.str x),OX K,true,rfl,AT (xq1 rfl ⟨rfl,(xq1 rfl ?_)⟩)⟩;by_cases z:n=0
  ·subst z;rw[Y1 (Z5 V.str (Nu.ext (by rw[hx,Td];decide +kernel)))];exact BH (k H (Az.refl H))
  ·obtain⟨f1,f2⟩:=Sv z;obtain⟨c,r,ec,c48,c45⟩:=Tn.GS n.natAbs A0;rw[Y3 (by
    intro q;injection q with q
    have:Cf n=[48]:=by rw[<-hx,q];decide +kernel
    rw[this]at f1;have f1:[48]=Tn.dg n.natAbs:=f1;rw[ec]at f1;injection f1 with f1
    exact c48 f1.symm)]
   refine AT (xq1 rfl ⟨x,rfl,by lia,λy hy=>⟨y,n.natAbs,rfl,by rw[hy,hx,f1],by lia,n2,λH' s1=>⟨true,rfl,AT (xq1 rfl ⟨x,n,rfl,Nu.Wf (by rw[hx];exact num_due z n2),by lia,k H' s1⟩)⟩⟩⟩)
inductive SpRP(vs:List V)(H:Hp)(Q:VK):Prop
 |mk (x:Str) (n:Int) (_:vs=[.str x]) (_:x.cps.toList=Cf n) (_:n.natAbs<10^13) (_:∀H',Az H H'->Q (.int n) H'):SpRP vs H Q
def spRP:Sp:=λvs H Q _=>SpRP vs H Q
theorem ok_rp{f:Addr}{fd:FuncData}(F:Fun K "read_place" "read_place" FB f fd)(T:Top K mg a)(bI:Cal P w K mg base CX0 2 "read_whole" FK spRW):AI P w K mg base CX0 3 f fd FL spRP:=by
 refine F.ok Ia (λvs H Q E h=>?_) (λcdv A outer s H vs Q E hr h=>?_)
 ·obtain⟨x,n,rfl,_⟩:=h;rfl
 ·obtain⟨x,n,rfl,hx,n2,k⟩:=h;refine⟨_,(Ab (ps_try (S:=λ_=>True) rfl rfl rfl rfl rfl T.mx_NoNumber T.ec_NoNumber (λxe pn E1 pass=>(Ae (Ah (i:=1) Ia.nd rfl (Or.inl rfl) (Aq bI (rm hr) rfl Ao (Aa (pv 0) Ac))))) (λea=>(Ae AZ))) (Ab (AE (As Ea (AA Wx rfl T.b_abs PyProof.Rows.boot_abs (Aa (pv 1) Ac)) (BU rfl T.k_MOST_PLACE) (Au _)) (Ae AZ) Ax) (Ae (At (pv 1))))),?_⟩
  try dsimp only[cxK]
  refine xq1 rfl ⟨x,n,rfl,hx,n2,λH' s1=>?_⟩;refine xw2 rfl rfl (xq2 rfl rfl (xq1 rfl ?_));rw[Y3 A0];exact AT (xq1 rfl (k H' s1))
end
def AV(acc:List Rn)(r:Rn):List Rn:=match acc.getLast? with
 |some l=>if l.c=r.c then acc.dropLast++[⟨l.a+r.a,r.c⟩]else acc++[r]
 |none=>acc++[r]
def tog(rs:List Rn):List Rn:=rs.foldl AV []
theorem LY(r:Rn):AV [] r=[r]:=rfl
theorem Bd(acc:List Rn)(l r:Rn):AV (acc++[l]) r=if l.c=r.c then acc++[⟨l.a+r.a,r.c⟩]else acc++[l]++[r]:=by
 unfold AV;rw[P0,List.dropLast_concat]
theorem LZ(acc:List Rn)(r:Rn):(AV acc r).length<=acc.length+1:=by
 rcases J1 acc with rfl|⟨b,l,rfl⟩
 ·exact B5 _
 ·rw[F7,Bd];split
  ·rw[B4,B4];exact O9 _
  ·rw[B4];exact B5 _
theorem LV(rs:List Rn){j:Nat}{r:Rn}(h:rs[j]?=some r):(rs.take (j+1)).foldl AV []=AV ((rs.take j).foldl AV []) r:=by
 rw[D1,h,N8];rfl
theorem LB(rs:List Rn):∀j,((rs.take j).foldl AV []).length<=j
 |0=>B5 _
 |j+1=>by
  cases h:rs[j]? with
  |none =>
   rw[D1,h];show(List.foldl AV [] (List.take j rs++[])).length<=_;rw[L5];exact Nat.le_succ_of_le (LB rs j)
  |some r=>rw[LV rs h];exact C4 (LZ _ _) (R0 (LB rs j))
theorem Rt:∀{l:List Nat}{x:Nat},x∈l->x<=l.sum
 |[],_,h=>by simp at h
 |y::r,x,h=>by
  rw[W0];rcases B9.mp h with rfl|h
  ·omega
  ·have:=Rt h;omega
theorem Mg{α:Type}(y:α):∀(xs:List α)(x:α),(xs++[x]).set xs.length y=xs++[y]
 |[],x=>rfl
 |z::r,x=>by
  show z::(r++[x]).set r.length y=z::(r++[y]);rw[Mg y r x]
theorem tog_sum(rs:List Rn):∀r∈tog rs,r.a<=(rs.map (·.a)).sum:=by
 have key:∀(l acc:List Rn)(m:Nat),(acc.map (·.a)).sum<=m->∀r∈l.foldl AV acc,r.a<=m+(l.map (·.a)).sum:=by
  intro l;induction l with
  |nil =>
   intro acc m h r hr;have:r.a<=(acc.map (·.a)).sum:=Rt (T8 hr);show r.a<=m+0;omega
  |cons x t ih =>
   intro acc m h r hr;have h2:((AV acc x).map (·.a)).sum<=m+x.a:=by
    rcases J1 acc with rfl|⟨b,y,rfl⟩
    ·rw[LY];show x.a+0<=_;omega
    ·rw[F7]at h⊢;rw[Bd];rw[B8,Q0]at h;have h:(b.map (·.a)).sum+(y.a+0)<=m:=h;split
     ·rw[B8,Q0];show(b.map (·.a)).sum+(y.a+x.a+0)<=_;omega
     ·rw[B8,Q0,B8,Q0];show(b.map (·.a)).sum+(y.a+0)+(x.a+0)<=_;omega
   have:=ih (AV acc x) (m+x.a) h2 r hr;rw[D5,W0];omega
 intro r hr;have:=key rs [] 0 (B5 _) r hr;omega
theorem Jk{xs:List V}{x:V}:atI (xs++[x]) (-1)=some x:=by
 unfold atI ixN;rw[Y0 A3,Y4 (by rw[B4,G9];omega)];show(xs++[x])[((-1:Int)+((xs++[x]).length:Nat)).toNat]?=some x;rw[B4,G9,show((-1:Int)+((xs.length+1:Nat):Int)).toNat=xs.length by omega,F3 (B5 _),U8];rfl
theorem Qs(n:Nat):ixN (n+1) (-1)=some n:=by
 unfold ixN;rw[Y0 A3,Y4 A6,show((-1:Int)+((n+1:Nat):Int)).toNat=n by omega]
theorem Uw{α β:Type}{F:α->β->Prop}:∀{us:List α}{acc:List β}{l:β},Paired F us (acc++[l])->∃vs t,us=vs++[t]/\Paired F vs acc/\F t l:=by
 intro us acc;induction acc generalizing us with
 |nil =>
  intro l h;cases h with
  |cons r t=>cases t;exact⟨[],_,rfl,.nil,r⟩
 |cons x r ih =>
  intro l h;cases h with
  |cons q t =>
   obtain⟨vs,t',e,h1,h2⟩:=ih t;exact⟨_::vs,t',by rw[e];rfl,.cons q h1,h2⟩
def wS(r:Rn):Str:=⟨(wd r).toArray⟩
theorem QM(r:Rn):(wS r).cps.toList=wd r:=by unfold wS;simp
theorem wS_of{r:Rn}{z:Str}(h:z.cps.toList=wd r):z=wS r:=Nu.ext (by rw[h,QM])
theorem Ut{r:Rn}(h:r.a<10^30):(wd r).length<=31:=by
 unfold wd EM;rw[B4];split
 ·show 0+1<=31;omega
 ·have:=Tn.Fe 29 r.a h;show _+1<=31;omega
theorem joinT(rs:List Rn):(Str.join (Str.ofString "") (rs.map wS)).cps.toList=txt rs:=by
 rw[Tx.QC,show(Str.ofString "").cps.toList=[] by decide +kernel,Tx.We,M7];unfold txt;exact Z5 List.flatten (V7 λr _=>QM r)
theorem Wd{rs:List Rn}(h:∀r∈rs,r.a<10^30)(l:rs.length<=1000):JoinOk (Str.ofString "") (rs.map wS)=true:=by
 refine Tx.join_ok 31 (λt ht=>?_) ?_
 ·obtain⟨r,hr,rfl⟩:=D4.mp ht;rw[Nu.len,QM];exact Ut (h r hr)
 ·rw[B0,show(Str.ofString "").length=0 by decide +kernel];omega
theorem sum_le{rs:List Rn}(h:∀r∈rs,DZ r):(rs.map (·.a)).sum<=rs.length*10^13:=by
 induction rs with
 |nil=>exact B5 _
 |cons r t ih =>
  have:=ih λx hx=>h x (B3 _ hx);have h1:=(h r C2).a2;rw[D5,W0,D0,Nat.succ_mul];omega
section
variable{P:Program}{w:World}{K:PySem.W.Frag}{mg:Str->Option Value}{base:Heap}{a:Ad}
inductive SpTog(vs:List V)(H:Hp)(Q:VK):Prop
 |mk (R:Addr) (ts:List Addr) (rs:List Rn) (_:vs=[.ref R]) (_:H R=some (.lst (ts.map V.ref))) (_:Paired (Ch H) ts rs) (_:rs.length<=12300) (_:∀(L:Addr)(us:List Addr)(H':Hp),H L=none->Az H H'->H' L=some (.lst (us.map V.ref))->Paired (Ch H') us (tog rs)->Q (.ref L) H'):SpTog vs H Q
def UI:Sp:=λvs H Q _=>SpTog vs H Q
theorem ok_put{f:Addr}{fd:FuncData}(F:Fun K "put_together" "put_together" Eu f fd)(T:Top K mg a):AI P w K mg base CX0 1 f fd EB UI:=by
 refine F.ok CM (λvs H Q E h=>?_) (λcdv A outer s H vs Q E hr h=>?_)
 ·obtain⟨R,ts,rs,rfl,_⟩:=h;rfl
 ·obtain⟨R,ts,rs,rfl,hR,pr,lrs,k⟩:=h;have lts:=Y6 pr;refine⟨_,(Ab (Ah (i:=1) CM.nd rfl (Or.inl rfl) (Dj Ac)) (Ab (BT Z2 rfl (Cg (pv 0)) (Ey rfl (AN (AF (i:=2) CM.nd rfl (Or.inl rfl)) (AN (AF (i:=3) CM.nd rfl (Or.inl rfl)) Di))) (Ae (AE (PW.pt (Ms (As Ea (AA BV rfl T.b_len X9 (Aa (pv 1) Ac)) Af (Au _)) (IQ (As Cp (Am Av (Am AB (pv 1) (EQ Dd Af) (λ_ _=>rfl)) Af (λ_ _=>rfl)) (pv 3) (Au _))))) (Ae (Re (Cn (Bv AW (Am Av (Am AB (pv 1) (EQ Dd Af) (λ_ _=>rfl)) Af (λ_ _=>rfl)) (pv 2) (Aa (pv 3) Ac))) (Rf (pv 1) (EQ Dd Af) Mf))) (Ae (Bj (CH Z1 Y9 Z0 Bl (pv 1) (BJ (Aa (pv 2) (Aa (pv 3) Ac)) Ac))))))) (Ae (At (pv 1))))),?_⟩
  try dsimp only[cxK]
  refine⟨(by show 0<=sizeLine;decide),λL hL=>?_⟩;have s1:=Ak (o:=.lst []) hL;have hL1:upd H L (.lst []) L=some (.lst []):=upd_same;generalize upd H L (.lst [])=H1 at s1 hL1⊢;refine xq1 rfl ⟨R,rfl,⟨_,SqL.of (s1 _ _ hR)⟩,?_⟩;refine EJ (xs:=ts.map V.ref) (λj σ H2=>∃(us:List Addr)(u2 u3:Option V),σ=[some (.ref R),some (.ref L),u2,u3]/\Az H H2/\H2 L=some (.lst (us.map V.ref))/\Paired (Ch H2) us ((rs.take j).foldl AV [])) ⟨[],none,none,rfl,s1,hL1,.nil⟩ (λj σ H2 _ ⟨_,_,_,_,sm,_⟩=>SqL.of (sm _ _ hR)) ?_ ?_
  ·rintro j v σ H2 ev ⟨us,u2,u3,rfl,sm,hL2,pu⟩;rw[B6]at ev;obtain⟨t,et,rfl⟩:=D6.mp ev;obtain⟨r,er,ht⟩:=PairedM.getL pr et;have hj:j<rs.length:=(B7.mp er).1;have ht2:Ch H2 t r:=sm _ _ ht;have la:=LB rs j;have lus:=Y6 pu;refine Le ht2 ?_;have new:∀{D:St->Hp->Prop},(∀(t':Addr)(H4:Hp),Az H2 H4->H4 t'=some (.tup [.int r.a,.str ⟨#[r.c]⟩])->H4 L=some (.lst (us.map V.ref))->True)->True:=λ_=>trivial;have app:∀(t':Addr),H2 t'=none->(∀acc,acc=(rs.take j).foldl AV []->AV acc r=acc++[r])->Az H (upd (upd H2 t' (.tup [.int r.a,.str ⟨#[r.c]⟩])) L (.lst (us.map V.ref++[.ref t'])))/\upd (upd H2 t' (.tup [.int r.a,.str ⟨#[r.c]⟩])) L (.lst (us.map V.ref++[.ref t'])) L=some (.lst ((us++[t']).map V.ref))/\Paired (Ch (upd (upd H2 t' (.tup [.int r.a,.str ⟨#[r.c]⟩])) L (.lst (us.map V.ref++[.ref t'])))) (us++[t']) ((rs.take (j+1)).foldl AV []):=λt' nt hst=>by
    have s3:=Ak (o:=.tup [.int r.a,.str ⟨#[r.c]⟩]) nt;have ht3:Ch (upd H2 t' (.tup [.int r.a,.str ⟨#[r.c]⟩])) t' r:=upd_same;generalize upd H2 t' (.tup [.int r.a,.str ⟨#[r.c]⟩])=H3 at s3 ht3⊢;have hL3:=s3 _ _ hL2;have tp:∀{b:Addr}{ys:List V}{o:HO},H3 b=some (.tup ys)->upd H3 L o b=some (.tup ys):=λ{b ys o} e=>by rw[Al (AS e hL3 A4)];exact e
    refine⟨λb o e=>?_,by rw[upd_same,B8];rfl,?_⟩
    ·rw[Al (An e hL)];exact s3 _ _ (sm _ _ e)
    ·rw[LV rs er,hst _ rfl];exact K2 (PairedM.imp (λb c z=>tp (s3 _ _ z)) pu) (show Ch _ t' r from tp ht3)
   refine xq1 rfl ⟨L,(xq1 rfl ⟨.inl (SqL.of hL2),(xq2 rfl rfl (xq1 rfl ?_))⟩)⟩;generalize hacc:(rs.take j).foldl AV []=acc at pu la lus app;rcases J1 acc with rfl|⟨b,l,rfl⟩
   ·cases pu;refine AT (AT (xq1 rfl ⟨.inl ⟨rfl,_,SqL.of hL2⟩,(xw2 rfl rfl ⟨(by show 2<=sizeLine;decide),λt' nt=>?_⟩)⟩));obtain⟨a1,a2,a3⟩:=app t' nt λacc e=>by subst e;rfl
    refine⟨L,(xq2 rfl rfl ⟨Ak nt _ _ hL2,(by show 0<sizeLine;decide),⟨_,_,_,rfl,a1,a2,a3⟩⟩)⟩
   ·rw[F7]at hacc pu la lus app;obtain⟨vs,tl,rfl,pv,htl⟩:=Uw pu;rw[B8]at hL2;have hL2:H2 L=some (.lst (vs.map V.ref++[.ref tl])):=hL2;have pos:(0:Int)<(((vs++[tl]).map V.ref).length:Int):=by rw[B0,B4,G9];omega
    rw[Y1 pos];refine BH (xwj rfl rfl rfl rfl (SqL.of hL2) Jk (xq4 rfl rfl (SqT.of htl) (Ag (j:=1) rfl) (xq1 rfl ⟨rfl,(xq1 rfl ?_)⟩)));by_cases ec:l.c=r.c
    ·rw[ec,Y1 rfl];refine BH (xwj rfl rfl rfl rfl (SqL.of hL2) Jk (xq4 rfl rfl (SqT.of htl) (Ag (j:=0) rfl) (xwb rfl rfl rfl (xq1 rfl ⟨(by show 2<=sizeLine;decide),λt' nt=>?_⟩))));have s3:=Ak (o:=.tup [.int ((l.a:Int)+(r.a:Int)),.str ⟨#[r.c]⟩]) nt;have ht3:Ch (upd H2 t' (.tup [.int ((l.a:Int)+(r.a:Int)),.str ⟨#[r.c]⟩])) t' ⟨l.a+r.a,r.c⟩:=upd_same;generalize upd H2 t' (.tup [.int ((l.a:Int)+(r.a:Int)),.str ⟨#[r.c]⟩])=H3 at s3 ht3⊢;have hL3:=s3 _ _ hL2;have tp:∀{b:Addr}{ys:List V}{o:HO},H3 b=some (.tup ys)->upd H3 L o b=some (.tup ys):=λ{b ys o} e=>by rw[Al (AS e hL3 A4)];exact e
     refine xw2 rfl rfl ⟨L,_,-1,vs.length,rfl,rfl,hL3,by rw[B4,B0];exact Qs _,?_⟩;have es:(vs.map V.ref++[V.ref tl]).set vs.length (.ref t')=(vs++[t']).map V.ref:=by
      have:=Mg (V.ref t') (vs.map V.ref) (.ref tl);rw[B0]at this;rw[this,B8];rfl
     rw[es];refine⟨vs++[t'],_,_,rfl,λb o e=>?_,upd_same,?_⟩
     ·rw[Al (An e hL)];exact s3 _ _ (sm _ _ e)
     ·rw[LV rs er,hacc,Bd,Y4 ec];exact K2 (PairedM.imp (λb c z=>tp (s3 _ _ z)) pv) (show Ch _ t' ⟨l.a+r.a,r.c⟩from tp ht3)
    ·rw[Y3 (by
      intro q;injection q with q
      have:[l.c]=[r.c]:=Z5 (λs:Str=>s.cps.toList) q;injection this with this
      exact ec this)]
     refine AT (xq1 rfl ⟨.inl ⟨rfl,_,SqL.of hL2⟩,(xw2 rfl rfl ⟨(by show 2<=sizeLine;decide),λt' nt=>?_⟩)⟩);obtain⟨a1,a2,a3⟩:=app t' nt λacc e=>by rw[e,Bd,Y0 ec]
     have hL2':H2 L=some (.lst ((vs++[tl]).map V.ref)):=by rw[B8];exact hL2
     refine⟨L,(xq2 rfl rfl ⟨Ak nt _ _ hL2',by rw[B0,lus];exact BF A6,⟨_,_,_,rfl,a1,a2,a3⟩⟩)⟩
  ·rintro σ H2 ⟨us,u2,u3,rfl,sm,hL2,pu⟩;rw[B0,lts,D9]at pu;exact xq1 rfl (k L us H2 hL sm hL2 pu)
inductive WH(vs:List V)(H:Hp)(Q:VK):Prop
 |mk (r:Rn) (_:vs=[.int r.a,.str ⟨#[r.c]⟩]) (_:r.a<10^30) (_:∀z:Str,z.cps.toList=wd r->Q (.str z) H):WH vs H Q
def QU:Sp:=λvs H Q _=>WH vs H Q
theorem ok_show{f:Addr}{fd:FuncData}(F:Fun K "shown_run" "shown_run" Gj f fd)(T:Top K mg a):AI P w K mg base CX0 1 f fd Gq QU:=by
 refine F.ok Ou (λvs H Q E h=>?_) (λcdv A outer s H vs Q E hr h=>?_)
 ·obtain⟨r,rfl,_⟩:=h;rfl
 ·obtain⟨r,rfl,ra,k⟩:=h;refine⟨_,(Ab (AE (As Cp (pv 0) Af (Au _)) (Ae (At (pv 1))) Ax) (Ae (At (Vq (pv 0) (pv 1))))),?_⟩
  try dsimp only[cxK]
  refine xq1 rfl ⟨rfl,(xq1 rfl ?_)⟩;by_cases e1:r.a=1
  ·rw[e1,Y1 (by rfl)];refine BH (xq1 rfl (k _ ?_));unfold wd EM;rw[Y4 e1];rfl
  ·rw[Y3 (by intro q;injection q with q;omega)];refine AT (xq1 rfl ⟨(r.a:Int),rfl,Tn.NP ra,(xq1 rfl ⟨⟨#[r.c]⟩,rfl,(by show 1<=100000;decide),k _ ?_⟩)⟩);rw[Tx.AU,Tn.QR];unfold wd EM;rw[Y0 e1]
inductive SpShR(vs:List V)(H:Hp)(Q:VK):Prop
 |mk (R:Addr) (ts:List Addr) (rs:List Rn) (_:vs=[.ref R]) (_:H R=some (.lst (ts.map V.ref))) (_:Paired (Ch H) ts rs) (_:(∀r∈rs,DZ r)) (_:rs.length<=12300) (_:(tog rs).length<=1000) (_:∀(z:Str)(H':Hp),Az H H'->z.cps.toList=txt (tog rs)->Q (.str z) H'):SpShR vs H Q
def UK:Sp:=λvs H Q _=>SpShR vs H Q
theorem ND{rs:List Rn}(oks:∀r∈rs,DZ r)(l:rs.length<=12300):∀r∈tog rs,r.a<10^30:=λr hr=>by
 have h1:=tog_sum rs r hr;have h2:=sum_le oks;have h3:rs.length*10^13<=12300*10^13:=Nat.mul_le_mul_right _ l;exact Nat.lt_of_le_of_lt (C4 h1 (C4 h2 h3)) A3
theorem LC(rs:List Rn):(tog rs).length<=rs.length:=by
 have:=LB rs rs.length;rw[D9]at this;exact this
theorem ok_shR{f:Addr}{fd:FuncData}(F:Fun K "shown_runs" "shown_runs" Eb f fd)(T:Top K mg a)(bA:Cal P w K mg base CX0 1 "put_together" EB UI)(bJ:Cal P w K mg base CX0 1 "shown_run" Gq QU):AI P w K mg base CX0 2 f fd FJ UK:=by
 refine F.ok Nd (λvs H Q E h=>?_) (λcdv A outer s H vs Q E hr h=>?_)
 ·obtain⟨R,ts,rs,rfl,_⟩:=h;rfl
 ·obtain⟨R,ts,rs,rfl,hR,pr,oks,lrs,lg,k⟩:=h;have few:=LC rs;have sml:=ND oks lrs;refine⟨_,(Ae (At (CH K3 PySem.F.slot_str_join PySem.F.type_str_join Sy BM (Aa (Dk rfl (BX.of (So:=Ai Eb) (No:=IZ) (N:=["run"]) (k:=1) (cs:=[]) rfl rfl A1) (Cg (Aq bA (rm hr) rfl Ao (Aa (pv 0) Ac))) (λ_ _ _=>(BQ (i:=0) A1 rfl rfl)) (λ_ _ _=>DC) (λ_ _ _=>(Aq bJ (rm hr) rfl Ao (Aa (Am (CA (K:=K) rfl) (pv 0) Af (λ_ _=>rfl)) (Aa (Am (CA (K:=K) rfl) (pv 0) Af (λ_ _=>rfl)) Ac))))) Ac)))),?_⟩
  try dsimp only[cxK]
  refine⟨rfl,(xq1 rfl ⟨R,ts,rs,rfl,hR,pr,lrs,λL us H1 nL s1 hL1 pu=>⟨L,rfl,⟨_,SqL.of hL1⟩,?_⟩⟩)⟩;generalize tog rs=gs at pu few sml lg k;have lus:=Y6 pu;refine Jj (xs:=us.map V.ref) (λj acc H2=>H1=H2/\acc=((gs.take j).map wS).map V.str) ⟨rfl,rfl⟩ (λj acc H2 _ z=>z.1▸SqL.of hL1) ?_ ?_
  ·rintro j v acc H2 ev ⟨rfl,rfl⟩;rw[B6]at ev;obtain⟨t,et,rfl⟩:=D6.mp ev;obtain⟨r,er,ht⟩:=PairedM.getL pu et;refine⟨⟨[some (.ref t)],rfl,rfl⟩,by rw[B0,B0,F8];exact BF A6,Nb (xwi rfl rfl rfl (SqT.of ht) (Ag (j:=0) rfl) (xwi rfl rfl rfl (SqT.of ht) (Ag (j:=1) rfl) ⟨r,rfl,sml r (F6 er),λz hz=>⟨rfl,?_⟩⟩))⟩;rw[wS_of hz,D1,er,B8,B8];rfl
  ·rintro acc H2 ⟨rfl,rfl⟩ p hp;rw[B0,lus,D9];exact⟨Str.ofString "",p,gs.map wS,rfl,rfl,SqL.of upd_same,Wd sml lg,k _ _ (s1.trans (Ak hp)) (joinT gs)⟩
end
structure RS where
 r:Int
 d:Int
 rs:List Rn
def BI(left:Int)(s:RS)(c:Cl):RS:=if s.d<c.y then⟨left,c.y,s.rs++[⟨(c.y-s.d).toNat,47⟩]⟩else s
def Bb(s:RS)(c:Cl):RS:=if s.r<c.x then⟨s.r,s.d,s.rs++[⟨(c.x-s.r).toNat,46⟩]⟩else s
def rcPut(s:RS)(c:Cl):RS:=⟨c.x+1,s.d,s.rs++[⟨1,sg.getD c.s 0⟩]⟩
def FI(left:Int)(s:RS)(c:Cl):RS:=rcPut (Bb (BI left s c) c) c
def rcs(left top:Int)(cs:List Cl):RS:=cs.foldl (FI left) ⟨left,top,[]⟩
theorem PJ(left top:Int){cs:List Cl}{j:Nat}{c:Cl}(h:cs[j]?=some c):rcs left top (cs.take (j+1))=FI left (rcs left top (cs.take j)) c:=by
 unfold rcs;rw[D1,h,N8];rfl
theorem NL(left:Int)(s:RS)(c:Cl):(BI left s c).rs.length<=s.rs.length+1:=by
 unfold BI;split
 ·rw[B4];exact B5 _
 ·exact O9 _
theorem GK(s:RS)(c:Cl):(Bb s c).rs.length<=s.rs.length+1:=by
 unfold Bb;split
 ·rw[B4];exact B5 _
 ·exact O9 _
theorem IP(left top:Int)(cs:List Cl):∀j,(rcs left top (cs.take j)).rs.length<=3*j
 |0=>B5 _
 |j+1=>by
  have ih:=IP left top cs j;cases e:cs[j]? with
  |none =>
   rw[D1,e,Option.toList_none,L5];lia
  |some c =>
   rw[PJ left top e];show((Bb (BI left (rcs left top (cs.take j)) c) c).rs++[(⟨1,sg.getD c.s 0⟩:Rn)]).length<=_;rw[B4,G9];have h1:=NL left (rcs left top (cs.take j)) c;have h2:=GK (BI left (rcs left top (cs.take j)) c) c;lia
section
variable{P:Program}{w:World}{K:PySem.W.Frag}{mg:Str->Option Value}{base:Heap}{a:Ad}
inductive SpRc(vs:List V)(H:Hp)(Q:VK):Prop
 |mk (L:Addr) (ts:List Addr) (cs:List Cl) (left top:Int) (_:vs=[.ref L,.int left,.int top]) (_:H L=some (.lst (ts.map V.ref))) (_:Paired (IC H) ts cs) (_:∀c∈cs,c.s<8) (_:cs.length<=4096) (_:∀(R:Addr)(us:List Addr)(H':Hp),H R=none->Az H H'->H' R=some (.lst (us.map V.ref))->Paired (Ch H') us (rcs left top cs).rs->Q (.ref R) H'):SpRc vs H Q
def spRc:Sp:=λvs H Q _=>SpRc vs H Q
theorem Ql{T:St->Hp->Prop}{C:Prop}(P:St->Hp->Prop)(h:(∀σ H,P σ H->T σ H)->C)(k:∀σ H,P σ H->T σ H):C:=h k
structure RA(H H2:Hp)(R:Addr)(us:List Addr)(rs:List Rn):Prop where
 sm:Az H H2
 hR:H2 R=some (.lst (us.map V.ref))
 pr:Paired (Ch H2) us rs
theorem RA.add{H H2 H3:Hp}{R t:Addr}{us:List Addr}{rs:List Rn}{r:Rn}(h:RA H H2 R us rs)(nR:H R=none)(nt:H2 t=none)(e:upd H2 t (.tup [.int r.a,.str ⟨#[r.c]⟩])=H3):RA H (upd H3 R (.lst (us.map V.ref++[.ref t]))) R (us++[t]) (rs++[r])/\H3 R=some (.lst (us.map V.ref)):=by
 have s3:Az H2 H3:=e▸Ak nt;have ht:H3 t=some (.tup [.int r.a,.str ⟨#[r.c]⟩]):=e▸upd_same;have hR3:=s3 _ _ h.hR;have tp:∀{b:Addr}{ys:List V}{o:HO},H3 b=some (.tup ys)->upd H3 R o b=some (.tup ys):=λ{b ys o} e=>by rw[Al (AS e hR3 A4)];exact e
 refine⟨⟨λb o e=>?_,by rw[upd_same,B8];rfl,K2 (PairedM.imp (λb c z=>(tp (s3 _ _ z):Ch _ b c)) h.pr) (tp ht:Ch _ t r)⟩,hR3⟩;rw[Al (An e nR)];exact s3 _ _ (h.sm _ _ e)
theorem sg_str:(Str.ofString ".ABCDEFG").cps.toList=sg.take 8:=by decide +kernel
theorem c47:Str.ofString "/" = ⟨#[47]⟩:=by decide +kernel
theorem c46:Str.ofString "." = ⟨#[46]⟩:=by decide +kernel
theorem ok_rcs{f:Addr}{fd:FuncData}(F:Fun K "runs_of_cells" "runs_of_cells" DN f fd)(T:Top K mg a):AI P w K mg base CX0 1 f fd DS spRc:=by
 refine F.ok AQ (λvs H Q E h=>?_) (λcdv A outer s H vs Q E hr h=>?_)
 ·obtain⟨L,ts,cs,left,top,rfl,_⟩:=h;rfl
 ·obtain⟨L,ts,cs,left,top,rfl,hL,pr,s8,l4,k⟩:=h;have lts:=Y6 pr;refine⟨_,(Ab (Ah (i:=3) AQ.nd rfl (Or.inl rfl) (Dj Ac)) (Ab (Ah (i:=4) AQ.nd rfl (Or.inl rfl) (pv 1)) (Ab (Ah (i:=5) AQ.nd rfl (Or.inl rfl) (pv 2)) (Ab (BT Z2 rfl (Cg (pv 0)) (Ey rfl (AN (AF (i:=6) AQ.nd rfl (Or.inl rfl)) (AN (AF (i:=7) AQ.nd rfl (Or.inl rfl)) (AN (AF (i:=8) AQ.nd rfl (Or.inl rfl)) Di)))) (Ab (AE (As Ea (pv 7) (pv 5) (Au _)) (Ab (Bj (CH Z1 Y9 Z0 Bl (pv 3) (BJ (Bv Cd (pv 7) (pv 5) (Aa (Ed rfl T.k_ROW_SIGN) Ac)) Ac))) (Ab (Ah (i:=4) AQ.nd rfl (Or.inl rfl) (pv 1)) (Ae (Ah (i:=5) AQ.nd rfl (Or.inl rfl) (pv 7))))) Ax) (Ab (AE (As Ea (pv 6) (pv 4) (Au _)) (Ae (Bj (CH Z1 Y9 Z0 Bl (pv 3) (BJ (Bv Cd (pv 6) (pv 4) (Aa (Ed rfl T.k_BLANK_SIGN) Ac)) Ac)))) Ax) (Ab (Bj (CH Z1 Y9 Z0 Bl (pv 3) (BJ (Bh (Aa (Am OZ (Ed rfl T.k_STATE_SIGNS) (pv 8) (λ_ _=>rfl)) Ac)) Ac))) (Ae (Ah (i:=4) AQ.nd rfl (Or.inl rfl) (Ay AW (pv 6) Af))))))) (Ae (At (pv 3))))))),?_⟩
  try dsimp only[cxK]
  refine⟨(by show 0<=sizeLine;decide),λR nR=>?_⟩;generalize e1:upd H R _=H1;have ra1:RA H H1 R [] []:=e1▸⟨Ak nR,upd_same,.nil⟩;refine xw3 rfl rfl rfl ⟨L,rfl,⟨_,SqL.of (ra1.sm _ _ hL)⟩,?_⟩;refine EJ (xs:=ts.map V.ref) (λj σ H2=>∃(us:List Addr)(u6 u7 u8:Option V),σ=[some (.ref L),some (.int left),some (.int top),some (.ref R),some (.int (rcs left top (cs.take j)).r),some (.int (rcs left top (cs.take j)).d),u6,u7,u8]/\RA H H2 R us (rcs left top (cs.take j)).rs) ⟨[],none,none,none,rfl,ra1⟩ (λj σ H2 _ z=>SqL.of (by obtain⟨_,_,_,_,_,ra⟩:=z;exact ra.sm _ _ hL)) ?_ ?_
  ·rintro j v σ H2 ev ⟨us,u6,u7,u8,rfl,ra⟩;rw[B6]at ev;obtain⟨t,et,rfl⟩:=D6.mp ev;obtain⟨c,ec,ht⟩:=PairedM.getL pr et;have hj:j<cs.length:=(B7.mp ec).1;have ht2:H2 t=some (.tup [.int c.x,.int c.y,.int (c.s:Int)]):=ra.sm _ _ ht;have c8:=s8 c (F6 ec);have ln:=IP left top cs j;rw[PJ left top ec];unfold FI;generalize rcs left top (cs.take j)=S at ra ln⊢;refine⟨t,(xq1 rfl ⟨SqT.of ht2,rfl,_,_,rfl,_,_,rfl,(xq2 rfl rfl ?_)⟩)⟩;refine Bs ?_;intro r1 s1 k1 hk1 E1;have l1:=NL left S c;have l2:=GK (BI left S c) c;apply Ql (T:=k1) (fun σ H'=>∃us,σ=[some (.ref L),some (.int left),some (.int top),some (.ref R),some (.int (BI left S c).r),some (.int (BI left S c).d),some (.int c.x),some (.int c.y),some (.int (c.s:Int))]/\RA H H' R us (BI left S c).rs)
   ·intro rest;refine xw2 rfl rfl (xq2 rfl rfl (xq1 rfl ?_));by_cases z:S.d<c.y
    ·have er:BI left S c=⟨left,c.y,S.rs++[⟨(c.y-S.d).toNat,47⟩]⟩:=Y4 z;rw[Y1 z];refine BH (xq1 rfl ⟨.inl ⟨rfl,_,SqL.of ra.hR⟩,(xw2 rfl rfl (xq2 rfl rfl ⟨(by show 2<=sizeLine;decide),λt1 ht1=>?_⟩))⟩);generalize e2:upd H2 t1 _=H3;have e2:upd H2 t1 (.tup [.int (((c.y-S.d).toNat:Nat):Int),.str ⟨#[47]⟩])=H3:=by
      rw[<-e2,c47,M3 A0]
     obtain⟨ra3,h3⟩:=ra.add (r:=⟨(c.y-S.d).toNat,47⟩) nR ht1 e2;refine⟨R,(xq2 rfl rfl ⟨h3,BF (by rw[B0,Y6 ra.pr];lia),?_⟩)⟩;refine xw2 rfl rfl (rest _ _ ⟨us++[t1],?_,?_⟩)
     ·rw[er];rfl
     ·rw[er];exact ra3
    ·have er:BI left S c=S:=Y0 z;rw[Y3 z];refine AT (rest _ _ ⟨us,?_,?_⟩)
     ·rw[er];rfl
     ·rw[er];exact ra
   clear ra;generalize h1S:BI left S c=S1 at l1 l2⊢;rintro σ H3 ⟨us1,rfl,ra⟩;refine hk1 ?_;refine Bs ?_;intro r2 s2 k2 hk2 E2;apply Ql (T:=k2) (fun σ H'=>∃us,σ=[some (.ref L),some (.int left),some (.int top),some (.ref R),some (.int (Bb S1 c).r),some (.int (Bb S1 c).d),some (.int c.x),some (.int c.y),some (.int (c.s:Int))]/\RA H H' R us (Bb S1 c).rs)
   ·intro rest;refine xw2 rfl rfl (xq2 rfl rfl (xq1 rfl ?_));by_cases z:S1.r<c.x
    ·have er:Bb S1 c=⟨S1.r,S1.d,S1.rs++[⟨(c.x-S1.r).toNat,46⟩]⟩:=Y4 z;rw[Y1 z];refine BH (xq1 rfl ⟨.inl ⟨rfl,_,SqL.of ra.hR⟩,(xw2 rfl rfl (xq2 rfl rfl ⟨(by show 2<=sizeLine;decide),λt1 ht1=>?_⟩))⟩);generalize e2:upd H3 t1 _=H4;have e2:upd H3 t1 (.tup [.int (((c.x-S1.r).toNat:Nat):Int),.str ⟨#[46]⟩])=H4:=by
      rw[<-e2,c46,M3 A0]
     obtain⟨ra3,h3⟩:=ra.add (r:=⟨(c.x-S1.r).toNat,46⟩) nR ht1 e2;refine⟨R,(xq2 rfl rfl ⟨h3,BF (by rw[B0,Y6 ra.pr];lia),?_⟩)⟩;refine rest _ _ ⟨us1++[t1],?_,?_⟩
     ·rw[er]
     ·rw[er];exact ra3
    ·have er:Bb S1 c=S1:=Y0 z;rw[Y3 z];refine AT (rest _ _ ⟨us1,?_,?_⟩)
     ·rw[er]
     ·rw[er];exact ra
   clear ra;rintro σ H4 ⟨us2,rfl,ra⟩;show E2.nx _ _;generalize h2S:Bb S1 c=S2 at l2 ra⊢;refine hk2 ?_;refine Bs ?_;intro r3 s3 k3 hk3 E3;have at2:atI (Str.ofString ".ABCDEFG").cps.toList (c.s:Int)=some (sg.getD c.s 0):=by
    refine Ag ?_;rw[sg_str,List.getElem?_take_of_lt c8,C1,C0 (show c.s<sg.length from R1 c8 A3)];rfl
   refine xq1 rfl ⟨.inl ⟨rfl,_,SqL.of ra.hR⟩,(xq1 rfl ⟨_,_,sg.getD c.s 0,rfl,rfl,by decide +kernel,at2,(by show 2<=sizeLine;decide),λt1 ht1=>?_⟩)⟩;generalize e2:upd H4 t1 _=H5;obtain⟨ra3,h3⟩:=ra.add (r:=⟨1,sg.getD c.s 0⟩) nR ht1 e2;refine⟨R,(xq2 rfl rfl ⟨h3,BF (by rw[B0,Y6 ra.pr];lia),?_⟩)⟩;refine hk3 ?_;refine xwb rfl rfl rfl ?_;refine⟨us2++[t1],some (.int c.x),some (.int c.y),some (.int (c.s:Int)),?_,?_⟩
   ·rw[h1S,h2S];rfl
   ·rw[h1S,h2S];exact ra3
  ·rintro σ H2 ⟨us,u6,u7,u8,rfl,ra⟩;rw[B0,lts,D9]at ra;exact xq1 rfl (k R us H2 nR ra.sm ra.hR ra.pr)
end
end J
namespace J
open PySem L2
structure W3 where
 r:Int
 d:Int
 φ:Int->Int->Nat
def Lt(c:Nat):Prop:=c≠46/\c≠47
def stR(x0:Int)(s:W3)(r:Rn):W3:=if r.c=47 then⟨x0,s.d+r.a,s.φ⟩else if r.c=46 then⟨s.r+r.a,s.d,s.φ⟩else⟨s.r+r.a,s.d,FU ⟨s.r,s.d,r.a,1⟩ (sg.idxOf r.c) s.φ⟩
def wkR(x0 y0:Int)(rs:List Rn):W3:=rs.foldl (stR x0) ⟨x0,y0,λ_ _=>0⟩
theorem IH{x0:Int}{s:W3}{r:Rn}(h:r.c=47):stR x0 s r=⟨x0,s.d+r.a,s.φ⟩:=Y4 h
theorem IJ{x0:Int}{s:W3}{r:Rn}(h:r.c=46):stR x0 s r=⟨s.r+r.a,s.d,s.φ⟩:=by
 unfold stR;rw[Y0 A0,Y4 h]
theorem II{x0:Int}{s:W3}{r:Rn}(h:Lt r.c):stR x0 s r=⟨s.r+r.a,s.d,FU ⟨s.r,s.d,r.a,1⟩ (sg.idxOf r.c) s.φ⟩:=by
 unfold stR;rw[Y0 h.2,Y0 h.1]
theorem GD{q:Bo}{s:Nat}{φ:Int->Int->Nat}{u v:Int}(h:InB q.x q.y q.wd q.ht u v):FU q s φ u v=s:=Y4 h
theorem Jg{q:Bo}{s:Nat}{φ:Int->Int->Nat}{u v:Int}(h:¬InB q.x q.y q.wd q.ht u v):FU q s φ u v=φ u v:=Y0 h
theorem inb{x y w h u v:Int}(k:(x<=u/\u<x+w)/\y<=v/\v<y+h):InB x y w h u v:=k
theorem outb{x y w h u v:Int}(k:¬((x<=u/\u<x+w)/\y<=v/\v<y+h)):¬InB x y w h u v:=k
theorem stR_two(x0:Int)(s:W3){l r:Rn}(e:l.c=r.c):stR x0 s ⟨l.a+r.a,r.c⟩=stR x0 (stR x0 s l) r:=by
 by_cases h7:r.c=47
 ·rw[IH (r:=⟨l.a+r.a,r.c⟩) h7,IH h7,IH (e.trans h7)];congr 1;show s.d+((l.a+r.a:Nat):Int)=s.d+(l.a:Int)+(r.a:Int)
  lia
 by_cases h6:r.c=46
 ·rw[IJ (r:=⟨l.a+r.a,r.c⟩) h6,IJ h6,IJ (e.trans h6)];congr 1;show s.r+((l.a+r.a:Nat):Int)=s.r+(l.a:Int)+(r.a:Int)
  lia
 have hl:Lt r.c:=⟨h6,h7⟩
 rw[II (r:=⟨l.a+r.a,r.c⟩) hl,II hl,II (r:=l) (e▸hl),e];have e1:s.r+((l.a+r.a:Nat):Int)=s.r+(l.a:Int)+(r.a:Int):=by lia
 have e2:FU ⟨s.r,s.d,((l.a+r.a:Nat):Int),1⟩ (sg.idxOf r.c) s.φ=FU ⟨s.r+(l.a:Int),s.d,r.a,1⟩ (sg.idxOf r.c) (FU ⟨s.r,s.d,l.a,1⟩ (sg.idxOf r.c) s.φ):=by
  funext u v
  by_cases z:(s.r+(l.a:Int)<=u/\u<s.r+(l.a:Int)+(r.a:Int))/\s.d<=v/\v<s.d+1
  ·rw[GD (q:=⟨s.r+(l.a:Int),s.d,r.a,1⟩) z,GD (inb A0)]
  ·rw[Jg (q:=⟨s.r+(l.a:Int),s.d,r.a,1⟩) z];by_cases y:(s.r<=u/\u<s.r+(l.a:Int))/\s.d<=v/\v<s.d+1
   ·rw[GD (q:=⟨s.r,s.d,l.a,1⟩) y,GD (inb A0)]
   ·rw[Jg (q:=⟨s.r,s.d,l.a,1⟩) y,Jg (outb A0)]
 show(⟨_,_,_⟩:W3)=⟨_,_,_⟩
 rw[e1,e2]
theorem IE(x0 y0:Int)(rs:List Rn)(r:Rn):wkR x0 y0 (rs++[r])=stR x0 (wkR x0 y0 rs) r:=by
 unfold wkR;rw[N8];rfl
theorem wkR_tg(x0 y0:Int)(rs:List Rn)(r:Rn):wkR x0 y0 (AV rs r)=stR x0 (wkR x0 y0 rs) r:=by
 rcases J1 rs with rfl|⟨b,l,rfl⟩
 ·rfl
 ·rw[F7,Bd];split
  ·rename_i e;rw[IE,IE,stR_two x0 _ e]
  ·rw[IE]
def arN(r:Rn):Nat:=if r.c=46\/r.c=47 then 0 else r.a
def arR(rs:List Rn):Nat:=(rs.map arN).sum
theorem GY(rs:List Rn)(r:Rn):arR (rs++[r])=arR rs+arN r:=by
 unfold arR;rw[B8,Q0];simp
theorem arN_two{l r:Rn}(e:l.c=r.c):arN ⟨l.a+r.a,r.c⟩=arN l+arN r:=by
 unfold arN;rw[e];dsimp only;split<;>rfl
theorem arR_tg(rs:List Rn)(r:Rn):arR (AV rs r)=arR rs+arN r:=by
 rcases J1 rs with rfl|⟨b,l,rfl⟩
 ·exact GY [] r
 ·rw[F7,Bd];split
  ·rename_i e;rw[GY,GY,arN_two e];lia
  ·rw[GY]
theorem arR_mem{rs:List Rn}{r:Rn}(h:r∈rs):arN r<=arR rs:=Rt (T8 h)
theorem Pk{r:Rn}(h:Lt r.c):arN r=r.a:=Y0 (by have:=h.1;have:=h.2;lia)
theorem RP{r:Rn}(h:r.c=46\/r.c=47):arN r=0:=Y4 h
theorem QQ{acc:List Rn}{r:Rn}(h:∀l,acc.getLast?=some l->l.c≠r.c):AV acc r=acc++[r]:=by
 rcases J1 acc with rfl|⟨b,l,rfl⟩
 ·rfl
 ·rw[F7]at h⊢;rw[Bd,Y0 (h l P0)]
theorem tg_last{acc:List Rn}{r l:Rn}(h:(AV acc r).getLast?=some l):l.c=r.c:=by
 rcases J1 acc with rfl|⟨b,q,rfl⟩
 ·cases h;rfl
 ·rw[F7,Bd]at h;split at h
  ·rw[P0]at h;cases h;rfl
  ·rw[P0]at h;cases h;rfl
def LL(rs:List Rn):Prop:=∀l,rs.getLast?=some l->Lt l.c
theorem LL.nil:LL []:=λ_ h=>by cases h
theorem Md:∀s,s<8->1<=s->sg.getD s 0≠46/\sg.getD s 0≠47/\sg.getD s 0∈sg/\sg.idxOf (sg.getD s 0)=s:=by decide
theorem LL.tg{acc:List Rn}{r:Rn}(h:Lt r.c):LL (AV acc r):=λl e=>by rw[tg_last e];exact h
def QS(s:RS)(c:Cl):RS:=⟨c.x+1,s.d,AV s.rs ⟨1,sg.getD c.s 0⟩⟩
def CF(left:Int)(s:RS)(c:Cl):RS:=QS (Bb (BI left s c) c) c
def trc(left top:Int)(cs:List Cl):RS:=cs.foldl (CF left) ⟨left,top,[]⟩
theorem LX(rs:List Rn)(r:Rn):tog (rs++[r])=AV (tog rs) r:=by
 unfold tog;rw[N8];rfl
structure TgS(s t:RS):Prop where
 r:t.r=s.r
 d:t.d=s.d
 rs:t.rs=tog s.rs
structure CS(c:Cl):Prop where
 s1:1<=c.s
 s8:c.s<8
theorem TgS.row{s t:RS}(h:TgS s t)(ll:LL t.rs)(left:Int)(c:Cl):TgS (BI left s c) (BI left t c)/\∀l,(BI left t c).rs.getLast?=some l->l.c≠46:=by
 unfold BI;rw[h.d];by_cases z:s.d<c.y
 ·rw[Y4 z,Y4 z];refine⟨⟨rfl,rfl,?_⟩,λl e=>?_⟩
  ·show t.rs++_=tog (s.rs++_);rw[LX,<-h.rs,QQ λl e=>(ll l e).2]
  ·have e:(t.rs++[_]).getLast?=some l:=e;rw[P0]at e;cases e;show(47:Nat)≠46;decide
 ·rw[Y0 z,Y0 z];exact⟨h,λl e=>(ll l e).1⟩
theorem TgS.gap{s t:RS}(h:TgS s t)(nl:∀l,t.rs.getLast?=some l->l.c≠46)(c:Cl):TgS (Bb s c) (Bb t c):=by
 unfold Bb;rw[h.r];by_cases z:s.r<c.x
 ·rw[Y4 z,Y4 z];refine⟨rfl,h.d,?_⟩;show t.rs++_=tog (s.rs++_);rw[LX,<-h.rs,QQ nl]
 ·rw[Y0 z,Y0 z];exact h
theorem TgS.step{s t:RS}(h:TgS s t)(ll:LL t.rs)(left:Int){c:Cl}(k:CS c):TgS (FI left s c) (CF left t c)/\LL (CF left t c).rs:=by
 obtain⟨h1,n1⟩:=h.row ll left c;have h2:=h1.gap n1 c;obtain⟨a1,a2,_⟩:=Md c.s k.s8 k.s1;refine⟨⟨rfl,h2.d,?_⟩,LL.tg (r:=⟨1,sg.getD c.s 0⟩) ⟨a1,a2⟩⟩;show AV (Bb (BI left t c) c).rs _=tog ((Bb (BI left s c) c).rs++_);rw[LX,<-h2.rs]
theorem RY(left top:Int){cs:List Cl}(k:∀c∈cs,CS c):TgS (rcs left top cs) (trc left top cs)/\LL (trc left top cs).rs:=by
 have key:∀(l:List Cl)(s t:RS),(∀c∈l,CS c)->TgS s t->LL t.rs->TgS (l.foldl (FI left) s) (l.foldl (CF left) t)/\LL (l.foldl (CF left) t).rs:=by
  intro l;induction l with
  |nil=>intro s t _ h ll;exact⟨h,ll⟩
  |cons c l ih =>
   intro s t hc h ll;obtain⟨h1,l1⟩:=h.step ll left (hc c C2);exact ih _ _ (λc z=>hc c (B3 _ z)) h1 l1
 exact key cs _ _ k ⟨rfl,rfl,rfl⟩ LL.nil
structure TW(left top:Int)(n:Nat)(rs:List Rn)(w:W3):Prop where
 wk:wkR left top rs=w
 ok:∀r∈rs,1<=r.a/\r.c∈sg/\(r.c=46\/r.c=47->r.a<10^13)
 ar:arR rs<=n
theorem TW.add{left top:Int}{n:Nat}{rs:List Rn}{w:W3}(h:TW left top n rs w){r:Rn}(a1:1<=r.a)(a2:r.a<10^13)(c:r.c=46\/r.c=47):TW left top n (rs++[r]) (stR left w r):=by
 refine⟨by rw[IE,h.wk],λq hq=>?_,by rw[GY,RP c];exact h.ar⟩;rcases C8.mp hq with z|z
 ·exact h.ok q z
 ·rw[C5.mp z];refine⟨a1,?_,λ_=>a2⟩;rcases c with e|e<;>rw[e]<;>decide
theorem TW.put{left top:Int}{n:Nat}{rs:List Rn}{w:W3}(h:TW left top n rs w){c:Nat}(l:Lt c)(m:c∈sg):TW left top (n+1) (AV rs ⟨1,c⟩) (stR left w ⟨1,c⟩):=by
 refine⟨by rw[wkR_tg,h.wk],λq hq=>?_,?_⟩
 ·rcases J1 rs with rfl|⟨b,q',rfl⟩
  ·rw[LY]at hq;rw[C5.mp hq];exact⟨B5 _,m,λz=>absurd z (by have:=l.1;have:=l.2;show ¬(c=46\/c=47);lia)⟩
  ·rw[F7]at hq h;rw[Bd]at hq;split at hq
   ·rcases C8.mp hq with z|z
    ·exact h.ok q (L8 _ z)
    ·rw[C5.mp z];exact⟨Nat.le_add_left _ _,m,λz=>absurd z (by have:=l.1;have:=l.2;show ¬(c=46\/c=47);lia)⟩
   ·rcases C8.mp hq with z|z
    ·exact h.ok q z
    ·rw[C5.mp z];exact⟨B5 _,m,λz=>absurd z (by have:=l.1;have:=l.2;show ¬(c=46\/c=47);lia)⟩
 ·rw[arR_tg,Pk (r:=⟨1,c⟩) l];exact R0 h.ar
theorem TW.runs{left top:Int}{n:Nat}{rs:List Rn}{w:W3}(h:TW left top n rs w)(n3:n<10^13):∀r∈rs,DZ r:=λr hr=>by
 obtain⟨a1,a2,a3⟩:=h.ok r hr;refine⟨a1,?_,a2⟩;by_cases z:r.c=46\/r.c=47
 ·exact a3 z
 ·have:=arR_mem hr;rw[Pk ⟨λq=>z (.inl q),λq=>z (.inr q)⟩]at this;have:=h.ar;lia
def BO(c:Cl)(φ:Int->Int->Nat):Int->Int->Nat:=λu v=>if u=c.x/\v=c.y then c.s else φ u v
structure TI(left top:Int)(n:Nat)(s:RS)(φ:Int->Int->Nat):Prop where
 tw:TW left top n s.rs ⟨s.r,s.d,φ⟩
 lr:left<=s.r
 td:top<=s.d
def Fol(s:RS)(c:Cl):Prop:=s.d<c.y\/(s.d=c.y/\s.r<=c.x)
structure InC(left top:Int)(c:Cl):Prop where
 cs:CS c
 l:left<=c.x
 t:top<=c.y
 x:c.x<2^40
 y:c.y<2^40
theorem TI.step{left top:Int}{n:Nat}{s:RS}{φ:Int->Int->Nat}{c:Cl}(h:TI left top n s φ)(fo:Fol s c)(ic:InC left top c)(l4:-(2^40)<=left)(t4:-(2^40)<=top):TI left top (n+1) (CF left s c) (BO c φ)/\(CF left s c).r=c.x+1/\(CF left s c).d=c.y:=by
 obtain⟨cs,l,t,x4,y4⟩:=ic;have lr:=h.lr;have td:=h.td;obtain⟨s1,e1,h1,d1,r1,l1⟩:∃s1,BI left s c=s1/\TW left top n s1.rs ⟨s1.r,c.y,φ⟩/\s1.d=c.y/\s1.r<=c.x/\left<=s1.r:=by
  refine⟨_,rfl,?_⟩;unfold BI;by_cases z:s.d<c.y
  ·rw[Y4 z];refine⟨?_,rfl,l,L6 _⟩;have:=h.tw.add (r:=⟨(c.y-s.d).toNat,47⟩) (by show 1<=(c.y-s.d).toNat;lia) (by show(c.y-s.d).toNat<10^13;lia) (.inr rfl);rw[IH rfl]at this;have e:s.d+(((c.y-s.d).toNat:Nat):Int)=c.y:=by lia
   rw[e]at this;exact this
  ·rw[Y0 z];unfold Fol at fo;have ed:s.d=c.y:=by lia
   refine⟨?_,ed,by lia,lr⟩;have:=h.tw;rw[ed]at this;exact this
 obtain⟨s2,e2,h2,d2⟩:∃s2,Bb s1 c=s2/\TW left top n s2.rs ⟨c.x,c.y,φ⟩/\s2.d=c.y:=by
  refine⟨_,rfl,?_⟩;unfold Bb;by_cases z:s1.r<c.x
  ·rw[Y4 z];refine⟨?_,d1⟩;have:=h1.add (r:=⟨(c.x-s1.r).toNat,46⟩) (by show 1<=(c.x-s1.r).toNat;lia) (by show(c.x-s1.r).toNat<10^13;lia) (.inl rfl);rw[IJ rfl]at this;have e:s1.r+(((c.x-s1.r).toNat:Nat):Int)=c.x:=by lia
   rw[e]at this;exact this
  ·rw[Y0 z];have er:s1.r=c.x:=by lia
   rw[er]at h1;exact⟨h1,d1⟩
 have e3:CF left s c=QS s2 c:=by unfold CF;rw[e1,e2]
 rw[e3];obtain⟨b1,b2,b3,b4⟩:=Md c.s cs.s8 cs.s1;refine⟨⟨?_,by show left<=c.x+1;lia,by show top<=s2.d;lia⟩,rfl,d2⟩;have:=h2.put (c:=sg.getD c.s 0) ⟨b1,b2⟩ b3;rw[II (r:=⟨1,sg.getD c.s 0⟩) ⟨b1,b2⟩]at this;show TW left top (n+1) (AV s2.rs ⟨1,sg.getD c.s 0⟩) ⟨c.x+1,s2.d,BO c φ⟩;rw[d2];have e:FU ⟨c.x,c.y,((1:Nat):Int),1⟩ (sg.idxOf (sg.getD c.s 0)) φ=BO c φ:=by
  rw[b4]
  funext u v
  unfold BO;by_cases z:u=c.x/\v=c.y
  ·rw[Y4 z,GD (inb A0)]
  ·rw[Y0 z,Jg (outb A0)]
 rw[<-e];exact this
def Bef(p q:Cl):Prop:=p.y<q.y\/(p.y=q.y/\p.x<q.x)
theorem Uz{left top:Int}(l4:-(2^40)<=left)(t4:-(2^40)<=top):∀{cs:List Cl},(∀c∈cs,InC left top c)->cs.Pairwise Bef->TI left top cs.length (trc left top cs) (stC cs.reverse)/\(trc left top cs=⟨left,top,[]⟩\/∃c∈cs,(∀p∈cs,p=c\/Bef p c)/\(trc left top cs).r=c.x+1/\(trc left top cs).d=c.y):=by
 have key:∀(n:Nat){cs:List Cl},cs.length=n->(∀c∈cs,InC left top c)->cs.Pairwise Bef->TI left top n (trc left top cs) (stC cs.reverse)/\(trc left top cs=⟨left,top,[]⟩\/∃c∈cs,(∀p∈cs,p=c\/Bef p c)/\(trc left top cs).r=c.x+1/\(trc left top cs).d=c.y):=by
  intro n;induction n with
  |zero =>
   intro cs e _ _;rw[List.length_eq_zero_iff]at e;subst e;exact⟨⟨⟨rfl,(λr hr=>nomatch hr),B5 _⟩,L6 _,L6 _⟩,.inl rfl⟩
  |succ n ih =>
   intro cs e ic pw;rcases J1 cs with rfl|⟨b,c,rfl⟩
   ·cases e
   ·rw[F7]at e ic pw⊢;rw[B4,G9]at e;rw[List.pairwise_append]at pw;obtain⟨pw1,_,pw3⟩:=pw;obtain⟨ti,la⟩:=ih (Nat.succ.inj e) (λq hq=>ic q (L8 _ hq)) pw1;have icc:=ic c (D3 _ (C5.mpr rfl));have et:trc left top (b++[c])=CF left (trc left top b) c:=by
     unfold trc;rw[N8];rfl
    have fo:Fol (trc left top b) c:=by
     rcases la with z|⟨q,hq,_,z1,z2⟩
     ·rw[z];have:=icc.l;have:=icc.t;unfold Fol;show top<c.y\/(top=c.y/\left<=c.x)
      lia
     ·have:=pw3 q hq c (C5.mpr rfl);unfold Fol;unfold Bef at this;lia
    obtain⟨ti',r',d'⟩:=ti.step fo icc l4 t4;rw[et,V6];refine⟨ti',.inr ⟨c,D3 _ (C5.mpr rfl),λp hp=>?_,r',d'⟩⟩;rcases C8.mp hp with z|z
    ·exact .inr (pw3 p z c (C5.mpr rfl))
    ·exact .inl (C5.mp z)
 intro cs ic pw;exact key cs.length rfl ic pw
def rrow(left:Int)(cs:List Cl):RS:=cs.foldl (λs c=>QS (Bb s c) c) ⟨left,0,[]⟩
theorem tg_pre{pre acc:List Rn}{r:Rn}(h:∀l,pre.getLast?=some l->l.c≠r.c):AV (pre++acc) r=pre++AV acc r:=by
 rcases J1 acc with rfl|⟨b,l,rfl⟩
 ·rw[L5];exact QQ h
 ·rw[F7,<-M6,Bd,Bd];split
  ·rw[M6]
  ·simp only[M6]
theorem Va{left y0:Int}{pre:List Rn}(hp:∀l,pre.getLast?=some l->l.c=47){cs:List Cl}(hy:∀c∈cs,c.y=y0/\CS c):cs.foldl (CF left) ⟨left,y0,pre⟩=⟨(rrow left cs).r,y0,pre++(rrow left cs).rs⟩:=by
 have key:∀(l:List Cl)(s t:RS),(∀c∈l,c.y=y0/\CS c)->s.r=t.r->s.d=y0->s.rs=pre++t.rs->(l.foldl (CF left) s)=⟨(l.foldl (λs c=>QS (Bb s c) c) t).r,y0,pre++(l.foldl (λs c=>QS (Bb s c) c) t).rs⟩:=by
  intro l;induction l with
  |nil =>
   intro s t _ e1 e2 e3;obtain⟨r,d,rs⟩:=s;show(⟨r,d,rs⟩:RS)=⟨t.r,y0,pre++t.rs⟩
   rw[<-e3,<-e1];have:d=y0:=e2;rw[this]
  |cons c l ih =>
   intro s t hc e1 e2 e3;obtain⟨cy,ck⟩:=hc c C2;obtain⟨b1,b2,b3,b4⟩:=Md c.s ck.s8 ck.s1;have er:BI left s c=s:=Y0 A0;refine ih (CF left s c) (QS (Bb t c) c) (λq hq=>hc q (B3 _ hq)) rfl ?_ ?_
   ·show(Bb (BI left s c) c).d=y0;rw[er];unfold Bb;split
    ·exact e2
    ·exact e2
   ·show AV (Bb (BI left s c) c).rs _=pre++AV (Bb t c).rs _;rw[er];have eg:(Bb s c).rs=pre++(Bb t c).rs:=by
     unfold Bb;rw[<-e1];split
     ·show s.rs++_=pre++(t.rs++_)
      rw[e3,M6]
     ·exact e3
    rw[eg,tg_pre λl hl=>by rw[hp l hl];exact Z4 b2]
 exact key cs _ _ hy rfl rfl (by show pre=pre++[];rw[L5])
seal L2.PA L2.PE L2.PS L2.PSs L2.PT L2.PW
def ByC(es:List Cl):Prop:=es.Pairwise λp q=>BR [q.y,q.x] [p.y,p.x]=false
def frA(g:GA):List Addr:=[g.lv,g.pt,g.nm,g.am,g.bx]
theorem SR{H:Hp}:∀{out:List It3}{es:List Cl},out.map Vb=es.map rowC->(∀q∈out,H q.a=some (.tup (q.ns.map V.int)))->Paired (IC H) (out.map (·.a)) es
 |[],[],_,_=>.nil
 |[],_::_,e,_=>by cases e
 |_::_,[],e,_=>by cases e
 |q::out,c::es,e,h=>by
  rw[D5,D5]at e;injection e with e1 e2
  refine .cons ?_ (SR e2 λp hp=>h p (B3 _ hp));have hq:=h q (C2 ..);have e1:q.y::q.x::q.r=[c.y,c.x,(c.s:Int)]:=e1;injection e1 with y1 e1
  injection e1 with x1 r1
  have:q.ns=[c.x,c.y,(c.s:Int)]:=by
   show q.x::q.y::q.r=_;rw[y1,x1,r1]
  rw[this]at hq;exact hq
def itC(c:Cl):It3:=⟨0,c.x,c.y,[(c.s:Int)]⟩
theorem by_rows {es:List Cl} (h:ByC es) (nd:(es.map λc=>(c.x,c.y)).Nodup):(es.map rowC).Pairwise (λp q=>BR q p=false):=by
 have:=RW (out:=es.map itC) (L7.mpr h) (by rw[M7];exact nd);rw[M7]at this;exact this
theorem SI{g:GA}{b:Addr}(hb:b∈frA g):b∈BN g:=by
 simp only[frA,B9,J9,A0a]at hb;simp only[BN,B9,J9,A0a];lia
theorem FrQ.gx{a:Ad}{g:GA}{G:Gv}{H H':Hp}(h:FrQ g H H')(fu:AD a H g G):Fx (frA g) H H':=(h.fx fu).mono λx hx=>by
 simp only[B9,J9,A0a]at hx;rcases hx with rfl|rfl<;>simp[frA]
theorem Jc{i:Int}(h:i.natAbs<10^13):i.natAbs.log2<1920:=by
 by_cases z:i.natAbs=0
 ·rw[z];decide
 ·exact R1 ((Nat.log2_lt z).mpr (F0 h (by decide:10^13<=2^44))) A3
theorem IG:∀{rs:List Rn},(∀r∈rs,r.a<10^30)->(txt rs).length<=31*rs.length
 |[],_=>B5 _
 |r::rs,h=>by
  have h1:=Ut (h r (C2 ..));have h2:=IG λx hx=>h x (B3 r hx);show(wd r++txt rs).length<=_;rw[B4,D0];lia
section
variable{P:Program}{w:World}{K:PySem.W.Frag}{mg:Str->Option Value}{base:Heap}{a:Ad}
theorem co_at{g:GA}{G:Gv}{H:Hp}{Q:VK}{f:Nat}{es:List Cl}{φ:Int->Int->Nat}(fu:AD a H g G)(v:Vf G f φ)(dk:Pm es φ)(bc:ByC es)(l84:es.length<=63)(few:G.length<9000000)(k:∀(L:Addr)(ts:List Addr)(H':Hp),Fx (frA g) H H'->AD a H' g G->H L=none->H' L=some (.lst (ts.map V.ref))->Paired (IC H') ts es->Q (.ref L) H'):SpCo a [.ref g.p,.int f] H Q:=by
 obtain⟨n,n40,lf,tr,e⟩:=v.ex;have o:Of G n f es:=⟨dk.nd,λc=>by rw[e];exact dk.mem c⟩
 refine⟨g,G,f,n,rfl,fu,lf,by lia,few,by rw[o.cnt fu.ok lf];lia,λL out H' x fu' nL hL ho pm ru=>?_⟩;have pm2:=pm.trans (o.perm fu.ok lf);have nd:(out.map λq=>(q.x,q.y)).Nodup:=by
  have p3:=pm2.map λr=>(r.getD 1 0,r.getD 0 0)
  rw[M7,M7]at p3;exact p3.nodup_iff.mpr dk.nd
 have eq:=Mp (RW ru nd) (by_rows bc dk.nd) pm2;refine k L (out.map (·.a)) H' (x.mono (by simp[frL,frA])) fu' nL ?_ (SR eq ho);rw[M7];exact hL
def shT(left top:Int)(es:List Cl):List Nat:=Cf left++44::(Cf top++58::txt (tog (rcs left top es).rs))
structure ShB(es:List Cl)(left top:Int):Prop where
 l1:∃c∈es,c.x=left
 l2:∀c∈es,left<=c.x
 t1:∃c∈es,c.y=top
 t2:∀c∈es,top<=c.y
structure ShE(es:List Cl)(φ:Int->Int->Nat)(left top:Int):Prop where
 dk:Pm es φ
 bc:ByC es
 ne:es≠[]->ShB es left top
 em:es=[]->left=0/\top=0
 le:es.length<=48
 s8:∀c∈es,CS c
 ok:∀r∈(rcs left top es).rs,DZ r
 lb:left.natAbs<9999999999999
 tb:top.natAbs<9999999999999
inductive SpShP(a:Ad)(vs:List V)(H:Hp)(Q:VK):Prop
 |mk (g:GA) (G:Gv) (f:Nat) (φ:Int->Int->Nat) (es:List Cl) (left top:Int) (_:vs=[.ref g.p,.int f]) (_:AD a H g G) (_:Vf G f φ) (_:G.length<8000000) (_:ShE es φ left top) (_:∀(z:Str)(H':Hp),Fx (frA g) H H'->AD a H' g G->z.cps.toList=shT left top es->Q (.str z) H'):SpShP a vs H Q
def UL(a:Ad):Sp:=λvs H Q _=>SpShP a vs H Q
theorem ok_shp{f:Addr}{fd:FuncData}(F:Fun K "shown_pattern" "shown_pattern" DM f fd)(T:Top K mg a)(bQ:Cal P w K mg base CX0 56 "cells_of" Iy (spCo a))(c7:Cal P w K mg base CX0 102 "box_of" Mz (Os a))(bH:Cal P w K mg base CX0 2 "shown_runs" FJ UK)(aX:Cal P w K mg base CX0 1 "runs_of_cells" DS spRc):AI P w K mg base CX0 103 f fd DR (UL a):=by
 refine F.ok BB (λvs H Q E h=>?_) (λcdv A outer s H vs Q E hr h=>?_)
 ·obtain⟨g,G,f',φ,es,left,top,rfl,_⟩:=h;rfl
 ·obtain⟨g,G,f',φ,es,left,top,rfl,fu,vf,few,sh,k⟩:=h;obtain⟨n,n40,lf,tr,ef⟩:=vf.ex;have sle:=sh.le;refine⟨_,(Ab (Ah (i:=2) BB.nd rfl (Or.inl rfl) (Aq bQ (rm hr) rfl Ao (Aa (pv 0) (Aa (pv 1) Ac)))) (Ab (AE (As Cp (AA BV rfl T.b_len X9 (Aa (pv 2) Ac)) Af (Au _)) (Ae (At BM)) Ax) (Ab (Ah (i:=3) BB.nd rfl (Or.inl rfl) (Aq c7 (rm hr) rfl Ao (Aa (pv 0) (Aa (pv 1) Ac)))) (Ab (Ah (i:=4) BB.nd rfl (Or.inl rfl) (Am Av (pv 3) Af (λ_ _=>rfl))) (Ab (Ah (i:=5) BB.nd rfl (Or.inl rfl) (Am Av (pv 3) Af (λ_ _=>rfl))) (Ab (Ah (i:=6) BB.nd rfl (Or.inl rfl) (Aq bH (rm hr) rfl Ao (Aa (Aq aX (rm hr) rfl Ao (Aa (pv 2) (Aa (pv 4) (Aa (pv 5) Ac)))) Ac))) (Ae (At (Vo (pv 4) BM (pv 5) BM (pv 6)))))))))),?_⟩
  try dsimp only[cxK]
  refine Bs ?_;intro r1 s1 k1 hk1 E1;refine xw2 rfl rfl (co_at fu ⟨n,n40,lf,tr,ef⟩ sh.dk sh.bc A0 A0 λL ts H1 x1 fu1 nL hL pr=>?_);refine hk1 ?_;have lts:=Y6 pr;refine Bs ?_;intro r2 s2 k2 hk2 E2;refine⟨_,rfl,L,_,rfl,.inl (SqL.of hL),rfl,_,rfl,?_⟩;by_cases ne:es=[]
  ·rw[Y1 (by rw[B0,lts,ne];rfl)];refine BH ?_;obtain⟨e1,e2⟩:=sh.em ne;refine k _ H1 x1 fu1 ?_;rw[e1,e2,ne];decide +kernel
  rw[Y3 (by
   intro z;injection z with z
   rw[B0,lts]at z;exact ne (List.eq_nil_of_length_eq_zero A0))]
  refine AT ?_;refine hk2 ?_;have sb:=sh.ne ne;refine Bs ?_;intro r3 s3 k3 hk3 E3;refine xw2 rfl rfl ⟨g,G,f',n,rfl,fu1,lf,by lia,few,λz=>?_,λb eb t H2 fq2 fu2 hb=>?_⟩
  ·obtain⟨c,hc,_⟩:=sb.l1;have:=(sh.dk.mem c).mp hc;rw[<-ef,Rh fu1.ok lf z]at this;lia
  have tg:=Ps fu1.ok lf eb;have el:(mvB (2^n) b).l=left:=by
   obtain⟨v,hv⟩:=tg.le;have hv:fieldF G n f' (mvB (2^n) b).l v≠0:=hv;have m:(⟨(mvB (2^n) b).l,v,fieldF G n f' (mvB (2^n) b).l v⟩:Cl)∈es:=(sh.dk.mem _).mpr ⟨W2 hv,(ef _ _).symm⟩;have h1:=sb.l2 _ m;obtain⟨c,hc,e⟩:=sb.l1;have hc:=(sh.dk.mem c).mp hc;have h2:=(tg.inn c.x c.y (by show fieldF G n f' c.x c.y≠0;rw[ef,hc.2];lia)).1;have h1:left<=(mvB (2^n) b).l:=h1;lia
  have et:(mvB (2^n) b).t=top:=by
   obtain⟨u,hu⟩:=tg.to;have hu:fieldF G n f' u (mvB (2^n) b).t≠0:=hu;have m:(⟨u,(mvB (2^n) b).t,fieldF G n f' u (mvB (2^n) b).t⟩:Cl)∈es:=(sh.dk.mem _).mpr ⟨W2 hu,(ef _ _).symm⟩;have h1:=sb.t2 _ m;obtain⟨c,hc,e⟩:=sb.t1;have hc:=(sh.dk.mem c).mp hc;have h2:=(tg.inn c.x c.y (by show fieldF G n f' c.x c.y≠0;rw[ef,hc.2];lia)).2.2.1;have h1:top<=(mvB (2^n) b).t:=h1;lia
  have x2:=fq2.gx fu1;have nLg:L∉frA g:=λm=>by
   obtain⟨o,e⟩:=fu.nw.s L (SI m);rw[nL]at e;cases e
  have hL2:=x2.get nLg hL;have pr2:=PairedM.imp (λt c z=>(x2.tup z:IC H2 t c)) pr;have x02:=x1.trans x2;refine hk3 ?_;have hb:H2 t=some (.tup [.int left,.int top,.int (mvB (2^n) b).w,.int (mvB (2^n) b).h]):=by
   rw[<-el,<-et];exact hb
  clear el et tg eb nL hL pr x1 x2 fq2 fu1;refine Bs ?_;intro r4 s4 k4 hk4 E4;refine xwi rfl rfl rfl (SqT.of hb) (Ag (j:=0) rfl) ?_;refine hk4 ?_;refine Bs ?_;intro r5 s5 k5 hk5 E5;refine xwi rfl rfl rfl (SqT.of hb) (Ag (j:=1) rfl) ?_;refine hk5 ?_;refine Bs ?_;intro r6 s6 k6 hk6 E6;have rl:=IP left top es es.length;rw[D9]at rl;have tf:(tog (rcs left top es).rs).length<=1000:=by
   have:=LC (rcs left top es).rs;lia
  refine xw3 rfl rfl rfl ⟨L,ts,es,left,top,rfl,hL2,pr2,λc hc=>(sh.s8 c hc).s8,by lia,λR us H3 nR s3' hR pr3=>⟨R,us,_,rfl,hR,pr3,sh.ok,?_,tf,λz H4 s4' hz=>?_⟩⟩
  ·lia
  have s24:=s3'.trans s4';refine hk6 ?_;have zl:z.length<=100000:=by
   rw[Nu.len,hz];have h1:=IG (ND sh.ok A0);have h2:=tf;lia
  refine⟨_,rfl,left,rfl,Jc (by have:=sh.lb;lia),Str.ofString ",",rfl,by decide +kernel,_,rfl,top,rfl,Jc (by have:=sh.tb;lia),Str.ofString ":",rfl,by decide +kernel,_,rfl,z,rfl,zl,k _ H4 (x02.trans (Az.fx s24)) (fu2.same s24) ?_⟩;rw[Tx.AU,Tx.AU,Tx.AU,Tx.AU,IU,IU,hz];have c1:(Str.ofString ",").cps.toList=[44]:=by decide +kernel
  have c2:(Str.ofString ":").cps.toList=[58]:=by decide +kernel
  rw[c1,c2];unfold shT;simp
end
def InG(u v:Int):Prop:=(-(2^40)<=u/\u<2^40)/\(-(2^40)<=v/\v<2^40)
def gro:Nat->Nat
 |0=>0
 |k+1=>gro k+(16*(49+350*k)+4000)
theorem Wj:∀k,k<=48->gro k<=6546432:=by decide
theorem Qt(k:Nat):∀n,gro k<=gro (k+n)
 |0=>B5 _
 |n+1=>C4 (Qt k n) (Nat.le_add_right _ _)
theorem Wi{k n:Nat}(h:1<=n):gro k+(16*(49+350*k)+4000)<=gro (k+n):=by
 have:=Qt (k+1) (n-1);rw[show k+1+(n-1)=k+n by lia]at this;exact this
theorem UW:∀c∈sg,c≠46->c≠47->1<=sg.idxOf c/\sg.idxOf c<8:=by decide
theorem sg_at:∀c∈sg,c≠47->(Builtin.Str.occurrences (Str.ofString ".ABCDEFG") ⟨#[c]⟩ 0 (Str.ofString ".ABCDEFG").length 1).head?=some (sg.idxOf c):=by decide +kernel
theorem sg_ix{c:Nat}(h:c∈sg)(n:c≠47):∃r,Builtin.Str.occurrences (Str.ofString ".ABCDEFG") ⟨#[c]⟩ 0 (Str.ofString ".ABCDEFG").length 1=sg.idxOf c::r:=by
 have e:=sg_at c h n;generalize Builtin.Str.occurrences (Str.ofString ".ABCDEFG") ⟨#[c]⟩ 0 (Str.ofString ".ABCDEFG").length 1=o at e;cases o with
 |nil=>cases e
 |cons a r=>cases e;exact⟨r,rfl⟩
theorem vl_bare{G r:Gv}(e0:G=G0++r)(ok:GOk G):Vl G (bareN 1) (λ_ _=>0) 49:=by
 refine⟨⟨0,⟨CK e0 (n:=1) A3,.inl rfl,by decide⟩,λu v=>?_⟩,LP e0 ok A3⟩;unfold fieldF;split
 ·rename_i z;exact CY e0 ok A3 (CD z.1 z.2.1) (CD z.2.2.1 z.2.2.2)
 ·rfl
theorem Si{c d:Nat}{z:Str}(hz:z.cps.toList=[d]):decide (V.str ⟨#[c]⟩=V.str z)=decide (c=d):=by
 by_cases e:c=d
 ·rw[Y1 e];exact Y1 (Z5 V.str (Nu.ext (by rw[hz,e])))
 ·rw[Y3 e];refine Y3 λq=>e ?_;injection q with q
  have:=Z5 (λs:Str=>s.cps.toList) q;rw[hz]at this;injection this
theorem Vl.mono{G:Gv}{f B C:Nat}{φ:Int->Int->Nat}(h:Vl G f φ B)(e:B<=C):Vl G f φ C:=⟨h.ex,h.fs.mono e⟩
theorem UE{x0:Int}{s:W3}{r:Rn}(k:DZ r){u v:Int}(h:s.φ u v≠0):(stR x0 s r).φ u v≠0:=by
 unfold stR;split
 ·exact h
 split
 ·exact h
 rename_i n7 n6;show FU _ _ s.φ u v≠0;unfold FU;split
 ·have:=(UW _ k.c n6 n7).1;lia
 ·exact h
theorem Ur(x y:Int){rs:List Rn}{j:Nat}{r:Rn}(h:rs[j]?=some r):wkR x y (rs.take (j+1))=stR x (wkR x y (rs.take j)) r:=by
 rw[D1,h];exact IE x y _ r
theorem Us(x y:Int){rs:List Rn}(k:∀r∈rs,DZ r){j:Nat}{u v:Int}(h:(wkR x y (rs.take j)).φ u v≠0):(wkR x y rs).φ u v≠0:=by
 have key:∀(l:List Rn)(s:W3),(∀r∈l,DZ r)->s.φ u v≠0->(l.foldl (stR x) s).φ u v≠0:=by
  intro l;induction l with
  |nil=>intro s _ h;exact h
  |cons r l ih=>intro s hr h;exact ih _ (λq hq=>hr q (B3 _ hq)) (UE (hr r C2) h)
 have e:wkR x y rs=(rs.drop j).foldl (stR x) (wkR x y (rs.take j)):=by
  unfold wkR;rw[<-N8,Q6]
 rw[e];exact key _ _ (λr hr=>k r (List.mem_of_mem_drop hr)) h
theorem WC{rs:List Rn}{j:Nat}{r:Rn}(h:rs[j]?=some r):arR (rs.take (j+1))=arR (rs.take j)+arN r:=by
 rw[D1,h];exact GY _ r
theorem WB(rs:List Rn)(j:Nat):arR (rs.take j)<=arR rs:=by
 have:arR rs=arR (rs.take j)+arR (rs.drop j):=by
  unfold arR;rw[<-Q0,<-B8,Q6]
 lia
section
variable{P:Program}{w:World}{K:PySem.W.Frag}{mg:Str->Option Value}{base:Heap}{a:Ad}
inductive SpFR(a:Ad)(vs:List V)(H:Hp)(Q:VK):Prop
 |mk (g:GA) (G:Gv) (x y:Int) (R:Addr) (ts:List Addr) (rs:List Rn) (_:vs=[.ref g.p,.int x,.int y,.ref R]) (_:AD a H g G) (_:H R=some (.lst (ts.map V.ref))) (_:R∉BN g) (_:Paired (Ch H) ts rs) (_:∀r∈rs,DZ r) (_:arR rs<=48) (_:G.length<900000) (_:∀u v,(wkR x y rs).φ u v≠0->InG u v) (_:∀(r:Nat)(G':Gv)(H':Hp),Fr g H H'->AD a H' g G'->AM G G' 6546432->Vl G' r (wkR x y rs).φ 16849->Q (.int r) H'):SpFR a vs H Q
def spFR(a:Ad):Sp:=λvs H Q _=>SpFR a vs H Q
theorem ok_fr{f:Addr}{fd:FuncData}(F:Fun K "field_of_runs" "field_of_runs" DO f fd)(T:Top K mg a)(aP:Cal P w K mg base CX0 1 "bare_field" Ef (LH a))(bF:Cal P w K mg base CX0 103 "filled" IT (Ij a)):AI P w K mg base CX0 104 f fd DT (spFR a):=by
 refine F.ok AR (λvs H Q E h=>?_) (λcdv A outer s H vs Q E hr h=>?_)
 ·obtain⟨g,G,x,y,R,ts,rs,rfl,_⟩:=h;rfl
 ·obtain⟨g,G,x,y,R,ts,rs,rfl,fu,hR,nR,pr,ok,ar,few,hin,k⟩:=h;have lts:=Y6 pr;refine⟨_,(Ab (Ah (i:=4) AR.nd rfl (Or.inl rfl) (Aq aP (rm hr) rfl Ao (Aa (pv 0) Ac))) (Ab (Ah (i:=5) AR.nd rfl (Or.inl rfl) (pv 1)) (Ab (Ah (i:=6) AR.nd rfl (Or.inl rfl) (pv 2)) (Ab (BT Z2 rfl (Cg (pv 3)) (Ey rfl (AN (AF (i:=7) AR.nd rfl (Or.inl rfl)) (AN (AF (i:=8) AR.nd rfl (Or.inl rfl)) Di))) (Ae (AE (As Cp (pv 8) (Ed rfl T.k_ROW_SIGN) (Au _)) (Ab (Ah (i:=5) AR.nd rfl (Or.inl rfl) (pv 1)) (Ae (Ah (i:=6) AR.nd rfl (Or.inl rfl) (Ay AW (pv 6) (pv 7))))) (Ab (AE (As MA (pv 8) (Ed rfl T.k_BLANK_SIGN) (Au _)) (Ae (Ah (i:=4) AR.nd rfl (Or.inl rfl) (Aq bF (rm hr) rfl Ao (Aa (pv 0) (Aa (pv 4) (BJ (Aa (pv 5) (Aa (pv 6) (Aa (pv 7) (Bh Ac)))) (Aa (CH K3 PySem.F.slot_str_index PySem.F.type_str_index VQ (Ed rfl T.k_STATE_SIGNS) (Aa (pv 8) Ac)) Ac))))))) Ax) (Ae (Ah (i:=5) AR.nd rfl (Or.inl rfl) (Ay AW (pv 5) (pv 7)))))))) (Ae (At (pv 4))))))),?_⟩
  try dsimp only[cxK]
  obtain⟨r0,e0⟩:=fu.g0;have vl0:Vl G (bareN 1) (λ_ _=>0) 49:=vl_bare e0 fu.ok;refine⟨_,rfl,g,G,rfl,fu,_,rfl,_,rfl,_,rfl,R,rfl,⟨_,SqL.of hR⟩,?_⟩;have hRx:∀{H2:Hp},Fr g H H2->H2 R=some (.lst (ts.map V.ref)):=λ{H2} fr=>fr _ _ hR (λz=>nR (by simp[BN,z])) (λz=>nR (by simp[BN,z])) (λz=>nR (by simp[BN,z]));refine EJ (xs:=ts.map V.ref) (λj σ H2=>∃(G2:Gv)(f2:Nat)(u7 u8:Option V),σ=[some (.ref g.p),some (.int x),some (.int y),some (.ref R),some (.int f2),some (.int (wkR x y (rs.take j)).r),some (.int (wkR x y (rs.take j)).d),u7,u8]/\Fr g H H2/\AD a H2 g G2/\AM G G2 (gro (arR (rs.take j)))/\Vl G2 f2 (wkR x y (rs.take j)).φ (49+350*arR (rs.take j))) ⟨G,bareN 1,none,none,rfl,Fr.refl g H,fu,AM.refl fu.ok,vl0⟩ (λj σ H2 _ z=>SqL.of (by obtain⟨_,_,_,_,_,fr,_⟩:=z;exact hRx fr)) ?_ ?_
  ·rintro j v σ H2 ev ⟨G2,f2,u7,u8,rfl,fr,fu2,go,vl⟩;rw[B6]at ev;obtain⟨t,et,rfl⟩:=D6.mp ev;obtain⟨r,er,ht⟩:=PairedM.getL pr et;have rk:=ok r (F6 er);have ht2:Ch H2 t r:=fr.tup fu.at' ht;have en:=Ur x y er;have an:=WC er;have a8:=WB rs (j+1);have lv:∀u v,(stR x (wkR x y (rs.take j)) r).φ u v≠0->InG u v:=λu v z=>hin u v (Us x y ok (j:=j+1) (by rw[en];exact z));refine Le ht2 ?_;rw[en,an];generalize wkR x y (rs.take j)=S at *
   generalize arR (rs.take j)=m at *
   refine⟨_,rfl,rfl,_,rfl,?_⟩;rw[Si (d:=47) A1];by_cases z7:r.c=47
   ·rw[Y1 z7,IH z7,RP (.inr z7)];exact BH ⟨_,rfl,_,rfl,_,rfl,_,_,rfl,rfl,G2,f2,_,_,rfl,fr,fu2,go,vl⟩
   rw[Y3 z7];refine AT ?_;refine⟨_,rfl,rfl,_,rfl,?_⟩;rw[Si (d:=46) A1];by_cases z6:r.c=46
   ·rw[Y1 z6,IJ z6,RP (.inl z6)];exact AT ⟨_,rfl,_,rfl,_,_,rfl,rfl,G2,f2,_,_,rfl,fr,fu2,go,vl⟩
   rw[Y3 z6];have lt:Lt r.c:=⟨z6,z7⟩
   obtain⟨rr,ho⟩:=sg_ix rk.c z7;obtain⟨i1,i8⟩:=UW _ rk.c z6 z7;have a1:=rk.a1;have a2:=Pk lt;have gf:=go.few;have gm:=Wi (k:=m) a1;have g8:=Wj (m+r.a) A0;rw[II lt]at lv⊢;have li:Db S.r S.d r.a 1 (2^40):=by
    have h1:=lv S.r S.d (by
     show FU _ _ _ _ _≠0;rw[GD (inb (by dsimp only;lia))];lia)
    have h2:=lv (S.r+r.a-1) S.d (by
     show FU _ _ _ _ _≠0;rw[GD (inb (by dsimp only;lia))];lia)
    unfold InG at h1 h2;unfold Db;lia
   rw[a2];refine BH ⟨_,rfl,_,rfl,_,rfl,_,rfl,_,rfl,(by show 4<=sizeLine;decide),λt4 nt4=>⟨rfl,_,rfl,_,_,sg.idxOf r.c,rr,rfl,rfl,ho,?_⟩⟩;have s4:=Ak (o:=.tup [.int S.r,.int S.d,.int (r.a:Int),.int 1]) nt4;have h4:upd H2 t4 (.tup [.int S.r,.int S.d,.int (r.a:Int),.int 1]) t4=some (.tup [.int S.r,.int S.d,.int (r.a:Int),.int 1]):=upd_same;have fu4:=fu2.same s4;generalize upd H2 t4 (.tup [.int S.r,.int S.d,.int (r.a:Int),.int 1])=H4 at s4 h4 fu4⊢;have frn:Fr g H H4:=λb o e n1 n2 n3=>s4 _ _ (fr b o e n1 n2 n3);refine fill_a (E:=λ_ _ _=>False) (q:=⟨S.r,S.d,r.a,1⟩) (C:=49+350*(m+r.a)) fu4 vl h4 (by show(0:Int)<=(r.a:Int);lia) (by show(0:Int)<=1;decide) (λ_ _=>li) i8 ?_ A0 A0 λf5 G5 H5 fr5 fu5 go5 vl5=>?_
   ·show((r.a:Int)).toNat*(1:Int).toNat*50+_+300<=_;rw[show(1:Int).toNat=1 from rfl,Nat.mul_one,F1];lia
   ·exact⟨_,rfl,_,rfl,_,_,rfl,rfl,G5,f5,_,_,rfl,frn.trans fr5,fu5,(go.trans go5).mono A0,vl5⟩
  ·rintro σ H2 ⟨G2,f2,u7,u8,rfl,fr,fu2,go,vl⟩;rw[B0,lts,D9]at *
   exact⟨_,rfl,k f2 G2 H2 fr fu2 (go.mono (Wj _ ar)) (vl.mono A0)⟩
def patT(x y:Int)(l:List Rn):List Nat:=Cf x++44::(Cf y++58::txt l)
theorem Tr{z:Str}{x y:Int}{l:List Rn}(h:z.cps.toList=patT x y l):∃X Y B:Str,X.cps.toList=Cf x/\Y.cps.toList=Cf y/\B.cps.toList=txt l/\Txt.partition z ⟨#[58]⟩=(X++⟨#[44]⟩++Y,⟨#[58]⟩,B)/\Txt.partition (X++⟨#[44]⟩++Y) ⟨#[44]⟩=(X,⟨#[44]⟩,Y):=by
 have free:∀{n:Int}{c:Nat},c≠45->Nu.dig c=false->c∉Cf n:=λh1 h2 m=>by
  rcases VH m with q|q
  ·exact h1 q
  ·rw[h2]at q;cases q
 refine⟨⟨(Cf x).toArray⟩,⟨(Cf y).toArray⟩,⟨(txt l).toArray⟩,rfl,rfl,rfl,?_,Tx.Ee 44 _ _ (free A3 A3)⟩;have e:z=(⟨(Cf x).toArray⟩++⟨#[44]⟩++⟨(Cf y).toArray⟩)++⟨#[58]⟩++⟨(txt l).toArray⟩:=Nu.ext (by
  rw[h,Tx.AU,Tx.AU,Tx.AU,Tx.AU];unfold patT;simp)
 rw[e];refine Tx.Ee 58 _ _ ?_;rw[Tx.AU,Tx.AU];intro m;rcases C8.mp m with m|m
 ·rcases C8.mp m with m|m
  ·exact free A3 A3 m
  ·simp at m
 ·exact free A3 A3 m
inductive SpPat(a:Ad)(vs:List V)(H:Hp)(Q:VK):Prop
 |mk (g:GA) (G:Gv) (x y:Int) (z:Str) (l:List Rn) (_:vs=[.ref g.p,.str z]) (_:AD a H g G) (_:z.cps.toList=patT x y l) (_:z.length<=10000) (_:x.natAbs<9999999999999) (_:y.natAbs<9999999999999) (_:∀r∈l,DZ r) (_:l.length<=1000) (_:arR l<=48) (_:G.length<900000) (_:∀u v,(wkR x y l).φ u v≠0->InG u v) (_:∀(r:Nat)(G':Gv)(H':Hp),Fr g H H'->AD a H' g G'->AM G G' 6546432->Vl G' r (wkR x y l).φ 16849->Q (.int r) H'):SpPat a vs H Q
def UM(a:Ad):Sp:=λvs H Q _=>SpPat a vs H Q
theorem ok_pat{f:Addr}{fd:FuncData}(F:Fun K "read_pattern" "read_pattern" Et f fd)(T:Top K mg a)(b6:Cal P w K mg base CX0 3 "read_place" FL spRP)(bK:Cal P w K mg base CX0 2 "read_runs" Gr QV)(aY:Cal P w K mg base CX0 104 "field_of_runs" DT (spFR a)):AI P w K mg base CX0 105 f fd EA (UM a):=by
 refine F.ok BY (λvs H Q E h=>?_) (λcdv A outer s H vs Q E hr h=>?_)
 ·obtain⟨g,G,x,y,z,l,rfl,_⟩:=h;rfl
 ·obtain⟨g,G,x,y,z,l,rfl,fu,hz,zl,x13,y13,ok,l23,ar,few,hin,k1⟩:=h;obtain⟨X,Y,B,eX,eY,eB,p1,p2⟩:=Tr hz;refine⟨_,(Ab (AE (CG (Cm (AA Fs rfl T.b_isinstance X3 (Aa (pv 1) (Aa (GN (v:=.ty "str") rfl T.b_str K6 rfl) Ac))))) (Ae AZ) Ax) (Ab (Ah (i:=2) BY.nd rfl (Or.inl rfl) (CH K3 PySem.F.slot_str_partition PySem.F.type_str_partition Ja (pv 1) (OD Ac))) (Ab (Ah (i:=3) BY.nd rfl (Or.inl rfl) (CH K3 PySem.F.slot_str_partition PySem.F.type_str_partition Ja (Am Av (pv 2) Af (λ_ _=>rfl)) (OD Ac))) (Ab (AE (PW.pt (Fn (As Cp (Am Av (pv 2) Af (λ_ _=>rfl)) BM (Au _)) (EZ (As Cp (Am Av (pv 3) Af (λ_ _=>rfl)) BM (Au _))))) (Ae AZ) Ax) (Ab (Ah (i:=4) BY.nd rfl (Or.inl rfl) (Aq b6 (rm hr) rfl Ao (Aa (Am Av (pv 3) Af (λ_ _=>rfl)) Ac))) (Ab (Ah (i:=5) BY.nd rfl (Or.inl rfl) (Aq b6 (rm hr) rfl Ao (Aa (Am Av (pv 3) Af (λ_ _=>rfl)) Ac))) (Ae (At (Aq aY (rm hr) rfl Ao (Aa (pv 0) (Aa (pv 4) (Aa (pv 5) (Aa (Aq bK (rm hr) rfl Ao (Aa (Am Av (pv 2) Af (λ_ _=>rfl)) Ac)) Ac))))))))))))),?_⟩
  try dsimp only[cxK]
  refine⟨_,rfl,_,_,_,.type "str",true,rfl,rfl,.of (.str z),OX K,true,rfl,AT ?_⟩;have c58:Str.ofString ":" = ⟨#[58]⟩:=by decide +kernel
  have c44:Str.ofString "," = ⟨#[44]⟩:=by decide +kernel
  have al:(X++⟨#[44]⟩++Y).length<=100000:=by
   have h1:=FR (n:=x) A0;have h2:=FR (n:=y) A0;rw[<-eX,<-Nu.len]at h1;rw[<-eY,<-Nu.len]at h2;rw[Tx.LT,Tx.LT];have:(⟨#[44]⟩:Str).length=1:=rfl;lia
  refine⟨_,rfl,rfl,z,_,rfl,rfl,rfl,by lia,λp hp=>?_⟩;rw[c58,p1];have s1:=Ak (o:=.tup [.str (X++⟨#[44]⟩++Y),.str ⟨#[58]⟩,.str B]) hp;have h1:upd H p (.tup [.str (X++⟨#[44]⟩++Y),.str ⟨#[58]⟩,.str B]) p=some (.tup [.str (X++⟨#[44]⟩++Y),.str ⟨#[58]⟩,.str B]):=upd_same;generalize upd H p (.tup [.str (X++⟨#[44]⟩++Y),.str ⟨#[58]⟩,.str B])=H1 at s1 h1⊢;refine⟨_,rfl,p,_,0,.str (X++⟨#[44]⟩++Y),rfl,rfl,SqT.of h1,Ag (j:=0) rfl,rfl,_,_,rfl,rfl,rfl,al,λp' hp'=>?_⟩;rw[c44,p2];have s2:=Ak (o:=.tup [.str X,.str ⟨#[44]⟩,.str Y]) hp';have h2:upd H1 p' (.tup [.str X,.str ⟨#[44]⟩,.str Y]) p'=some (.tup [.str X,.str ⟨#[44]⟩,.str Y]):=upd_same;generalize upd H1 p' (.tup [.str X,.str ⟨#[44]⟩,.str Y])=H2 at s2 h2⊢;have h1':=s2 _ _ h1;refine⟨_,rfl,p,_,1,.str ⟨#[58]⟩,rfl,rfl,SqT.of h1',Ag (j:=1) rfl,rfl,_,rfl,?_⟩;rw[show decide (V.str ⟨#[58]⟩=V.str (Str.ofString ""))=false from Y3 (λq=>by injection q with q;exact absurd (Z5 (λs:Str=>s.cps.toList) q) A1)];refine AT ⟨_,rfl,p',_,1,.str ⟨#[44]⟩,rfl,rfl,SqT.of h2,Ag (j:=1) rfl,rfl,_,rfl,?_⟩;rw[show decide (V.str ⟨#[44]⟩=V.str (Str.ofString ""))=false from Y3 (λq=>by injection q with q;exact absurd (Z5 (λs:Str=>s.cps.toList) q) A1)];refine AT ⟨_,rfl,p',_,0,.str X,rfl,rfl,SqT.of h2,Ag (j:=0) rfl,X,x,rfl,eX,by lia,λH3 s3=>?_⟩;refine⟨_,rfl,p',_,2,.str Y,rfl,rfl,SqT.of (s3 _ _ h2),Ag (j:=2) rfl,Y,y,rfl,eY,by lia,λH4 s4=>?_⟩;have s14:Az H H4:=((s1.trans s2).trans s3).trans s4;have fu4:=fu.same s14;refine⟨_,rfl,_,rfl,_,rfl,_,rfl,p,_,2,.str B,rfl,rfl,SqT.of (s4 _ _ (s3 _ _ h1')),Ag (j:=2) rfl,B,l,rfl,eB,ok,l23,λL ts H5 nL s5 hL pr=>?_⟩;have nR:L∉BN g:=λz=>by
   obtain⟨o1,e1⟩:=fu4.nw.s L z;rw[nL]at e1;cases e1
  have s15:=s14.trans s5;have frn:∀{H6:Hp},Fr g H5 H6->Fr g H H6:=λ{H6} fr b o e n1 n2 n3=>fr b o (s15 _ _ e) n1 n2 n3;exact⟨g,G,x,y,L,ts,l,rfl,fu.same s15,hL,nR,pr,ok,ar,few,hin,λr G6 H6 fr6 fu6 go6 vl6=>k1 r G6 H6 (frn fr6) fu6 go6 vl6⟩
end
def ClY(H:Hp)(t:Addr)(c:Cl):Prop:=H t=some (.tup [.int c.y,.int c.x,.int (c.s:Int)])
theorem RA.last{H H2 H3:Hp}{R t tl:Addr}{vs:List Addr}{rs:List Rn}{l r:Rn}(h:RA H H2 R (vs++[tl]) (rs++[l]))(pv:Paired (Ch H2) vs rs)(nR:H R=none)(nt:H2 t=none)(e:upd H2 t (.tup [.int r.a,.str ⟨#[r.c]⟩])=H3):H3 R=some (.lst (vs.map V.ref++[V.ref tl]))/\RA H (upd H3 R (.lst ((vs.map V.ref++[V.ref tl]).set vs.length (.ref t)))) R (vs++[t]) (rs++[r]):=by
 have s3:Az H2 H3:=e▸Ak nt;have ht:H3 t=some (.tup [.int r.a,.str ⟨#[r.c]⟩]):=e▸upd_same;have hR2:=h.hR;rw[B8]at hR2;have hR3:H3 R=some (.lst (vs.map V.ref++[V.ref tl])):=s3 _ _ hR2;have tp:∀{b:Addr}{ys:List V}{o:HO},H3 b=some (.tup ys)->upd H3 R o b=some (.tup ys):=λ{b ys o} e=>by rw[Al (AS e hR3 A4)];exact e
 have es:(vs.map V.ref++[V.ref tl]).set vs.length (.ref t)=(vs++[t]).map V.ref:=by
  have:=Mg (V.ref t) (vs.map V.ref) (.ref tl);rw[B0]at this;rw[this,B8];rfl
 refine⟨hR3,λb o e=>?_,by rw[upd_same,es],K2 (PairedM.imp (λb c z=>(tp (s3 _ _ z):Ch _ b c)) pv) (tp ht:Ch _ t r)⟩;rw[Al (An e nR)];exact s3 _ _ (h.sm _ _ e)
theorem NI(left:Int){cs:List Cl}{j:Nat}{c:Cl}(h:cs[j]?=some c):rrow left (cs.take (j+1))=QS (Bb (rrow left (cs.take j)) c) c:=by
 unfold rrow;rw[D1,h,N8];rfl
theorem Mo(left:Int)(cs:List Cl):∀j,(rrow left (cs.take j)).rs.length<=2*j
 |0=>B5 _
 |j+1=>by
  have ih:=Mo left cs j;cases e:cs[j]? with
  |none =>
   rw[D1,e,Option.toList_none,L5];lia
  |some c =>
   rw[NI left e];have h1:=GK (rrow left (cs.take j)) c;have h2:=LZ (Bb (rrow left (cs.take j)) c).rs ⟨1,sg.getD c.s 0⟩;show(AV (Bb (rrow left (cs.take j)) c).rs ⟨1,sg.getD c.s 0⟩).length<=_;lia
theorem let_str:(Str.ofString "ABCDEFG").cps.toList=[65,66,67,68,69,70,71]:=by decide +kernel
theorem let_at:∀s,s<8->1<=s->[65,66,67,68,69,70,71][s-1]?=some (sg.getD s 0):=by decide
section
variable{P:Program}{w:World}{K:PySem.W.Frag}{mg:Str->Option Value}{base:Heap}{a:Ad}
inductive SpKp(vs:List V)(H:Hp)(Q:VK):Prop
 |mk (x:Int) (_:vs=[.int x]) (_:∀y:Int,-(2^40)<=y->y<=2^40-6->Q (.int y) H):SpKp vs H Q
def spKp:Sp:=λvs H Q _=>SpKp vs H Q
theorem ok_kp{f:Addr}{fd:FuncData}(F:Fun K "_law_kept" "_law_kept" Gn f fd)(T:Top K mg a):AI P w K mg base CX0 1 f fd Gx spKp:=by
 refine F.ok Ow (λvs H Q E h=>?_) (λcdv A outer s H vs Q E hr h=>?_)
 ·obtain⟨x,rfl,_⟩:=h;rfl
 ·obtain⟨x,rfl,k⟩:=h;refine⟨_,(Ae (At (AA (GV rfl) rfl T.b_max K5 (Aa (EQ Dd (Ay FP Af Af)) (Aa (AA (Fq rfl) rfl T.b_min X1 (Bv Cd (Ay FP Af Af) Af (Aa (pv 0) Ac))) Ac))))),?_⟩
  try dsimp only[cxK]
  refine⟨_,_,rfl,rfl,⟨by decide,by decide⟩,_,rfl,_,_,rfl,rfl,⟨by decide,by decide⟩,_,_,rfl,rfl,_,rfl,_,_,rfl,_,_,rfl,?_⟩;have p40:(1:Int)*2^(40:Int).toNat=2^40:=by decide
  have p40:∀e:Int,e=2^40->Q (V.int (if(if x<e-6 then x else e-6) > -e then(if x<e-6 then x else e-6)else -e)) H:=λe he=>by
   subst he;refine k _ ?_ ?_
   ·split<;>lia
   ·split<;>split<;>lia
  exact p40 _ A3
inductive SpLR(vs:List V)(H:Hp)(Q:VK):Prop
 |mk (L:Addr) (ts:List Addr) (cs:List Cl) (left:Int) (_:vs=[.ref L,.int left]) (_:H L=some (.lst (ts.map V.ref))) (_:Paired (ClY H) ts cs) (_:∀c∈cs,CS c) (_:cs.length<=48) (_:∀r∈(rrow left cs).rs,DZ r) (_:∀(z:Str)(H':Hp),Az H H'->z.cps.toList=txt (rrow left cs).rs->Q (.str z) H'):SpLR vs H Q
def spLR:Sp:=λvs H Q _=>SpLR vs H Q
theorem ok_lr{f:Addr}{fd:FuncData}(F:Fun K "_law_row" "_law_row" Iu f fd)(T:Top K mg a):AI P w K mg base CX0 1 f fd Iz spLR:=by
 refine F.ok Bn (λvs H Q E h=>?_) (λcdv A outer s H vs Q E hr h=>?_)
 ·obtain⟨L,ts,cs,left,rfl,_⟩:=h;rfl
 ·obtain⟨L,ts,cs,left,rfl,hL,pr,ck,l48,rok,k⟩:=h;have lts:=Y6 pr;refine⟨_,(Ab (Ah (i:=2) Bn.nd rfl (Or.inl rfl) (Dj Ac)) (Ab (Ah (i:=3) Bn.nd rfl (Or.inl rfl) (pv 1)) (Ab (BT Z2 rfl (Cg (pv 0)) (Ey rfl (AN (AF (i:=4) Bn.nd rfl (Or.inl rfl)) (AN (AF (i:=5) Bn.nd rfl (Or.inl rfl)) (AN (AF (i:=6) Bn.nd rfl (Or.inl rfl)) Di)))) (Ab (AE (As Ea (pv 5) (pv 3) (Au _)) (Ae (Bj (CH Z1 Y9 Z0 Bl (pv 2) (BJ (Bv Cd (pv 5) (pv 3) (OD Ac)) Ac)))) Ax) (Ab (Ah (i:=7) Bn.nd rfl (Or.inl rfl) (Am OZ BM (Ay Cd (pv 6) Af) (λ_ _=>rfl))) (Ab (AE (PW.pt (Ms (As Ea (AA BV rfl T.b_len X9 (Aa (pv 2) Ac)) Af (Au _)) (IQ (As Cp (Am Av (Am AB (pv 2) (EQ Dd Af) (λ_ _=>rfl)) Af (λ_ _=>rfl)) (pv 7) (Au _))))) (Ae (Re (Cn (Bv AW (Am Av (Am AB (pv 2) (EQ Dd Af) (λ_ _=>rfl)) Af (λ_ _=>rfl)) Af (Aa (pv 7) Ac))) (Rf (pv 2) (EQ Dd Af) Mf))) (Ae (Bj (CH Z1 Y9 Z0 Bl (pv 2) (BJ (Bh (Aa (pv 7) Ac)) Ac))))) (Ae (Ah (i:=3) Bn.nd rfl (Or.inl rfl) (Ay AW (pv 5) Af))))))) (Ab (Ah (i:=8) Bn.nd rfl (Or.inl rfl) (Dj Ac)) (Ab (BT Z2 rfl (Cg (pv 2)) (Ey rfl (AN (AF (i:=9) Bn.nd rfl (Or.inl rfl)) (AN (AF (i:=7) Bn.nd rfl (Or.inl rfl)) Di))) (Ae (Bj (CH Z1 Y9 Z0 Bl (pv 8) (Bv EG (Ay Su (Ca Ji rfl T.b_str K6 (Aa (pv 9) Ac)) (Ca NZ rfl T.b_int A0e (Aa (DD Ea (pv 9) Af (Au _)) Ac))) (pv 7) Ac))))) (Ae (At (CH K3 PySem.F.slot_str_join PySem.F.type_str_join Sy BM (Aa (pv 8) Ac))))))))),?_⟩
  try dsimp only[cxK]
  refine Bs ?_;intro r0 s0 k0 hk0 E0;refine⟨(by show 0<=sizeLine;decide),λR nR=>?_⟩;generalize e1:upd H R _=H1;have ra1:RA H H1 R [] []:=e1▸⟨Ak nR,upd_same,.nil⟩;refine hk0 ?_;refine Bs ?_;intro r9 s9 k9 hk9 E9;refine⟨_,rfl,?_⟩;refine hk9 ?_;refine Bs ?_;intro r1 s1 k1 hk1 E1;refine⟨_,rfl,L,rfl,⟨_,SqL.of (ra1.sm _ _ hL)⟩,?_⟩;refine EJ (xs:=ts.map V.ref) (λj σ H2=>∃(us:List Addr)(u4 u5 u6 u7:Option V),σ=[some (.ref L),some (.int left),some (.ref R),some (.int (rrow left (cs.take j)).r),u4,u5,u6,u7,none,none]/\RA H H2 R us (rrow left (cs.take j)).rs) ⟨[],none,none,none,none,rfl,ra1⟩ (λj σ H2 _ z=>SqL.of (by obtain⟨_,_,_,_,_,_,ra⟩:=z;exact ra.sm _ _ hL)) ?_ ?_
  ·rintro j v σ H2 ev ⟨us,u4,u5,u6,u7,rfl,ra⟩;rw[B6]at ev;obtain⟨t,et,rfl⟩:=D6.mp ev;obtain⟨c,ec,ht⟩:=PairedM.getL pr et;have hj:j<cs.length:=(B7.mp ec).1;have ht2:H2 t=some (.tup [.int c.y,.int c.x,.int (c.s:Int)]):=ra.sm _ _ ht;have c8:=ck c (F6 ec);have ln:=Mo left cs j;rw[NI left ec];generalize rrow left (cs.take j)=S at ra ln⊢;refine⟨t,_,rfl,SqT.of ht2,rfl,_,_,rfl,_,_,rfl,_,_,rfl,rfl,?_⟩;refine Bs ?_;intro r2 s2 k2 hk2 E2;have l2:=GK S c;apply Ql (T:=k2) (fun σ H'=>∃us,σ=[some (.ref L),some (.int left),some (.ref R),some (.int S.r),some (.int c.y),some (.int c.x),some (.int (c.s:Int)),u7,none,none]/\RA H H' R us (Bb S c).rs)
   ·intro rest;refine xw2 rfl rfl (xq2 rfl rfl (xq1 rfl ?_));by_cases z:S.r<c.x
    ·have er:Bb S c=⟨S.r,S.d,S.rs++[⟨(c.x-S.r).toNat,46⟩]⟩:=Y4 z;rw[Y1 z];refine BH ⟨_,rfl,.inl ⟨rfl,_,SqL.of ra.hR⟩,_,rfl,_,rfl,_,_,rfl,rfl,(by show 2<=sizeLine;decide),λt1 ht1=>?_⟩;generalize e2:upd H2 t1 _=H4;have e2:upd H2 t1 (.tup [.int (((c.x-S.r).toNat:Nat):Int),.str ⟨#[46]⟩])=H4:=by
      rw[<-e2,c46,M3 A0]
     obtain⟨ra3,h3⟩:=ra.add (r:=⟨(c.x-S.r).toNat,46⟩) nR ht1 e2;refine⟨R,_,_,rfl,rfl,h3,BF (by rw[B0,Y6 ra.pr];lia),?_⟩;refine rest _ _ ⟨us++[t1],rfl,?_⟩;rw[er];exact ra3
    ·have er:Bb S c=S:=Y0 z;rw[Y3 z];refine AT (rest _ _ ⟨us,rfl,?_⟩);rw[er];exact ra
   clear ra;rintro σ H3 ⟨us1,rfl,ra⟩;show E2.nx _ _;refine hk2 ?_;refine Bs ?_;intro r3 s3 k3 hk3 E3;obtain⟨b1,b2,b3,_⟩:=Md c.s c8.s8 c8.s1;have at2:atI (Str.ofString "ABCDEFG").cps.toList ((c.s:Int)-1)=some (sg.getD c.s 0):=by
    have s1:=c8.s1;rw[show(c.s:Int)-1=((c.s-1:Nat):Int) by lia];refine Ag ?_;rw[let_str];exact let_at c.s c8.s8 c8.s1
   refine⟨_,rfl,_,_,rfl,rfl,_,_,sg.getD c.s 0,rfl,rfl,by decide +kernel,at2,?_⟩;refine hk3 ?_;refine Bs ?_;intro r4 s4 k4 hk4 E4;have lg:(Bb S c).rs.length<=2*j+1:=by lia
   generalize hrs:(Bb S c).rs=rs1 at ra lg;clear l2;apply Ql (T:=k4) (fun σ H'=>∃us,σ=[some (.ref L),some (.int left),some (.ref R),some (.int S.r),some (.int c.y),some (.int c.x),some (.int (c.s:Int)),some (.str ⟨#[sg.getD c.s 0]⟩),none,none]/\RA H H' R us (AV rs1 ⟨1,sg.getD c.s 0⟩))
   ·intro rest;refine⟨_,rfl,R,_,rfl,.inl (SqL.of ra.hR),_,_,rfl,rfl,_,rfl,?_⟩;rcases J1 rs1 with rfl|⟨b,l,rfl⟩
    ·have:us1=[]:=by
      cases ra.pr;rfl
     subst this;refine AT (AT ⟨_,rfl,.inl ⟨rfl,_,SqL.of ra.hR⟩,_,rfl,(by show 2<=sizeLine;decide),λt1 ht1=>?_⟩);generalize e2:upd H3 t1 _=H5;obtain⟨ra3,h3⟩:=ra.add (r:=⟨1,sg.getD c.s 0⟩) nR ht1 e2;exact⟨R,_,_,rfl,rfl,h3,(by show 0<sizeLine;decide),rest _ _ ⟨_,rfl,ra3⟩⟩
    ·rw[F7]at ra lg;obtain⟨vs,tl,rfl,pv,htl⟩:=Uw ra.pr;have hR2:=ra.hR;rw[B8]at hR2;have hR2:H3 R=some (.lst (vs.map V.ref++[.ref tl])):=hR2;have lus:=Y6 ra.pr;have pos:(0:Int)<(((vs++[tl]).map V.ref).length:Int):=by rw[B0,B4,G9];lia
     rw[Y1 pos];refine BH ⟨_,rfl,_,rfl,R,_,-1,.ref tl,rfl,rfl,SqL.of hR2,Jk,tl,_,1,.str ⟨#[l.c]⟩,rfl,rfl,SqT.of htl,Ag (j:=1) rfl,_,rfl,rfl,_,rfl,?_⟩;by_cases ec:l.c=sg.getD c.s 0
     ·rw[ec,Y1 rfl];refine BH ⟨_,rfl,_,rfl,R,_,-1,.ref tl,rfl,rfl,SqL.of hR2,Jk,tl,_,0,.int l.a,rfl,rfl,SqT.of htl,Ag (j:=0) rfl,_,_,rfl,rfl,_,rfl,(by show 2<=sizeLine;decide),λt1 ht1=>?_⟩;generalize e2:upd H3 t1 _=H5;obtain⟨h3,ra3⟩:=ra.last (r:=⟨l.a+1,sg.getD c.s 0⟩) pv nR ht1 e2;refine⟨_,rfl,_,rfl,R,_,-1,vs.length,rfl,rfl,h3,by rw[B4,B0];exact Qs _,?_⟩;refine rest _ _ ⟨vs++[t1],rfl,?_⟩;rw[F7,Bd,Y4 ec];exact ra3
     ·rw[Y3 (by
       intro q;injection q with q
       have:[l.c]=[sg.getD c.s 0]:=Z5 (λs:Str=>s.cps.toList) q;injection this with this
       exact ec this)]
      refine AT ⟨_,rfl,.inl ⟨rfl,_,SqL.of hR2⟩,_,rfl,(by show 2<=sizeLine;decide),λt1 ht1=>?_⟩;generalize e2:upd H3 t1 _=H5;obtain⟨ra3,h3⟩:=ra.add (r:=⟨1,sg.getD c.s 0⟩) nR ht1 e2;refine⟨R,_,_,rfl,rfl,h3,by rw[B0,lus];exact BF A0,rest _ _ ⟨vs++[tl]++[t1],rfl,?_⟩⟩;rw[F7,Bd,Y0 ec];exact ra3
   clear ra;rintro σ H4 ⟨us2,rfl,ra⟩;show E4.nx _ _;refine hk4 ?_;refine⟨_,rfl,_,_,rfl,rfl,?_⟩;refine⟨us2,_,_,_,_,rfl,?_⟩;show RA H H4 R us2 (AV (Bb S c).rs ⟨1,sg.getD c.s 0⟩);rw[hrs];exact ra
  ·rintro σ H2 ⟨us,u4,u5,u6,u7,rfl,ra⟩;rw[B0,lts,D9]at ra⊢;refine hk1 ?_;have ln:=Mo left cs cs.length;rw[D9]at ln;generalize rrow left cs=S at ra rok k ln⊢;have lus:=Y6 ra.pr;refine Bs ?_;intro r2 s2 k2 hk2 E2;refine⟨(by show 0<=sizeLine;decide),λW nW=>?_⟩;generalize e2:upd H2 W _=H3;have s3:Az H2 H3:=e2▸Ak nW;have hW3:H3 W=some (.lst []):=e2▸upd_same;refine hk2 ?_;refine Bs ?_;intro r3 s3' k3 hk3 E3;refine⟨_,rfl,R,rfl,⟨_,SqL.of (s3 _ _ ra.hR)⟩,?_⟩;refine EJ (xs:=us.map V.ref) (λj σ Hx=>∃(u7 u9:Option V),σ=[some (.ref L),some (.int left),some (.ref R),some (.int S.r),u4,u5,u6,u7,some (.ref W),u9]/\Az H2 Hx/\Hx W=some (.lst (((S.rs.take j).map wS).map V.str))) ⟨u7,none,rfl,s3,hW3⟩ (λj σ Hx _ z=>SqL.of (by obtain⟨_,_,_,sm,_⟩:=z;exact sm _ _ ra.hR)) ?_ ?_
   ·rintro j v σ Hx ev ⟨u7',u9,rfl,sm,hW⟩;rw[B6]at ev;obtain⟨t,et,rfl⟩:=D6.mp ev;obtain⟨r,er,ht⟩:=PairedM.getL ra.pr et;have hj:j<S.rs.length:=(B7.mp er).1;have rk:=rok r (F6 er);have a1:=rk.a1;have a2:=rk.a2;refine Le (sm _ _ ht:Ch Hx t r) ?_;have sl:(Str.ofString (toString (r.a:Int))).length<=13:=by rw[Nu.len,Tn.QR];exact Tn.Fe 12 r.a a2
    have fin:∀(y:Str),y.cps.toList=EM r.a->Az H2 (upd Hx W (.lst (((S.rs.take j).map wS).map V.str++[.str (y++⟨#[r.c]⟩)])))/\upd Hx W (.lst (((S.rs.take j).map wS).map V.str++[.str (y++⟨#[r.c]⟩)])) W=some (.lst (((S.rs.take (j+1)).map wS).map V.str)):=λy ey=>by
     refine⟨λb o e=>?_,?_⟩
     ·rw[Al (An e nW)];exact sm _ _ e
     ·rw[upd_same,D1,er,N3,B8,B8];have:y++⟨#[r.c]⟩=wS r:=wS_of (by rw[Tx.AU,ey];rfl);rw[this];rfl
    have wl:(((S.rs.take j).map wS).map V.str).length<sizeLine:=by rw[B0,B0,F8];exact BF A0
    refine⟨_,rfl,.inl ⟨rfl,_,SqL.of hW⟩,?_⟩;refine⟨_,rfl,(r.a:Int),rfl,Tn.NP (R1 a2 A3),?_⟩;refine xwb rfl rfl rfl (.inr ⟨_,rfl,?_⟩);by_cases e1:r.a=1
    ·refine⟨_,0,rfl,?_,.inl rfl,?_⟩
     ·rw[Y3 A0];rfl
     ·rw[Y0 A3];obtain⟨f1,f2⟩:=fin Str.empty (by unfold EM;rw[Y4 e1];rfl);refine⟨_,rfl,_,_,rfl,rfl,(by show 0+1<=sizeLine;decide),W,_,_,rfl,rfl,hW,wl,?_⟩;exact⟨_,_,rfl,f1,f2⟩
    ·refine⟨_,1,rfl,?_,.inr rfl,?_⟩
     ·rw[Y1 A0];rfl
     ·rw[Y4 rfl];obtain⟨f1,f2⟩:=fin (Str.ofString (toString (r.a:Int))) (by rw[Tn.QR];unfold EM;rw[Y0 e1]);refine⟨_,rfl,_,_,rfl,rfl,Gd (by show _+1<=10000000;lia),W,_,_,rfl,rfl,hW,wl,?_⟩;exact⟨_,_,rfl,f1,f2⟩
   ·rintro σ Hx ⟨u7',u9,rfl,sm,hW⟩;rw[B0,lus,D9]at hW;refine hk3 ?_;refine⟨rfl,_,rfl,Str.ofString "",W,S.rs.map wS,rfl,rfl,SqL.of hW,Wd (λr hr=>R1 (rok r hr).a2 A3) A0,k _ _ (ra.sm.trans sm) (joinT S.rs)⟩
end
end J
namespace J
open PySem L2
structure Wr8(es:List Cl)(left top:Int):Prop where
 pw:es.Pairwise Bef
 ic:∀c∈es,InC left top c
 l4:-(2^40)<=left
 t4:-(2^40)<=top
 l5:left<2^40
 t5:top<2^40
 ne:es≠[]->ShB es left top
 em:es=[]->left=0/\top=0
 le:es.length<=48
theorem lex2{a b c d:Int}(h:a<c\/(a=c/\b<d))(r r':List Int):BR (c::d::r) (a::b::r')=false:=by
 refine Qp ?_;show(if a=c then(if b=d then BR r' r else decide (b<d))else decide (a<c))=true;rcases h with z|⟨rfl,z⟩
 ·rw[Y0 A0];exact Y1 z
 ·rw[Y4 rfl,Y0 A0];exact Y1 z
theorem Bef.by{es:List Cl}(h:es.Pairwise Bef):ByC es:=h.imp λ{p q} z=>lex2 z [] []
theorem Bef.rows{es:List Cl}(h:es.Pairwise Bef):(es.map rowC).Pairwise (λp q=>BR q p=false):=by
 rw[L7];exact h.imp λ{p q} z=>lex2 z _ _
theorem rcs_ok{left top:Int}(l4:-(2^40)<=left)(t4:-(2^40)<=top){es:List Cl}(ic:∀c∈es,InC left top c):∀r∈(rcs left top es).rs,DZ r:=by
 have key:∀(l:List Cl)(s:RS),(∀c∈l,InC left top c)->(∀r∈s.rs,DZ r)->left<=s.r->top<=s.d->∀r∈(l.foldl (FI left) s).rs,DZ r:=by
  intro l;induction l with
  |nil=>intro s _ h _ _;exact h
  |cons c l ih =>
   intro s hc h lr td;obtain⟨cs,cl,ct,cx,cy⟩:=hc c C2;obtain⟨b1,b2,b3,b4⟩:=Md c.s cs.s8 cs.s1;have app:∀{rs:List Rn}{q:Rn},(∀r∈rs,DZ r)->DZ q->∀r∈rs++[q],DZ r:=λ{rs q} h1 h2 r hr=>by
    rcases C8.mp hr with z|z
    ·exact h1 r z
    ·rw[C5.mp z];exact h2
   have h1:(∀r∈(BI left s c).rs,DZ r)/\left<=(BI left s c).r/\top<=(BI left s c).d:=by
    unfold BI;by_cases z:s.d<c.y
    ·rw[Y4 z];exact⟨app h ⟨by show 1<=(c.y-s.d).toNat;lia,by show(c.y-s.d).toNat<10^13;lia,by show 47∈sg;decide⟩,L6 _,ct⟩
    ·rw[Y0 z];exact⟨h,lr,td⟩
   generalize e1:BI left s c=s1 at h1;obtain⟨h1,lr1,td1⟩:=h1;have h2:(∀r∈(Bb s1 c).rs,DZ r)/\(Bb s1 c).d=s1.d:=by
    unfold Bb;by_cases z:s1.r<c.x
    ·rw[Y4 z];exact⟨app h1 ⟨by show 1<=(c.x-s1.r).toNat;lia,by show(c.x-s1.r).toNat<10^13;lia,by show 46∈sg;decide⟩,rfl⟩
    ·rw[Y0 z];exact⟨h1,rfl⟩
   have e3:FI left s c=rcPut (Bb s1 c) c:=by unfold FI;rw[e1]
   refine ih (FI left s c) (λq hq=>hc q (B3 _ hq)) ?_ ?_ ?_
   ·rw[e3];exact app h2.1 ⟨B5 _,by show 1<10^13;decide,b3⟩
   ·rw[e3];show left<=c.x+1;lia
   ·rw[e3];show top<=(Bb s1 c).d;rw[h2.2];exact td1
 exact key es _ ic (λr hr=>by cases hr) (L6 _) (L6 _)
theorem Wr8.sh{es:List Cl}{left top:Int}{φ:Int->Int->Nat}(h:Wr8 es left top)(dk:Pm es φ):ShE es φ left top:=by
 have l4:=h.l4;have t4:=h.t4;have l5:=h.l5;have t5:=h.t5;exact⟨dk,Bef.by h.pw,h.ne,h.em,h.le,λc hc=>(h.ic c hc).cs,rcs_ok l4 t4 h.ic,by lia,by lia⟩
theorem Wr8.runs{es:List Cl}{left top:Int}(h:Wr8 es left top):shT left top es=Cf left++44::(Cf top++58::txt (trc left top es).rs)/\(∀r∈(trc left top es).rs,DZ r)/\arR (trc left top es).rs<=48/\(trc left top es).rs.length<=144/\(wkR left top (trc left top es).rs).φ=stC es.reverse:=by
 obtain⟨tg,_⟩:=RY left top λc hc=>(h.ic c hc).cs;obtain⟨ti,_⟩:=Uz h.l4 h.t4 h.ic h.pw;have le:=h.le;refine⟨by unfold shT;rw[tg.rs],ti.tw.runs A0,C4 ti.tw.ar le,?_,by rw[ti.tw.wk]⟩;rw[tg.rs];have h1:=LC (rcs left top es).rs;have h2:=IP left top es es.length;rw[D9]at h2;lia
theorem NJ{y0:Int}:∀{cs:List Cl},cs.Pairwise Bef->(∀c∈cs,y0<=c.y)->(∀c∈cs.take (cs.filter λc=>decide (c.y=y0)).length,c.y=y0)/\∀c∈cs.drop (cs.filter λc=>decide (c.y=y0)).length,y0<c.y
 |[],_,_=>⟨λc hc=>by simp at hc,λc hc=>by simp at hc⟩
 |c::cs,pw,h=>by
  rw[R7]at pw;by_cases z:c.y=y0
  ·rw[R9 (by simpa using z),D0];obtain⟨h1,h2⟩:=NJ pw.2 λq hq=>h q (B3 _ hq);refine⟨λq hq=>?_,λq hq=>h2 q hq⟩;rw[List.take_succ_cons]at hq;rcases B9.mp hq with rfl|hq
   ·exact z
   ·exact h1 q hq
  ·have hc:=h c C2;have all:∀q∈c::cs,y0<q.y:=λq hq=>by
    rcases B9.mp hq with rfl|hq
    ·lia
    ·have:=pw.1 q hq;unfold Bef at this;lia
   have e:(c::cs).filter (λc=>decide (c.y=y0))=[]:=List.filter_eq_nil_iff.mpr λq hq=>by
    have:=all q hq;simp;lia
   rw[e];exact⟨λq hq=>by simp at hq,λq hq=>all q hq⟩
def Nv(s:RS)(y:Int):List Rn:=if s.d<y then [⟨(y-s.d).toNat,47⟩]else []
theorem UZ{left:Int}{S:RS}{c:Cl}{t:List Cl}(hy:∀q∈c::t,q.y=c.y/\CS q)(hS:S.d<c.y\/S=⟨left,c.y,[]⟩):(c::t).foldl (CF left) S=⟨(rrow left (c::t)).r,c.y,S.rs++Nv S c.y++(rrow left (c::t)).rs⟩:=by
 rcases hS with z|rfl
 ·have e:(c::t).foldl (CF left) S=(c::t).foldl (CF left) ⟨left,c.y,S.rs++[⟨(c.y-S.d).toNat,47⟩]⟩:=by
   show t.foldl (CF left) (CF left S c)=t.foldl (CF left) (CF left _ c);congr 1;unfold CF;congr 2;unfold BI;rw[Y4 z,Y0 (Int.lt_irrefl _)]
  rw[e,Va (λl hl=>by rw[P0]at hl;cases hl;rfl) hy];unfold Nv;rw[Y4 z]
 ·rw[Va (λl hl=>by cases hl) hy];unfold Nv;rw[Y0 (Int.lt_irrefl _)];rfl
theorem RX(a b:List Rn):txt (a++b)=txt a++txt b:=by
 unfold txt;rw[B8,U0]
theorem sort_cl (ds:List Cl) (nd:(ds.map λc=>(c.x,c.y)).Nodup):∃es:List Cl,es.Perm ds/\es.Pairwise Bef:=by
 let le:Cl->Cl->Bool:=λp q=>decide (p.y<q.y\/(p.y=q.y/\p.x<=q.x));have pm:=List.mergeSort_perm ds le;have pw:(ds.mergeSort le).Pairwise λp q=>le p q=true:=List.pairwise_mergeSort (λa b c h1 h2=>by
  have h1:=Z3 h1;have h2:=Z3 h2;exact Y1 A0) (λa b=>by
  show(decide _ || decide _)=true;rw[<-Bool.decide_or];exact Y1 A0) ds
 refine⟨ds.mergeSort le,pm,?_⟩;have nd2:=(pm.map λc=>(c.x,c.y)).nodup_iff.mpr nd;rw[D7,L7]at nd2;refine(pw.and nd2).imp λ{p q} h=>?_;have h1:=Z3 h.1;have h2:¬(p.x=q.x/\p.y=q.y):=λz=>h.2 (by rw[z.1,z.2]);unfold Bef;lia
theorem SB:∀{es:List Cl},es≠[]->∃c∈es,∀d∈es,c.x<=d.x
 |[],h=>absurd rfl h
 |[c],_=>⟨c,C2,λd hd=>by rw[C5.mp hd];exact L6 _⟩
 |c::d::es,_=>by
  obtain⟨m,hm,h⟩:=SB (es:=d::es) A5;by_cases z:c.x<=m.x
  ·refine⟨c,C2,λq hq=>?_⟩;rcases B9.mp hq with rfl|hq
   ·exact L6 _
   ·have:=h q hq;lia
  ·refine⟨m,B3 _ hm,λq hq=>?_⟩;rcases B9.mp hq with rfl|hq
   ·lia
   ·exact h q hq
theorem wr8_of {ds:List Cl} (nd:(ds.map λc=>(c.x,c.y)).Nodup) (le:ds.length<=48) (hc:∀c∈ds,CS c/\InG c.x c.y):∃(es:List Cl)(left top:Int),es.Perm ds/\Wr8 es left top:=by
 obtain⟨es,pm,pw⟩:=sort_cl ds nd;have hc:∀c∈es,CS c/\InG c.x c.y:=λc h=>hc c (pm.mem_iff.mp h);have le:es.length<=48:=by rw[pm.length_eq];exact le
 cases es with
 |nil=>exact⟨[],0,0,pm,pw,(λc h=>nomatch h),by decide,by decide,by decide,by decide,λh=>absurd rfl h,λ_=>⟨rfl,rfl⟩,le⟩
 |cons c es =>
  obtain⟨m,hm,lm⟩:=SB (es:=c::es) A5;have tp:∀d∈c::es,c.y<=d.y:=λd hd=>by
   rcases B9.mp hd with rfl|hd
   ·exact L6 _
   ·have:=(R7.mp pw).1 d hd;unfold Bef at this;lia
  have gm:=(hc m hm).2;have gc:=(hc c C2).2;unfold InG at gm gc;refine⟨c::es,m.x,c.y,pm,pw,λd hd=>?_,gm.1.1,gc.2.1,gm.1.2,gc.2.2,λ_=>⟨⟨m,hm,rfl⟩,lm,⟨c,C2,rfl⟩,tp⟩,(λh=>nomatch h),le⟩;obtain⟨h1,h2⟩:=hc d hd;unfold InG at h2;exact⟨h1,lm d hd,tp d hd,h2.1.2,h2.2.2⟩
seal L2.PA L2.PE L2.PS L2.PSs L2.PT L2.PW
theorem Ws{H:Hp}:∀{out:List (Addr×List Int)}{es:List Cl},out.map (·.2)=es.map rowC->(∀q∈out,H q.1=some (.tup (q.2.map V.int)))->Paired (ClY H) (out.map (·.1)) es
 |[],[],_,_=>.nil
 |[],_::_,e,_=>by cases e
 |_::_,[],e,_=>by cases e
 |q::out,c::es,e,h=>by
  rw[D5,D5]at e;injection e with e1 e2
  refine .cons ?_ (Ws e2 λp hp=>h p (B3 _ hp));have hq:=h q (C2 ..);rw[e1]at hq;exact hq
structure LW(H Hx:Hp)(D Lc:Addr)(es:List Cl)(left top:Int)(us:List Addr)(pre cs:List Cl)(z:Str):Prop where
 fx:Fx [D] H Hx
 hL:Hx Lc=some (.lst (us.map V.ref))
 pr:Paired (ClY Hx) us cs
 es:es=pre++cs
 z:z.cps.toList=Cf left++44::(Cf top++58::txt (trc left top pre).rs)
 y:pre=[]\/∀c∈cs,(trc left top pre).d<c.y
theorem LW.same{H Hx Hy:Hp}{D Lc:Addr}{es:List Cl}{left top:Int}{us:List Addr}{pre cs:List Cl}{z:Str}(h:LW H Hx D Lc es left top us pre cs z)(s:Az Hx Hy):LW H Hy D Lc es left top us pre cs z:=⟨λb o e n=>s _ _ (h.fx b o e n),s _ _ h.hL,PairedM.imp (λb c z=>(s _ _ z:ClY Hy b c)) h.pr,h.es,h.z,h.y⟩
theorem six{n k:Nat}(h:k<=n)(d:Nat):HT.sIx n d (some (k:Int))=k:=by
 unfold HT.sIx;dsimp only;split<;>lia
theorem cut_hi{us:List Addr}{k:Nat}(h:k<=us.length):QB (us.map V.ref) none (some (k:Int))=(us.take k).map V.ref:=by
 unfold QB;rw[B0,six h,show HT.sIx us.length 0 none=0 from rfl,List.drop_zero,Nat.sub_zero,List.map_take]
theorem cut_lo{us:List Addr}{k:Nat}(h:k<=us.length):QB (us.map V.ref) (some (k:Int)) none=(us.drop k).map V.ref:=by
 unfold QB;rw[B0,six h,show HT.sIx us.length us.length none=us.length from rfl,List.map_drop,V0 (by rw[S8,B0];exact B5 _)]
theorem Paired.cut{α β:Type}{F:α->β->Prop}:∀{xs:List α}{ys:List β}(k:Nat),Paired F xs ys->Paired F (xs.take k) (ys.take k)/\Paired F (xs.drop k) (ys.drop k)
 |_,_,0,h=>⟨.nil,h⟩
 |[],[],k+1,_=>⟨.nil,.nil⟩
 |_::_,_::_,k+1,.cons h1 h2=>⟨.cons h1 (Paired.cut k h2).1,(Paired.cut k h2).2⟩
theorem LW.turn{H Hx:Hp}{D Lc:Addr}{es:List Cl}{left top:Int}{us:List Addr}{pre cs:List Cl}{c:Cl}{z:Str}(h:LW H Hx D Lc es left top us pre (c::cs) z)(wr:Wr8 es left top):∃m,m=((c::cs).filter λq=>decide (q.y=c.y)).length/\1<=m/\m<=(c::cs).length/\(∀q∈(c::cs).take m,CS q)/\(∀r∈(rrow left ((c::cs).take m)).rs,DZ r)/\(trc left top (pre++(c::cs).take m)).d=c.y/\(trc left top (pre++(c::cs).take m)).rs=(trc left top pre).rs++Nv (trc left top pre) c.y++(rrow left ((c::cs).take m)).rs/\(∀q∈(c::cs).drop m,c.y<q.y)/\(trc left top (pre++(c::cs).take m)).rs.length<=144/\(∀r∈(trc left top (pre++(c::cs).take m)).rs,DZ r):=by
 have e:=h.es;have pw:=wr.pw;have ic:=wr.ic;rw[e]at pw ic;have pc:=(List.pairwise_append.mp pw).2.1;have all:∀q∈c::cs,c.y<=q.y:=λq hq=>by
  rcases B9.mp hq with rfl|hq
  ·exact L6 _
  ·have:=(R7.mp pc).1 q hq;unfold Bef at this;lia
 obtain⟨r1,r2⟩:=NJ pc all;have m1:1<=((c::cs).filter λq=>decide (q.y=c.y)).length:=by
  rw[R9 A5,D0];lia
 have m2:((c::cs).filter λq=>decide (q.y=c.y)).length<=(c::cs).length:=S6 _ _;generalize ((c::cs).filter λq=>decide (q.y=c.y)).length=m at r1 r2 m1 m2;have tk:∀q∈(c::cs).take m,q∈c::cs:=λq hq=>List.mem_of_mem_take hq;have icr:∀q∈(c::cs).take m,CS q:=λq hq=>(ic q (D3 _ (tk q hq))).cs;have hS:(trc left top pre).d<c.y\/trc left top pre=⟨left,c.y,[]⟩:=by
  rcases h.y with z|z
  ·subst z
   right
   have t1:c.y=top:=by
    have sb:=wr.ne (by rw[e];simp);obtain⟨d,hd,ed⟩:=sb.t1;rw[e]at hd;have h1:=all d hd;have h2:=sb.t2 c (by rw[e];exact C2);lia
   rw[t1];rfl
  ·exact .inl (z c C2)
 obtain⟨t,et⟩:∃t,(c::cs).take m=c::t:=by
  cases m with
  |zero=>lia
  |succ m=>exact⟨cs.take m,rfl⟩
 have tn:trc left top (pre++(c::cs).take m)=⟨(rrow left ((c::cs).take m)).r,c.y,(trc left top pre).rs++Nv (trc left top pre) c.y++(rrow left ((c::cs).take m)).rs⟩:=by
  unfold trc;rw[N8,et];exact UZ (λq hq=>by rw[<-et]at hq;exact⟨r1 q hq,icr q hq⟩) hS
 have sub:(pre++(c::cs).take m).Sublist (pre++c::cs):=List.Sublist.append_left (List.take_sublist _ _) _;have ic2:∀q∈pre++(c::cs).take m,InC left top q:=λq hq=>ic q (sub.mem hq);obtain⟨ti,_⟩:=Uz wr.l4 wr.t4 ic2 (pw.sublist sub);have le:=wr.le;rw[e]at le;have l2:(pre++(c::cs).take m).length<=48:=C4 sub.length_le le;have ok:=ti.tw.runs A0;refine⟨m,rfl,m1,m2,icr,λr hr=>ok r (by rw[tn];exact D3 _ hr),by rw[tn],by rw[tn],r2,?_,ok⟩;obtain⟨tg,_⟩:=RY left top λq hq=>(ic2 q hq).cs;rw[tg.rs];have h1:=LC (rcs left top (pre++(c::cs).take m)).rs;have h2:=IP left top (pre++(c::cs).take m) (pre++(c::cs).take m).length;rw[D9]at h2;lia
section
variable{P:Program}{w:World}{K:PySem.W.Frag}{mg:Str->Option Value}{base:Heap}{a:Ad}
inductive SpLT(vs:List V)(H:Hp)(Q:VK):Prop
 |mk (D:Addr) (ds es:List Cl) (left top:Int) (_:vs=[.ref D]) (_:H D=some (.dT (kvC ds))) (_:(ds.map λc=>(c.x,c.y)).Nodup) (_:es.Perm ds) (_:Wr8 es left top) (_:∀(z:Str)(H':Hp),Fx [D] H H'->z.cps.toList=shT left top es->Q (.str z) H'):SpLT vs H Q
def spLT:Sp:=λvs H Q _=>SpLT vs H Q
theorem ok_lt{f:Addr}{fd:FuncData}(F:Fun K "_law_text" "_law_text" CU f fd)(T:Top K mg a)(bR:Cal P w K mg base CX0 1 "_law_row" Iz spLR):AI P w K mg base CX0 2 f fd Gw spLT:=by
 refine F.ok Bc (λvs H Q E h=>?_) (λcdv A outer s H vs Q E hr h=>?_)
 ·obtain⟨D,ds,es,left,top,rfl,_⟩:=h;rfl
 ·obtain⟨D,ds,es,left,top,rfl,hD,nd,pm,wr,k⟩:=h;have lds:ds.length<=48:=by rw[<-pm.length_eq];exact wr.le
  refine⟨_,(Ab (Ah (i:=1) Bc.nd rfl (Or.inr rfl) (AA Ph rfl T.b_sorted PyProof.Rows.boot_sorted (Aa (Dk rfl (BX.of (So:=Ai CU) (No:=ES) (N:=["_law_place_here","_law_due"]) (k:=1) (cs:=[0]) rfl rfl A1) (Vk (pv 0)) (λ_ _ _=>(BQ (i:=0) A1 rfl rfl)) (λ_ _ _=>DC) (λ_ _ _=>(Cn (Aa (Am (CA (K:=K) rfl) (pv 0) Af (λ_ _=>rfl)) (Aa (Am (CA (K:=K) rfl) (pv 0) Af (λ_ _=>rfl)) (Aa (pe_dget (Id hr) (pv 1) (pv 0) (λ_ _=>rfl)) Ac)))))) Ac))) (Ab (AE (As (Tv hr.units) (pv 1) (Dj Ac) (Au _)) (Ae (At BM)) Ax) (Ab (Ah (i:=2) Bc.nd rfl (Or.inl rfl) (AA (JR rfl) rfl T.b_min X1 (Aa (Dk rfl (BX.of (So:=Ai CU) (No:=ES) (N:=["_law_cell"]) (k:=1) (cs:=[]) rfl rfl A1) (Cg (pv 1)) (λ_ _ _=>(BQ (i:=0) A1 rfl rfl)) (λ_ _ _=>DC) (λ_ _ _=>(Am (CA (K:=K) rfl) (pv 0) Af (λ_ _=>rfl)))) Ac))) (Ab (Ah (i:=3) Bc.nd rfl (Or.inl rfl) (Am Av (Am AB (pv 1) Af (λ_ _=>rfl)) Af (λ_ _=>rfl))) (Ab (Ah (i:=4) Bc.nd rfl (Or.inl rfl) (Vp (pv 2) BM (pv 3) BM)) (Ab (Ah (i:=5) Bc.nd rfl (Or.inl rfl) (pv 3)) (Ab (Mt Z2 (As (Tt hr.units) (pv 1) (Dj Ac) (Au _)) (Ab (Ah (i:=6) Bc.nd rfl (Or.inl rfl) (AA BV rfl T.b_len X9 (Aa (Dk rfl (BX.of (So:=Ai CU) (No:=ES) (N:=["_law_cell","_law_cells"]) (k:=1) (cs:=[1]) rfl rfl A1) (Cg (pv 1)) (λ_ _ _=>(BQ (i:=0) A1 rfl rfl)) (λ_ _ _=>(Sl (As Cp (Am (CA (K:=K) rfl) (pv 0) Af (λ_ _=>rfl)) (Am (CA (K:=K) rfl) (Am (Qr (K:=K) rfl) (pv 1) Af (λ_ _=>rfl)) Af (λ_ _=>rfl)) (Au _)))) (λ_ _ _=>(pv 0))) Ac))) (Ab (Ah (i:=7) Bc.nd rfl (Or.inl rfl) (Ay Cd (Am Av (Am AB (pv 1) Af (λ_ _=>rfl)) Af (λ_ _=>rfl)) (pv 5))) (Ab (AE (As Ea (pv 7) Af (Au _)) (Ae (Ah (i:=4) Bc.nd rfl (Or.inl rfl) (Ay EG (Ay EG (pv 4) (Ay Su (Ca Ji rfl T.b_str K6 (Aa (pv 7) Ac)) (Ca NZ rfl T.b_int A0e (Aa (DD Ea (pv 7) Af (Au _)) Ac)))) BM))) Ax) (Ab (Ah (i:=5) Bc.nd rfl (Or.inl rfl) (Am Av (Am AB (pv 1) Af (λ_ _=>rfl)) Af (λ_ _=>rfl))) (Ab (Ah (i:=4) Bc.nd rfl (Or.inl rfl) (Ay EG (pv 4) (Aq bR (rm hr) rfl Ao (Aa (Mw Sh (pv 1) OA (Oz (pv 6))) (Aa (pv 2) Ac))))) (Ae (Ah (i:=1) Bc.nd rfl (Or.inr rfl) (Mw Sh (pv 1) (Oz (pv 6)) OA))))))))) (Ae (At (pv 4)))))))))),?_⟩
  try dsimp only[cxK]
  refine Bs ?_;intro r0 s0 k0 hk0 E0;refine⟨_,rfl,D,kvC ds,rfl,.inl hD,λo H1 hD1 fr1=>?_⟩;have ldk:(kvC ds).length=ds.length:=B0 _;refine blk_dT (kvs:=kvC ds) (λj acc H2=>Az H1 H2/\∃ts:List Addr,acc=ts.map V.ref/\Paired (ClY H2) ts (ds.take j)) ⟨Az.refl H1,[],rfl,.nil⟩ (λj acc H2 _ z=>z.1 _ _ hD1) ?_ ?_
  ·rintro j kb kv v acc H2 ev hb ⟨sm,ts,rfl,pr⟩;obtain⟨c,ec,ee⟩:∃c,ds[j]?=some c/\(kOf [c.x,c.y],V.int (c.s:Int))=(kv,v):=by
    unfold kvC at ev;rw[B6]at ev;obtain⟨c,ec,e⟩:=D6.mp ev;exact⟨c,ec,e⟩
   cases ee;have jl:j<ds.length:=(B7.mp ec).1;have hb':H2 kb=some (.tup [.int c.x,.int c.y]):=hb;have hD2:=sm _ _ hD1;have lt:=Y6 pr;rw[F8]at lt;refine⟨⟨[some (.ref kb)],rfl,rfl⟩,by rw[B0];exact BF A0,Nb ?_⟩;refine⟨_,rfl,kb,_,1,.int c.y,rfl,rfl,SqT.of hb',Ag (j:=1) rfl,_,rfl,kb,_,0,.int c.x,rfl,rfl,SqT.of hb',Ag (j:=0) rfl,_,rfl,_,rfl,D,.int (c.s:Int),rfl,?_,?_⟩
   ·exact .inr ⟨kvC ds,kOf [c.x,c.y],kb,.inr ⟨o,hD2⟩,rfl,hb,(SE nd (F6 ec)).symm⟩
   refine⟨(by show 3<=sizeLine;decide),λt ht=>?_⟩;have s6:=Ak (o:=.tup [.int c.y,.int c.x,.int (c.s:Int)]) ht;refine⟨sm.trans s6,ts++[t],by rw[B8];rfl,?_⟩;rw[D1,ec,N3];exact K2 (PairedM.imp (λb c z=>(s6 _ _ z:ClY _ b c)) pr) (upd_same:ClY _ t c)
  ·rintro acc H2 ⟨sm,ts,rfl,pr⟩;rw[ldk,D9]at pr;have lt:=Y6 pr;intro L nL;generalize e3:upd H2 L _=H3;have s3:Az H2 H3:=e3▸Ak nL;have hL3:H3 L=some (.lst (ts.map V.ref)):=e3▸upd_same;have pr3:=PairedM.imp (λb c z=>(s3 _ _ z:ClY H3 b c)) pr;have zp:∀{ts:List Addr}{ds:List Cl},Paired (ClY H3) ts ds->((ts.zip (ds.map rowC)).map λq=>V.ref q.1)=ts.map V.ref/\(ts.zip (ds.map rowC)).map (·.2)=ds.map rowC/\∀q∈ts.zip (ds.map rowC),H3 q.1=some (.tup (q.2.map V.int))/\q.2≠[]:=by
    intro ts ds h;induction h with
    |nil=>exact⟨rfl,rfl,λq hq=>nomatch hq⟩
    |@cons t c ts ds h1 h2 ih =>
     refine⟨Z5 (V.ref t :: ·) ih.1,Z5 (rowC c :: ·) ih.2.1,λq hq=>?_⟩;rcases B9.mp hq with rfl|hq
     ·exact⟨h1,λz=>nomatch z⟩
     ·exact ih.2.2 q hq
   obtain⟨z1,z2,z3⟩:=zp pr3;clear zp;refine⟨L,ts.zip (ds.map rowC),rfl,by rw[z1];exact SqL.of hL3,?_,z3,λM out nM pmo up=>?_⟩
   ·have:(ts.zip (ds.map rowC)).length=ds.length:=by rw[<-B0 (f:=(·.2)),z2,B0]
    lia
   have eo:out.map (·.2)=es.map rowC:=by
    refine Mp (L7.mpr up) (Bef.rows wr.pw) ?_;have p1:=pmo.map (·.2);rw[z2]at p1;exact p1.trans (pm.map rowC).symm
   have po:Paired (ClY H3) (out.map (·.1)) es:=Ws eo λq hq=>(z3 q (pmo.mem_iff.mp hq)).1;generalize e4:upd H3 M _=H4;have s4:Az H3 H4:=e4▸Ak nM;have hM4:H4 M=some (.lst ((out.map (·.1)).map V.ref)):=by rw[<-e4,upd_same,M7];rfl
   have po:=PairedM.imp (λb c z=>(s4 _ _ z:ClY H4 b c)) po;generalize out.map (·.1)=us at po hM4;have fx4:Fx [D] H H4:=λb u e n=>s4 _ _ (s3 _ _ (sm _ _ (fr1 b u e λz=>by subst z;rw[hD]at e;cases e;exact n (C5.mpr rfl))));clear z1 z2 z3 eo pr3 hL3 s3 e3 e4 pr lt up pmo s4 hD1 fr1 sm nM nL hD pm nd lds ldk;refine hk0 ?_;have lus:=Y6 po;have le:=wr.le;refine Bs ?_;intro r1 s1 k1 hk1 E1;refine⟨_,rfl,(by show 0<=sizeLine;decide),λp np=>⟨M,p,us.map V.ref,rfl,rfl,SqL.of (Ak np _ _ hM4),SqL.of upd_same,?_⟩⟩;generalize e5:upd H4 p _=H5;have s5:Az H4 H5:=e5▸Ak np;have hM5:=s5 _ _ hM4;have po5:=PairedM.imp (λb c z=>(s5 _ _ z:ClY H5 b c)) po;have fx5:Fx [D] H H5:=λb u e n=>s5 _ _ (fx4 b u e n);clear fx4 po hM4 s5 e5 np;rw[B0,lus];by_cases ne:es=[]
   ·rw[Y1 (by rw[ne];rfl)];refine⟨_,rfl,BH ?_⟩;refine k _ H5 fx5 ?_;obtain⟨e1,e2⟩:=wr.em ne;rw[e1,e2,ne];decide +kernel
   rw[Y3 (λz=>ne (List.eq_nil_of_length_eq_zero z))];refine⟨_,rfl,AT ?_⟩;refine hk1 ?_;have sb:=wr.ne ne;refine Bs ?_;intro r2 s2 k2 hk2 E2;refine⟨_,rfl,M,rfl,⟨_,SqL.of hM5⟩,?_⟩;refine Jj (xs:=us.map V.ref) (λj acc H2=>H5=H2/\acc=((es.take j).map (·.x)).map V.int) ⟨rfl,rfl⟩ (λj acc H2 _ z=>z.1▸SqL.of hM5) ?_ ?_
   ·rintro j v acc H2 ev ⟨rfl,rfl⟩;rw[B6]at ev;obtain⟨t,et,rfl⟩:=D6.mp ev;obtain⟨c,ec,ht⟩:=PairedM.getL po5 et;have jl:j<es.length:=(B7.mp ec).1;refine⟨⟨[some (.ref t)],rfl,rfl⟩,by rw[B0,B0,F8];exact BF A0,Nb ⟨_,rfl,t,_,1,.int c.x,rfl,rfl,SqT.of ht,Ag (j:=1) rfl,rfl,?_⟩⟩;rw[D1,ec,B8,B8];rfl
   rintro acc H2 ⟨rfl,rfl⟩ X nX;rw[B0,lus,D9];generalize e6:upd H5 X _=H6;have s6:Az H5 H6:=e6▸Ak nX;have hX6:H6 X=some (.lst ((es.map (·.x)).map V.int)):=e6▸upd_same;refine⟨X,es.map (·.x),rfl,SqL.of hX6,(λz=>ne (P3.mp z)),λm hm lm=>?_⟩;have em:m=left:=by
    obtain⟨c,hc,rfl⟩:=D4.mp hm;obtain⟨d,hd,ed⟩:=sb.l1;have h1:=lm d.x (T8 hd);have h2:=sb.l2 c hc;lia
   subst em;clear hm lm;have hM6:=s6 _ _ hM5;have po6:=PairedM.imp (λb c z=>(s6 _ _ z:ClY H6 b c)) po5;have fx6:Fx [D] H H6:=λb u e n=>s6 _ _ (fx5 b u e n);clear fx5 po5 hM5 s6 e6 nX hX6;refine hk2 ?_;obtain⟨u0,c0,eu,ec,h0⟩:∃u0 c0,us[0]?=some u0/\es[0]?=some c0/\ClY H6 u0 c0:=by
    cases po6 with
    |nil=>exact absurd rfl ne
    |cons h1 h2=>exact⟨_,_,rfl,rfl,h1⟩
   have ht0:c0.y=top:=by
    cases es with
    |nil=>exact absurd rfl ne
    |cons c es =>
     cases ec;obtain⟨d,hd,ed⟩:=sb.t1;have h2:=sb.t2 c0 C2;rcases B9.mp hd with rfl|hd
     ·exact ed
     ·have:=(R7.mp wr.pw).1 d hd;unfold Bef at this;lia
   refine Bs ?_;intro r3 s3 k3 hk3 E3;refine⟨_,rfl,M,_,0,.ref u0,rfl,rfl,SqL.of hM6,Ag (j:=0) (by rw[B6,eu];rfl),u0,_,0,.int c0.y,rfl,rfl,SqT.of h0,Ag (j:=0) rfl,?_⟩;rw[ht0];refine hk3 ?_;refine Bs ?_;intro r4 s4 k4 hk4 E4;have l4:=wr.l4;have l5:=wr.l5;have t4:=wr.t4;have t5:=wr.t5;refine⟨_,rfl,m,rfl,Jc A0,Str.ofString ",",rfl,by decide +kernel,_,rfl,top,rfl,Jc A0,Str.ofString ":",rfl,by decide +kernel,?_⟩;have hz:(Str.ofString (toString m)++Str.ofString "," ++ Str.ofString (toString top)++Str.ofString ":").cps.toList=Cf m++44::(Cf top++58::[]):=by
    rw[Tx.AU,Tx.AU,Tx.AU,IU,IU];have c1:(Str.ofString ",").cps.toList=[44]:=by decide +kernel
    have c2:(Str.ofString ":").cps.toList=[58]:=by decide +kernel
    rw[c1,c2];simp
   refine hk4 ?_;generalize Str.ofString (toString m)++Str.ofString "," ++ Str.ofString (toString top)++Str.ofString ":" = z0 at hz⊢;refine Bs ?_;intro r5 s5 k5 hk5 E5;refine⟨_,rfl,?_⟩;refine hk5 ?_;refine Bs ?_;intro r6 s6 k6 hk6 E6;have lw0:LW H H6 D M es m top us [] es z0:=⟨fx6,hM6,po6,rfl,hz,.inl rfl⟩
   refine⟨λn σ Hx=>∃(Lc:Addr)(us:List Addr)(pre cs:List Cl)(z:Str)(u6 u7:Option V),cs.length=n/\σ=[some (.ref D),some (.ref Lc),some (.int m),some (.int top),some (.str z),some (.int (trc m top pre).d),u6,u7]/\LW H Hx D Lc es m top us pre cs z,⟨_,M,us,[],es,z0,none,none,rfl,rfl,lw0⟩,?_⟩;clear lw0 hz fx6 hM6 po6 eu ec h0 ht0 lus;rintro n σ Hx ⟨Lc,us,pre,cs,z,u6,u7,rfl,rfl,lw⟩;refine⟨_,rfl,(by show 0<=sizeLine;decide),λp np=>⟨Lc,p,us.map V.ref,rfl,rfl,SqL.of (Ak np _ _ lw.hL),SqL.of upd_same,?_⟩⟩;generalize e7:upd Hx p _=H7;have lw7:=lw.same (e7▸Ak np);clear lw e7 np;have lus:=Y6 lw7.pr;rw[B0,lus];refine⟨_,rfl,?_⟩;cases cs with
   |nil =>
    refine AT ?_;refine hk6 ?_;refine⟨_,rfl,k z H7 lw7.fx ?_⟩;have e:=lw7.es;rw[L5]at e;subst e;rw[lw7.z,wr.runs.1]
   |cons c cs =>
    refine BH ?_;refine⟨fun σ' H'=>∃(Lc:Addr)(us:List Addr)(pre cs':List Cl)(z:Str)(u6 u7:Option V),cs'.length<(c::cs).length/\σ'=[some (.ref D),some (.ref Lc),some (.int m),some (.int top),some (.str z),some (.int (trc m top pre).d),u6,u7]/\LW H H' D Lc es m top us pre cs' z,fun σ' H' ⟨Lc,us,pre,cs',z,u6,u7,h1,h2,h3⟩=>⟨_,h1,Lc,us,pre,cs',z,u6,u7,rfl,h2,h3⟩,?_⟩;obtain⟨n,en,n1,n2,ck,rok,td,tr,dr,tl,tok⟩:=lw7.turn wr;obtain⟨u0,us',rfl,h0⟩:∃u0 us',us=u0::us'/\ClY H7 u0 c:=by
     have:=lw7.pr;cases this with
     |cons h1 h2=>exact⟨_,_,rfl,h1⟩
    refine Bs ?_;intro r1 s1 k1 hk1 E1;refine⟨_,rfl,Lc,rfl,⟨_,SqL.of lw7.hL⟩,?_⟩;refine Jj (xs:=(u0::us').map V.ref) (λj acc H2=>H7=H2/\acc.length=(((c::cs).take j).filter λq=>decide (q.y=c.y)).length) ⟨rfl,rfl⟩ (λj acc H2 _ z=>z.1▸SqL.of lw7.hL) ?_ ?_
    ·rintro j v acc H2 ev ⟨rfl,al⟩;rw[B6]at ev;obtain⟨t,et,rfl⟩:=D6.mp ev;obtain⟨q,eq,ht⟩:=PairedM.getL lw7.pr et;have a1:=S6 (λq:Cl=>decide (q.y=c.y)) ((c::cs).take j);rw[F8]at a1;have le:=wr.le;have e:=lw7.es;rw[e,B4]at le;refine⟨⟨[some (.ref t)],rfl,rfl⟩,BF A0,?_⟩;refine⟨_,rfl,t,_,0,.int q.y,rfl,rfl,SqT.of ht,Ag (j:=0) rfl,_,rfl,Lc,_,0,.ref u0,rfl,rfl,SqL.of lw7.hL,Ag (j:=0) rfl,u0,_,0,.int c.y,rfl,rfl,SqT.of h0,Ag (j:=0) rfl,rfl,_,rfl,?_⟩;rw[D1,eq,N3,List.filter_append];by_cases z:q.y=c.y
     ·rw[Y1 (by rw[z]),R9 (by simpa using z)];refine BH ⟨_,rfl,rfl,?_⟩;rw[B4,B4,al];rfl
     ·rw[Y3 (λy=>z (by injection y)),List.filter_cons_of_neg (by simpa using z)];refine AT ⟨rfl,?_⟩;rw[B4,al];rfl
    ·rintro acc H2 ⟨rfl,al⟩ X nX;rw[B0,lus,D9,<-en]at al;generalize e8:upd H7 X _=H8;have lw8:=lw7.same (e8▸Ak nX);have hX8:H8 X=some (.lst acc):=e8▸upd_same;have h8:ClY H8 u0 c:=e8▸Ak nX _ _ h0;clear lw7 e8 nX h0;refine⟨X,acc,rfl,.inl (SqL.of hX8),?_⟩;rw[al];clear al hX8 en;refine hk1 ?_;refine Bs ?_;intro r2 s2 k2 hk2 E2;have g0:atI ((u0::us').map V.ref) 0=some (.ref u0):=Ag (j:=0) rfl;refine⟨_,rfl,Lc,_,0,.ref u0,rfl,rfl,SqL.of lw8.hL,g0,u0,_,0,.int c.y,rfl,rfl,SqT.of h8,Ag (j:=0) rfl,_,rfl,_,_,rfl,rfl,?_⟩;refine hk2 ?_;refine Bs ?_;intro r3 s3 k3 hk3 E3;have tpre:∀r∈(trc m top pre).rs++Nv (trc m top pre) c.y,DZ r:=λr hr=>tok r (by rw[tr];exact L8 _ hr);have lpre:((trc m top pre).rs++Nv (trc m top pre) c.y).length<=144:=by
      rw[tr,B4]at tl;lia
     have big:∀{rs:List Rn}{z:Str},(∀r∈rs,DZ r)->rs.length<=144->z.cps.toList=Cf m++44::(Cf top++58::txt rs)->z.length<=5000:=λ{rs z} h1 h2 h3=>by
      have a1:=IG λr hr=>R1 (h1 r hr).a2 (by decide:10^13<10^30);have a2:=FR (n:=m) A0;have a3:=FR (n:=top) A0;rw[Nu.len,h3,B4,D0,B4,D0];lia
     apply Ql (T:=k3) (fun σ H'=>∃z':Str,σ=[some (.ref D),some (.ref Lc),some (.int m),some (.int top),some (.str z'),some (.int (trc m top pre).d),some (.int (n:Int)),some (.int (c.y-(trc m top pre).d))]/\H'=H8/\z'.cps.toList=Cf m++44::(Cf top++58::txt ((trc m top pre).rs++Nv (trc m top pre) c.y)))
     ·intro rest;refine xq1 rfl (xq2 rfl rfl (xq1 rfl ?_));by_cases gp:(trc m top pre).d<c.y
      ·have eg:Nv (trc m top pre) c.y=[⟨(c.y-(trc m top pre).d).toNat,47⟩]:=Y4 gp;rw[eg]at tpre lpre;have rk:=tpre ⟨(c.y-(trc m top pre).d).toNat,47⟩ (D3 _ (C5.mpr rfl));have g2:(c.y-(trc m top pre).d).toNat<10^13:=rk.a2;rw[Y1 A0];refine BH ?_;have ei:c.y-(trc m top pre).d=(((c.y-(trc m top pre).d).toNat:Nat):Int):=by lia
       have zb:=big (λr hr=>tpre r (L8 _ hr)) (by rw[B4]at lpre;lia) lw8.z;have sl:(Str.ofString (toString (c.y-(trc m top pre).d))).length<=13:=by rw[ei,Nu.len,Tn.QR];exact Tn.Fe 12 _ g2
       have fin:∀y:Str,y.cps.toList=EM (c.y-(trc m top pre).d).toNat->(z++y++Str.ofString "/").cps.toList=Cf m++44::(Cf top++58::txt ((trc m top pre).rs++[⟨(c.y-(trc m top pre).d).toNat,47⟩])):=λy ey=>by
        rw[Tx.AU,Tx.AU,lw8.z,ey,RX];have:txt [⟨(c.y-(trc m top pre).d).toNat,47⟩]=EM (c.y-(trc m top pre).d).toNat++[47]:=by
         unfold txt wd;simp
        rw[this,show(Str.ofString "/").cps.toList=[47] by decide +kernel];simp
       refine⟨_,rfl,_,rfl,_,rfl,Jc A0,?_⟩;refine xwb rfl rfl rfl (.inr ⟨_,rfl,?_⟩);by_cases e1:(c.y-(trc m top pre).d).toNat=1
       ·refine⟨_,0,rfl,?_,.inl rfl,?_⟩
        ·rw[Y3 A0];rfl
        ·rw[Y0 A3];refine⟨_,_,rfl,rfl,Gd (by show z.length+0<=10000000;lia),_,_,rfl,rfl,Gd (by rw[Tx.LT];show z.length+0+1<=10000000;lia),rest _ _ ⟨_,rfl,rfl,by rw[eg];exact fin Str.empty (by unfold EM;rw[Y4 e1];rfl)⟩⟩
       ·refine⟨_,1,rfl,?_,.inr rfl,?_⟩
        ·rw[Y1 A0];rfl
        ·rw[Y4 rfl];refine⟨_,_,rfl,rfl,Gd A0,_,_,rfl,rfl,Gd (by rw[Tx.LT];show z.length+_+1<=10000000;lia),rest _ _ ⟨_,rfl,rfl,by rw[eg];exact fin _ (by rw[ei,Tn.QR];unfold EM;rw[F1,Y0 e1])⟩⟩
      ·have eg:Nv (trc m top pre) c.y=[]:=Y0 gp;rw[Y3 A0];refine AT (rest _ _ ⟨z,rfl,rfl,?_⟩);rw[eg,L5];exact lw8.z
     rintro σ H' ⟨z',rfl,rfl,hz'⟩;show E3.nx _ _;refine hk3 ?_;have zb:=big tpre lpre hz';refine Bs ?_;intro r4 s4 k4 hk4 E4;refine⟨_,rfl,Lc,_,0,.ref u0,rfl,rfl,SqL.of lw8.hL,g0,u0,_,0,.int c.y,rfl,rfl,SqT.of h8,Ag (j:=0) rfl,?_⟩;refine hk4 ?_;refine Bs ?_;intro r5 s5 k5 hk5 E5;refine⟨_,rfl,_,rfl,_,rfl,_,rfl,Lc,_,rfl,SqL.of lw8.hL,λp np=>⟨_,rfl,?_⟩⟩;rw[cut_hi (show n<=(u0::us').length by rw[lus];exact n2)];generalize e9:upd H' p _=H9;have lw9:=lw8.same (e9▸Ak np);have hp9:H9 p=some (.lst (((u0::us').take n).map V.ref)):=e9▸upd_same;obtain⟨pr1,pr2⟩:=Paired.cut n lw9.pr;have le:=wr.le;have es:=lw8.es;have l48:((c::cs).take n).length<=48:=by
      rw[es,B4]at le;rw[F8];lia
     clear lw8 e9 np h8;refine⟨p,(u0::us').take n,(c::cs).take n,m,rfl,hp9,pr1,ck,l48,rok,λy Hy sy hy=>?_⟩;have lwy:=lw9.same sy;have yl:y.length<=5000:=by
      have a1:=IG λr hr=>R1 (rok r hr).a2 (by decide:10^13<10^30);rw[tr,B4]at tl;rw[Nu.len,hy];lia
     refine⟨_,_,rfl,rfl,Gd A0,?_⟩;refine hk5 ?_;refine⟨_,rfl,_,rfl,_,rfl,Lc,_,rfl,SqL.of lwy.hL,λp' np'=>?_⟩;rw[cut_lo (show n<=(u0::us').length by rw[lus];exact n2)];generalize ea:upd Hy p' _=Ha;have lwa:=lwy.same (ea▸Ak np');have hpa:Ha p'=some (.lst (((u0::us').drop n).map V.ref)):=ea▸upd_same;obtain⟨_,pr3⟩:=Paired.cut n lwa.pr;refine⟨p',(u0::us').drop n,pre++(c::cs).take n,(c::cs).drop n,z'++y,_,_,by rw[S8];lia,by rw[td];rfl,lwa.fx,hpa,pr3,?_,?_,.inr ?_⟩
     ·rw[M6,Q6];exact es
     ·rw[Tx.AU,hz',hy,tr];simp[RX]
     ·rw[td];exact dr
end
end J
namespace J
open PySem L2
def liveC(ds:List Cl):List Cl:=ds.filter λc=>decide (0<c.s)
theorem TM{ds:List Cl}{j:Nat}{c:Cl}(e:ds[j]?=some c):liveC (ds.take (j+1))=if 0<c.s then liveC (ds.take j)++[c]else liveC (ds.take j):=by
 unfold liveC;rw[D1,e,N3,List.filter_append];by_cases z:0<c.s
 ·rw[Y4 z,R9 (by simpa using z)];rfl
 ·rw[Y0 z,List.filter_cons_of_neg (by simpa using z)];simp
theorem live_ok{ds cs:List Cl}(h:Dz ds cs):Pm (liveC ds) (stC cs):=by
 refine⟨?_,λc=>?_⟩
 ·have nd:=h.nd;rw[D7,L7]at nd⊢;exact nd.filter _
 ·unfold liveC;rw[R6,h.mem,LD];constructor
  ·rintro⟨h1,h2⟩;rw[h1];exact⟨Z3 h2,rfl⟩
  ·rintro⟨h1,h2⟩;refine⟨?_,Y1 h1⟩;cases e:stO cs c.x c.y with
   |none =>
    rw[e]at h2;have h2:0=c.s:=h2;lia
   |some v =>
    rw[e]at h2;have h2:v=c.s:=h2;rw[h2]
theorem Sc:∀(a b:List Cl)(x y:Int),stO (a++b) x y=(stO a x y).or (stO b x y)
 |[],_,_,_=>rfl
 |c::a,b,x,y=>by
  show(if x=c.x/\y=c.y then some c.s else stO (a++b) x y)=(if x=c.x/\y=c.y then some c.s else stO a x y).or _;split
  ·rfl
  ·exact Sc a b x y
theorem put_new {ds:List Cl} {c:Cl} (h:((ds++[c]).map λc=>(c.x,c.y)).Nodup):IS ds c=ds++[c]:=by
 unfold IS;rw[Y0 λz=>?_];obtain⟨d,hd,e⟩:=R5.mp z;have e:=Z3 e;rw[B8,Q7]at h;exact h.2.2 (d.x,d.y) (T8 hd) (c.x,c.y) A5 (by rw[e.1,e.2])
theorem put_all {cs:List Cl} (nd:(cs.map λc=>(c.x,c.y)).Nodup):Fa [] (kvC cs)=kvC cs:=by
 have key:∀(l acc:List Cl),((acc++l).map λc=>(c.x,c.y)).Nodup->Fa (kvC acc) (kvC l)=kvC (acc++l):=by
  intro l;induction l with
  |nil=>intro acc _;rw[L5];rfl
  |cons c l ih =>
   intro acc h;rw[List.append_cons]at h⊢;show Fa (Cc (kvC acc) (kOf [c.x,c.y]) (.int (c.s:Int))) (kvC l)=_;have h1:((acc++[c]).map λc=>(c.x,c.y)).Nodup:=by
    rw[B8]at h;exact(Q7.mp h).1
   rw[SD,put_new h1];exact ih (acc++[c]) h
 exact key cs [] nd
structure Bxs(bs:List Cl)(st:Nat)(P:Int->Int->Prop)(n:Nat):Prop where
 yes:∀u v,P u v->stO bs u v=some st
 no:∀u v,¬P u v->stO bs u v=none
 len:bs.length<=n
theorem Bxs.put{bs:List Cl}{st:Nat}{P P':Int->Int->Prop}{n:Nat}(h:Bxs bs st P n)(x y:Int)(e:∀u v,P' u v↔(P u v\/(u=x/\v=y))):Bxs (⟨x,y,st⟩::bs) st P' (n+1):=by
 refine⟨λu v p=>?_,λu v p=>?_,R0 h.len⟩
 ·show(if u=x/\v=y then some st else stO bs u v)=some st;by_cases z:u=x/\v=y
  ·rw[Y4 z]
  ·rw[Y0 z];exact h.yes u v (((e u v).mp p).resolve_right z)
 ·show(if u=x/\v=y then some st else stO bs u v)=none;rw[Y0 λz=>p ((e u v).mpr (.inr z))];exact h.no u v λq=>p ((e u v).mpr (.inl q))
theorem Bxs.imp{bs:List Cl}{st:Nat}{P P':Int->Int->Prop}{n m:Nat}(h:Bxs bs st P n)(e:∀u v,P' u v↔P u v)(l:n<=m):Bxs bs st P' m:=⟨λu v p=>h.yes u v ((e u v).mp p),λu v p=>h.no u v λq=>p ((e u v).mpr q),C4 h.len l⟩
def inR(left top w:Int)(j i:Nat)(u v:Int):Prop:=((left<=u/\u<left+w)/\top<=v/\v<top+j)\/(v=top+j/\left<=u/\u<left+i)
theorem Bxs.fil{bs cs:List Cl}{st n:Nat}{left top:Int}{w h:Nat}(b:Bxs bs st (inR left top w h 0) n)(u v:Int):stC (bs++cs) u v=FU ⟨left,top,w,h⟩ st (stC cs) u v:=by
 rw[LD,Sc];by_cases z:(left<=u/\u<left+w)/\top<=v/\v<top+h
 ·rw[GD (q:=⟨left,top,w,h⟩) z,b.yes u v (.inl z)];rfl
 ·rw[Jg (q:=⟨left,top,w,h⟩) z,b.no u v (by unfold inR;lia),LD];rfl
theorem UF{x y:Int}:∀{cs:List Cl},(∀c∈cs,c.s<8)->stC cs x y<8
 |[],_=>by show 0<8;decide
 |c::cs,h=>by
  show(if x=c.x/\y=c.y then c.s else stC cs x y)<8;split
  ·exact h c C2
  ·exact UF λd hd=>h d (B3 _ hd)
theorem Vl.cong{G:Gv}{f B:Nat}{φ ψ:Int->Int->Nat}(h:Vl G f ψ B)(e:∀u v,φ u v=ψ u v):Vl G f φ B:=by
 obtain⟨n,h1,h2⟩:=h.ex;exact⟨⟨n,h1,λu v=>by rw[h2,e]⟩,h.fs⟩
theorem Vl.vf{G:Gv}{f B:Nat}{φ:Int->Int->Nat}(h:Vl G f φ B):Vf G f φ:=by
 obtain⟨n,⟨h1,h2,h3⟩,h4⟩:=h.ex;exact⟨n,h3,h1,h2,h4⟩
theorem Vl.inG{G:Gv}{f B:Nat}{φ:Int->Int->Nat}(h:Vl G f φ B){u v:Int}(z:φ u v≠0):InG u v:=by
 obtain⟨n,⟨h1,h2,h3⟩,h4⟩:=h.ex;rw[<-h4]at z;unfold fieldF at z;have p:(2:Int)^n<=2^40:=by
  have:=S9 (show 0<2 by decide) h3
  exact_mod_cast this
 split at z
 ·unfold InG;lia
 ·exact absurd rfl z
theorem Pm.perm{ds es:List Cl}{φ:Int->Int->Nat}(h:Pm ds φ)(p:es.Perm ds):Pm es φ:=⟨(p.map _).nodup_iff.mpr h.nd,λc=>by rw[p.mem_iff];exact h.mem c⟩
theorem Wr8.read{es:List Cl}{left top:Int}{φ:Int->Int->Nat}(h:Wr8 es left top)(dk:Pm es φ)(u v:Int):(wkR left top (trc left top es).rs).φ u v=φ u v:=by
 rw[h.runs.2.2.2.2];exact stC_ds dk u v
seal L2.PA L2.PE L2.PS L2.PSs L2.PT L2.PW
section
variable{P:Program}{w:World}{K:PySem.W.Frag}{mg:Str->Option Value}{base:Heap}{a:Ad}
theorem ok_law{f:Addr}{fd:FuncData}(F:Fun K "law" "law" Sj f fd)(T:Top K mg a)(bZ:CalC P w K mg base CX0 2 "Grove" a.c_Grove FO (Oq a))(aE:Cal P w K mg base CX0 1 "_law_at" GQ (spAt K))(bO:Cal P w K mg base CX0 1 "_law_bits" Gy QW)(aF:Cal P w K mg base CX0 2 "_law_place" Eg spPl)(bB:Cal P w K mg base CX0 1 "_law_kept" Gx spKp)(aZ:Cal P w K mg base CX0 3 "_law_cells_by" DU (spCB K))(bP:Cal P w K mg base CX0 56 "field_of" Ix (US a))(bF:Cal P w K mg base CX0 103 "filled" IT (Ij a))(aR:Cal P w K mg base CX0 103 "shown_pattern" DR (UL a))(bN:Cal P w K mg base CX0 2 "_law_text" Gw spLT)(aT:Cal P w K mg base CX0 105 "read_pattern" EA (UM a)):AI P w K mg base CX0 106 f fd p_law (Se K):=by
 refine F.ok BS (λvs H Q E h=>?_) (λcdv A outer s H vs Q E hr h=>?_)
 ·obtain⟨l,ns,rfl,_⟩:=h;rfl
 ·obtain⟨l,ns,rfl,hS,hlen,kq⟩:=h;refine⟨_,(Ab (Ah (i:=1) BS.nd rfl (Or.inl rfl) (Aq bO (rm hr) rfl Ao (Aa (Aq aE (rm hr) rfl Ao (Aa (pv 0) (Bh Ac))) Ac))) (Ab (Ah (i:=2) BS.nd rfl (Or.inl rfl) (Aq bB (rm hr) rfl Ao (Aa (Aq aF (rm hr) rfl Ao (Aa (Aq aE (rm hr) rfl Ao (Aa (pv 0) (Bh Ac))) (Bh (Aa (pv 1) Ac)))) Ac))) (Ab (Ah (i:=3) BS.nd rfl (Or.inl rfl) (Aq bB (rm hr) rfl Ao (Aa (Aq aF (rm hr) rfl Ao (Aa (Aq aE (rm hr) rfl Ao (Aa (pv 0) (Bh Ac))) (Bh (Aa (pv 1) Ac)))) Ac))) (Ab (Ah (i:=4) BS.nd rfl (Or.inl rfl) (Ay Ce (Aq aE (rm hr) rfl Ao (Aa (pv 0) (Bh Ac))) Af)) (Ab (Ah (i:=5) BS.nd rfl (Or.inl rfl) (Ay Ce (Aq aE (rm hr) rfl Ao (Aa (pv 0) (Bh Ac))) Af)) (Ab (Ah (i:=6) BS.nd rfl (Or.inl rfl) (Ay Ce (Aq aE (rm hr) rfl Ao (Aa (pv 0) (Bh Ac))) Af)) (Ab (Ah (i:=7) BS.nd rfl (Or.inl rfl) (Aq aZ (rm hr) rfl Ao (Aa (pv 0) (Bh (Aa (pv 1) Ac))))) (Ab (Ah (i:=8) BS.nd rfl (Or.inl rfl) PR) (Ab (BT Z2 rfl (Cg (pv 7)) (Ey rfl (AN (AF (i:=9) BS.nd rfl (Or.inl rfl)) (AN (AF (i:=10) BS.nd rfl (Or.inl rfl)) (AN (AF (i:=11) BS.nd rfl (Or.inl rfl)) Di)))) (Ae (GL (Id hr) (pv 8) (Cn (Aa (pv 9) (Aa (pv 10) Ac))) (pv 11) rfl))) (Ab (BT Z2 rfl (Jy rfl T.b_range (Aa (pv 3) (Bv AW (pv 3) (pv 5) Ac))) (AF (i:=10) BS.nd rfl (Or.inl rfl)) (Ae (BT Z2 rfl (Jy rfl T.b_range (Aa (pv 2) (Bv AW (pv 2) (pv 4) Ac))) (AF (i:=9) BS.nd rfl (Or.inl rfl)) (Ae (GL (Id hr) (pv 8) (Cn (Aa (pv 9) (Aa (pv 10) Ac))) (pv 6) rfl))))) (Ab (Ah (i:=8) BS.nd rfl (Or.inl rfl) (Ca (RM rfl hr.units) rfl T.b_dict PyProof.Rows.boot_dict (Aa (Dk rfl (BX.of (So:=Ai Sj) (No:=cB) (N:=["_law_place_here","_law_one"]) (k:=2) (cs:=[]) rfl rfl A1) (Vj (pv 8)) (λ_ _ _=>(Vm (i:=0) (j:=1) rfl A1 rfl rfl rfl rfl)) (λ_ _ _=>(Sl (As Ea (pv 1) Af (Au _)))) (λ_ _ _=>(Cn (Aa (pv 0) (Aa (pv 1) Ac))))) Ac))) (Ab (Ah (i:=12) BS.nd rfl (Or.inl rfl) (PV bZ (rm hr) rfl Ao)) (Ab (Ah (i:=13) BS.nd rfl (Or.inl rfl) (Aq bF (rm hr) rfl Ao (Aa (pv 12) (Aa (Aq bP (rm hr) rfl Ao (Aa (pv 12) (Aa (pv 7) Ac))) (BJ (Aa (pv 2) (Aa (pv 3) (Aa (pv 4) (Aa (pv 5) Ac)))) (Aa (pv 6) Ac)))))) (Ab (Ah (i:=14) BS.nd rfl (Or.inl rfl) (Aq aR (rm hr) rfl Ao (Aa (pv 12) (Aa (pv 13) Ac)))) (Ab (AE (PW.pt (Fn (CG (Cm (AA Fs rfl T.b_isinstance X3 (Aa (pv 14) (Aa (GN (v:=.ty "str") rfl T.b_str K6 rfl) Ac))))) (Fn (As MA (pv 14) (Aq bN (rm hr) rfl Ao (Aa (pv 8) Ac)) (Au _)) (EZ (As MA (Aq aT (rm hr) rfl Ao (Aa (pv 12) (Aa (pv 14) Ac))) (pv 13) (Au _)))))) (Ae (At Sr)) Ax) (Ab (Ah (i:=15) BS.nd rfl (Or.inl rfl) (PV bZ (rm hr) rfl Ao)) (Ae (At (DD Cp (Aq aR (rm hr) rfl Ao (Aa (pv 15) (Aa (Aq aT (rm hr) rfl Ao (Aa (pv 15) (Aa (pv 14) Ac))) Ac))) (pv 14) (Au _)))))))))))))))))))),?_⟩
  try dsimp only[cxK]
  refine Bs ?_;intro r0 s0 k0 hk0 E0';refine xq1 rfl ⟨l,ns,0,rfl,hS,by decide,_,rfl,λb b40=>?_⟩;refine hk0 ?_;have p40:(2:Int)^b<=2^40:=by
   have:=S9 (show 0<2 by decide) b40
   exact_mod_cast this
  refine Bs ?_;intro r1 s1 k1 hk1 E1;refine xq1 rfl ⟨l,ns,1,rfl,hS,by decide,_,rfl,_,1,b,rfl,by decide,by decide,b40,λx0 _ _=>⟨_,rfl,λleft l1 l2=>?_⟩⟩;refine hk1 ?_;refine Bs ?_;intro r2 s2 k2 hk2 E2;refine xq1 rfl ⟨l,ns,2,rfl,hS,by decide,_,rfl,_,2,b,rfl,by decide,by decide,b40,λy0 _ _=>⟨_,rfl,λtop t1 t2=>?_⟩⟩;refine hk2 ?_;refine Bs ?_;intro r3 s3 k3 hk3 E3;obtain⟨wd,ew,lw⟩:=idx (n:=7) A3 (atN ns 3);have ew:atN ns 3%7=(wd:Int):=ew;refine xq1 rfl ⟨l,ns,3,rfl,hS,by decide,_,_,rfl,rfl,A8,?_⟩;rw[show(λ(i j:Int)=>V.int (i%j)) (atN ns 3) 7=V.int (wd:Int)from Z5 V.int ew];refine hk3 ?_;refine Bs ?_;intro r4 s4 k4 hk4 E4;obtain⟨ht,eh,lh⟩:=idx (n:=7) A3 (atN ns 4);have eh:atN ns 4%7=(ht:Int):=eh;refine xq1 rfl ⟨l,ns,4,rfl,hS,by decide,_,_,rfl,rfl,A8,?_⟩;rw[show(λ(i j:Int)=>V.int (i%j)) (atN ns 4) 7=V.int (ht:Int)from Z5 V.int eh];refine hk4 ?_;refine Bs ?_;intro r5 s5 k5 hk5 E5;obtain⟨st,es,ls⟩:=idx (n:=8) A3 (atN ns 5);have es:atN ns 5%8=(st:Int):=es;refine xq1 rfl ⟨l,ns,5,rfl,hS,by decide,_,_,rfl,rfl,(by show(0:Int)<8;decide),?_⟩;rw[show(λ(i j:Int)=>V.int (i%j)) (atN ns 5) 8=V.int (st:Int)from Z5 V.int es];refine hk5 ?_;refine Bs ?_;intro r6 s6 k6 hk6 E6;refine xq1 rfl (xq1 rfl ⟨l,ns,6,b,rfl,hS,by decide,by decide,b40,λC ts cs H1 sm1 nC hC pr oks lcs=>?_⟩);refine hk6 ?_;have lts:=Y6 pr;refine Bs ?_;intro r7 s7 k7 hk7 E7;refine λD nD=>?_;generalize e2:upd H1 D _=H2;have s2':Az H1 H2:=e2▸Ak nD;have hD2:H2 D=some (.dT (kvC [])):=e2▸upd_same;have hC2:=s2' _ _ hC;have pr2:=PairedM.imp (λt c e=>(s2' _ _ e:IC H2 t c)) pr;have hCD:C≠D:=AS hC2 hD2 A4;clear pr hC e2 hS sm1 nC s2' ew eh es;refine hk7 ?_;refine Bs ?_;intro r8 s8 k8 hk8 E8;refine⟨_,rfl,C,rfl,⟨_,SqL.of hC2⟩,?_⟩;refine EJ (xs:=ts.map V.ref) (λj σ H6=>∃(ds:List Cl)(u9 u10 u11:Option V),σ=[some (.ref l),some (.int (b:Int)),some (.int left),some (.int top),some (.int (wd:Int)),some (.int (ht:Int)),some (.int (st:Int)),some (.ref C),some (.ref D),u9,u10,u11,none,none,none,none]/\Dz ds (cs.take j).reverse/\Fx [D] H2 H6/\H6 D=some (.dT (kvC ds))) ⟨[],none,none,none,rfl,Dz.nil,Fx.refl _ _,hD2⟩ (λj σ H6 _ z=>by obtain⟨_,_,_,_,_,_,fx,_⟩:=z;exact SqL.of (fx.get (by simp[hCD]) hC2)) ?_ ?_
  ·rintro j v σ H6 ev ⟨ds,u9,u10,u11,rfl,dz,fx,hD6⟩;rw[B6]at ev;obtain⟨t,et,rfl⟩:=D6.mp ev;obtain⟨c,ec,hc⟩:=PairedM.getL pr2 et;have hj:j<cs.length:=(B7.mp ec).1;have dl:=dz.len;rw[T9,F8]at dl;refine gtriple (fx.tup hc) ?_;refine⟨_,rfl,_,rfl,_,rfl,_,rfl,(by show 2<=sizeLine;decide),λt1 ht1=>?_⟩;have s7:=Ak (o:=.tup [.int c.x,.int c.y]) ht1;have hD7:=s7 _ _ hD6;refine⟨D,_,rfl,dput (c:=c) hD7 upd_same A0,?_⟩;refine⟨IS ds c,_,_,_,rfl,?_,?_,upd_same⟩
   ·rw[D1,ec,N3,V6];exact dz.put
   ·exact(fx.trans (Az.fx s7)).trans (Qv hD7 (λz=>z))
  rintro σ H3 ⟨ds,u9,u10,u11,rfl,dz,fx,hD3⟩;rw[B0,lts,D9]at dz;have hC3:=fx.get (by simp[hCD]) hC2;have pr3:=PairedM.imp (λt c e=>(fx.tup e:IC H3 t c)) pr2;clear fx hC2 pr2 hD2;refine hk8 ?_;refine Bs ?_;intro r9 s9 k9 hk9 E9;refine⟨_,rfl,_,rfl,_,rfl,_,_,rfl,rfl,_,_,rfl,by lia,?_⟩;rw[show(top+(ht:Int)-top).toNat=ht by lia];refine Dw (n:=ht) (λj σ H6=>∃(ds bs:List Cl)(u9 u10:Option V),σ=[some (.ref l),some (.int (b:Int)),some (.int left),some (.int top),some (.int (wd:Int)),some (.int (ht:Int)),some (.int (st:Int)),some (.ref C),some (.ref D),u9,u10,u11,none,none,none,none]/\Dz ds (bs++cs.reverse)/\Bxs bs st (inR left top wd j 0) (6*j)/\Fx [D] H3 H6/\H6 D=some (.dT (kvC ds))) ⟨ds,[],u9,u10,rfl,dz,⟨λu v p=>absurd p (by unfold inR;lia),λ_ _ _=>rfl,B5 _⟩,Fx.refl _ _,hD3⟩ ?_ ?_
  ·rintro j σ H4 hj ⟨ds,bs,u9,u10,rfl,dz,bx,fx,hD4⟩;refine⟨_,rfl,_,rfl,_,rfl,_,_,rfl,rfl,_,_,rfl,by lia,?_⟩;rw[show(left+(wd:Int)-left).toNat=wd by lia];refine Dw (n:=wd) (λi σ H6=>∃(ds bs:List Cl)(u9:Option V),σ=[some (.ref l),some (.int (b:Int)),some (.int left),some (.int top),some (.int (wd:Int)),some (.int (ht:Int)),some (.int (st:Int)),some (.ref C),some (.ref D),u9,some (.int (top+(j:Int))),u11,none,none,none,none]/\Dz ds (bs++cs.reverse)/\Bxs bs st (inR left top wd j i) (6*j+i)/\Fx [D] H3 H6/\H6 D=some (.dT (kvC ds))) ⟨ds,bs,u9,rfl,dz,bx,fx,hD4⟩ ?_ ?_
   ·rintro i σ H5 hi ⟨ds,bs,u9,rfl,dz,bx,fx,hD5⟩;have dl:=dz.len;have bl:=bx.len;rw[B4,T9]at dl;refine⟨_,rfl,_,rfl,_,rfl,_,rfl,(by show 2<=sizeLine;decide),λt1 ht1=>?_⟩;have s7:=Ak (o:=.tup [.int (left+(i:Int)),.int (top+(j:Int))]) ht1;have hD7:=s7 _ _ hD5;refine⟨D,_,rfl,dput (c:=⟨left+(i:Int),top+(j:Int),st⟩) hD7 upd_same A0,?_⟩;refine⟨IS ds ⟨left+(i:Int),top+(j:Int),st⟩,⟨left+(i:Int),top+(j:Int),st⟩::bs,_,rfl,dz.put,?_,?_,upd_same⟩
    ·exact bx.put _ _ λu v=>by unfold inR;lia
    ·exact(fx.trans (Az.fx s7)).trans (Qv hD7 (λz=>z))
   ·rintro σ H5 ⟨ds,bs,u9,rfl,dz,bx,fx,hD5⟩;exact⟨ds,bs,_,_,rfl,dz,bx.imp (λu v=>by unfold inR;lia) A0,fx,hD5⟩
  clear dz hD3;rintro σ H4 ⟨ds,bs,u9,u10,rfl,dz,bx,fx,hD4⟩;have hC4:=fx.get (by simp[hCD]) hC3;have pr4:=PairedM.imp (λt c e=>(fx.tup e:IC H4 t c)) pr3;have dl:=dz.len;have bl:=bx.len;rw[B4,T9]at dl;have d48:ds.length<=48:=by lia
  have ef:=bx.fil (cs:=cs.reverse);have dk:=live_ok dz;have ndd:=dz.nd;clear fx hC3 pr3 dl bl bx dz hCD;refine hk9 ?_;refine Bs ?_;intro r10 s10 k10 hk10 E10;refine⟨_,rfl,D,kvC ds,rfl,hD4,λo=>?_⟩;generalize e5:upd H4 D _=H5;have hD5:H5 D=some (.frz o (.dT (kvC ds))):=e5▸upd_same;have fx5:Fx [D] H4 H5:=e5▸Qv hD4 (λz=>z);clear e5;have ldk:(kvC ds).length=ds.length:=B0 _;refine Uk (kvs:=kvC ds) (λj acc H6=>Az H5 H6/\∃ps:List Addr,acc=ps.map V.ref/\Paired (Uo H6) ps (kvC (liveC (ds.take j)))) ⟨Az.refl H5,[],rfl,.nil⟩ (λj acc H6 z=>z.1 _ _ hD5) ?_ ?_
  ·rintro j kb kv v acc H6 t ev hb ⟨sm,ps,rfl,pp⟩ nt;obtain⟨c,ec,ee⟩:∃c,ds[j]?=some c/\(kOf [c.x,c.y],V.int (c.s:Int))=(kv,v):=by
    unfold kvC at ev;rw[B6]at ev;obtain⟨c,ec,e⟩:=D6.mp ev;exact⟨c,ec,e⟩
   cases ee;have jl:j<ds.length:=(B7.mp ec).1;have lp:=Y6 pp;have lk:(kvC (liveC (ds.take j))).length<=j:=by
    unfold kvC liveC;rw[B0];refine C4 (S6 _ _) ?_;rw[F8];lia
   have s7:=Ak (o:=.tup [.ref kb,.int (c.s:Int)]) nt;have h7:upd H6 t (.tup [.ref kb,.int (c.s:Int)]) t=some (.tup [.ref kb,.int (c.s:Int)]):=upd_same;generalize upd H6 t (.tup [.ref kb,.int (c.s:Int)])=H7 at s7 h7⊢;have ip:∀{Hx:Hp},Az H6 Hx->Paired (Uo Hx) ps (kvC (liveC (ds.take j))):=λ{Hx} sx=>PairedM.imp (λp r z=>by
    obtain⟨b',z1,z2⟩:=z;exact⟨b',sx _ _ z1,sx _ _ z2⟩) pp
   refine Le h7 ?_;refine⟨⟨[some (.ref kb),some (.int (c.s:Int))],rfl,rfl⟩,by rw[B0];exact BF A0,?_⟩;refine xq1 rfl (xq2 rfl rfl (xq1 rfl ?_));rw[TM ec];by_cases z:0<c.s
   ·rw[Y1 A0,Y4 z];refine BH ⟨_,rfl,_,rfl,(by show 2<=sizeLine;decide),λt8 nt8=>?_⟩;have s8:=Ak (o:=.tup [.ref kb,.int (c.s:Int)]) nt8;have s68:=s7.trans s8;refine⟨sm.trans s68,ps++[t8],by rw[B8];rfl,?_⟩;have e:kvC (liveC (ds.take j)++[c])=kvC (liveC (ds.take j))++[(kOf [c.x,c.y],V.int (c.s:Int))]:=B8;rw[e];exact K2 (ip s68) ⟨kb,upd_same,s68 _ _ hb⟩
   ·rw[Y3 A0,Y0 z];exact AT ⟨sm.trans s7,ps,rfl,ip s7⟩
  rintro acc H6 ⟨sm,ps,rfl,pp⟩ X nX;rw[ldk,D9]at pp;generalize e7:upd H6 X _=H7;have s7:Az H6 H7:=e7▸Ak nX;have hX7:H7 X=some (.lst (ps.map V.ref)):=e7▸upd_same;have l48:(liveC ds).length<=48:=C4 (S6 _ _) d48;refine⟨X,ps,kvC (liveC ds),rfl,hX7,?_,?_,λD' nD'=>?_⟩
  ·exact PairedM.imp (λp r z=>by
    obtain⟨b',z1,z2⟩:=z;exact⟨b',s7 _ _ z1,s7 _ _ z2⟩) pp
  ·unfold kvC;rw[B0];exact BF A0
  rw[put_all dk.nd];generalize e8:upd H7 D' _=H8;have s8:Az H7 H8:=e8▸Ak nD';have hD8:H8 D'=some (.dT (kvC (liveC ds))):=e8▸upd_same;have hC8:H8 C=some (.lst (ts.map V.ref)):=s8 _ _ (s7 _ _ (sm _ _ (fx5.get (by simp[AS hC4 hD4 A4]) hC4)));have pr8:Paired (IC H8) ts cs:=PairedM.imp (λt c e=>(s8 _ _ (s7 _ _ (sm _ _ (fx5.tup e))):IC H8 t c)) pr4;generalize liveC ds=es at dk l48 hD8;generalize hφ:stC (bs++cs.reverse)=φ at dk ef;clear e7 e8 nX nD' s7 s8 hX7 pp sm hD5 fx5 hC4 pr4 hD4 ndd d48 ldk;refine hk10 ?_;refine Bs ?_;intro r11 s11 k11 hk11 E11;intro x dx nx ndx nex;refine⟨x,dx,rfl,upd_same,λg H9 gp N=>⟨rfl,?_⟩⟩;have s9:Az H8 H9:=λb o e=>N.kp b o (by rw[Al (An e nx),Al (An e ndx)];exact e) (gp▸An e nx);subst gp;have fu:=AD.new N;have ng:=N.none;clear N;have nin:∀{b:Addr}{o:HO},H8 b=some o->b∉BN g:=λ{b o} e m=>by
   rw[ng b m]at e;cases e
  have nC:=nin hC8;have nD:=nin hD8;have hC9:=s9 _ _ hC8;have hD9:=s9 _ _ hD8;have pr9:=PairedM.imp (λt c e=>(s9 _ _ e:IC H9 t c)) pr8;clear s9 hC8 hD8 pr8 nin;refine hk11 ?_;refine Bs ?_;intro r12 s12 k12 hk12 E12;refine⟨_,rfl,_,rfl,_,rfl,g,G0,C,ts,cs,rfl,fu,hC9,(λz=>nC (by simp[BN,z])),(λz=>nC (by simp[BN,z])),pr9,λc hc=>(oks c hc).1,by rw[JN];lia,λf0 n0 G5 H10 fr10 fu10 go10 n40 lf10 fl10=>?_⟩;have g10:=go10.few;rw[JN]at g10;obtain⟨r10',e10⟩:=fu10.g0;have s8s:∀c∈cs.reverse,c.s<8:=λc hc=>(oks c (U6.mp hc)).1.s;obtain⟨tr10,ef10⟩:=Ub e10 fu10.ok fl10 s8s;have fs10:=(fs_fld e10 fu10.ok fl10 s8s).mono (show _<=3649 by rw[T9];lia);have v10:Vl G5 f0 (stC cs.reverse) 3649:=⟨⟨n0,⟨lf10,tr10,n40⟩,ef10⟩,fs10⟩
  have hD10:=fr10 _ _ hD9 (λz=>nD (by simp[BN,z])) (λz=>nD (by simp[BN,z])) (λz=>nD (by simp[BN,z]));clear fu hC9 hD9 pr9 fr10 fl10 lf10 tr10 ef10 fs10 go10 n40 e10;refine⟨_,rfl,_,rfl,_,rfl,_,rfl,(by show 4<=sizeLine;decide),λtb nb=>?_⟩;generalize e11:upd H10 tb _=H11;have s11':Az H10 H11:=e11▸Ak nb;have qb:BoAt H11 tb ⟨left,top,wd,ht⟩:=e11▸upd_same;have fu11:=fu10.same s11';have hD11:=s11' _ _ hD10;clear e11 nb hD10 s11' fu10;refine⟨_,rfl,fill_of (E:=E0) fu11 v10 qb ⟨by show(0:Int)<=(wd:Int);lia,by show(0:Int)<=(ht:Int);lia,by unfold Db;dsimp only;lia⟩ ls A3 A0 λr G6 H12 fr12 fu12 go12 v12=>?_⟩;have g12:=go12.few;have v12:=v12.cong ef;have hD12:=fr12 _ _ hD11 (λz=>nD (by simp[BN,z])) (λz=>nD (by simp[BN,z])) (λz=>nD (by simp[BN,z]));have φ8:∀u v,φ u v<8:=λu v=>by
   rw[ef];unfold FU;split
   ·exact ls
   ·exact UF s8s
  clear fu11 hD11 fr12 qb v10 go12 hφ ef;refine hk12 ?_;obtain⟨es',lf,tp,pm,wr⟩:=wr8_of dk.nd l48 λc hc=>by
   have h1:=(dk.mem c).mp hc;exact⟨⟨h1.1,by have:=φ8 c.x c.y;lia⟩,v12.inG A0⟩
  have dk':=dk.perm pm;have hin:∀u v,(wkR lf tp (trc lf tp es').rs).φ u v≠0->InG u v:=λu v z=>v12.inG (by rw[wr.read dk']at z;exact z);obtain⟨eT,rok,ar,len,_⟩:=wr.runs;refine Bs ?_;intro r13 s13 k13 hk13 E13;refine⟨_,rfl,_,rfl,g,G6,r,φ,es',lf,tp,rfl,fu12,v12.vf,by lia,wr.sh dk',λz H13 fx13 fu13 hz=>?_⟩;have nDf:D'∉frA g:=λm=>nD (SI m);have hD13:=fx13.get nDf hD12;have zl:z.length<=10000:=by
   have a1:=IG λr hr=>R1 (rok r hr).a2 (by decide:10^13<10^30);have q1:=wr.l4;have q2:=wr.l5;have q3:=wr.t4;have q4:=wr.t5;have a2:=FR (n:=lf) A0;have a3:=FR (n:=tp) A0;rw[Nu.len,hz,eT,B4,D0,B4,D0];lia
  clear fx13 hD12 fu12;refine hk13 ?_;refine Bs ?_;intro r14 s14 k14 hk14 E14;refine⟨_,rfl,_,_,_,.type "str",true,rfl,rfl,.of (.str z),OX K,true,rfl,AT ?_⟩;refine⟨_,rfl,_,rfl,D',es,es',lf,tp,rfl,hD13,dk.nd,pm,wr,λz2 H14 fx14 hz2=>?_⟩;have ez:z2=z:=Nu.ext (by rw[hz2,hz]);subst ez;have fu14:=fu13.fx fx14 (λx hx z=>nD (by rw[C5]at z;rw[<-z];exact hx));clear fx14 fu13 hD13 hz2;refine⟨rfl,_,rfl,?_⟩;rw[show(!decide (V.str z2=V.str z2))=false by rw[Y1 rfl];rfl];refine AT ?_;have q1:=wr.l4;have q2:=wr.l5;have q3:=wr.t4;have q4:=wr.t5;refine⟨_,rfl,_,rfl,g,G6,lf,tp,z2,(trc lf tp es').rs,rfl,fu14,by rw[hz,eT];rfl,zl,by lia,by lia,rok,by lia,ar,by lia,hin,λr2 G7 H15 fr15 fu15 go15 v15=>?_⟩;obtain⟨r15,e15⟩:=fu15.g0;have er:r2=r:=Vl.eq e15 fu15.ok v15 (v12.app fu14.ok go15) λu v=>wr.read dk' u v;subst er;refine⟨_,rfl,rfl,_,rfl,?_⟩;rw[show(!decide (V.int (r2:Int)=V.int (r2:Int)))=false by rw[Y1 rfl];rfl];refine AT ?_;clear fr15 fu15 go15 v15 fu14 hin;have hin:∀u v,(wkR lf tp (trc lf tp es').rs).φ u v≠0->InG u v:=λu v z=>v12.inG (by rw[wr.read dk']at z;exact z);show k14 _ _;refine hk14 ?_;refine Bs ?_;intro r16 s16 k16 hk16 E16;intro x' dx' nx' ndx' nex';refine⟨x',dx',rfl,upd_same,λg' H16 gp' N=>⟨rfl,?_⟩⟩;subst gp';have fu:=AD.new N;clear N;refine hk16 ?_;refine⟨_,rfl,_,rfl,_,rfl,g',G0,lf,tp,z2,(trc lf tp es').rs,rfl,fu,by rw[hz,eT];rfl,zl,by lia,by lia,rok,by lia,ar,by rw[JN];lia,hin,λr3 G8 H17 fr17 fu17 go17 v17=>?_⟩;have g17:=go17.few;rw[JN]at g17;have v17:=v17.cong (φ:=φ) λu v=>(wr.read dk' u v).symm;refine⟨g',G8,r3,φ,es',lf,tp,rfl,fu17,v17.vf,by lia,wr.sh dk',λz3 H18 fx18 fu18 hz3=>?_⟩;have ez:z3=z2:=Nu.ext (by rw[hz3,hz]);subst ez;refine⟨_,rfl,rfl,?_⟩;rw[show decide (V.str z3=V.str z3)=true from Y1 rfl];exact kq _
end
end J
namespace J
open PySem L2
theorem ar1{α:Type}:∀us:List α,us.length=1->∃a0,us=[a0]
 |[a0],_=>⟨a0,rfl⟩
theorem ar2{α:Type}:∀us:List α,us.length=2->∃a0 a1,us=[a0,a1]
 |[a0,a1],_=>⟨a0,a1,rfl⟩
theorem ar3{α:Type}:∀us:List α,us.length=3->∃a0 a1 a2,us=[a0,a1,a2]
 |[a0,a1,a2],_=>⟨a0,a1,a2,rfl⟩
theorem ar4{α:Type}:∀us:List α,us.length=4->∃a0 a1 a2 a3,us=[a0,a1,a2,a3]
 |[a0,a1,a2,a3],_=>⟨a0,a1,a2,a3,rfl⟩
theorem ar5{α:Type}:∀us:List α,us.length=5->∃a0 a1 a2 a3 a4,us=[a0,a1,a2,a3,a4]
 |[a0,a1,a2,a3,a4],_=>⟨a0,a1,a2,a3,a4,rfl⟩
structure Fg(K:PySem.W.Frag)(x:Str)(st:Stmt)(f:Addr)(fd:FuncData):Prop where
 at_:PySem.W.nsIn K mainGlobals x=some (some (.ref f))
 fn:Fun K x x st f fd
structure Fm(K:PySem.W.Frag)(C:Addr)(m q:Str)(st:Stmt)(f:Addr)(fd:FuncData):Prop where
 me:QL K C m f
 fn:Fun K m q st f fd
structure Fi(K:PySem.W.Frag)(C:Addr)(q:Str)(st:Stmt)(f:Addr)(fd:FuncData):Prop where
 mk_:Mk K C f
 fn:Fun K "__init__" q st f fd
theorem bnd{K:PySem.W.Frag}{x q:Str}{st:Stmt}{f:Addr}{fd:FuncData}{ps:List Str}(F:Fun K x q st f fd)(h:∀(kV doc pm:Value)(an:Option Addr)(cdv ct:Value)(us:List Value),us.length=ps.length->bindArgs (PySem.W.fnOf x q (Jh st) (GT st) (Ai st) .none kV doc pm an cdv ct) ⟨us,[]⟩=pure (ps.zip us):=by intro _ _ _ _ _ _ us hl;first|(obtain⟨x0,rfl⟩:=ar1 us hl;exact rfl)|(obtain⟨x0,x1,rfl⟩:=ar2 us hl;exact rfl)|(obtain⟨x0,x1,x2,rfl⟩:=ar3 us hl;exact rfl)|(obtain⟨x0,x1,x2,x3,rfl⟩:=ar4 us hl;exact rfl)|(obtain⟨x0,x1,x2,x3,x4,rfl⟩:=ar5 us hl;exact rfl)):Ci K fd ps []:=F.binds h
theorem fin{l:PySem.W.OpenLaw}{w:World}{K:PySem.W.Frag}{h:Heap}{mg:Str->Option Value}{fa:Addr}(X:K.In h)(G:h.Ns mainGlobals mg)(hfa:mg "law" = some (.ref fa))
  {c_Grove:Addr} {f0:Addr} {d0:FuncData} {f1:Addr} {d1:FuncData} {f2:Addr} {d2:FuncData} {f3:Addr} {d3:FuncData} {f4:Addr} {d4:FuncData} {f5:Addr} {d5:FuncData} {f6:Addr} {d6:FuncData} {f7:Addr} {d7:FuncData} {f8:Addr} {d8:FuncData} {f9:Addr} {d9:FuncData} {f10:Addr} {d10:FuncData} {f11:Addr} {d11:FuncData} {f12:Addr} {d12:FuncData} {f13:Addr} {d13:FuncData} {f14:Addr} {d14:FuncData} {f15:Addr} {d15:FuncData} {f16:Addr} {d16:FuncData} {f17:Addr} {d17:FuncData} {f18:Addr} {d18:FuncData} {f19:Addr} {d19:FuncData} {f20:Addr} {d20:FuncData} {f21:Addr} {d21:FuncData} {f22:Addr} {d22:FuncData} {f23:Addr} {d23:FuncData} {f24:Addr} {d24:FuncData} {f25:Addr} {d25:FuncData} {f26:Addr} {d26:FuncData} {f27:Addr} {d27:FuncData} {f28:Addr} {d28:FuncData} {f29:Addr} {d29:FuncData} {f30:Addr} {d30:FuncData} {f31:Addr} {d31:FuncData} {f32:Addr} {d32:FuncData} {f33:Addr} {d33:FuncData} {f34:Addr} {d34:FuncData} {f35:Addr} {d35:FuncData} {f36:Addr} {d36:FuncData} {f37:Addr} {d37:FuncData} {f38:Addr} {d38:FuncData} {f39:Addr} {d39:FuncData} {f40:Addr} {d40:FuncData} {f41:Addr} {d41:FuncData} {f42:Addr} {d42:FuncData} {f43:Addr} {d43:FuncData} {f44:Addr} {d44:FuncData} {f45:Addr} {d45:FuncData} {f46:Addr} {d46:FuncData} {f48:Addr} {d48:FuncData} {f49:Addr} {d49:FuncData} {f50:Addr} {d50:FuncData} {f51:Addr} {d51:FuncData} {f52:Addr} {d52:FuncData} {f53:Addr} {d53:FuncData} {f54:Addr} {d54:FuncData} {f55:Addr} {d55:FuncData} {f56:Addr} {d56:FuncData} {f57:Addr} {d57:FuncData} {f58:Addr} {d58:FuncData} {f59:Addr} {d59:FuncData} {f47:Addr} {d47:FuncData} {t_FIGURES:Tok} {x_FIGURES:Str} {t_MOST_FIGURES:Tok} {t_STATES:Tok} {t_TOP_LEVEL:Tok} {t_LIMIT:Tok} {t_LEAST_LEVEL:Tok} {t_MOST_CELLS:Tok} {t_BLANK_SIGN:Tok} {x_BLANK_SIGN:Str} {t_ROW_SIGN:Tok} {x_ROW_SIGN:Str} {t_STATE_SIGNS:Tok} {x_STATE_SIGNS:Str} {t_RUN_SIGNS:Tok} {x_RUN_SIGNS:Str} {t_MOST_AMOUNT_FIGURES:Tok} {t_MOST_PLACE:Tok} {x_FieldError:Addr} {x_NoNumber:Addr} {x_NoSquare:Addr} {x_NoLevel:Addr} {x_NoState:Addr} {x_NoBox:Addr} {x_TooFar:Addr} {x_TooMany:Addr} {x_NoPattern:Addr}
  (c9:PySem.W.nsIn K mainGlobals "Grove" = some (some (.ref c_Grove)))
  (q_Grove:Cls K c_Grove)
  (na_Grove_levels:findIn K (.ref c_Grove) "levels" = some none)
  (na_Grove_parts:findIn K (.ref c_Grove) "parts" = some none)
  (na_Grove_numbers:findIn K (.ref c_Grove) "numbers" = some none)
  (na_Grove_bares:findIn K (.ref c_Grove) "bares" = some none)
  (na_Grove_amounts:findIn K (.ref c_Grove) "amounts" = some none)
  (na_Grove_boxes:findIn K (.ref c_Grove) "boxes" = some none)
  (g0:Fg K "is_whole" Io f0 d0)
  (g1:Fg K "read_whole" FA f1 d1)
  (g2:Fg K "without_minus" DK f2 d2)
  (g3:Fg K "are_figures" DA f3 d3)
  (g4:Fg K "is_state" Ip f4 d4)
  (g5:Fg K "shifted_box" EU f5 d5)
  (g6:Fg K "least_box" Cj f6 d6)
  (g7:Fg K "lies_within" EW f7 d7)
  (g8:Fg K "reach_of" Im f8 d8)
  (g9:Fg K "bare_field" FC f9 d9)
  (g10:Fg K "widened" Jq f10 d10)
  (g11:Fg K "trimmed" Jr f11 d11)
  (g12:Fg K "middle_of" EO f12 d12)
  (g13:Fg K "is_bare_around" Dq f13 d13)
  (g14:Fg K "widened_over" Es f14 d14)
  (g15:Fg K "planted" Js f15 d15)
  (g16:Fg K "replaced" Il f16 d16)
  (g17:Fg K "field_of" Iq f17 d17)
  (g18:Fg K "filled" Mm f18 d18)
  (g19:Fg K "check_box" Gm f19 d19)
  (g20:Fg K "part_in" Jt f20 d20)
  (g21:Fg K "mixed" LI f21 d21)
  (g22:Fg K "mixed_quarters" Cu f22 d22)
  (g23:Fg K "split_stretch" DL f23 d23)
  (g24:Fg K "by_rows" Ju f24 d24)
  (g25:Fg K "cells_of" Ir f25 d25)
  (g26:Fg K "gather_cells" Ev f26 d26)
  (g27:Fg K "box_of" Mn f27 d27)
  (g28:Fg K "read_runs" Gk f28 d28)
  (g29:Fg K "read_amount" EV f29 d29)
  (g30:Fg K "shown_runs" Eb f30 d30)
  (g31:Fg K "put_together" Eu f31 d31)
  (g32:Fg K "shown_run" Gj f32 d32)
  (g33:Fg K "read_pattern" Et f33 d33)
  (g34:Fg K "read_place" FB f34 d34)
  (g35:Fg K "field_of_runs" DO f35 d35)
  (g36:Fg K "shown_pattern" DM f36 d36)
  (g37:Fg K "runs_of_cells" DN f37 d37)
  (g38:Fg K "_law_at" Jv f38 d38)
  (g39:Fg K "_law_mix" Iv f39 d39)
  (g40:Fg K "_law_bits" Go f40 d40)
  (g41:Fg K "_law_place" FD f41 d41)
  (g42:Fg K "_law_cells_by" DP f42 d42)
  (g43:Fg K "_law_kept" Gn f43 d43)
  (g44:Fg K "_law_row" Iu f44 d44)
  (g45:Fg K "_law_text" CU f45 d45)
  (g46:Fg K "law" Sj f46 d46)
  (g48:Fm K c_Grove "kept" "Grove.kept" FG f48 d48)
  (g49:Fm K c_Grove "linked" "Grove.linked" Ex f49 d49)
  (g50:Fm K c_Grove "check_square" "Grove.check_square" Ck f50 d50)
  (g51:Fm K c_Grove "leaf" "Grove.leaf" FF f51 d51)
  (g52:Fm K c_Grove "solid" "Grove.solid" EX f52 d52)
  (g53:Fm K c_Grove "level_of" "Grove.level_of" Ds f53 d53)
  (g54:Fm K c_Grove "state_of" "Grove.state_of" Dr f54 d54)
  (g55:Fm K c_Grove "living" "Grove.living" Ew f55 d55)
  (g56:Fm K c_Grove "counted" "Grove.counted" CN f56 d56)
  (g57:Fm K c_Grove "span" "Grove.span" FE f57 d57)
  (g58:Fm K c_Grove "boxed" "Grove.boxed" DB f58 d58)
  (g59:Fm K c_Grove "measured" "Grove.measured" Cv f59 d59)
  (g47:Fi K c_Grove "Grove.__init__" FH f47 d47)
  (z_abs:PySem.W.nsIn K mainGlobals "abs" = some none)
  (z_all:PySem.W.nsIn K mainGlobals "all" = some none)
  (z_bool:PySem.W.nsIn K mainGlobals "bool" = some none)
  (z_dict:PySem.W.nsIn K mainGlobals "dict" = some none)
  (z_enumerate:PySem.W.nsIn K mainGlobals "enumerate" = some none)
  (z_int:PySem.W.nsIn K mainGlobals "int" = some none)
  (z_isinstance:PySem.W.nsIn K mainGlobals "isinstance" = some none)
  (z_len:PySem.W.nsIn K mainGlobals "len" = some none)
  (z_list:PySem.W.nsIn K mainGlobals "list" = some none)
  (z_max:PySem.W.nsIn K mainGlobals "max" = some none)
  (z_min:PySem.W.nsIn K mainGlobals "min" = some none)
  (z_range:PySem.W.nsIn K mainGlobals "range" = some none)
  (z_sorted:PySem.W.nsIn K mainGlobals "sorted" = some none)
  (z_str:PySem.W.nsIn K mainGlobals "str" = some none)
  (z_sum:PySem.W.nsIn K mainGlobals "sum" = some none)
  (z_tuple:PySem.W.nsIn K mainGlobals "tuple" = some none)
  (g_FIGURES:PySem.W.nsIn K mainGlobals "FIGURES" = some (some (.str x_FIGURES t_FIGURES)))
  (gx_FIGURES:x_FIGURES=Str.ofString "0123456789")
  (g_MOST_FIGURES:PySem.W.nsIn K mainGlobals "MOST_FIGURES" = some (some (.int 30 t_MOST_FIGURES)))
  (g_STATES:PySem.W.nsIn K mainGlobals "STATES" = some (some (.int 8 t_STATES)))
  (g_TOP_LEVEL:PySem.W.nsIn K mainGlobals "TOP_LEVEL" = some (some (.int 48 t_TOP_LEVEL)))
  (g_LIMIT:PySem.W.nsIn K mainGlobals "LIMIT" = some (some (.int 1099511627776 t_LIMIT)))
  (g_LEAST_LEVEL:PySem.W.nsIn K mainGlobals "LEAST_LEVEL" = some (some (.int 1 t_LEAST_LEVEL)))
  (g_MOST_CELLS:PySem.W.nsIn K mainGlobals "MOST_CELLS" = some (some (.int 4096 t_MOST_CELLS)))
  (g_BLANK_SIGN:PySem.W.nsIn K mainGlobals "BLANK_SIGN" = some (some (.str x_BLANK_SIGN t_BLANK_SIGN)))
  (gx_BLANK_SIGN:x_BLANK_SIGN=Str.ofString ".")
  (g_ROW_SIGN:PySem.W.nsIn K mainGlobals "ROW_SIGN" = some (some (.str x_ROW_SIGN t_ROW_SIGN)))
  (gx_ROW_SIGN:x_ROW_SIGN=Str.ofString "/")
  (g_STATE_SIGNS:PySem.W.nsIn K mainGlobals "STATE_SIGNS" = some (some (.str x_STATE_SIGNS t_STATE_SIGNS)))
  (gx_STATE_SIGNS:x_STATE_SIGNS=Str.ofString ".ABCDEFG")
  (g_RUN_SIGNS:PySem.W.nsIn K mainGlobals "RUN_SIGNS" = some (some (.str x_RUN_SIGNS t_RUN_SIGNS)))
  (gx_RUN_SIGNS:x_RUN_SIGNS=Str.ofString ".ABCDEFG/")
  (g_MOST_AMOUNT_FIGURES:PySem.W.nsIn K mainGlobals "MOST_AMOUNT_FIGURES" = some (some (.int 13 t_MOST_AMOUNT_FIGURES)))
  (g_MOST_PLACE:PySem.W.nsIn K mainGlobals "MOST_PLACE" = some (some (.int 9999999999999 t_MOST_PLACE)))
  (z_ValueError:PySem.W.nsIn K mainGlobals "ValueError" = some none)
  (nx_FieldError:PySem.W.nsIn K mainGlobals "FieldError" = some (some (.ref x_FieldError)))
  (nx_NoNumber:PySem.W.nsIn K mainGlobals "NoNumber" = some (some (.ref x_NoNumber)))
  (nx_NoSquare:PySem.W.nsIn K mainGlobals "NoSquare" = some (some (.ref x_NoSquare)))
  (nx_NoLevel:PySem.W.nsIn K mainGlobals "NoLevel" = some (some (.ref x_NoLevel)))
  (nx_NoState:PySem.W.nsIn K mainGlobals "NoState" = some (some (.ref x_NoState)))
  (nx_NoBox:PySem.W.nsIn K mainGlobals "NoBox" = some (some (.ref x_NoBox)))
  (nx_TooFar:PySem.W.nsIn K mainGlobals "TooFar" = some (some (.ref x_TooFar)))
  (nx_TooMany:PySem.W.nsIn K mainGlobals "TooMany" = some (some (.ref x_TooMany)))
  (nx_NoPattern:PySem.W.nsIn K mainGlobals "NoPattern" = some (some (.ref x_NoPattern)))
  (ec_NoNumber:NA K x_NoNumber)
  (ec_FieldError:NA K x_FieldError)
  : ∃fd:FuncData,(∀(s:Shared)(v:Value),BindsTo s fd ⟨[v],[]⟩ [("_law_script",v)])/\∀base:Heap,K.In base->base.Ns mainGlobals mg->AI l.prog w K mg base CX0 106 fa fd ["_law_script"] (Se K):=by
 have e:=hfa.symm.trans (Y8 X G g46.at_);cases e;have no:∀{x:Str},PySem.W.nsIn K mainGlobals x=some none->mg x=none:=λz=>PySem.W.mg_none_of X G z;subst gx_RUN_SIGNS;subst gx_STATE_SIGNS;subst gx_ROW_SIGN;subst gx_BLANK_SIGN;subst gx_FIGURES;have T:Top K mg (⟨c_Grove,x_FieldError,x_NoNumber,x_NoSquare,x_NoLevel,x_NoState,x_NoBox,x_TooFar,x_TooMany,x_NoPattern⟩:Ad):=⟨no z_abs,no z_all,no z_bool,no z_dict,no z_enumerate,no z_int,no z_isinstance,no z_len,no z_list,no z_max,no z_min,no z_range,no z_sorted,no z_str,no z_sum,no z_tuple,⟨t_FIGURES,Y8 X G g_FIGURES⟩,⟨t_MOST_FIGURES,Y8 X G g_MOST_FIGURES⟩,⟨t_STATES,Y8 X G g_STATES⟩,⟨t_TOP_LEVEL,Y8 X G g_TOP_LEVEL⟩,⟨t_LIMIT,Y8 X G g_LIMIT⟩,⟨t_LEAST_LEVEL,Y8 X G g_LEAST_LEVEL⟩,⟨t_MOST_CELLS,Y8 X G g_MOST_CELLS⟩,⟨t_BLANK_SIGN,Y8 X G g_BLANK_SIGN⟩,⟨t_ROW_SIGN,Y8 X G g_ROW_SIGN⟩,⟨t_STATE_SIGNS,Y8 X G g_STATE_SIGNS⟩,⟨t_RUN_SIGNS,Y8 X G g_RUN_SIGNS⟩,⟨t_MOST_AMOUNT_FIGURES,Y8 X G g_MOST_AMOUNT_FIGURES⟩,⟨t_MOST_PLACE,Y8 X G g_MOST_PLACE⟩,Y8 X G c9,q_Grove,na_Grove_levels,na_Grove_parts,na_Grove_numbers,na_Grove_bares,na_Grove_amounts,na_Grove_boxes,no z_ValueError,Y8 X G nx_FieldError,Y8 X G nx_NoNumber,Y8 X G nx_NoSquare,Y8 X G nx_NoLevel,Y8 X G nx_NoState,Y8 X G nx_NoBox,Y8 X G nx_TooFar,Y8 X G nx_TooMany,Y8 X G nx_NoPattern,ec_NoNumber,ec_FieldError⟩
 refine⟨d46,λs v=>(by obtain⟨_,_,_,_,_,_,_,_,_,rfl,_⟩:=g46.fn.ex;exact .of_eq rfl),λbase _ _=>?_⟩;have cal:∀{CX:CXT}{k:Nat}{x:Str}{st:Stmt}{f:Addr}{fd:FuncData}{ps:List Str}{sp:Sp},Fg K x st f fd->AI l.prog w K mg base CX k f fd ps sp->Ci K fd ps []->Cal l.prog w K mg base CX k x ps sp:=λF o b=>⟨_,_,o,Y8 X G F.at_,F.fn.kp,b⟩
 have calm:∀{CX:CXT}{k:Nat}{C:Addr}{x q:Str}{st:Stmt}{f:Addr}{fd:FuncData}{ps:List Str}{sp:Sp},Fm K C x q st f fd->Cls K C->AI l.prog w K mg base CX k f fd ps sp->Ci K fd ps []->Dp l.prog w K mg base CX k C x ps sp:=λF c o b=>⟨⟨_,_,o,F.me,b⟩,c⟩
 have calc':∀{CX:CXT}{k:Nat}{C:Addr}{x q:Str}{st:Stmt}{f:Addr}{fd:FuncData}{ps:List Str}{sp:Sp},Fi K C q st f fd->mg x=some (.ref C)->AI l.prog w K mg base CX k f fd ps sp->Ci K fd ps []->CalC l.prog w K mg base CX k x C ps sp:=λF m o b=>⟨_,_,o,F.mk_,m,b⟩
 have aJ:=cal (k:=1) (sp:=UQ) g0 (ok_iw g0.fn T) (bnd g0.fn);have aK:=cal (k:=2) (sp:=UR) g4 (ok_is g4.fn T aJ) (bnd g4.fn);have aI:=calm (k:=1) (sp:=(Op _)) g48 q_Grove (ok_kept g48.fn T) (bnd g48.fn);have bZ:=calc' (k:=2) (sp:=(Oq _)) g47 T.m_Grove (VC g47.fn T aI) (bnd g47.fn)
 have a6:=calm (k:=2) (sp:=(Gg _)) g49 q_Grove (ok_link g49.fn T aI) (bnd g49.fn);have a9:=calm (k:=2) (sp:=(Pz _)) g50 q_Grove (ok_chk g50.fn T aJ) (bnd g50.fn);have aH:=calm (k:=3) (sp:=(On _)) g51 q_Grove (ok_leaf g51.fn T aK) (bnd g51.fn);have a7:=calm (k:=3) (sp:=(Mb _)) g53 q_Grove (ok_lev g53.fn T a9) (bnd g53.fn);have bC:=calm (k:=4) (sp:=(Ol _)) g52 q_Grove (Vv g52.fn T aJ aH a6) (bnd g52.fn);have aO:=calm (k:=4) (sp:=(UJ _)) g54 q_Grove (ok_sta g54.fn T a7) (bnd g54.fn);have aM:=calm (k:=50) (sp:=(Sf _ 49)) g56 q_Grove (VD g56.fn T g56.me (bnd g56.fn) 49) (bnd g56.fn);have b8:=calm (k:=51) (sp:=(UP _)) g55 q_Grove (ok_liv g55.fn T a9 aM) (bnd g55.fn);have aB:=cal (k:=1) (sp:=IK) g5 (Vw g5.fn T) (bnd g5.fn);have aS:=cal (k:=1) (sp:=LG) g6 (VB g6.fn T) (bnd g6.fn);have aQ:=calm (k:=100) (sp:=(PB _ 49)) g58 q_Grove (VF g58.fn g59.fn T g58.me (bnd g58.fn) g59.me (bnd g59.fn) aB aS 49) (bnd g58.fn);have bG:=calm (k:=101) (sp:=(QT _)) g57 q_Grove (ok_span g57.fn T a9 aQ) (bnd g57.fn);have aC:=cal (k:=1) (sp:=Py) g7 (ok_lie g7.fn T) (bnd g7.fn);have aA:=cal (k:=4) (sp:=(Fw _)) g8 (Vy g8.fn T a7) (bnd g8.fn);have bU:=cal (k:=4) (sp:=(UH _)) g10 (ok_wid g10.fn T a7 a6) (bnd g10.fn);have bL:=cal (k:=3) (sp:=(UO _)) g12 (ok_mid g12.fn T a6) (bnd g12.fn);have aU:=cal (k:=1) (sp:=(spBA _)) g13 (ok_ba g13.fn T) (bnd g13.fn);have b7:=cal (k:=4) (sp:=(Oj _)) g11 (ok_trim g11.fn T a7 aU bL) (bnd g11.fn);have aG:=cal (k:=5) (sp:=(spWO _)) g14 (ok_wo g14.fn T aC aA bU) (bnd g14.fn);have aP:=cal (k:=1) (sp:=(LH _)) g9 (VG g9.fn T) (bnd g9.fn);have b9:=cal (k:=54) (sp:=(Sd _ 50)) g16 (Vx g16.fn T (Y8 X G g16.at_) (bnd g16.fn) aH a6 50) (bnd g16.fn);have bV:=cal (k:=55) (sp:=(Om _)) g15 (Vz g15.fn T aC aK aA aG b9 b7) (bnd g15.fn);have bP:=cal (k:=56) (sp:=(US _)) g17 (ok_fld g17.fn T aP bV) (bnd g17.fn);have bM:=cal (k:=1) (sp:=UU) g19 (ok_chb g19.fn T) (bnd g19.fn);have bW:=cal (k:=5) (sp:=(spPI _)) g20 (ok_pi g20.fn T aA) (bnd g20.fn);have aD:=cal (k:=1) (sp:=LF) g23 (Vu g23.fn T) (bnd g23.fn);have bS:=cal (k:=102) (sp:=(Px _ _ _ 50)) g21 (VA g21.fn g22.fn T (Y8 X G g21.at_) (bnd g21.fn) (Y8 X G g22.at_) (bnd g22.fn) aD a6 50) (bnd g21.fn);have bY:=cal (k:=1) (sp:=Ma) g24 (ok_row g24.fn T) (bnd g24.fn);have aN:=cal (k:=55) (sp:=(spGa _ 50)) g26 (ok_ga g26.fn T (Y8 X G g26.at_) (bnd g26.fn) aO 50) (bnd g26.fn);have c7:=cal (k:=102) (sp:=(Os _)) g27 (VE g27.fn T bG aA aB) (bnd g27.fn);have bA:=cal (k:=1) (sp:=UI) g31 (ok_put g31.fn T) (bnd g31.fn);have bJ:=cal (k:=1) (sp:=QU) g32 (ok_show g32.fn T) (bnd g32.fn);have bH:=cal (k:=2) (sp:=UK) g30 (ok_shR g30.fn T bA bJ) (bnd g30.fn);have aX:=cal (k:=1) (sp:=spRc) g37 (ok_rcs g37.fn T) (bnd g37.fn);have aW:=cal (k:=1) (sp:=UN) g2 (ok_min g2.fn T) (bnd g2.fn);have bE:=cal (k:=1) (sp:=UT) g3 (ok_fig g3.fn T) (bnd g3.fn);have bI:=cal (k:=2) (sp:=spRW) g1 (ok_rw g1.fn T aW bE) (bnd g1.fn);have b6:=cal (k:=3) (sp:=spRP) g34 (ok_rp g34.fn T bI) (bnd g34.fn);have bD:=cal (k:=1) (sp:=UV) g29 (ok_amt g29.fn T) (bnd g29.fn);have bK:=cal (k:=2) (sp:=QV) g28 (ok_read g28.fn T bD) (bnd g28.fn);have bF:=cal (k:=103) (sp:=(Ij _)) g18 (ok_fill g18.fn T bM aC aK aG bC a7 bW bS b7) (bnd g18.fn);have bQ:=cal (k:=56) (sp:=(spCo _)) g25 (ok_co g25.fn T b8 aA aN bY) (bnd g25.fn);have aR:=cal (k:=103) (sp:=(UL _)) g36 (ok_shp g36.fn T bQ c7 bH aX) (bnd g36.fn);have aY:=cal (k:=104) (sp:=(spFR _)) g35 (ok_fr g35.fn T aP bF) (bnd g35.fn);have aT:=cal (k:=105) (sp:=(UM _)) g33 (ok_pat g33.fn T b6 bK aY) (bnd g33.fn);have aE:=cal (k:=1) (sp:=(spAt K)) g38 (ok_at g38.fn T) (bnd g38.fn);have aV:=cal (k:=1) (sp:=Oo) g39 (ok_lmix g39.fn T) (bnd g39.fn);have bO:=cal (k:=1) (sp:=QW) g40 (ok_bits g40.fn T) (bnd g40.fn);have aF:=cal (k:=2) (sp:=spPl) g41 (ok_pl g41.fn T aV) (bnd g41.fn);have aZ:=cal (k:=3) (sp:=(spCB K)) g42 (ok_cb g42.fn T aE aV aF) (bnd g42.fn);have bB:=cal (k:=1) (sp:=spKp) g43 (ok_kp g43.fn T) (bnd g43.fn);have bR:=cal (k:=1) (sp:=spLR) g44 (ok_lr g44.fn T) (bnd g44.fn);have bN:=cal (k:=2) (sp:=spLT) g45 (ok_lt g45.fn T bR) (bnd g45.fn);exact ok_law g46.fn T bZ aE bO aF bB aZ bP bF aR bN aT
theorem walk{l:PySem.W.OpenLaw}{q:Program}{loose:List Str}{XP:(Str->Option Value)->Heap->Prop}{YP:World->Heap->Prop}{d:DefRec}{K:Params->PySem.W.Frag}(hn:l.most=some 63)(hdf:d.params.defaults=[])
  (hY:∀(w:World)(h:Heap),YP w h->(K w.params).In h)
  (F:∀(w:World)(mg:Str->Option Value)(fa:Addr)(h:Heap),(K w.params).In h->h.Ns mainGlobals mg->mg d.name=some (.ref fa) ->
   ∃fd:FuncData,(∀(s:Shared)(u:Value),BindsTo s fd ⟨[u],[]⟩ [("_law_script",u)])/\∀base:Heap,(K w.params).In base->base.Ns mainGlobals mg->AI l.prog w (K w.params) mg base CX0 106 fa fd ["_law_script"] (Se (K w.params))) :
  PySem.W.WalkO q loose XP YP l.row.toRowW d [] (λf vs=>PySem.call f vs) :=
 L2.RU (n:=63) (k:=106) (x:="_law_script") (CX:=λ_=>CX0) (sp:=λw=>Se (K w.params)) hn A3 hdf ⟨rfl,by decide,by decide⟩ hY F (λ_ _ a ns hl _ hS=>⟨a,ns,rfl,hS,hl,λ_=>rfl⟩) λ_ _ _ _ _ z=>z
end J
structure PySem.W.Fast:Prop where(tw15944386192138293975 tw16773126170619183808 tw18203599000533199168 tw8358480930367760910 tw10347287821676856645 tw16011563725861122349 tw1279987133696326631 tw15546046898073725738 tw6797251735569775371 tw1985298594399962070 tw5070042985942765155 tw7033673269187937060 tw7578795482473061753 tw12201162982250542336 tw16495761075937744564 tw12591471672983625512 tw8076516029644121391 tw5407541622626850658 tw12289605969110487674 tw1151082738022020550 tw1474372060060232014 tw12166460129560720377 tw11333082561473736490 tw15563123359842580691 tw1823571532025541909 tw8119575100176437590 tw11766943456582375376 tw8475244056448239683 tw7859159555374517261 tw18170368701787374727 tw14622241510298378413 tw14616310833695370977 tw2737662521278457301 tw617153679096888706 tw3687054409554920630 tw11538536392739305972 tw18237670199100843432 tw15859167200936547841 tw8004138725644427456 tw3194970341252838210 tw6696639861921943481 tw6174089826122953390 tw1001190728812762738 tw17949228053540717553 tw8711030033315299168 tw10368888361096718155 tw13846424657443990252 tw14426411197769776766 tw240086261885259089 tw10323960103008529402 tw6677598218399141073 tw10604681991845784228 tw12411309407688284170 tw5841994978902069043 tw920349303077512472 tw10839710971468676395 tw13362819503850270784 tw10304685323445312300 tw6911885246934301229 tw12937189529439256146 tw795012535354266975 tw3248349375271982057 tw6593819721391069398 tw5759416644760319792 tw1532187402394188592 tw16788469025143341902 tw14695646403390302266 tw6622256499208654702 tw13329355558688812348 tw10721072916731867997 tw1176285474482998512 tw12269346318364941817 tw10462541068548225023 tw17305815237585707506 tw9027899942883340643 tw15916020956355370153 tw877370103500168516 tw13897256374816308399 tw4394735118981840828 tw4230532113713767870 tw10869693833362470006 tw8051614263808399085 tw12943431048439886263 tw5567222397594100988 tw9928533543316704049 tw6056433239941993065 tw5144617490481983315 tw17481016243507833255 tw1256944466670253576 tw9299493059349951684 tw10136835431878812711 tw6128305348648660509 tw9801780800352832136 tw8086367599515218567 tw14399051799307723729 tw6717223419230584663 tw13641046973897314346 tw6821638885180497239 tw8791686606284525557 tw15400777487921481609 tw6122870321532533902 tw1800868672535334976 tw548661505603326510 tw14235325835940612518 tw12165939214527421694 tw965037607233025114 tw16079246283260495155 tw15131092206754995376 tw15483237371020411557 tw3936035030365125303 tw3279141447131337073 tw4263295801413584080 tw5274495123428303700 tw3662991242915533381 tw12512754868711215831 tw6026425098749925490 tw7448946279896569044 tw14675867115313965641 tw14392628113321503317 tw4658994077744265315 tw10391782670791589732 tw10103694011457749845 tw4245900041361045565 tw15544322968012780458 tw3849664939415100259 tw5635664579517617832 tw8206935985851595221 tw1141178069993384060 tw12431616174062389518 tw8399117927062085348 tw742582163074572378 tw5252594409100209032 tw5054532396756415314 tw14557952858664230619 tw3485783444555631629 tw6138033438437010100 tw4867184982135464761 tw7249545636981621572 tw1083987751666326928 tw12572375010259859394 tw12806892432234314761 tw4088699523425953044 tw2277775338146401846 tw17970416119803574359 tw5594344056605224302 tw10081414838031294578 tw3718158143435814837 tw12572633090711675267 tw7125771654856793635 tw10970825048837978424 tw17026563096194767492 tw214267007235064036 tw5010561050854377577 tw15742088742194988528 tw9612195342012569000 tw2438073829411118125 tw14020916570946467604 tw7436317406855067597 tw14828826945823062823 tw10762829143927915205 tw15078557245830689496 tw17291039037219150476 tw10820170217371923192 tw10006840157839204666 tw8690326436006820309 tw12717329528690611860 tw11838969618915138908 tw4945461244720083296 tw6275856109871478501 tw11136023424471406836 tw13183044649740929306 tw11627945939031390240 tw13893359706095686368 tw17727287202389133912 tw5066621515175729045 tw8671157496951773525 tw17476280220244397039 tw17958111859403665520 tw7384326511998458928 tw3073150580320477318 tw17976291392914185526 tw8643528119393037422 tw10004942068044627174 tw9688678079718173110 tw16380937164372855796 tw15267161303603471962 tw12180832787507725402 tw11953522236881174130 tw12319975757733138857 tw16923848191553510884 tw594055533892982181 tw11193061058029153683 tw7901212235595302566 tw18062345500532705424 tw5428926084392394885 tw17806023610950697980 tw1669619282919518901 tw11200175538017121525 tw9274237346276378873 tw4180933624741095749 tw3743607622646208188 tw3166078783601000087 tw5237011347972139147 tw1700448304698630914 tw7366100742910240044 tw15034562042149851676 tw10793265551749396104 tw9730155066785844642 tw17768351832247661342 tw5025948643642405540 tw6951429797501632179 tw16909270665550263053 tw18398365917193113704 tw13173690233001116349 tw8610169346874452815 tw13158219165816140147 tw16653543211508684393 tw3051102120079657915 tw10807436142373890022 tw13163587518794302033 tw8520371719294041579 tw3170022648526496076 tw13220778927408336590 tw4092038190579959052 tw5089212050088390118 tw17149517407039036200 tw13603777865426383307 tw8362897271553021973 tw10533980444805673564 tw14680662321154978676 tw14682372938648170578 tw444172638948321646 tw16819035757502613236 tw10127246361672097739 tw1544716983549580052 tw4741513656406861554 tw15757953113490705422 tw15570084988941083567 tw8284558437158775268 tw6147243336343348105 tw1742023810482381848 tw11060981024127736461 tw2618389239504896984 tw10738105762473564316 tw5116024873380963410 tw7511226253869591713 tw2862650549728272363 tw10484235122836396591 tw11035321549183250323 tw4150927276468115164 tw5598908573341055542 tw18330112486324805175 tw7570698595043674537 tw3979068905833854630 tw16691375216360684056 tw11124654554873733910 tw5667133980436982973 tw16957507561242750636 tw1192990794032268513 tw13604797326388364181 tw1212579031676881329 tw14145994575438874595 tw390584126592673854 tw4850521236978535568 tw18007571540801951804 tw2884495456904525905 tw568611842896652162 tw15492827324820628405 tw10530476259163470191 tw6971136083901287255 tw8115609894196718706 tw10181388024456379552 tw17430676631142294273 tw16795944221597865141 tw9457451247572753930 tw11787478847127540894 tw14945863555187948125 tw5175619470810654850 tw15886591716329553672 tw15171796159714602337 tw12040245403871173599 tw10743348301569705494 tw4573992352481630438 tw5275889292842059706 tw8609810857477575666 tw4006372327429484585 tw17659244483638699361 tw186731335655391411 tw14476528968257017934 tw817298177677122837 tw10572446800065166514 tw3335568162939939876 tw18049253599390132453 tw11685185108145205875 tw16724009969065366139 tw3752892752260264018 tw14712061203448089121 tw13521776763458661301 tw9779405344691774271 tw5475641949679823188 tw15847506394734575112 tw11209884377246066676 tw13703827357990826563 tw13909276405643844194 tw5857410374588754768 tw16000223558381888224 tw10734236900794971896 tw4046324783041763902 tw8442801233428097401 tw11290165975365624353 tw1176905360517987549 tw10875636965675922842 tw15884713387332823365 tw1188855886992065710 tw8969540084368422101 tw12964636044854933499 tw9042520377406702633 tw3459071567139814036 tw15294091679035272195 tw15609161879263457770 tw9329566219625353245 tw1088573421210105207 tw8066600093767196084 tw2481968329764400543 tw9272812565165500659 tw12113979229106495571 tw13047319079343870330 tw8935544051881627031 tw8018048720727024642 tw1091001148057802281 tw6681359291569253757 tw2734960635731749919 tw13658169415635294179 tw14927063390516224407 tw5928073715839464055 tw10742343223088184293 tw12666135665457562138 tw15348308012143477356 tw11333918141207189236 tw18369528982967853772 tw797564270823683917 tw9842346713149037138 tw5782139837069311223 tw15898560361324376050 tw6569713506601833232 tw1026407804180365574 tw2177200447164643567 tw17222152292878589224 tw6550174466644562186 tw18107187205234552383 tw6002121078695296639 tw18196335238822413952 tw5517399205378287716 tw1453980622382987332 tw16218622297471584565 tw10883111095275108513 tw5769058125108441451 tw12309224090282501101 tw4327872338357316984 tw7459684718611300624 tw8429755694755587884 tw17877713387788093239 tw2608093114742913999 tw8311165532014102767 tw18422845315087730588 tw3069564236362032456 tw4499005455160228824 tw351184230566760227 tw10570713400113274796 tw11413736483487860476 tw16340956121669450205 tw766807879173883596 tw13178823859879178851 tw6063843017172661438 tw10223623882792482946 tw16011712992982863581 tw16309984326066677865 tw8093363651703172691 tw17507741058931776152 tw18269595523945377588 tw4825057079449188245 tw13841362127319469195 tw12383876158504107001 tw17364817999722221740 tw8885411521400498496 tw14805069562199689898 tw6892193928937523411 tw17007114736425275293 tw15369018588395452622 tw18269667491748407913 tw5564016172734882406 tw17698315575164152615 tw4626136705459358450 tw10038104015912962037 tw10427182780722111465:True)
open PySem PySem.W PyProof.Rows
set_option maxRecDepth 100000 in
set_option maxHeartbeats 0 in
theorem PySem.Challenge.cw_jumpfield_k83_whole_written_and_read_holds : PySem.Challenge.rw_jumpfield_k83_whole_written_and_read.Holds := by
 w_on; o_law; k_head; (case hw=>w_witness2)
 k_fill
 refine J.walk (l:=PySem.Challenge.rw_jumpfield_k83_whole_written_and_read) rfl rfl (fun w h Y=>PySem.W.kIn_of Y) ?F
 case F =>
  intro w mg fa h KX G hmg;refine' J.fin KX G hmg ?h0 ?h1 ?h2 ?h3 ?h4 ?h5 ?h6 ?h7 ?h8 ?h9 ?h10 ?h11 ?h12 ?h13 ?h14 ?h15 ?h16 ?h17 ?h18 ?h19 ?h20 ?h21 ?h22 ?h23 ?h24 ?h25 ?h26 ?h27 ?h28 ?h29 ?h30 ?h31 ?h32 ?h33 ?h34 ?h35 ?h36 ?h37 ?h38 ?h39 ?h40 ?h41 ?h42 ?h43 ?h44 ?h45 ?h46 ?h47 ?h48 ?h49 ?h50 ?h51 ?h52 ?h53 ?h54 ?h55 ?h56 ?h57 ?h58 ?h59 ?h60 ?h61 ?h62 ?h63 ?h64 ?h65 ?h66 ?h67 ?h68 ?h69 ?h70 ?h71 ?h72 ?h73 ?h74 ?h75 ?h76 ?h77 ?h78 ?h79 ?h80 ?h81 ?h82 ?h83 ?h84 ?h85 ?h86 ?h87 ?h88 ?h89 ?h90 ?h91 ?h92 ?h93 ?h94 ?h95 ?h96 ?h97 ?h98 ?h99 ?h100 ?h101 ?h102 ?h103 ?h104 ?h105 ?h106 ?h107 ?h108 ?h109 ?h110 ?h111 ?h112 ?h113
  (case h0=>k_is)
  (case h1=>(refine' ⟨?_,?_,?_,?_⟩<;>k_is))
  (case h2 | h3 | h4 | h5 | h6 | h7=>k_is)
  (case h8 | h9 | h10 | h11 | h12 | h13 | h14 | h15 | h16 | h17 | h18 | h19 | h20 | h21 | h22 | h23 | h24 | h25 | h26 | h27 | h28 | h29 | h30 | h31 | h32 | h33 | h34 | h35 | h36 | h37 | h38 | h39 | h40 | h41 | h42 | h43 | h44 | h45 | h46 | h47 | h48 | h49 | h50 | h51 | h52 | h53 | h54=>(apply J.Fg.mk; k_is; apply L2.RF<;>k_is))
  (case h55 | h56 | h57 | h58 | h59 | h60 | h61 | h62 | h63 | h64 | h65 | h66=>(apply J.Fm.mk; (apply L2.QL.mk<;>k_is); apply L2.RF<;>k_is))
  (case h67=>(apply J.Fi.mk; (apply L2.Mk.mk<;>k_is); apply L2.RF<;>k_is))
  (case h68 | h69 | h70 | h71 | h72 | h73 | h74 | h75 | h76 | h77 | h78 | h79 | h80 | h81 | h82 | h83 | h84=>k_is)
  (case h85=>decide +kernel)
  (case h86 | h87 | h88 | h89 | h90 | h91 | h92=>k_is)
  (case h93=>decide +kernel)
  (case h94=>k_is)
  (case h95=>decide +kernel)
  (case h96=>k_is)
  (case h97=>decide +kernel)
  (case h98=>k_is)
  (case h99=>decide +kernel)
  (case h100 | h101 | h102 | h103 | h104 | h105 | h106 | h107 | h108 | h109 | h110 | h111=>k_is)
  (case h112 | h113=>(show PySem.W.excIn _ _ _ _=true; k_exc))
