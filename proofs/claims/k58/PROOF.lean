import PyProof.Rows.All
import Wide.All
import OpenK.AllK
import Wide.FinOn
import Lean
import PyProof.EqAt
import PyProof.EqKinds
import PyProof.TupleCall
import PyProof.Rows.CatFin
import PyProof.StrLawsIn
import KE.IntTextLaws
import KE.IntTextText
import PyProof.SumAny
import PyProof.SeqI3
import PyProof.WalkInts
import PyProof.NeKinds
import KE.KDictLaws
import PyProof.DictIter
import PyProof.DictWalks
import PyProof.Rows.DictUnroll
import PyProof.StrLawsTight
import PyProof.StrLawsChain
import PyProof.Rows.StrLawsPart
import PyProof.Rows.StrFirst
import PyProof.Rows.ReprOcc
import PyProof.Rows.StrItems
import PySem.Challenge.RW_jumpfield_k58_whole_growing_boxes
set_option Elab.async false
set_option linter.all false
set_option maxRecDepth 100000
set_option maxHeartbeats 8000000
theorem A0{p:Prop}(h:p:=by lia):p:=h
theorem A1{p:Prop}(h:p:=by decide +kernel):p:=h
theorem A3{p:Prop}(h:p:=by decide):p:=h
theorem A4{p:Prop}(h:p:=by intro z; cases z):p:=h
theorem A6{p:Prop}(h:p:=by simp):p:=h
theorem B0{p:Prop}(h:p:=by intro _ z; cases z):p:=h
theorem B1{p:Prop}(h:p:=by show (0:Int) < 2; decide):p:=h
theorem B3{p:Prop}(h:p:=by show 0 < 1000; decide):p:=h
theorem B4{p:Prop}(h:p:=by show 1 < 1000; decide):p:=h
theorem B5{p:Prop}(h:p:=by show (0:Int) < 2305843009213693951; decide):p:=h
theorem B6{p:Prop}(h:p:=by show (0:Int) < 4; decide):p:=h
theorem B7{p:Prop}(h:p:=by omega):p:=h
abbrev B8:=@List.length_map
abbrev B9:=@List.getElem?_eq_some_iff
abbrev C1:=@List.mem_cons
abbrev C2:=@PySem.Heap.get?_push_of_some
abbrev C3:=@List.getElem?_map
abbrev C4:=@List.mem_cons_of_mem
abbrev C5:=@Nat.le_refl
abbrev C6:=@List.length_append
abbrev C7:=@Bool.false_ne_true
abbrev C8:=@List.mem_cons_self
abbrev C9:=@PySem.Heap.lt_size
abbrev D0:=@Nat.le_trans
abbrev D1:=@List.mem_map
abbrev D3:=@List.mem_append
abbrev D4:=@List.map_append
abbrev D5:=@PySem.Heap.get?_push_size
abbrev D6:=@List.not_mem_nil
abbrev D7:=@List.mem_singleton
abbrev D8:=@List.getElem?_eq_getElem
abbrev D9:=@Nat.pow_succ
abbrev F0:=@List.getD_eq_getElem?_getD
abbrev F1:=@List.mem_of_getElem?
abbrev F2:=@List.length_cons
abbrev F3:=@Option.map_eq_some_iff
abbrev F4:=@Int.eq_ofNat_of_zero_le
abbrev F5:=@List.map_cons
abbrev F6:=@Nat.lt_of_lt_of_le
abbrev F7:=@Nat.ne_of_lt
abbrev F8:=@List.size_toArray
abbrev F9:=@Int.natCast_pow
abbrev J1:=@List.mem_range
abbrev J9:=@List.getElem?_append_right
abbrev L5:=@Int.emod_lt_of_pos
abbrev L6:=@List.mem_append_right
abbrev L7:=@Nat.mul_le_mul_left
abbrev L8:=@Int.add_zero
abbrev L9:=@Int.emod_nonneg
abbrev M0:=@List.getElem?_of_mem
abbrev M4:=@Int.toNat_natCast
abbrev M6:=@Nat.zero_le
abbrev M7:=@Nat.lt_of_le_of_lt
abbrev M8:=@Nat.mod_lt
abbrev M9:=@List.length_take
abbrev N2:=@List.take_add_one
abbrev N3:=@Int.mul_add
abbrev N4:=@List.getElem?_append_left
abbrev N5:=@List.nodup_cons
abbrev N6:=@Nat.div_eq_of_lt
abbrev N7:=@List.take_length
abbrev N8:=@Nat.add_mul_div_left
abbrev N9:=@Nat.zero_add
abbrev O0:=@List.length_range
abbrev O1:=@Int.natCast_mul
abbrev O2:=@Bool.false_eq_true
abbrev O3:=@Nat.pow_le_pow_right
abbrev O4:=@List.nodup_iff_pairwise_ne
abbrev O5:=@PySem.Heap.get?_update_other
abbrev O6:=@Nat.not_lt_zero
abbrev O7:=@Nat.div_add_mod
abbrev O8:=@Bool.and_eq_true
abbrev O9:=@List.find?_cons
abbrev P0:=@List.idxOf_lt_length_of_mem
abbrev P1:=@Nat.lt_irrefl
abbrev P2:=@List.sum_cons
abbrev P3:=@Nat.mod_eq_of_lt
abbrev P4:=@Nat.le_of_not_lt
abbrev P5:=@List.lookup_cons
abbrev P6:=@List.nodup_nil
abbrev P7:=@Int.natCast_nonneg
abbrev P8:=@PySem.Heap.size_push
abbrev P9:=@List.length_replicate
abbrev Q0:=@Nat.add_mul_mod_self_left
abbrev Q4:=@Int.natCast_add
abbrev Q5:=@List.mem_append_left
abbrev Q6:=@PySem.Heap.get?_none_of_le
abbrev Q7:=@List.getElem?_range
abbrev Q8:=@Int.pow_succ
abbrev Q9:=@Int.add_sub_cancel
abbrev R0:=@List.append_nil
abbrev R1:=@Bool.eq_iff_iff
abbrev R3:=@Int.add_assoc
abbrev R4:=@Bool.not_true
abbrev R5:=@List.length_singleton
abbrev R6:=@List.append_assoc
abbrev R7:=@Int.mul_neg
abbrev R8:=@Nat.succ_le_succ
abbrev R9:=@List.mem_flatMap
abbrev S1:=@Int.lt_of_mul_lt_mul_left
abbrev S2:=@List.replicate_succ
abbrev S3:=@List.map_eq_nil_iff
abbrev S5:=@Int.toNat_of_nonneg
abbrev S6:=@Int.mul_assoc
abbrev S7:=@List.mem_filter
abbrev S8:=@Int.sub_eq_add_neg
abbrev S9:=@Nat.lt_trans
abbrev T5:=@List.nodup_append
abbrev T6:=@List.map_map
abbrev T7:=@Bool.eq_false_iff
abbrev T8:=@PySem.Heap.get?_update_self
abbrev T9:=@List.all_eq_true
abbrev U0:=@List.range_succ
abbrev U1:=@List.length_pos_iff
abbrev U2:=@Nat.ne_of_gt
abbrev U3:=@Option.toList_some
abbrev U4:=@Array.getElem?_eq_some_iff
abbrev U5:=@List.flatten_cons
abbrev U6:=@Int.emod_eq_of_lt
abbrev U7:=@Nat.lt_succ_iff_lt_or_eq
abbrev U8:=@List.getElem?_take_of_lt
abbrev U9:=@List.any_cons
abbrev V0:=@Nat.min_le_right
abbrev V1:=@Nat.lt_succ_self
abbrev V2:=@Nat.lt_of_not_le
abbrev V3:=@Nat.le_add_right
abbrev V4:=@List.getElem?_replicate
abbrev V5:=@List.getElem?_cons_succ
abbrev V6:=@List.countP_cons
abbrev V7:=@Nat.mul_comm
abbrev V8:=@List.getElem?_set_self
abbrev V9:=@Option.map_some
abbrev W0:=@List.of_mem_zip
abbrev W1:=@List.foldl_cons
abbrev W2:=@Nat.div_lt_iff_lt_mul
abbrev W3:=@List.getElem?_eq_none
abbrev W4:=@Int.emod_add_mul_ediv
abbrev W5:=@Nat.pow_lt_pow_right
abbrev W6:=@Nat.le_succ
abbrev W7:=@List.mem_iff_getElem
abbrev W8:=@List.getElem?_set_ne
abbrev W9:=@Bool.and_false
abbrev Y4:=@List.filterMap_cons
abbrev Y5:=@Nat.add_assoc
abbrev Y6:=@Array.forIn_toList
abbrev Y7:=@List.findIdx?_eq_some_iff_getElem
abbrev Z0:=@Option.isSome_map
abbrev Z1:=@Nat.sub_self
abbrev Z2:=@Nat.mul_zero
abbrev Z3:=@Nat.lt_succ_of_lt
abbrev Z4:=@List.pairwise_map
abbrev Z5:=@Int.le_of_lt
abbrev Z6:=@PySem.wpAny_bind
abbrev Z7:=@decide_eq_true
abbrev Z8:=@if_neg
abbrev Z9:=@PyProof.Rows.boot_isinstance
abbrev X4:=@decide_eq_false
abbrev X5:=@if_pos
abbrev X6:=@PySem.wpAny_pure
abbrev X7:=@PySem.W.mg_of
abbrev X8:=@Int.ofNat.inj
abbrev X9:=@Classical.byContradiction
abbrev K0:=@Option.some.inj
abbrev K1:=@Ne.symm
abbrev K2:=@of_decide_eq_true
abbrev K3:=@congrArg
abbrev K5:=@PyProof.Rows.boot_max
abbrev K6:=@PySem.F.plainAttrs_list
abbrev K7:=@or_false
abbrev K8:=@PyProof.Rows.boot_min
abbrev K9:=@PySem.PassesOwn.never
abbrev A0a:=@PySem.Paired.length
abbrev A0b:=@PySem.wpAny_truthy_bool
abbrev A0c:=@PySem.W.kia_one
abbrev A0d:=@PySem.F.slot_list_append
abbrev A0e:=@PySem.F.type_list_append
abbrev A0f:=@PySem.wpAny_field
abbrev A0g:=@PyProof.Rows.boot_tuple
abbrev A0h:=@PySem.wpAny_mono
abbrev A1a:=@PyProof.Rows.boot_int
abbrev A1b:=@PySem.mem_of_lookup
abbrev A1c:=@PySem.wpAny_seqItems
abbrev A1d:=@PyProof.Rows.callWith_type1
abbrev A1e:=@PySem.boot_len
abbrev A1f:=@PySem.wpAny_Call_Name_kw
abbrev A1g:=@PySem.Obj.data_mapFields
abbrev A1h:=@List.cons.inj
abbrev A2a:=@PySem.F.slot_dict_get
abbrev A2b:=@PySem.call_meets
abbrev A2c:=@PySem.wpAny_setField_rec
abbrev A2d:=@PySem.wpAny_passesOwn
abbrev A2e:=@PySem.F.slot_tuple_iterator_next
abbrev A2f:=@PySem.Paired.snoc
abbrev A2g:=@PySem.W.callWith_K
abbrev A2h:=@PySem.wpAny_call_entry
abbrev A3a:=@if_false
abbrev A3b:=@not_false_eq_true
abbrev A3c:=@PyProof.Rows.boot_bool
abbrev A3d:=@PyProof.Rows.boot_str
abbrev A3e:=@Classical.choose_spec
abbrev A3f:=@PySem.wpAny_pyIter_list
abbrev A3g:=@PySem.codeAny_mono
abbrev A3h:=@PySem.Obj.isFreed_of_fields
abbrev A4a:=@PySem.Calls.evalArgs_plain
abbrev A4b:=@PySem.wpAny_execs_nil
abbrev A4c:=@PySem.wpAny_specialOf
abbrev A4d:=@if_true
abbrev A4e:=@not_or
abbrev A4f:=@List.Pairwise.imp_of_mem
abbrev A4g:=@PySem.wpAny_setField
abbrev A4h:=@PySem.tupleKind_room_in1
abbrev A5a:=@PySem.F.args_dict_get_2
abbrev A5b:=@PySem.W.cellsFrom_some
abbrev A5c:=@beq_iff_eq
abbrev A5d:=@PySem.F.entry_dict_get
abbrev A5e:=@PySem.F.plainAttrs_str
abbrev A5f:=@PySem.wpAny_newObj_type
abbrev A5g:=@PySem.wpAny_isInstance
abbrev A5h:=@PySem.wpAny_forIn_list
abbrev A6a:=@PySem.W.plainGet_of
abbrev A6b:=@PySem.wpAny_call
abbrev A6c:=@PySem.Calls.callWith_builtin
abbrev A6d:=@PySem.F.slot_zip_next
abbrev A6e:=@PySem.isSubtype_tuple_tuple
abbrev A6f:=@PySem.wpAny_updateSeq_pair
abbrev A6g:=@decide_eq_true_eq
abbrev A6h:=@PySem.wpAny_attempt
abbrev A7a:=@PySem.wpAny_onRaise
abbrev A7b:=@PySem.Calls.spliced_cons
abbrev A7c:=@PySem.F.args_str_split_2
abbrev A7d:=@PySem.wpAny_tupleItemsOf
open PySem.W (instObj methodObj lookIn plainGet hasDictIn findIn handedIn isFn plainOver takerIn any_some makesIn emptyDict keepIn specialIn takesIn mroIn kitOne kitx_list kitx_dict codeRec_of notCls excIn clsIn)
namespace L2
open PySem PySem.Spec PyProof.Rows
abbrev Key:=Sum Int Str
def PU:Key->Value->Bool
 |.inl k,v=>Value.isInt k v
 |.inr x,v=>Value.isStrOf x v
def keyH(w:World):Key->Int
 |.inl k=>hashInt k
 |.inr x=>hashStr w x
theorem BV:∀{k:Key}{v:Value},PU k v=true->(∃i t,k=Sum.inl i/\v=Value.int i t)\/(∃x t,k=Sum.inr x/\v=Value.str x t)
 |.inl i,v,h=>by
  obtain⟨t,e⟩:=Value.isInt_shape (k:=i) (v:=v) h;exact .inl ⟨i,t,rfl,e⟩
 |.inr x,v,h=>by
  obtain⟨t,e⟩:=Value.isStrOf_shape (x:=x) (v:=v) h;exact .inr ⟨x,t,rfl,e⟩
theorem WC(i:Int)(t:Tok):PU (.inl i) (.int i t)=true:=by simp[PU,Value.isInt]
theorem WB(x:Str)(t:Tok):PU (.inr x) (.str x t)=true:=by simp[PU,Value.isStrOf]
theorem key_ll(a b:Int):decide ((Sum.inl a:Key)=Sum.inl b)=(a==b):=by
 by_cases e:a=b
 ·subst e;simp
 ·have h:¬(Sum.inl a:Key)=Sum.inl b:=λq=>e (Sum.inl.inj q);rw[X4 h];exact(beq_eq_false_iff_ne.mpr e).symm
theorem key_rr(a b:Str):decide ((Sum.inr a:Key)=Sum.inr b)=decide (a=b):=by
 by_cases e:a=b
 ·subst e;simp
 ·have h:¬(Sum.inr a:Key)=Sum.inr b:=λq=>e (Sum.inr.inj q);rw[X4 h,X4 e]
theorem key_lr(a:Int)(b:Str):decide ((Sum.inl a:Key)=Sum.inr b)=false:=X4 (λq=>nomatch q)
theorem key_rl(a:Str)(b:Int):decide ((Sum.inr a:Key)=Sum.inl b)=false:=X4 (λq=>nomatch q)
def Cr(prog:Program)(w:World):PySem.KeyKind prog w Key where
 is:=PU
 hash:=keyH w
 inj:=λv a b ha hb=>by
  rcases BV ha with ⟨i,t,rfl,rfl⟩|⟨x,t,rfl,rfl⟩
  ·rcases BV hb with ⟨j,u,rfl,e⟩|⟨y,u,rfl,e⟩
   ·injection e with e1 _;rw[e1]
   ·exact nomatch e
  ·rcases BV hb with ⟨j,u,rfl,e⟩|⟨y,u,rfl,e⟩
   ·exact nomatch e
   ·injection e with e1 _;rw[e1]
 byValue:=λk v h=>by
  rcases BV h with ⟨i,t,rfl,rfl⟩|⟨x,t,rfl,rfl⟩<;>rfl
 pyHash:=λhv h=>by
  rcases BV hv with ⟨i,t,rfl,rfl⟩|⟨x,t,rfl,rfl⟩
  ·exact wpAny_pyHash_int h
  ·exact wpAny_pyHash_str h
 eqBool:=λhu hv h=>by
  rcases BV hu with ⟨i,t,rfl,rfl⟩|⟨x,t,rfl,rfl⟩
  ·rcases BV hv with ⟨j,u,rfl,rfl⟩|⟨y,u,rfl,rfl⟩
   ·rw[key_ll]at h;exact wpAny_eqBool_int h
   ·rw[key_lr]at h;exact SeqAt.EqAt.int_str i t y u _ _ _ _ h
  ·rcases BV hv with ⟨j,u,rfl,rfl⟩|⟨y,u,rfl,rfl⟩
   ·rw[key_rl]at h;exact SeqAt.EqAt.str_int x t j u _ _ _ _ h
   ·rw[key_rr]at h;exact wpAny_eqBool_str h
 «strs»:=λk x t v h=>by
  rcases BV h with ⟨i,u,rfl,e⟩|⟨y,u,rfl,e⟩
  ·exact nomatch e
  ·injection e with e1 _
   subst e1;cases v<;>rfl
theorem SK(prog:Program)(w:World)(i:Int)(t:Tok):(Cr prog w).is (.inl i) (.int i t)=true:=WC i t
theorem SJ(prog:Program)(w:World)(x:Str)(t:Tok):(Cr prog w).is (.inr x) (.str x t)=true:=WB x t
inductive V where
 |non|bl (b:Bool)|int (i:Int)|str (x:Str)|byt (b:Array UInt8)|flt (b:UInt64)|ref (a:Addr)|ty (n:String)
 deriving DecidableEq
def Bb:V->Value->Prop
 |.non,u=>u=Value.none
 |.bl b,u=>u=Value.bool b
 |.int i,u=>∃t,u=Value.int i t
 |.str x,u=>∃t,u=Value.str x t
 |.byt b,u=>∃t,u=Value.bytes b t
 |.flt b,u=>∃t,u=Value.float b t
 |.ref a,u=>u=Value.ref a
 |.ty n,u=>u=Value.type n
abbrev AR:List V->List Value->Prop:=Paired Bb
theorem AR.length{xs:List V}{us:List Value}(r:AR xs us):xs.length=us.length:=A0a r
theorem AR.get:∀{xs:List V}{us:List Value}{i:Nat}{x:V},AR xs us->xs[i]?=some x->∃u,us[i]?=some u/\Bb x u
 |_,_,_,_,.nil,e=>by simp at e
 |_,_,0,_,.cons r _,e=>by simp at e;subst e;exact⟨_,rfl,r⟩
 |_,_,i+1,x,.cons _ t,e=>by
  obtain⟨u,a,b⟩:=AR.get (i:=i) (x:=x) t (by simpa using e);exact⟨u,by simpa using a,b⟩
theorem AR.append:∀{xs ys:List V}{us a:List Value},AR xs us->AR ys a->AR (xs++ys) (us++a)
 |_,_,_,_,.nil,s=>s
 |_,_,_,_,.cons r t,s=>.cons r (AR.append t s)
theorem AR.take:∀{xs:List V}{us:List Value}(n:Nat),AR xs us->AR (xs.take n) (us.take n)
 |_,_,0,_=>.nil
 |_,_,_+1,.nil=>.nil
 |_,_,n+1,.cons r t=>.cons r (AR.take n t)
theorem AR.drop:∀{xs:List V}{us:List Value}(n:Nat),AR xs us->AR (xs.drop n) (us.drop n)
 |_,_,0,r=>r
 |_,_,_+1,.nil=>.nil
 |_,_,n+1,.cons _ t=>AR.drop n t
theorem AR.none_of:∀{xs:List V}{us:List Value}{i:Nat},AR xs us->xs[i]?=none->us[i]?=none:=λ{xs us i} r e=>by
 have a:=r.length;have b:xs.length<=i:=List.getElem?_eq_none_iff.mp e;exact List.getElem?_eq_none_iff.mpr A0
def IL:Option V->Option Value->Prop
 |some v,some u=>Bb v u
 |none,none=>True
 |_,_=>False
def KV{κ:Type}:List (κ×V)->List (κ×Value)->Prop:=Paired λ(p:κ×V)(q:κ×Value)=>p.1=q.1/\Bb p.2 q.2
def kV:Key->V
 |.inl i=>.int i
 |.inr x=>.str x
inductive HO where
 |lst (xs:List V)
 |tup (xs:List V)
 |dK (kvs:List (Key×V))|dT (kvs:List (List Key×V))
 |set (S:Int->Bool) (n:Nat)
 |ins (C dx:Addr) (fs:List (Str×V))
 |own (x:Addr)
 |xd (fs:List (Str×V))
 |met (f x:Addr)
 |rng (lo hi:Int)
 |frz (o:Obj) (u:HO)
 |tbl (ps:Array Value)
 |ext (φ:Heap->Prop)
abbrev Hp:=Addr->Option HO
def upd(H:Hp)(a:Addr)(o:HO):Hp:=λb=>if b=a then some o else H b
theorem Ag{H:Hp}{a:Addr}{o:HO}:upd H a o a=some o:=by unfold upd;rw[X5 rfl]
theorem As{H:Hp}{a b:Addr}{o:HO}(h:b≠a):upd H a o b=H b:=by unfold upd;rw[Z8 h]
theorem GV{H:Hp}{a:Addr}{o u:HO}:upd (upd H a o) a u=upd H a u:=by
 funext b;unfold upd;split<;>rfl
theorem AG{H:Hp}{a b:Addr}{o u:HO}(h:H a=some o)(h':H b=some u)(d:o≠u):a≠b:=by
 intro e;subst e;rw[h]at h';exact d (K0 h')
theorem AA{H:Hp}{a b:Addr}{o:HO}(h:H a=some o)(h':H b=none):a≠b:=by
 intro e;subst e;rw[h]at h';cases h'
section
variable(P:Program)(w:World)
def BD(H:Hp)(h:Heap)(a:Addr):HO->Prop
 |.lst xs=>xs.length<=sizeLine/\∃(its:List Value)(n:Nat),AR xs its/\h.get? a=some {cls:=.type "list",data:=.seq its.toArray n}
 |.tup xs=>xs.length<=sizeLine/\∃its:List Value,AR xs its/\IsTup h a its.toArray
 |.dK kvs=>kvs.length<=sizeLine/\(a==sysModules)=false/\∃vs,KV kvs vs/\h.DictOf (Cr P w) a vs
 |.dT kvs=>kvs.length<=sizeLine/\(a==sysModules)=false/\∃xs:List (List Key×Addr×Value),
   Paired (λ(p:List Key×V)(q:List Key×Addr×Value)=>p.1=q.1/\H q.2.1=some (.tup (p.1.map kV))/\Bb p.2 q.2.2) kvs xs /\
   ∃o es ep,h.get? a=some o/\o.ExactDict/\o.data=.dict es ep/\es.toList=xs.map (entryOfKey (tupleKind (Cr P w)))/\(xs.map (·.1)).Nodup
 |.set S n=>h.SetOf (intKind P w) a S n
 |.ins C dx fs=>H dx=some (.own a)/\fs.length<=1000/\dx≠a/\h.get? a=some (instObj C dx) /\
   ∃mA,h.Ns1 dx mA/\(∀f,IL (fs.lookup f) (mA f))/\PySem.Within mA (fs.map (·.1))
 |.own _=>∃o,h.get? a=some o
 |.xd fs=>∃mA,h.Ns1 a mA/\∀f,IL (fs.lookup f) (mA f)
 |.rng lo hi=>∃t u v,h.get? a=some {cls:=.type "range",data:=.fields #[.int lo t,.int hi u,.int 1 v]}
 |.frz o u=>h.get? a=some o/\BD H h a u
 |.tbl ps=>h.get? a=some {cls:=.none,data:=.fields ps}
 |.met f x=>h.get? a=some (methodObj (.ref f) (.ref x))
 |.ext φ=>φ h/\(∃o,h.get? a=some o)/\∀h1 h2:Heap,φ h1->(∀o,h1.get? a=some o->h2.get? a=some o)->φ h2
def HOk(H:Hp)(h:Heap):Prop:=∀a o,H a=some o->BD P w H h a o
end
section
variable{P:Program}{w:World}{H H':Hp}{h h':Heap}{a:Addr}{o:HO}
theorem BD.lt(x:BD P w H h a o):a<h.objs.size:=by
 cases o with
 |lst xs=>obtain⟨_,_,_,_,e⟩:=x;exact C9 e
 |tup xs=>obtain⟨_,_,_,p⟩:=x;exact p.lt
 |dK b=>obtain⟨_,_,_,_,o,_,_,e,_⟩:=x;exact C9 e
 |dT b=>obtain⟨_,_,_,_,o,_,_,e,_⟩:=x;exact C9 e
 |set S n=>obtain⟨o,_,_,_,e,_⟩:=x;exact C9 e
 |ins C i fs=>obtain⟨_,_,_,e,_⟩:=x;exact C9 e
 |own y=>obtain⟨_,e⟩:=x;exact C9 e
 |xd fs=>obtain⟨_,⟨_,_,_,e,_⟩,_⟩:=x;exact C9 e
 |rng lo c=>obtain⟨_,_,_,e⟩:=x;exact C9 e
 |frz d u=>obtain⟨e,_⟩:=x;exact C9 e
 |tbl g=>exact C9 (show h.get? a=some _ from x)
 |met f y=>exact C9 (show h.get? a=some _ from x)
 |ext φ=>obtain⟨_,⟨_,e⟩,_⟩:=x;exact C9 e
theorem Paired.mapP{α β:Type}{F G:α->β->Prop}:∀{c:List α}{d:List β},Paired F c d->(∀a b,F a b->G a b)->Paired G c d
 |_,_,.nil,_=>.nil
 |_,_,.cons r t,f=>.cons (f _ _ r) (Paired.mapP t f)
theorem Paired.imp'{α β:Type}{F G:α->β->Prop}(f:∀a b,F a b->G a b){c:List α}{d:List β}(r:Paired F c d):Paired G c d:=Paired.mapP r f
theorem BD.stay(x:BD P w H h a o)(k:∀b u,(b=a\/H b=some (.own a))->h.get? b=some u->h'.get? b=some u)
  (M:∀b,H b=some (.own a)->H' b=some (.own a)) (I:∀b xs,H b=some (.tup xs)->H' b=some (.tup xs)):BD P w H' h' a o:=by
 induction o with
 |lst xs=>obtain⟨z,l,n,r,e⟩:=x;exact⟨z,l,n,r,k _ _ (.inl rfl) e⟩
 |tup xs=>obtain⟨z,l,r,g,e,c⟩:=x;exact⟨z,l,r,g,k _ _ (.inl rfl) e,c⟩
 |dK m=>obtain⟨z,y,vs,r,g,j,i,e,c⟩:=x;exact⟨z,y,vs,r,g,j,i,k _ _ (.inl rfl) e,c⟩
 |dT m =>
  obtain⟨z,y,xs,r,g,j,i,e,c⟩:=x;exact⟨z,y,xs,Paired.mapP r λp q z=>⟨z.1,I _ _ z.2.1,z.2.2⟩,g,j,i,k _ _ (.inl rfl) e,c⟩
 |set S n=>obtain⟨g,j,i,t,e,c⟩:=x;exact⟨g,j,i,t,k _ _ (.inl rfl) e,c⟩
 |ins C N fs =>
  obtain⟨d,z,K,e,s,⟨A,j,i,E,c⟩,r⟩:=x;exact⟨M _ d,z,K,k _ _ (.inl rfl) e,s,⟨A,j,i,k _ _ (.inr d) E,c⟩,r⟩
 |own y=>obtain⟨g,e⟩:=x;exact⟨g,k _ _ (.inl rfl) e⟩
 |xd fs=>obtain⟨s,⟨A,j,i,e,c⟩,r⟩:=x;exact⟨s,⟨A,j,i,k _ _ (.inl rfl) e,c⟩,r⟩
 |rng lo O=>obtain⟨t,u,v,e⟩:=x;exact⟨t,u,v,k _ _ (.inl rfl) e⟩
 |frz g u G=>obtain⟨e,q⟩:=x;exact⟨k _ _ (.inl rfl) e,G q⟩
 |tbl B =>
  have e:h.get? a=some {cls:=.none,data:=.fields B}:=x;show h'.get? a=some {cls:=.none,data:=.fields B};exact k a _ (.inl rfl) e
 |met f y =>
  have e:h.get? a=some (methodObj (.ref f) (.ref y)):=x;show h'.get? a=some (methodObj (.ref f) (.ref y));exact k a _ (.inl rfl) e
 |ext φ=>obtain⟨p,⟨o,e⟩,D⟩:=x;exact⟨D _ _ p λo q=>k _ _ (.inl rfl) q,⟨o,k _ _ (.inl rfl) e⟩,D⟩
theorem HOk.lt(x:HOk P w H h)(e:H a=some o):a<h.objs.size:=(x a o e).lt
theorem HOk.fresh(x:HOk P w H h)(e:h.objs.size<=a):H a=none:=by
 cases q:H a with
 |none=>rfl
 |some u=>exact absurd (F6 (x.lt q) e) (P1 _)
theorem HOk.kept(x:HOk P w H h)(k:∀b u,h.get? b=some u->h'.get? b=some u):HOk P w H h':=λa o e =>
 (x a o e).stay (λb u _ q=>k b u q) (λ_ q=>q) λ_ _ q=>q
theorem HOk.laid(x:HOk P w H h)(k:∀b u,h.get? b=some u->h'.get? b=some u)(g:h.objs.size<=a)(new:BD P w (upd H a o) h' a o):HOk P w (upd H a o) h':=λb u e=>by
 have d:=x.fresh g;by_cases f:b=a
 ·subst f;rw[Ag]at e;cases e;exact new
 ·rw[As f]at e;exact(x b u e).stay (λc v _ q=>k c v q) (λc q=>by rw[As (AA q d)];exact q) λc xs q=>by rw[As (AA q d)];exact q
end
def Rd(H:Hp)(a:Addr)(u:HO):Prop:=H a=some u\/∃o,H a=some (.frz o u)
theorem Rd.ok{P:Program}{w:World}{H:Hp}{h:Heap}{a:Addr}{u:HO}(r:Rd H a u)(x:HOk P w H h):BD P w H h a u:=by
 rcases r with r|⟨o,r⟩
 ·exact x a u r
 ·obtain⟨_,q⟩:=x a _ r;exact q
def Mut:Option HO->Prop
 |some (.lst _)=>True
 |some (.dK _)=>True
 |some (.dT _)=>True
 |some (.set _ _)=>True
 |some (.ins _ _ _)=>True
 |some (.ext _)=>True
 |_=>False
section
variable{P:Program}{w:World}{H:Hp}{h h':Heap}{x e:Addr}{o':HO}
theorem HOk.write(ok:HOk P w H h)(i:Mut (H x))(m:e=x\/H e=some (.own x))(k:∀b u,b≠e->h.get? b=some u->h'.get? b=some u)(l:∃u,h'.get? e=some u)
  (new:BD P w (upd H x o') h' x o'):HOk P w (upd H x o') h':=λb u q=>by
 have d:∀c y,H c=some (.own y)->c≠x:=λc y r z=>by subst z;rw[r]at i;exact i
 have f:∀c xs,H c=some (.tup xs)->c≠x:=λc xs r z=>by subst z;rw[r]at i;exact i
 by_cases g:b=x
 ·subst g;rw[Ag]at q;cases q;exact new
 ·rw[As g]at q;by_cases a:b=e
  ·have n:H b=some (.own x):=by
    rcases m with z|z
    ·exact absurd (a.trans z) g
    ·rw[a];exact z
   rw[q]at n;cases n;obtain⟨v,o⟩:=l;exact⟨v,by rw[a];exact o⟩
  ·refine(ok b u q).stay (λc v j r=>k c v ?_ r) (λc r=>by rw[As (d c b r)];exact r) λc xs r=>by rw[As (f c xs r)];exact r
   rcases j with rfl|j
   ·exact a
   ·rintro rfl;rcases m with z|z
    ·exact d c b j z
    ·rw[j]at z;cases z;exact g rfl
end
structure Un(fs ex:List Addr)(H H':Hp)(h h':Heap):Prop where
 keep:∀b o,h.get? b=some o->H b=none->b∉fs->b∉ex->h'.get? b=some o
 slot:∀b o,h.get? b=some o->H b=none->b∈fs->b∉ex->∃sl,h'.get? b=some {o with slots:=sl}
 free:∀b o,h.get? b=some o->H b=none->b∉ex->H' b=none
 there:∀b o,h.get? b=some o->b∉ex->∃o',h'.get? b=some o'
 tups:∀b xs,H b=some (.tup xs)->H' b=some (.tup xs)
 frzs:∀b o u,H b=some (.frz o u)->H' b=some (.frz o u)
 tbls:∀b ps,H b=some (.tbl ps)->∃more,H' b=some (.tbl (ps++more))
section
variable{fs fs' ex ex':List Addr}{H H1 H2:Hp}{h h1 h2 h':Heap}{a x e:Addr}{o:HO}
theorem Un.any(u:Un fs ex H H1 h h1){b:Addr}{c:Obj}(q:h.get? b=some c)(n:H b=none)(d:b∉ex):∃g,h1.get? b=some {c with slots:=g}:=by
 by_cases f:b∈fs
 ·exact u.slot b c q n f d
 ·exact⟨c.slots,u.keep b c q n f d⟩
theorem Un.kept(k:∀b u,h.get? b=some u->h'.get? b=some u):Un fs ex H H h h' :=
 ⟨λb c q _ _ _=>k b c q,λb c q _ _ _=>⟨c.slots,k b c q⟩,λ_ _ _ n _=>n,λb c q _=>⟨c,k b c q⟩,λ_ _ q=>q,λ_ _ _ q=>q,λ_ d q=>⟨#[],by rw[q];simp⟩⟩
theorem Un.refl:Un fs ex H H h h:=Un.kept λ_ _ q=>q
theorem Un.laid(k:∀b u,h.get? b=some u->h'.get? b=some u)(d:h.objs.size<=a)(c:H a=none):Un fs ex H (upd H a o) h h' where
 keep:=λb u q _ _ _=>k b u q
 slot:=λb u q _ _ _=>⟨u.slots,k b u q⟩
 free:=λb u q n _=>by rw[As (F7 (F6 (C9 q) d))];exact n
 there:=λb u q _=>⟨u,k b u q⟩
 tups:=λb xs q=>by rw[As (AA q c)];exact q
 frzs:=λb u xs q=>by rw[As (AA q c)];exact q
 tbls:=λb f q=>⟨#[],by rw[As (AA q c),q];simp⟩
theorem Un.write(d:Mut (H x))(l:e=x\/H e=some (.own x))(k:∀b u,b≠e->h.get? b=some u->h'.get? b=some u)(g:∃u,h'.get? e=some u):Un fs ex H (upd H x o) h h':=by
 have j:∀b,H b=none->b≠x:=λb n z=>by subst z;rw[n]at d;exact d
 have i:∀b,H b=none->b≠e:=λb n z=>by
  subst z;rcases l with r|r
  ·exact j b n r
  ·rw[n]at r;cases r
 have f:∀b u,H b=some u->¬Mut (some u)->b≠x:=λb u q nm z=>by subst z;rw[q]at d;exact nm d
 refine⟨λb u q n _ _=>k b u (i b n) q,λb u q n _ _=>⟨u.slots,k b u (i b n) q⟩,λb u q n _=>by rw[As (j b n)];exact n,λb u q _=>?_,
  λb xs q=>by rw[As (f b _ q λz=>z)];exact q,λb u xs q=>by rw[As (f b _ q λz=>z)];exact q,λb m q=>⟨#[],by rw[As (f b _ q λz=>z),q];simp⟩⟩
 by_cases c:b=e
 ·subst c;exact g
 ·exact⟨u,k b u c q⟩
end
def trk(h:Heap)(H:Hp):List Addr:=(List.range h.objs.size).filter λa=>(H a).isSome
def Ru(h:Heap)(H:Hp):Heap:=W.hideAll h (trk h H)
theorem WF(h:Heap)(H:Hp):(Ru h H).objs.size=h.objs.size:=W.hideAll_size _ _
theorem ZQ{h:Heap}{H:Hp}{b:Addr}{o:Obj}(e:h.get? b=some o)(n:H b=none):(Ru h H).get? b=some o :=
 W.hideAll_get _ e λa=>by
  have q:(H b).isSome=true:=(S7.mp a).2;rw[n]at q;simp at q
theorem of_hidT{h:Heap}{H:Hp}{b:Addr}{o:Obj}(e:(Ru h H).get? b=some o):h.get? b=some o/\H b=none:=by
 have a:h.get? b=some o:=W.of_hideAll (trk h H) e;refine⟨a,?_⟩;cases q:H b with
 |none=>rfl
 |some x =>
  have c:b∈trk h H:=S7.mpr ⟨J1.mpr (C9 a),by simp[q]⟩;have z:(Ru h H).get? b=none:=W.hideAll_none (trk h H) c;rw[z]at e;cases e
structure Mod(K:W.Frag)(mg:Str->Option Value)(base:Heap):Prop where
 kin:K.In base
 glob:base.Ns mainGlobals mg
 blt:∃mb,base.Ns builtinsNs mb/\∀x:Str,x≠"__name__" -> mb x=bootBuiltins x
 nolimit:base.NoLimit
structure Cx where
 prog:Program
 w:World
 K:W.Frag
 mg:Str->Option Value
 base:Heap
 A:Around
 N:List Str
 s₀:Shared
 H₀:Hp
 env:Env
 outer:List Env
 stack:List Env
 ex:List Addr
 fn:Str->Bool
 calm:Bool
 pn:List (Addr×Obj)
 xe:Value->Shared->Prop
def frs(l:List Env):List Addr:=l.filterMap (·.frame)
abbrev Cx.fs(X:Cx):List Addr:=frs X.outer
def Vis(sc:Scope)(x:Str):Prop:=sc.names.lookup x=some .local\/sc.names.lookup x=some .cell\/sc.names.lookup x=some .free
def Loc(sc:Scope)(x:Str):Prop:=sc.names.lookup x=some .local\/sc.names.lookup x=some .cell
def Look(env:Env)(h:Heap)(m:Str->Option Value)(x:Str)(u:Value):Prop :=
 (env.kindOf x=some .local/\m x=some u)\/((env.kindOf x=some .cell\/env.kindOf x=some .free)/\∃c,env.cells.lookup x=some c/\h.IsCell c (some u))
structure Cx.Ok(X:Cx):Prop where
 mod:Mod X.K X.mg X.base
 kind:X.env.scope.kind=.function
 glob:X.env.globals=mainGlobals
 blt:X.env.builtins=builtinsNs
 above:X.s₀.heap.objs.size<=X.env.locals
 inj:∀x y c,X.env.cells.lookup x=some c->X.env.cells.lookup y=some c->x=y
 has:∀x,(X.env.kindOf x=some .cell\/X.env.kindOf x=some .free)->∃c,X.env.cells.lookup x=some c
 cab:∀x c,X.fn x=true->X.env.cells.lookup x=some c->X.s₀.heap.objs.size<=c
 hd:X.calm=true->X.A.handled=none
 frames:X.A.frames=some X.stack
 stk:X.stack=X.outer\/(X.stack=X.env::X.outer/\X.env.frame=some X.env.locals)
 exf:∀b∈X.ex,b≠X.env.locals/\∀x c,X.env.cells.lookup x=some c->c≠b
 bs:∀b o,X.base.get? b=some o->X.s₀.heap.get? b=some o/\X.H₀ b=none
 bsz:X.base.objs.size<=X.s₀.heap.objs.size
 noex:∀b o,X.base.get? b=some o->b∉X.ex
 exfs:∀b∈X.ex,b∉X.fs
 funs:X.s₀.heap.FunFrames X.base X.outer
 frf:∀b∈X.fs,X.H₀ b=none
structure Inv(X:Cx)(pins:List (Addr×Obj))(σ:List (Option V))(H:Hp)(s:Shared):Prop where
 ok:X.Ok
 os:s.os=X.s₀.os
 bare:AllBare s.gens
 base:Un X.fs X.ex X.H₀ H X.s₀.heap s.heap
 loc:∃m,s.heap.Ns X.env.locals m/\∀(i:Nat)(x:Str)(v:V),X.N[i]?=some x->σ[i]?=some (some v)->Vis X.env.scope x->∃u,Bb v u/\Look X.env s.heap m x u
 cell:∀x c,X.env.cells.lookup x=some c->∃v,s.heap.IsCell c v
 free:H X.env.locals=none
 freeC:∀x c,X.env.cells.lookup x=some c->H c=none
 pin:∀p∈X.pn++pins,s.heap.get? p.1=some p.2/\H p.1=none/\p.1≠X.env.locals/\p.1∉X.fs/\∀v,p.2.data≠.cell v
 hok:HOk X.prog X.w H s.heap
 len:σ.length=X.N.length
section
variable{X:Cx}{pins:List (Addr×Obj)}{σ:List (Option V)}{H H':Hp}{s:Shared}{h':Heap}
theorem Cx.Ok.nofr(ok:X.Ok){b:Addr}{o:Obj}(e:X.base.get? b=some o):b∉X.fs:=λa=>by
 have:=(ok.funs.mem a).1;rw[e]at this;cases this
theorem Inv.bs(I:Inv X pins σ H s):∀b o,X.base.get? b=some o->s.heap.get? b=some o/\H b=none:=λb o e =>
 ⟨I.base.keep b o (I.ok.bs b o e).1 (I.ok.bs b o e).2 (I.ok.nofr e) (I.ok.noex b o e),I.base.free b o (I.ok.bs b o e).1 (I.ok.bs b o e).2 (I.ok.noex b o e)⟩
theorem Inv.bk(I:Inv X pins σ H s):∀b o,X.base.get? b=some o->s.heap.get? b=some o:=λb o e=>(I.bs b o e).1
theorem Inv.mod(I:Inv X pins σ H s):Mod X.K X.mg X.base:=I.ok.mod
theorem Inv.kIn(I:Inv X pins σ H s):X.K.In s.heap:=I.ok.mod.kin.keeps I.bk
theorem Inv.lt(I:Inv X pins σ H s):X.env.locals<s.heap.objs.size:=let ⟨_,hn,_⟩:=I.loc;hn.lt
theorem Inv.sz(I:Inv X pins σ H s):X.s₀.heap.objs.size<=s.heap.objs.size:=D0 I.ok.above (Nat.le_of_lt I.lt)
theorem Inv.nofs(I:Inv X pins σ H s){a:Addr}(h:s.heap.objs.size<=a):a∉X.fs:=λb=>by
 obtain⟨_,o,c,_⟩:=I.ok.funs.mem b;exact absurd (F6 (C9 c) (D0 I.sz h)) (P1 _)
theorem Inv.cne(I:Inv X pins σ H s):∀x c,X.env.cells.lookup x=some c->c≠X.env.locals:=λx c e z=>by
 obtain⟨v,o,f,d⟩:=I.cell x c e;obtain⟨m,⟨o',h,g,b,a,_⟩,_⟩:=I.loc;rw[z,b]at f;cases f;rw[a]at d;cases d
theorem Inv.funs (I:Inv X pins σ H s):s.heap.FunFrames X.base X.outer:=by
 have all:∀(l:List Env),(∀b∈frs l,b∈X.fs)->X.s₀.heap.FunFrames X.base l->s.heap.FunFrames X.base l:=by
  intro l;induction l with
  |nil=>intro _ _;trivial
  |cons j r k =>
   intro f n;obtain⟨g,⟨L,o,a,i,p,h⟩,m⟩:=n;have c:L∈X.fs:=f L (by unfold frs;rw[Y4,a];exact C8);obtain⟨q,e⟩:=I.base.slot L o p (I.ok.frf L c) c λz=>I.ok.exfs L z c;exact⟨g,⟨L,_,a,i,e,h⟩,k (λb d=>f b (by unfold frs;rw[Y4,a];exact C4 _ d)) m⟩
 exact all X.outer (λ_ d=>d) I.ok.funs
theorem Inv.stack(I:Inv X pins σ H s):s.heap.FunFrames X.base X.stack:=by
 rcases I.ok.stk with e|⟨e,b⟩
 ·rw[e];exact I.funs
 ·rw[e];obtain⟨m,a,_⟩:=I.loc;refine .cons (by rw[I.ok.kind];decide) b a ?_ I.funs;exact Q6 (D0 I.ok.bsz I.ok.above)
theorem Inv.stkSub(I:Inv X pins σ H s):∀b∈frs X.stack,b∈X.env.locals::X.fs:=λb a=>by
 rcases I.ok.stk with e|⟨e,c⟩
 ·rw[e]at a;exact C4 _ a
 ·rw[e]at a;unfold frs at a;rw[Y4,c]at a;exact a
theorem Inv.stkFree(I:Inv X pins σ H s):∀b∈frs X.stack,H b=none:=λb a=>by
 rcases C1.mp (I.stkSub b a)with e|a
 ·rw[e];exact I.free
 ·obtain⟨_,o,c,_⟩:=I.ok.funs.mem a;exact I.base.free b o c (I.ok.frf b a) λz=>I.ok.exfs b z a
theorem Inv.step{g':Array GenState}{t':Nat}{d':Drawn}{ch:List Addr}(I:Inv X pins σ H s)
  (h:∀b∈ch,(b∈X.ex\/X.s₀.heap.objs.size<=b)/\b≠X.env.locals/\(∀x c,X.env.cells.lookup x=some c->c≠b)/\∀p∈X.pn++pins,p.1≠b)
  (keep:∀b o,b≠X.env.locals->b∉X.fs->b∉ch->s.heap.get? b=some o->H b=none->h'.get? b=some o)
  (j:∀b o,b≠X.env.locals->b∈X.fs->b∉ch->s.heap.get? b=some o->H b=none->∃R,h'.get? b=some {o with slots:=R}) (a:∀b o,b∉ch->s.heap.get? b=some o->H b=none->H' b=none)
  (there:∀b o,b∉ch->s.heap.get? b=some o->∃o',h'.get? b=some o')
  (B:∀b xs,H b=some (.tup xs)->H' b=some (.tup xs)) (C:∀b o u,H b=some (.frz o u)->H' b=some (.frz o u)) (D:∀b O,H b=some (.tbl O)->∃K,H' b=some (.tbl (O++K)))
  (ns:∀m,s.heap.Ns X.env.locals m->h'.Ns X.env.locals m) (S:HOk X.prog X.w H' h') (hg:AllBare g') :
  Inv X pins σ H' {s with heap:=h',gens:=g',drawn:=d',toks:=t'}:=by
 have N:∀b o,X.s₀.heap.get? b=some o->b≠X.env.locals:=λb o e=>F7 (F6 (C9 e) I.ok.above);have A:∀b o,X.s₀.heap.get? b=some o->b∉X.ex->b∉ch:=λb o e f E=>by
  rcases(h b E).1 with z|z
  ·exact f z
  ·exact absurd (F6 (C9 e) z) (P1 _)
 have g:∀x c,X.env.cells.lookup x=some c->∀v,s.heap.IsCell c v->h'.IsCell c v:=λx c e v ⟨o,G,Q⟩=>by
  have t:c∉ch:=λz=>(h c z).2.2.1 x c e rfl;by_cases V:c∈X.fs
  ·obtain⟨R,q⟩:=j c o (I.cne x c e) V t G (I.freeC x c e);exact⟨_,q,Q⟩
  ·exact⟨o,keep c o (I.cne x c e) V t G (I.freeC x c e),Q⟩
 refine⟨I.ok,I.os,hg,⟨λb o e n E f=>?_,λb o e n E f=>?_,λb o e n f=>?_,λb o e f=>?_,λb xs e=>B b xs (I.base.tups b xs e),λb o xs e=>C b o xs (I.base.frzs b o xs e),λb O e=>?_⟩,?_,λx c e=>?_,?_,λx c e=>?_,λp T=>?_,S,I.len⟩
 ·exact keep b o (N b o e) E (A b o e f) (I.base.keep b o e n E f) (I.base.free b o e n f)
 ·obtain⟨R,y⟩:=I.base.slot b o e n E f;obtain⟨P,M⟩:=j b _ (N b o e) E (A b o e f) y (I.base.free b o e n f);exact⟨P,M⟩
 ·obtain⟨o',y⟩:=I.base.there b o e f;exact a b o' (A b o e f) y (I.base.free b o e n f)
 ·obtain⟨o',y⟩:=I.base.there b o e f;exact there b o' (A b o e f) y
 ·obtain⟨m1,y⟩:=I.base.tbls b O e;obtain⟨m2,M⟩:=D b _ y;exact⟨m1++m2,by rw[M,Array.append_assoc]⟩
 ·obtain⟨m,Z,hl⟩:=I.loc;refine⟨m,ns m Z,λi x v y M e3=>?_⟩;obtain⟨u,r,l⟩:=hl i x v y M e3;refine⟨u,r,?_⟩;rcases l with l|⟨k,c,e,z⟩
  ·exact .inl l
  ·exact .inr ⟨k,c,e,g x c e _ z⟩
 ·obtain⟨v,z⟩:=I.cell x c e;exact⟨v,g x c e v z⟩
 ·obtain⟨m,⟨o,_,_,G,_⟩,_⟩:=I.loc;exact a _ o (λz=>(h _ z).2.1 rfl) G I.free
 ·obtain⟨v,o,G,Q⟩:=I.cell x c e;exact a c o (λz=>(h c z).2.2.1 x c e rfl) G (I.freeC x c e)
 ·obtain⟨e,n,Y,U,d⟩:=I.pin p T;have t:p.1∉ch:=λz=>(h p.1 z).2.2.2 p T rfl;exact⟨keep p.1 p.2 Y U t e n,a p.1 p.2 t e n,Y,U,d⟩
theorem Inv.un{t':Nat}(I:Inv X pins σ H s)(u:Un X.fs [] H H' s.heap h')(f:HOk X.prog X.w H' h'):Inv X pins σ H' {s with heap:=h',toks:=t'}:=by
 obtain⟨m,⟨o,t,l,h,r⟩,_⟩:=id I.loc;obtain⟨p,j⟩:=u.any h I.free A6;exact I.step (g':=s.gens) (d':=s.drawn) (ch:=[]) (λ_ z=>nomatch z) (λb o _ c _ e n=>u.keep b o e n c A6) (λb o _ c _ e n=>u.slot b o e n c A6) (λb o _ e n=>u.free b o e n A6) (λb o _ e=>u.there b o e A6) u.tups u.frzs u.tbls (λq i=>by
  obtain⟨o',d,g,a,k⟩:=i;rw[h]at a;cases a;exact⟨_,d,g,j,k⟩) f I.bare
theorem Inv.call{g':Array GenState}{t':Nat}{d':Drawn}{ch:List Addr}(I:Inv X pins σ H s)(u:Un (frs X.stack) ch H H' s.heap h')(i:HOk X.prog X.w H' h')(v:AllBare g')
  (d:∀b∈ch,(b∈X.ex\/X.s₀.heap.objs.size<=b)/\b≠X.env.locals/\(∀x c,X.env.cells.lookup x=some c->c≠b)/\∀p∈X.pn++pins,p.1≠b) :
  Inv X pins σ H' {s with heap:=h',gens:=g',drawn:=d',toks:=t'}:=by
 obtain⟨m,⟨o,C,y,k,r⟩,_⟩:=id I.loc;obtain⟨A,g⟩:=u.any k I.free λz=>(d _ z).2.1 rfl;exact I.step (ch:=ch) d (λb o g q a e n=>u.keep b o e n (λz=>(C1.mp (I.stkSub b z)).elim g q) a) (λb o _ _ a e n=>u.any e n a) (λb o a e n=>u.free b o e n a) (λb o a e=>u.there b o e a) u.tups u.frzs u.tbls (λB l=>by
  obtain⟨o',h,j,f,t⟩:=l;rw[k]at f;cases f;exact⟨_,h,j,g,t⟩) i v
theorem Inv.turned{t':Nat}{it:Addr}(I:Inv X pins σ H s)(k:∀b o,b≠it->s.heap.get? b=some o->h'.get? b=some o)(l:H it=none)(f:it≠X.env.locals)
  (t:it∈X.ex\/X.s₀.heap.objs.size<=it) (w:∀x c,X.env.cells.lookup x=some c->c≠it) (i:∀p∈X.pn++pins,p.1≠it):Inv X pins σ H {s with heap:=h',toks:=t'}:=by
 have d:∀b u,H b=some u->b≠it:=λb u e z=>by rw[z,l]at e;cases e
 refine I.step (g':=s.gens) (d':=s.drawn) (ch:=[it]) (λb h=>?_) (λb o _ _ a e _=>k b o (λz=>a (by simp[z])) e) (λb o _ _ a e _=>⟨o.slots,k b o (λz=>a (by simp[z])) e⟩) (λ_ _ _ _ n=>n)
  (λb o a e=>⟨o,k b o (λz=>a (by simp[z])) e⟩) (λ_ _ e=>e) (λ_ _ _ e=>e) (λb B e=>⟨#[],by rw[e];simp⟩) (λm g=>?_) (λb u e=>?_) I.bare
 ·have e:b=it:=by simpa using h
  subst e;exact⟨t,f,w,i⟩
 ·obtain⟨o,y,j,A,r⟩:=g;exact⟨o,y,j,k _ o (K1 f) A,r⟩
 ·refine(I.hok b u e).stay (λc v a q=>k c v ?_ q) (λ_ q=>q) λ_ _ q=>q;rcases a with z|z
  ·rw[z];exact d b u e
  ·exact d c _ z
theorem Inv.tok(I:Inv X pins σ H s)(t:Nat):Inv X pins σ H {s with toks:=t}:=I.un (h':=s.heap) (t':=t) Un.refl I.hok
theorem Inv.kept{t':Nat}(I:Inv X pins σ H s)(k:∀b u,s.heap.get? b=some u->h'.get? b=some u):Inv X pins σ H {s with heap:=h',toks:=t'}:=I.un (Un.kept k) (I.hok.kept k)
theorem Inv.laid{a:Addr}{o:HO}{t':Nat}(I:Inv X pins σ H s)(k:∀b u,s.heap.get? b=some u->h'.get? b=some u)(c:s.heap.objs.size<=a)(new:BD X.prog X.w (upd H a o) h' a o) :
  Inv X pins σ (upd H a o) {s with heap:=h',toks:=t'}:=I.un (Un.laid k c (I.hok.fresh c)) (I.hok.laid k c new)
theorem Inv.write{x e:Addr}{o:HO}{t':Nat}(I:Inv X pins σ H s)(c:Mut (H x))(d:e=x\/H e=some (.own x))(k:∀b u,b≠e->s.heap.get? b=some u->h'.get? b=some u)(a:∃u,h'.get? e=some u)
  (new:BD X.prog X.w (upd H x o) h' x o):Inv X pins σ (upd H x o) {s with heap:=h',toks:=t'}:=I.un (Un.write c d k a) (I.hok.write c d k a new)
theorem Inv.weak{σ':List (Option V)}(I:Inv X pins σ H s)(c:σ'.length=σ.length)(w:∀(i:Nat) v,σ'[i]?=some (some v)->σ[i]?=some (some v)):Inv X pins σ' H s :=
 ⟨I.ok,I.os,I.bare,I.base,let ⟨m,hn,hl'⟩:=I.loc;⟨m,hn,λi x v a d b=>hl' i x v a (w i v d) b⟩,I.cell,I.free,I.freeC,I.pin,I.hok,c.trans I.len⟩
theorem Inv.pins_of{a:List (Addr×Obj)}(I:Inv X pins σ H s)(h:∀p∈a,s.heap.get? p.1=some p.2/\H p.1=none/\p.1≠X.env.locals/\p.1∉X.fs/\∀v,p.2.data≠.cell v):Inv X a σ H s :=
 ⟨I.ok,I.os,I.bare,I.base,I.loc,I.cell,I.free,I.freeC,λp b=>(D3.mp b).elim (λz=>I.pin p (Q5 _ z)) (h p),I.hok,I.len⟩
theorem Oq{N:List Str}(e:N.Nodup){i j:Nat}{x:Str}(a:N[i]?=some x)(b:N[j]?=some x):i=j:=by
 obtain⟨f,c⟩:=B9.mp a;obtain⟨g,d⟩:=B9.mp b;exact(List.getElem_inj e).mp (c.trans d.symm)
theorem PF{M:Model}{A:Around}{E:Value->Shared->Prop}{i:Nat}{x:Str}{v:V}{u:Value}{Q:Unit->Shared->Prop}(I:Inv X pins σ H s)(hN:X.N.Nodup)(S:X.N[i]?=some x)(B:Loc X.env.scope x)(r:Bb v u)
  (h:∀s',Inv X pins (σ.set i (some v)) H s'->(∃a,Heap.SameBut a s.heap s'.heap/\(a=X.env.locals\/X.env.cells.lookup x=some a))->Q () s') (hf:X.fn x=true\/X.env.scope.names.lookup x=some .local:=by first|exact .inl rfl|exact .inr rfl|assumption):wpAny M A (storeName X.env x u) Q E s:=by
 obtain⟨m,hn,hl⟩:=id I.loc;have T:(X.env.scope.kind==.class || (X.env.scope.kind==.module && X.env.locals != X.env.globals))=false:=by rw[I.ok.kind];rfl
 have K:i<σ.length:=by rw[I.len];exact(B9.mp S).1
 have cne:=I.cne;have l:∀{a:Addr}{h':Heap},(∃o,s.heap.get? a=some o/\H a=none)->Heap.SameBut a s.heap h'->HOk X.prog X.w H h':=λ{a h'} ha f b ob e=>by
  obtain⟨_,_,C⟩:=ha;refine(I.hok b ob e).stay (λc w' t q=>(f.2 c ?_).trans q) (λ_ q=>q) λ_ _ q=>q;rintro rfl;rcases t with rfl|t
  ·rw[C]at e;cases e
  ·rw[C]at t;cases t
 rcases B with G|G
 ·refine wpAny_storeName_local G hn (λh' ac f=>?_) T;obtain⟨oL,_,_,ab,_⟩:=id hn;refine h _ ⟨I.ok,I.os,I.bare,⟨λb o e n P B=>?_,λb o e n P B=>?_,I.base.free,λb o e B=>?_,I.base.tups,I.base.frzs,I.base.tbls⟩,⟨_,ac,λj y v' g D e3=>?_⟩,λy c e=>?_,I.free,I.freeC,λp hp=>?_,l ⟨oL,ab,I.free⟩ f,by simpa using I.len⟩ ⟨_,f,.inl rfl⟩
  ·exact(f.2 b (F7 (F6 (C9 e) I.ok.above))).trans (I.base.keep b o e n P B)
  ·obtain⟨sl,g⟩:=I.base.slot b o e n P B;exact⟨sl,(f.2 b (F7 (F6 (C9 e) I.ok.above))).trans g⟩
  ·obtain⟨o',g⟩:=I.base.there b o e B;exact⟨o',(f.2 b (F7 (F6 (C9 e) I.ok.above))).trans g⟩
  ·by_cases R:j=i
   ·subst R;rw[S]at g;cases g;rw[V8 K]at D;cases D;exact⟨u,r,.inl ⟨G,by simp⟩⟩
   ·rw[W8 (K1 R)]at D;obtain⟨u',r',q⟩:=hl j y v' g D e3;refine⟨u',r',?_⟩;rcases q with ⟨k,e⟩|⟨k,c,e,z⟩
    ·refine .inl ⟨k,?_⟩;have:y≠x:=λe=>R (Oq hN g (e▸S));simp[this,e]
    ·exact .inr ⟨k,c,e,z.sameBut f (cne y c e)⟩
  ·obtain⟨w',z⟩:=I.cell y c e;exact⟨w',z.sameBut f (cne y c e)⟩
  ·obtain⟨e,n,ne,nf,d⟩:=I.pin p hp;exact⟨(f.2 p.1 ne).trans e,n,ne,nf,d⟩
 ·have O:X.fn x=true:=by
   rcases hf with z|z
   ·exact z
   ·rw[z]at G;cases G
  obtain⟨c,t⟩:=I.ok.has x (.inl G);obtain⟨w',z⟩:=I.cell x c t;refine wpAny_storeName_cell I.ok.kind G t z (λh' aa f=>?_);obtain⟨oc,Z,Y⟩:=id z;refine h {s with heap:=h'} ⟨I.ok,I.os,I.bare,⟨λb o e n P B=>?_,λb o e n P B=>?_,I.base.free,λb o e B=>?_,I.base.tups,I.base.frzs,I.base.tbls⟩,⟨m,hn.sameBut f (K1 (cne x c t)),λj y v' g D e3=>?_⟩,λy c' e=>?_,I.free,I.freeC,λp hp=>?_,l ⟨oc,Z,I.freeC x c t⟩ f,by simpa using I.len⟩ ⟨c,f,.inr t⟩
  ·exact(f.2 b (F7 (F6 (C9 e) (I.ok.cab x c O t)))).trans (I.base.keep b o e n P B)
  ·obtain⟨sl,g⟩:=I.base.slot b o e n P B;exact⟨sl,(f.2 b (F7 (F6 (C9 e) (I.ok.cab x c O t)))).trans g⟩
  ·obtain⟨o',g⟩:=I.base.there b o e B;exact⟨o',(f.2 b (F7 (F6 (C9 e) (I.ok.cab x c O t)))).trans g⟩
  ·by_cases R:j=i
   ·subst R;rw[S]at g;cases g;rw[V8 K]at D;cases D;exact⟨u,r,.inr ⟨.inl G,c,t,aa⟩⟩
   ·rw[W8 (K1 R)]at D;obtain⟨u',r',q⟩:=hl j y v' g D e3;refine⟨u',r',?_⟩;rcases q with q|⟨k,c',e,z'⟩
    ·exact .inl q
    ·refine .inr ⟨k,c',e,z'.sameBut f ?_⟩;rintro rfl;exact R (Oq hN g (I.ok.inj _ _ _ e t▸S))
  ·by_cases U:c'=c
   ·subst U;exact⟨_,aa⟩
   ·obtain⟨w2,z2⟩:=I.cell y c' e;exact⟨w2,z2.sameBut f U⟩
  ·obtain⟨e,n,ne,nf,d⟩:=I.pin p hp;refine⟨(f.2 p.1 ?_).trans e,n,ne,nf,d⟩;intro q;rw[q,Z]at e;have q':oc=p.2:=K0 e;exact d w' (by rw[<-q'];exact Y)
theorem NL{M:Model}{A:Around}{E:Value->Shared->Prop}{i:Nat}{x:Str}{v:V}{u:Value}{Q:Unit->Shared->Prop}(I:Inv X pins σ H s)(d:X.N.Nodup)(c:X.N[i]?=some x)(e:Loc X.env.scope x)(r:Bb v u)
  (h:∀s',Inv X pins (σ.set i (some v)) H s'->Q () s') (b:X.fn x=true\/X.env.scope.names.lookup x=some .local:=by first|exact .inl rfl|exact .inr rfl|assumption):wpAny M A (storeName X.env x u) Q E s :=
 PF I d c e r (λs' a _=>h s' a) b
theorem Inv.call'{s':Shared}{ch:List Addr}(I:Inv X pins σ H s)(g:s'.os=s.os)(u:Un (frs X.stack) ch H H' s.heap s'.heap)(d:HOk X.prog X.w H' s'.heap)(f:AllBare s'.gens)
  (a:∀b∈ch,(b∈X.ex\/X.s₀.heap.objs.size<=b)/\b≠X.env.locals/\(∀x c,X.env.cells.lookup x=some c->c≠b)/\∀p∈X.pn++pins,p.1≠b):Inv X pins σ H' s':=by
 obtain⟨h',g',d',t',o'⟩:=s';have e:o'=s.os:=g;subst e;exact I.call (g':=g') (t':=t') (d':=d') u d f a
end
abbrev XK:=Value->Option Addr->Hp->Prop
abbrev St:=List (Option V)
abbrev VK:=V->Hp->Prop
abbrev TE:=St->Hp->VK->Prop
abbrev TT:=St->Hp->(Bool->Hp->Prop)->Prop
abbrev TA:=St->Hp->(List V->Hp->Prop)->Prop
structure MH where
 nx:St->Hp->Prop
 rt:VK
 bk:St->Hp->Prop:=λ_ _=>False
 ct:St->Hp->Prop:=λ_ _=>False
abbrev TS:=MH->St->Hp->Prop
def EP(X:Cx)(pins:List (Addr×Obj))(σ:St)(Q:VK)(u:Value)(s':Shared):Prop:=∃v H',Inv X pins σ H' s'/\Bb v u/\Q v H'
def TP(X:Cx)(pins:List (Addr×Obj))(σ:St)(Q:Bool->Hp->Prop)(b:Bool)(s':Shared):Prop:=∃H',Inv X pins σ H' s'/\Q b H'
def AP(X:Cx)(pins:List (Addr×Obj))(σ:St)(Q:List V->Hp->Prop)(us:List Value)(s':Shared):Prop:=∃vs H',Inv X pins σ H' s'/\AR vs us/\Q vs H'
def SP(X:Cx)(pins:List (Addr×Obj))(D:MH)(f:Flow)(s':Shared):Prop :=
 match f with
 |.next=>∃σ' H',Inv X pins σ' H' s'/\D.nx σ' H'
 |.brk=>∃σ' H',Inv X pins σ' H' s'/\D.bk σ' H'
 |.cont=>∃σ' H',Inv X pins σ' H' s'/\D.ct σ' H'
 |.ret u=>∃v σ' H',Inv X pins σ' H' s'/\Bb v u/\D.rt v H'
def PE(X:Cx)(e:Expr)(t:TE):Prop :=
 ∀(pins:List (Addr×Obj))(s:Shared)(σ:St)(H:Hp)(Q:VK),Inv X pins σ H s->t σ H Q->wpAny (model X.prog X.w) X.A (eval e X.env) (EP X pins σ Q) X.xe s
def PT(X:Cx)(e:Expr)(t:TT):Prop :=
 ∀(pins:List (Addr×Obj))(s:Shared)(σ:St)(H:Hp)(Q:Bool->Hp->Prop),Inv X pins σ H s->t σ H Q->wpAny (model X.prog X.w) X.A (isTrue e X.env (eval e X.env)) (TP X pins σ Q) X.xe s
def PW(X:Cx)(e:Expr)(t:TT):Prop :=
 ∀(whole:Sem Value)(pins:List (Addr×Obj))(s:Shared)(σ:St)(H:Hp)(Q:Bool->Hp->Prop),Inv X pins σ H s->t σ H Q->wpAny (model X.prog X.w) X.A (isTrue e X.env whole) (TP X pins σ Q) X.xe s
theorem PW.pt{X:Cx}{e:Expr}{t:TT}(h:PW X e t):PT X e t:=h _
def PA(X:Cx)(es:List Expr)(t:TA):Prop :=
 ∀(pos:Pos)(pins:List (Addr×Obj))(s:Shared)(σ:St)(H:Hp)(Q:List V->Hp->Prop),Inv X pins σ H s->t σ H Q->wpAny (model X.prog X.w) X.A (spliced (backTo pos (starEach es X.env))) (AP X pins σ Q) X.xe s
def PS(X:Cx)(st:Stmt)(t:TS):Prop :=
 ∀(pins:List (Addr×Obj))(s:Shared)(σ:St)(H:Hp)(D:MH),Inv X pins σ H s->t D σ H->wpAny (model X.prog X.w) X.A (exec st X.env) (SP X pins D) X.xe s
def PSs(X:Cx)(st:List Stmt)(t:TS):Prop :=
 ∀(pins:List (Addr×Obj))(s:Shared)(σ:St)(H:Hp)(D:MH),Inv X pins σ H s->t D σ H->wpAny (model X.prog X.w) X.A (execs st X.env) (SP X pins D) X.xe s
theorem thn{α:Type}{t:Sem α}{Q b:α->Shared->Prop}{M:Model}{A:Around}{E:Value->Shared->Prop}{s:Shared}(h:wpAny M A t Q E s)(c:∀a s,Q a s->b a s):wpAny M A t b E s:=A0h h c λ_ _ x=>x
section
variable{X:Cx}
def Ey(i:Nat):TE:=fun σ H Q=>∃v,σ[i]?=some (some v)/\Q v H
def tC(v:V):TE:=λ_ H Q=>Q v H
theorem pe_var{i:Nat}{x:Str}{g:Pos}(o:X.N[i]?=some x)(p:Vis X.env.scope x)(d:(x==("__debug__" : Str))=false:=by decide)(f:(x==("__classdict__" : Str))=false:=by decide):PE X (.Name x g) (Ey i):=by
 intro pins s σ H Q I h;obtain⟨v,e,h⟩:=h;obtain⟨m,n,q⟩:=I.loc;obtain⟨u,r,l⟩:=q i x v o e p;have fin:EP X pins σ Q u s:=⟨v,H,I,r,h⟩
 rcases l with ⟨b,k⟩|⟨b,c,j,a⟩
 ·exact wpAny_Name (wpAny_loadName_local I.ok.kind b n k fin) d
 ·rcases b with b|b
  ·exact wpAny_Name (wpAny_loadName_cell I.ok.kind b j a fin) d
  ·exact wpAny_Name (wpAny_loadName_free I.ok.kind b j a fin f) d
theorem Ac{i j pos}:PE X (.Constant (.int i) j pos) (tC (.int i)):=λ_ _ _ H _ I h=>wpAny_Constant_int ⟨.int i,H,I.tok _,⟨_,rfl⟩,h⟩
theorem Ol{b j pos}:PE X (.Constant (.bool b) j pos) (tC (.bl b)):=λ_ _ _ H _ I h=>Constant_bool ⟨.bl b,H,I,rfl,h⟩
theorem DA{j pos}:PE X (.Constant .none j pos) (tC .non):=λ_ _ _ H _ I h=>Constant_none ⟨.non,H,I,rfl,h⟩
theorem Lp{x j pos}:PE X (.Constant (.str x) j pos) (tC (.str x)):=λ_ _ _ H _ I h=>Calls.Constant_str ⟨.str x,H,I.tok _,⟨_,rfl⟩,h⟩
def Gl(X:Cx)(x:Str):Prop:=X.env.kindOf x=some .globalImplicit
theorem FV{E:Value->Shared->Prop}{pins:List (Addr×Obj)}{s:Shared}{σ:St}{H:Hp}{x:Str}{u:Value}{a:Pos}{Q:Value->Shared->Prop}(I:Inv X pins σ H s)(d:Gl X x)(b:X.mg x=some u)(h:Q u s)
  (c:(x==("__debug__" : Str))=false:=by decide):wpAny (model X.prog X.w) X.A (eval (.Name x a) X.env) Q E s :=
 Calls.Name_function_global I.ok.kind d (Calls.loadGlobal_global (by rw[I.ok.glob];exact I.mod.glob.keeps I.bk) b h) c
theorem Lu{E:Value->Shared->Prop}{pins:List (Addr×Obj)}{s:Shared}{σ:St}{H:Hp}{x:Str}{u:Value}{a:Pos}{Q:Value->Shared->Prop}(I:Inv X pins σ H s)(i:Gl X x)(b:X.mg x=none)(f:bootBuiltins x=some u)(h:Q u s)
  (d:x≠"__name__" := by decide) (c:(x==("__debug__" : Str))=false:=by decide):wpAny (model X.prog X.w) X.A (eval (.Name x a) X.env) Q E s:=by
 obtain⟨j,e,g⟩:=I.mod.blt;exact Calls.Name_function_global I.ok.kind i (Calls.loadGlobal_builtin (by rw[I.ok.glob];exact I.mod.glob.keeps I.bk) b (by rw[I.ok.blt];exact e.keeps I.bk) ((g x d).trans f) h) c
theorem QP{x:Str}{v:V}{u:Value}{a:Pos}(d:Gl X x)(b:X.mg x=some u)(r:Bb v u)(c:(x==("__debug__" : Str))=false:=by decide):PE X (.Name x a) (tC v) :=
 λ_ _ _ H _ I h=>FV I d b ⟨v,H,I,r,h⟩ c
theorem DU{x:Str}{v:V}{u:Value}{a:Pos}(f:Gl X x)(b:X.mg x=none)(e:bootBuiltins x=some u)(r:Bb v u)(d:x≠"__name__" := by decide)(c:(x==("__debug__" : Str))=false:=by decide):PE X (.Name x a) (tC v) :=
 λ_ _ _ H _ I h=>Lu I f b e ⟨v,H,I,r,h⟩ d c
variable{a b:Expr}{ta tb:TE}{pos:Pos}
def PC(X:Cx)(op:CmpOp)(a b:Expr)(t:TE):Prop :=
 ∀(pins:List (Addr×Obj))(s:Shared)(σ:St)(H:Hp)(Q:VK),Inv X pins σ H s->t σ H Q ->
  wpAny (model X.prog X.w) X.A (eval a X.env) (λv s₁=>wpAny (model X.prog X.w) X.A (eval b X.env) (λu s₂=>wpAny (model X.prog X.w) X.A (compareOp op v u) (EP X pins σ Q) X.xe s₂) X.xe s₁) X.xe s
def tB(t:TE):TT:=fun σ H Q=>t σ H λx H1=>∃c,x=.bl c/\Q c H1
theorem pt_cmp{op:CmpOp}{t:TE}(h:PC X op a b t)(e:behindInMarks op b=false:=by first|exact nobehind _ A3 A3|rfl):PT X (.Compare a [op] [b] pos) (tB t):=by
 intro pins s σ H Q I l;refine wpAny_isTrue_Compare1 (thn (h pins s σ H _ I l) λv o e=>thn e λu n g=>thn g λc m ⟨x,j,f,i,k⟩=>?_) e;obtain⟨d,rfl,q⟩:=k;cases i;exact A0b ⟨j,f,q⟩
theorem Cl{e:Expr}{t:TE}(h:PE X e t)(f:∀c,isTrue e X.env c=(do let v <-c;standAt e.pos;holding [v] (truthy v)):=by intro _;rfl):PT X e (tB t):=by
 intro pins s σ H Q I l;refine isTrue_plain (thn (h pins s σ H _ I l) λv m ⟨x,j,g,i,k⟩=>?_) (f _);obtain⟨d,rfl,q⟩:=k;cases i;exact A0b ⟨j,g,q⟩
variable{tA tB':TT}{rest:List Expr}
def tAnd(t u:TT):TT:=fun σ H Q=>t σ H λc H1=>if c=true then u σ H1 Q else Q false H1
def tOr(t u:TT):TT:=fun σ H Q=>t σ H λc H1=>if c=true then Q true H1 else u σ H1 Q
def tNot(t:TT):TT:=fun σ H Q=>t σ H λc H1=>Q (!c) H1
theorem Ip(d:PT X a tA):PW X (.BoolOp .And [a] pos) tA:=by
 intro f pins s σ H Q I h;refine isTrue_and (thn (d pins s σ H Q I h) λc g e=>?_);cases c with
 |true=>exact isTrue_and_nil e
 |false=>exact e
theorem Dy(d:PT X a tA):PW X (.BoolOp .Or [a] pos) tA:=by
 intro f pins s σ H Q I h;refine isTrue_or (thn (d pins s σ H Q I h) λc g e=>?_);cases c with
 |false=>exact isTrue_or_nil e
 |true=>exact e
theorem Lo(g:PT X a tA)(i:PW X (.BoolOp .And (b::rest) pos) tB'):PW X (.BoolOp .And (a::b::rest) pos) (tAnd tA tB'):=by
 intro j pins s σ H Q I h;refine isTrue_and (thn (g pins s σ H _ I h) λc k ⟨e,d,f⟩=>?_);cases c with
 |true=>exact i j pins k σ e Q d f
 |false=>exact⟨e,d,f⟩
theorem Fs(g:PT X a tA)(i:PW X (.BoolOp .Or (b::rest) pos) tB'):PW X (.BoolOp .Or (a::b::rest) pos) (tOr tA tB'):=by
 intro j pins s σ H Q I h;refine isTrue_or (thn (g pins s σ H _ I h) λc k ⟨e,d,f⟩=>?_);cases c with
 |true=>exact⟨e,d,f⟩
 |false=>exact i j pins k σ e Q d f
theorem CC(d:PT X a tA):PT X (.UnaryOp .Not a pos) (tNot tA):=by
 intro pins s σ H Q I h;exact isTrue_not (d pins s σ H (λc e=>Q (!c) e) I h)
def tAndV(ta tb:TE):TE:=fun σ H Q=>ta σ H λx H1=>∃c,x=.bl c/\if c=true then tb σ H1 Q else Q (.bl false) H1
def tOrV(ta tb:TE):TE:=fun σ H Q=>ta σ H λx H1=>∃c,x=.bl c/\if c=true then Q (.bl true) H1 else tb σ H1 Q
def tNotV(ta:TE):TE:=fun σ H Q=>ta σ H λx H1=>∃c,x=.bl c/\Q (.bl (!c)) H1
theorem Ft{op}{t:TE}(h:PE X a t):PE X (.BoolOp op [a] pos) t:=λpins s σ H Q I c=>BoolOp_one (h pins s σ H Q I c)
theorem EJ(g:PE X a ta)(i:PE X (.BoolOp .And (b::rest) pos) tb):PE X (.BoolOp .And (a::b::rest) pos) (tAndV ta tb):=by
 intro pins s σ H Q I h;refine BoolOp_and (thn (g pins s σ H _ I h) λv k ⟨x,f,e,j,d⟩=>?_);obtain⟨c,rfl,d⟩:=d;cases j;refine A0b ?_;cases c with
 |true=>exact i pins k σ f Q e d
 |false=>exact⟨.bl false,f,e,rfl,d⟩
theorem pe_or(g:PE X a ta)(i:PE X (.BoolOp .Or (b::rest) pos) tb):PE X (.BoolOp .Or (a::b::rest) pos) (tOrV ta tb):=by
 intro pins s σ H Q I h;refine BoolOp_or (thn (g pins s σ H _ I h) λv k ⟨x,f,e,j,d⟩=>?_);obtain⟨c,rfl,d⟩:=d;cases j;refine A0b ?_;cases c with
 |false=>exact i pins k σ f Q e d
 |true=>exact⟨.bl true,f,e,rfl,d⟩
theorem QO(e:PE X a ta):PE X (.UnaryOp .Not a pos) (tNotV ta):=by
 intro pins s σ H Q I h;refine UnaryOp_ (thn (e pins s σ H _ I h) λv j ⟨x,i,f,g,d⟩=>?_);obtain⟨c,rfl,d⟩:=d;cases g;exact not_of (A0b ⟨.bl (!c),i,f,rfl,d⟩)
end
def SqL(K:W.Frag)(H:Hp)(a:Addr)(xs:List V):Prop :=
 Rd H a (.lst xs) \/
  ∃(o:Obj)(its:Array Value)(n:Nat),K.lookup a=some o/\o.cls=.type "list" /\ o.dict=none/\o.data=.seq its n/\its.size<=sizeLine/\AR xs its.toList
def SqT(K:W.Frag)(H:Hp)(a:Addr)(xs:List V):Prop :=
 Rd H a (.tup xs) \/
  ∃(o:Obj)(its:Array Value)(n:Nat),K.lookup a=some o/\o.cls=.type "tuple" /\ o.data=.seq its n/\its.size<=sizeLine/\AR xs its.toList
def absV:Value->Option V
 |.none=>some .non
 |.bool b=>some (.bl b)
 |.int i _=>some (.int i)
 |.str x _=>some (.str x)
 |.bytes b _=>some (.byt b)
 |.float b _=>some (.flt b)
 |.ref a=>some (.ref a)
 |.type n=>some (.ty n)
 |_=>none
theorem Bb.abs{x:V}{u:Value}(r:Bb x u):absV u=some x:=by
 cases x with
 |non=>cases r;rfl
 |bl _=>cases r;rfl
 |int _=>obtain⟨t,rfl⟩:=r;rfl
 |str _=>obtain⟨t,rfl⟩:=r;rfl
 |byt _=>obtain⟨t,rfl⟩:=r;rfl
 |flt _=>obtain⟨t,rfl⟩:=r;rfl
 |ref _=>cases r;rfl
 |ty _=>cases r;rfl
theorem Bb.inj{x y:V}{u:Value}(r:Bb x u)(q:Bb y u):x=y:=K0 (r.abs.symm.trans q.abs)
theorem AR.inj:∀{xs ys:List V}{us:List Value},AR xs us->AR ys us->xs=ys
 |_,_,_,.nil,.nil=>rfl
 |_,_,_,.cons r t,.cons r' t'=>by rw[r.inj r',AR.inj t t']
section
variable{X:Cx}{pins:List (Addr×Obj)}{σ:St}{H:Hp}{s:Shared}{a:Addr}{xs ys:List V}
theorem SqL.of{K:W.Frag}(h:H a=some (.lst xs)):SqL K H a xs:=.inl (.inl h)
theorem SqT.of{K:W.Frag}(h:H a=some (.tup xs)):SqT K H a xs:=.inl (.inl h)
theorem Inv.list(I:Inv X pins σ H s)(h:SqL X.K H a xs):∃b:List Value,AR xs b/\PlainL s.heap a b.toArray/\xs.length<=sizeLine:=by
 rcases h with h|⟨o,b,n,f,g,d,c,i,r⟩
 ·obtain⟨z,b,n,r,e⟩:=h.ok I.hok;exact⟨b,r,⟨_,n,e,rfl,rfl,rfl⟩,z⟩
 ·refine⟨b.toList,r,⟨o,n,I.kIn a o f,g,d,by simpa using c⟩,?_⟩;have e:=r.length;simp only[Array.length_toList]at e;lia
theorem Inv.tuple(I:Inv X pins σ H s)(h:SqT X.K H a xs):∃b:List Value,AR xs b/\IsTup s.heap a b.toArray/\xs.length<=sizeLine:=by
 rcases h with h|⟨o,b,n,d,f,c,g,r⟩
 ·obtain⟨z,b,r,p⟩:=h.ok I.hok;exact⟨b,r,p,z⟩
 ·refine⟨b.toList,r,⟨o,I.kIn a o d,f,n,by simpa using c⟩,?_⟩;have e:=r.length;simp only[Array.length_toList]at e;lia
theorem Inv.list_inj(I:Inv X pins σ H s)(h:SqL X.K H a xs)(h':SqL X.K H a ys):xs=ys:=by
 obtain⟨b,r,⟨o,n,e,_,_,d⟩,_⟩:=I.list h;obtain⟨its',f,⟨o',g,c,_,_,d'⟩,_⟩:=I.list h';rw[e]at c;cases c;rw[d]at d';injection d' with d1 _
 have:b=its':=by simpa using K3 Array.toList d1
 subst this;exact r.inj f
theorem Inv.tuple_inj(I:Inv X pins σ H s)(h:SqT X.K H a xs)(h':SqT X.K H a ys):xs=ys:=by
 obtain⟨b,r,⟨o,e,_,n,d⟩,_⟩:=I.tuple h;obtain⟨its',f,⟨o',c,_,g,d'⟩,_⟩:=I.tuple h';rw[e]at c;cases c;rw[d]at d';injection d' with d1 _
 have:b=its':=by simpa using K3 Array.toList d1
 subst this;exact r.inj f
end
abbrev Cx.wish(X:Cx)(E:Value->Shared->Prop):Cx:={X with xe:=E}
abbrev Cx.nox(X:Cx):Cx:=X.wish λ_ _=>False
theorem Cx.Ok.wish{X:Cx}(ok:X.Ok)(E:Value->Shared->Prop):(X.wish E).Ok :=
 ⟨ok.mod,ok.kind,ok.glob,ok.blt,ok.above,ok.inj,ok.has,ok.cab,ok.hd,ok.frames,ok.stk,ok.exf,ok.bs,ok.bsz,ok.noex,ok.exfs,ok.funs,ok.frf⟩
theorem Cx.Ok.unwish{X:Cx}{E:Value->Shared->Prop}(ok:(X.wish E).Ok):X.Ok :=
 ⟨ok.mod,ok.kind,ok.glob,ok.blt,ok.above,ok.inj,ok.has,ok.cab,ok.hd,ok.frames,ok.stk,ok.exf,ok.bs,ok.bsz,ok.noex,ok.exfs,ok.funs,ok.frf⟩
section
variable{X:Cx}{pins:List (Addr×Obj)}{σ:St}{H:Hp}{s:Shared}{E:Value->Shared->Prop}
theorem Inv.wish(I:Inv X pins σ H s)(E:Value->Shared->Prop):Inv (X.wish E) pins σ H s:=⟨I.ok.wish E,I.os,I.bare,I.base,I.loc,I.cell,I.free,I.freeC,I.pin,I.hok,I.len⟩
theorem Inv.unwish(I:Inv (X.wish E) pins σ H s):Inv X pins σ H s:=⟨I.ok.unwish,I.os,I.bare,I.base,I.loc,I.cell,I.free,I.freeC,I.pin,I.hok,I.len⟩
theorem SP.unwish{D:MH}{f:Flow}{s':Shared}(h:SP (X.wish E) pins D f s'):SP X pins D f s':=by
 cases f with
 |next=>obtain⟨σ',a,I,q⟩:=h;exact⟨σ',a,I.unwish,q⟩
 |brk=>obtain⟨σ',a,I,q⟩:=h;exact⟨σ',a,I.unwish,q⟩
 |cont=>obtain⟨σ',a,I,q⟩:=h;exact⟨σ',a,I.unwish,q⟩
 |ret u=>obtain⟨v,σ',a,I,r,q⟩:=h;exact⟨v,σ',a,I.unwish,r,q⟩
theorem PSs.nox{a:List Stmt}{t:TS}(h:PSs X.nox a t):PSs X a t:=λpins s σ H D I b =>
 A0h (h pins s σ H D (I.wish _) b) (λ_ _ q=>q.unwish) λ_ _ z=>False.elim z
end
section
variable{X:Cx}{st:Stmt}{rest:List Stmt}{t u:TS}{e:Expr}{te:TE}{pos:Pos}
def tNext:TS:=λD σ H=>D.nx σ H
def Yg(t u:TS):TS:=λD σ H=>t {D with nx:=u D} σ H
theorem AE:PSs X [] tNext:=λ_ _ σ H _ I h=>A4b ⟨σ,H,I,h⟩
theorem Ae(c:PS X st t)(d:PSs X rest u):PSs X (st::rest) (Yg t u):=by
 intro pins s σ H D I h;refine wpAny_execs_cons (thn (c pins s σ H {D with nx:=u D} I h) λf g q=>?_);cases f with
 |next =>
  obtain⟨σ',b,a,q⟩:=q;exact d pins g σ' b D a q
 |ret v=>exact q
 |brk=>exact q
 |cont=>exact q
theorem Af(a:PS X st t):PSs X [st] t:=by
 intro pins s σ H D I h;refine wpAny_execs_cons (thn (a pins s σ H D I h) λf b q=>?_);cases f with
 |next=>exact A4b q
 |ret v=>exact q
 |brk=>exact q
 |cont=>exact q
theorem Inv.quiet{pins:List (Addr×Obj)}{σ:St}{H:Hp}{s:Shared}(I:Inv X pins σ H s):interactive X.env=false:=by simp[interactive,I.ok.kind]
def tDrop(te:TE):TS:=λD σ H=>te σ H λ_ H1=>D.nx σ H1
theorem Co(c:PE X e te)(a:swapsWith e none pos.line X.env=pure false:=by rfl):PS X (.Expr e pos) (tDrop te):=by
 intro pins s σ H D I h;exact wpAny_Expr_any (thn (c pins s σ H _ I h) λv i ⟨x,d,b,g,f⟩=>⟨σ,d,b,f⟩) I.quiet a
def tRet(te:TE):TS:=λD σ H=>te σ H D.rt
theorem Ar(b:PE X e te):PS X (.Return (some e) pos) (tRet te):=by
 intro pins s σ H D I h;exact wpAny_Return_some (thn (b pins s σ H _ I h) λv g ⟨x,d,a,c,f⟩=>⟨x,σ,d,a,c,f⟩)
def tIfS(c:TT)(t u:TS):TS:=λD σ H=>c σ H λb H1=>if b=true then t D σ H1 else u D σ H1
theorem AN{c:Expr}{a b:List Stmt}{tc:TT}(m:PT X c tc)(k:PSs X a t)(l:PSs X b u):PS X (.If c a b pos) (tIfS tc t u):=by
 intro pins s σ H D I h;refine wpAny_If (thn (m pins s σ H _ I h) λd j ⟨g,f,i⟩=>?_);cases d with
 |true=>exact k pins j σ g D f i
 |false=>exact l pins j σ g D f i
def tNever:TS:=λ_ _ _=>False
theorem Bk:PS X st tNever:=λ_ _ _ _ _ _ h=>h.elim
end
abbrev TG:=V->St->Hp->(St->Hp->Prop)->Prop
abbrev TGs:=List V->St->Hp->(St->Hp->Prop)->Prop
def PG(X:Cx)(target:Expr)(t:TG):Prop :=
 ∀(pins:List (Addr×Obj))(s:Shared)(σ:St)(H:Hp)(v:V)(u:Value)(Q:St->Hp->Prop),Inv X pins σ H s->Bb v u->t v σ H Q ->
  wpAny (model X.prog X.w) X.A (assign target X.env u) (λ_ s'=>∃σ' H',Inv X pins σ' H' s'/\Q σ' H') X.xe s
def PGs(X:Cx)(ts:List Expr)(t:TGs):Prop :=
 ∀(pins:List (Addr×Obj))(s:Shared)(σ:St)(H:Hp)(vs:List V)(us:List Value)(Q:St->Hp->Prop),Inv X pins σ H s->AR vs us->t vs σ H Q ->
  wpAny (model X.prog X.w) X.A (assignInOrder ((assignEach ts X.env).map (·.2)) us) (λ_ s'=>∃σ' H',Inv X pins σ' H' s'/\Q σ' H') X.xe s
section
variable{X:Cx}{pos:Pos}
def OJ(i:Nat):TG:=λv σ H Q=>Q (σ.set i (some v)) H
theorem CG{i:Nat}{x:Str}(d:X.N.Nodup)(c:X.N[i]?=some x)(e:Loc X.env.scope x)(b:X.fn x=true\/X.env.scope.names.lookup x=some .local:=by first|exact .inl rfl|exact .inr rfl|assumption):PG X (.Name x pos) (OJ i):=by
 intro pins s σ H v u Q I r h;exact wpAny_assign_Name (NL I d c e r (λs' a=>⟨_,H,a,h⟩) b)
def gNil:TGs:=λvs σ H Q=>vs=[]/\Q σ H
def ST(t:TG)(u:TGs):TGs:=λvs σ H Q=>∃v r,vs=v::r/\t v σ H fun σ' H'=>u r σ' H' Q
theorem LL:PGs X [] gNil:=by
 intro pins s σ H vs us Q I r h;obtain⟨e,h⟩:=h;subst e;cases r;exact assignInOrder_nil ⟨σ,H,I,h⟩
theorem Do{e:Expr}{a:List Expr}{t:TG}{u:TGs}(g:PG X e t)(j:PGs X a u)
  (c:(assignEach (e::a) X.env).map (·.2)=assign e X.env::(assignEach a X.env).map (·.2):=by rfl):PGs X (e::a) (ST t u):=by
 intro pins s σ H vs us Q I r h;obtain⟨v,n,d,h⟩:=h;subst d;cases r with
 |cons r f =>
  rw[c];refine assignInOrder_cons (thn (g pins s σ H _ _ _ I r h) λ_ m ⟨b,k,i,l⟩=>?_);exact j pins m b k _ _ Q i f l
def gTup(K:W.Frag)(n:Nat)(t:TGs):TG:=λv σ H Q=>∃a xs,v=.ref a/\SqT K H a xs/\xs.length=n/\t xs σ H Q
theorem Oh{c:List Expr}{k:Nat}{t:TGs}{n:Nat}(m:X.calm=true)(h:PGs X c t)
  (j:(assignEach c X.env).length=n:=by rfl) (d:(assignEach c X.env).findIdx? (·.1)=none:=by rfl):PG X (.Tuple c k pos) (gTup X.K n t):=by
 intro pins s σ H v u Q I r f;obtain⟨a,xs,i,y,q,f⟩:=f;subst i;cases r;obtain⟨l,g,w,z⟩:=I.tuple y;refine assign_Tuple_tuple (I.ok.hd m) w (by simp[j,<-q,g.length]) d λh' x=>?_;have p:Inv X pins σ H {s with heap:=h'}:=I.kept (t':=s.toks) λb o e=>x b o (F7 (C9 e)) e;exact h pins _ σ H xs _ Q p (by simpa using g) f
def tAsg(te:TE)(g:TG):TS:=λD σ H=>te σ H λx H1=>g x σ H1 D.nx
theorem An{i:Nat}{x:Str}{e:Expr}{b:TE}{a:Pos}(g:X.N.Nodup)(f:X.N[i]?=some x)(o:Loc X.env.scope x)(j:PE X e b)(c:swapsWith e (some (.Name x a)) pos.line X.env=pure false:=by rfl)(d:X.fn x=true\/X.env.scope.names.lookup x=some .local:=by first|exact .inl rfl|exact .inr rfl|assumption) :
  PS X (.Assign [.Name x a] e pos) (tAsg b (OJ i)):=by
 intro pins s σ H D I h;refine wpAny_Assign_Name (thn (j pins s σ H _ I h) λv r ⟨y,m,k,l,n⟩=>?_) c;exact NL k g f o l (λq p=>⟨_,m,p,n⟩) d
end
section
variable{X:Cx}{pos:Pos}
def tWhile(c:TT)(tb:TS):TS:=λD σ H=>∃W:Nat->St->Hp->Prop,(∃m,W m σ H)/\∀m σ H,W m σ H ->
 c σ H λb H1=>if b=true then ∃N:St->Hp->Prop,(∀σ' H',N σ' H'->∃m',m'<m/\W m' σ' H')/\tb {D with nx:=N,ct:=N,bk:=D.nx} σ H1 else D.nx σ H1
theorem Jg{c:Expr}{e:List Stmt}{tc:TT}{x:TS}(r:PassesOwn (model X.prog X.w) X.A X.env X.xe)(O:PT X c tc)(Q:PSs X e x):PS X (.While c e [] pos) (tWhile tc x):=by
 intro pins s σ H D I h;obtain⟨W,⟨E,C⟩,i⟩:=h;refine wpAny_While (codeAny_whileLoop (λn s'=>∃σ' t,Inv X pins σ' t s'/\W n σ' t) ?_ E ⟨σ,H,I,C⟩);rintro n P ⟨d,z,M,G⟩;refine A2d r (thn (O pins P d z _ M (i n d z G)) λb K ⟨u,B,j⟩=>?_);cases b with
 |true =>
  obtain⟨N,y,j⟩:=j;rw[X5 rfl];refine A2d r (thn (Q pins K d u _ B j) λf R k=>?_);cases f with
  |next =>
   obtain⟨a,g,l,m⟩:=k;obtain⟨o,p,q⟩:=y a g m;exact⟨o,p,a,g,l,q⟩
  |cont =>
   obtain⟨a,g,l,m⟩:=k;obtain⟨o,p,q⟩:=y a g m;exact⟨o,p,a,g,l,q⟩
  |brk=>exact k
  |ret v=>exact k
 |false =>
  rw[Z8 C7];exact A4b ⟨d,u,B,j⟩
end
structure It where
 go:Nat->Hp->Prop
 yld:Nat->Hp->V->Hp->Prop
 stop:Nat->Hp->Prop
def GR(X:Cx)(pins:List (Addr×Obj))(H:Hp)(b:Addr):Prop :=
 H b=none/\b≠X.env.locals/\b∉X.fs/\(b∈X.ex\/X.s₀.heap.objs.size<=b)/\(∀x c,X.env.cells.lookup x=some c->c≠b)/\∀p∈X.pn++pins,p.1≠b
theorem Inv.fpOk{X:Cx}{pins:List (Addr×Obj)}{σ:St}{H d:Hp}{s:Shared}{b:Addr}(I:Inv X pins σ H s)(a:s.heap.objs.size<=b)(g:d b=none):GR X pins d b:=by
 refine⟨g,U2 (F6 I.lt a),I.nofs a,.inr (D0 I.sz a),λx c e z=>?_,λp f z=>?_⟩
 ·obtain⟨v,q⟩:=I.cell x c e;exact absurd (F6 q.lt (by rw[z];exact a)) (P1 _)
 ·exact absurd (F6 (C9 (I.pin p f).1) (by rw[z];exact a)) (P1 _)
structure RM(P:Program)(w:World)(K:W.Frag)(tg:Expr)(J:It)(fp:List Addr)(it:Addr)(tn:Nat->Heap->Prop):Prop where
 mem:it∈fp
 obj:∀i h,tn i h->∀b∈fp,∃o,h.get? b=some o/\∀v,o.data≠.cell v
 keep:∀i h h',tn i h->(∀b∈fp,∀o,h.get? b=some o->h'.get? b=some o)->tn i h'
 item:∀(X:Cx),X.prog=P->X.w=w->X.K=K->X.calm=true->∀(i:Nat)(pins:List (Addr×Obj))(s:Shared)(σ:St)(H:Hp)(E:Value->Shared->Prop),Inv X pins σ H s->(∀b∈fp,GR X pins H b)->tn i s.heap->J.go i H ->
  wpAny (model P w) X.A (pyNext (.ref it)) (λr s1=>∃u,r=some u /\
   wpAny (model P w) X.A (letOwnedTupleGo tg (.ref it) u) (λ_ s2=>∃x H',Inv X pins σ H' s2/\Bb x u/\J.yld i H x H'/\tn (i+1) s2.heap/\∀b∈fp,H' b=none) E s1) E s
 done:∀(X:Cx),X.prog=P->X.w=w->X.K=K->X.calm=true->∀(i:Nat)(pins:List (Addr×Obj))(s:Shared)(σ:St)(H:Hp)(E:Value->Shared->Prop),Inv X pins σ H s->(∀b∈fp,GR X pins H b)->tn i s.heap->J.stop i H ->
  wpAny (model P w) X.A (pyNext (.ref it)) (λr s1=>r=none/\Inv X pins σ H s1) E s
 self:∀(A:Around)(i:Nat)(s:Shared)(Q:Value->Shared->Prop)(E:Value->Shared->Prop),tn i s.heap->Q (.ref it) s->wpAny (model P w) A (pyIter (.ref it)) Q E s
abbrev TI:=St->Hp->(It->Hp->Prop)->Prop
def PIE(X:Cx)(pins:List (Addr×Obj))(σ:St)(tg:Expr)(R:It->Hp->Prop)(itv:Value)(s2:Shared):Prop :=
 ∃(it:Addr)(fp:List Addr)(tn:Nat->Heap->Prop)(J:It)(H':Hp),itv=.ref it/\Inv X pins σ H' s2/\RM X.prog X.w X.K tg J fp it tn/\tn 0 s2.heap/\(∀b∈fp,GR X pins H' b)/\R J H'
def PI(X:Cx)(tg iter:Expr)(wi:TI):Prop :=
 ∀(pins:List (Addr×Obj))(s:Shared)(σ:St)(H:Hp)(R:It->Hp->Prop),Inv X pins σ H s->wi σ H R ->
  wpAny (model X.prog X.w) X.A (eval iter X.env) (λv s1=>wpAny (model X.prog X.w) X.A (pyIter v) (PIE X pins σ tg R) X.xe s1) X.xe s
theorem Vh{M:Model}{A:Around}{E:Value->Shared->Prop}{s:Shared}{b:Expr}{it:Addr}{u:Value}{o:Obj}{n:String}{vs:Array Value}{Q:Unit->Shared->Prop}(f:s.heap.get? it=some o)(e:o.cls=.type n)(c:o.data=.fields vs)
    (d:["enumerate","zip","dict_itemiterator","dict_reverseitemiterator","odict_iterator","itertools.zip_longest","itertools.pairwise"].contains n=false) (a:Q () s):wpAny M A (letOwnedTupleGo b (.ref it) u) Q E s:=by
  unfold letOwnedTupleGo;cases b<;>first
    |exact X6 a
    | (cases u<;>first
        |exact X6 a
        | (refine Z6 (wpAny_load f ?_)
           rw[e,c];show wpAny M A (if(["enumerate","zip","dict_itemiterator","dict_reverseitemiterator","odict_iterator","itertools.zip_longest","itertools.pairwise"].contains n && vs[0]?==some (rawInt _))=true then _ else _) Q E s;rw[Z8 (by intro h;rw[d,Bool.false_and]at h;cases h)];exact X6 a))
def Itl(K:W.Frag)(a:Addr):It :=
 ⟨λi H=>∃xs x,SqL K H a xs/\xs[i]?=some x,λi H x H'=>H'=H/\∀xs,SqL K H a xs->xs[i]?=some x,λi H=>∃xs,SqL K H a xs/\xs.length<=i⟩
def Itt(K:W.Frag)(a:Addr):It :=
 ⟨λi H=>∃xs x,SqT K H a xs/\xs[i]?=some x,λi H x H'=>H'=H/\∀xs,SqT K H a xs->xs[i]?=some x,λi H=>∃xs,SqT K H a xs/\xs.length<=i⟩
def Itr(lo:Int)(n:Nat):It:=⟨λi _=>i<n,λi H x H'=>H'=H/\x=.int (lo+i),λi _=>n<=i⟩
theorem VN{P:Program}{w:World}{K:W.Frag}{O:Expr}(a it:Addr):RM P w K O (Itl K a) [it] it (λi h=>h.IsListIter it a i) where
 mem:=by simp
 obj:=λi h f b g=>by
  have e:b=it:=by simpa using g
  subst e;obtain⟨o,e,c,d⟩:=f;exact⟨o,e,λv z=>by rw[d]at z;cases z⟩
 keep:=λi h h' f k=>f.at λo e=>k it A6 o e
 item:=by
  intro X C M G N i pins s σ H E I l f q;subst C M G;obtain⟨xs,x,m,B⟩:=q;obtain⟨n,y,p,Y⟩:=I.list m;obtain⟨u,T,Z⟩:=y.get B;obtain⟨A,t,Q,D,f4,r⟩:=l it A6;refine wpAny_pyNext_list_item f p.isList (x:=u) (by simpa using T) λh' j V=>?_;have R:Inv X pins σ H {s with heap:=h'}:=I.turned (t':=s.toks) (λb o g e=>(V.2 b g).trans e) A t D f4 r;obtain⟨o,e,c,d⟩:=id j;exact⟨u,rfl,Vh (s:={s with heap:=h'}) e c d A3 ⟨x,H,R,Z,⟨rfl,λys U=>by rw[I.list_inj U m];exact B⟩,j,λb g=>(l b g).1⟩⟩
 done:=by
  intro X C M G N i pins s σ H E I l f q;subst C M G;obtain⟨xs,m,B⟩:=q;obtain⟨n,y,p,Y⟩:=I.list m;obtain⟨A,t,Q,D,f4,r⟩:=l it A6;have hl:=y.length;exact wpAny_pyNext_list_end (I.ok.hd N) f p.isList (by simp;lia) λh' S=>⟨rfl,I.turned (t':=s.toks) (λb o g e=>S b o g e) A t D f4 r⟩
 self:=λ_ _ _ _ _ f h=>wpAny_pyIter_listiter f h
theorem To{P:Program}{w:World}{K:W.Frag}{O:Expr}(a it:Addr):RM P w K O (Itt K a) [it] it (λi h=>h.IsTupleIter it a i) where
 mem:=by simp
 obj:=λi h f b j=>by
  have e:b=it:=by simpa using j
  subst e;obtain⟨o,e,c,d⟩:=f;exact⟨o,e,λv z=>by rw[d]at z;cases z⟩
 keep:=λi h h' f k=>f.at λo e=>k it A6 o e
 item:=by
  intro X C M G N i pins s σ H E I m f q;subst C M G;obtain⟨xs,x,n,B⟩:=q;obtain⟨g,y,p,Y⟩:=I.tuple n;obtain⟨u,T,Z⟩:=y.get B;obtain⟨A,t,Q,D,f4,r⟩:=m it A6;refine wpAny_pyNext_tuple_item f (show s.heap.IsTuple a g.toArray from p) (x:=u) (by simpa using T) λh' l V=>?_;have R:Inv X pins σ H {s with heap:=h'}:=I.turned (t':=s.toks) (λb o j e=>(V.2 b j).trans e) A t D f4 r;obtain⟨o,e,c,d⟩:=id l;exact⟨u,rfl,Vh (s:={s with heap:=h'}) e c d A3 ⟨x,H,R,Z,⟨rfl,λys U=>by rw[I.tuple_inj U n];exact B⟩,l,λb j=>(m b j).1⟩⟩
 done:=by
  intro X C M G N i pins s σ H E I m f q;subst C M G;obtain⟨xs,n,B⟩:=q;obtain⟨g,y,p,Y⟩:=I.tuple n;obtain⟨A,t,Q,D,f4,r⟩:=m it A6;have hl:=y.length;exact wpAny_pyNext_tuple_end (I.ok.hd N) f (show s.heap.IsTuple a g.toArray from p) (by simp;lia) λh' S=>⟨rfl,I.turned (t':=s.toks) (λb o j e=>S b o j e) A t D f4 r⟩
 self:=λ_ _ _ _ _ f h=>wpAny_pyIter_tupleiter f h
theorem Tp{P:Program}{w:World}{K:W.Frag}{A:Expr}(it:Addr)(lo:Int)(n:Nat):RM P w K A (Itr lo n) [it] it (λi h=>IsRangeIter h it (lo+(i:Nat)*1) ((n:Int)-(i:Nat)) 1) where
 mem:=by simp
 obj:=λi h a b c=>by
  have e:b=it:=by simpa using c
  subst e;exact⟨_,a,λv z=>by
   have M:Data.fields _=Data.cell v:=z;cases M⟩
 keep:=λi h h' a k=>k it A6 _ a
 item:=by
  intro X p x r u i pins s σ H E I f a g;subst p x r;obtain⟨m,l,C,q,f4,j⟩:=f it A6;have W:=Walks.range (prog:=X.prog) (w:=X.w) (I.ok.hd u) it lo 1 n;refine W.item i s _ _ g a λv h' tk B d y=>?_;obtain⟨t,rfl⟩:=B;have D:Inv X pins σ H {s with heap:=h',toks:=tk}:=I.turned (λb o c e=>y b o (by simpa using c) e) m l q f4 j;refine⟨_,rfl,Vh (s:={s with heap:=h',toks:=tk}) (n:="range_iterator") d rfl rfl A3 ⟨.int (lo+i),H,D,⟨t,?_⟩,⟨rfl,rfl⟩,d,λb c=>(f b c).1⟩⟩;rw[Int.mul_one]
 done:=by
  intro X p x r u i pins s σ H E I f a g;subst p x r;obtain⟨m,l,C,q,f4,j⟩:=f it A6;exact wpAny_pyNext_range_end (I.ok.hd u) a (by have:n<=i:=g;lia) λh' G=>⟨rfl,I.turned (t':=s.toks) (λb o c e=>G b o c e) m l q f4 j⟩
 self:=λ_ _ _ _ _ a h=>wpAny_pyIter_rangeiter a h
section
variable{X:Cx}{tg:Expr}
def iList(K:W.Frag)(tl:TE):TI:=fun σ H R=>tl σ H λx H1=>∃a,x=.ref a/\(∃xs,SqL K H1 a xs)/\R (Itl K a) H1
def iTup(K:W.Frag)(tl:TE):TI:=fun σ H R=>tl σ H λx H1=>∃a,x=.ref a/\(∃xs,SqT K H1 a xs)/\R (Itt K a) H1
theorem DT{l:Expr}{f:TE}(j:PE X l f):PI X tg l (iList X.K f):=by
 intro pins s σ H R I h;refine thn (j pins s σ H _ I h) λv d ⟨x,m,c,k,n⟩=>?_;obtain⟨a,e,⟨xs,r⟩,q⟩:=n;subst e;cases k;obtain⟨i,t,p,u⟩:=c.list r;refine A3f p.isList ?_;refine⟨d.heap.objs.size,[d.heap.objs.size],_,_,m,rfl,c.kept (t':=d.toks) λb o e=>C2 _ e,VN a _,⟨_,D5 _ rfl,rfl,rfl⟩,λb g=>?_,q⟩;have e:b=d.heap.objs.size:=by simpa using g
 subst e;exact c.fpOk (C5 _) (c.hok.fresh (C5 _))
theorem TB{l:Expr}{g:TE}(j:PE X l g):PI X tg l (iTup X.K g):=by
 intro pins s σ H R I h;refine thn (j pins s σ H _ I h) λv c ⟨x,m,d,k,n⟩=>?_;obtain⟨a,e,⟨xs,r⟩,q⟩:=n;subst e;cases k;obtain⟨f,t,p,u⟩:=d.tuple r;refine wpAny_pyIter_tuple (show c.heap.IsTuple a f.toArray from p) ?_;refine⟨c.heap.objs.size,[c.heap.objs.size],_,_,m,rfl,d.kept (t':=c.toks) λb o e=>C2 _ e,To a _,⟨_,D5 _ rfl,rfl,rfl⟩,λb i=>?_,q⟩;have e:b=c.heap.objs.size:=by simpa using i
 subst e;exact d.fpOk (C5 _) (d.hok.fresh (C5 _))
theorem Sk{pins:List (Addr×Obj)}{σ:St}{H:Hp}{s:Shared}{R:It->Hp->Prop}{E:Value->Shared->Prop}{lo a:Int}{t u v:Tok}{tk:Nat}(I:Inv X pins σ H s)(i:-(2^62)<=lo)(j:lo<2^62)(g:-(2^62)<=a)(k:a<2^62)
  (q:R (Itr lo (a-lo).toNat) H):wpAny (model X.prog X.w) X.A (pyIter (.ref s.heap.objs.size)) (PIE X pins σ tg R) E {s with heap:=s.heap.push {cls:=.type "range",data:=.fields #[.int lo t,.int a u,.int 1 v]},toks:=tk}:=by
 refine wpAny_pyIter_range (IsRange.new ..) (small_one i j g k) ?_;have c:Inv X pins σ H {s with heap:=s.heap.push {cls:=.type "range",data:=.fields #[.int lo t,.int a u,.int 1 v]},toks:=tk}:=I.kept λb o e=>C2 _ e;refine⟨(s.heap.push {cls:=.type "range",data:=.fields #[.int lo t,.int a u,.int 1 v]}).objs.size,[(s.heap.push {cls:=.type "range",data:=.fields #[.int lo t,.int a u,.int 1 v]}).objs.size],_,_,H,rfl,
  c.kept (t':=tk) λb o e=>C2 _ e,Tp _ lo (a-lo).toNat,?_,λb f=>?_,q⟩
 ·have d:lo+((0:Nat):Int)*1=lo:=by simp
  have h:(((a-lo).toNat:Nat):Int)-((0:Nat):Int)=Builtin.Range.rangeSize lo a 1:=by rw[rangeSize_one];split<;>lia
  show IsRangeIter _ _ (lo+((0:Nat):Int)*1) ((((a-lo).toNat:Nat):Int)-((0:Nat):Int)) 1;rw[d,h];exact D5 _ rfl
 ·have e:b=(s.heap.push {cls:=.type "range",data:=.fields #[.int lo t,.int a u,.int 1 v]}).objs.size:=by simpa using f
  subst e;exact c.fpOk (C5 _) (c.hok.fresh (C5 _))
def iRng1(ta:TA):TI:=fun σ H R=>ta σ H λvs H1=>∃j:Int,vs=[.int j]/\-(2^62)<=j/\j<2^62/\R (Itr 0 j.toNat) H1
def iRng2(ta:TA):TI:=fun σ H R=>ta σ H λvs H1=>∃i j:Int,vs=[.int i,.int j]/\(-(2^62)<=i/\i<2^62/\-(2^62)<=j/\j<2^62)/\R (Itr i (j-i).toNat) H1
theorem JH{a:Expr}{d:TA}{p b:Pos}(o:Gl X "range")(g:X.mg "range" = none)(i:PA X [a] d)(f:starEach [a] X.env=[(false,eval a X.env)]:=by rfl):PI X tg (.Call (.Name "range" p) [a] [] b) (iRng1 d):=by
 intro pins s σ H R I h;refine Call_ (Lu I o g boot_range (A1d (thn (i b pins s σ H _ I h) λus v ⟨vs,u,m,n,c⟩=>?_) f rfl));obtain⟨j,e,c,l,q⟩:=c;subst e;cases n with
 |cons r k =>
  cases k;obtain⟨t,rfl⟩:=r;exact call_range_1 (Sk m A0 A0 c l (by simpa using q))
theorem VZ{a b:Expr}{k:TA}{p d:Pos}(z:Gl X "range")(o:X.mg "range" = none)(n:PA X [a,b] k)(l:starEach [a,b] X.env=[(false,eval a X.env),(false,eval b X.env)]:=by rfl)(c:starEach [b] X.env=[(false,eval b X.env)]:=by rfl) :
  PI X tg (.Call (.Name "range" p) [a,b] [] d) (iRng2 k):=by
 intro pins s σ H R I h;refine Call_ (Lu I z o boot_range (A1d (thn (n d pins s σ H _ I h) λus B ⟨vs,A,w,x,g⟩=>?_) (by rw[l,c]) (by rw[c];rfl)));obtain⟨i,j,e,⟨g,u,v,m⟩,q⟩:=g;subst e;cases x with
 |cons r f =>
  cases f with
  |cons y f =>
   cases f;obtain⟨t,rfl⟩:=r;obtain⟨t',rfl⟩:=y;exact call_range_2 (Sk w g u v m q)
def tFor(wi:TI)(g:TG)(tb:TS):TS:=λD σ H=>wi σ H λJ H1=>∃W:Nat->Nat->St->Hp->Prop,(∃m,W 0 m σ H1)/\∀i m σ H,W i m σ H ->
 (J.stop i H/\D.nx σ H)\/(J.go i H/\∃N:St->Hp->Prop,(∀σ' H',N σ' H'->∃m',m'<m/\W (i+1) m' σ' H')/\∀x H',J.yld i H x H'->g x σ H' fun σ2 H2=>tb {D with nx:=N,ct:=N,bk:=D.nx} σ2 H2)
def Mr(fp:List Addr)(h:Heap):List (Addr×Obj):=fp.filterMap λb=>(h.get? b).map λo=>(b,o)
theorem II{fp:List Addr}{h:Heap}{b:Addr}{o:Obj}(a:b∈fp)(e:h.get? b=some o):(b,o)∈Mr fp h:=List.mem_filterMap.mpr ⟨b,a,by rw[e];rfl⟩
theorem PL{fp:List Addr}{h:Heap}{p:Addr×Obj}(d:p∈Mr fp h):p.1∈fp/\h.get? p.1=some p.2:=by
 obtain⟨b,c,e⟩:=List.mem_filterMap.mp d;cases q:h.get? b with
 |none=>rw[q]at e;cases e
 |some o =>
  rw[q]at e;have a:(b,o)=p:=K0 e;subst a;exact⟨c,q⟩
theorem Inv.pinned{pins:List (Addr×Obj)}{σ:St}{H:Hp}{s:Shared}{fp:List Addr}(I:Inv X pins σ H s)(f:∀b∈fp,GR X pins H b)(i:∀b∈fp,∃o,s.heap.get? b=some o/\∀v,o.data≠.cell v):Inv X (pins++Mr fp s.heap) σ H s :=
 I.pins_of λp j=>(D3.mp j).elim (λz=>I.pin p (L6 _ z)) λz=>by
  obtain⟨a,e⟩:=PL z;obtain⟨h,k,g,_⟩:=f p.1 a;obtain⟨o,c,d⟩:=i p.1 a;rw[e]at c;cases c;exact⟨e,h,k,g,d⟩
theorem Inv.unpinned{pins pl:List (Addr×Obj)}{σ:St}{H:Hp}{s:Shared}(I:Inv X (pins++pl) σ H s):Inv X pins σ H s:=I.pins_of λp a=>I.pin p (L6 _ (Q5 _ a))
theorem Ir{p:Expr}{z:List Stmt}{wi:TI}{g:TG}{tb:TS}{U:Pos}(E:PassesOwn (model X.prog X.w) X.A X.env X.xe)(hc:X.calm=true)(hi:PI X tg p wi)(hg:PG X tg g)(q:PSs X z tb)
  (hs:∀x,foldedSetIterable p X.env x=pure x:=by intro _;rfl):PS X (.For tg p z [] U) (tFor wi g tb):=by
 intro pins s σ H D I h;refine wpAny_For (thn (hi pins s σ H _ I h) λv s1 h1=>thn h1 λaa s2 h2=>?_) hs;obtain⟨it,fp,tn,J,H2,e,I2,T,Z,f2,W,⟨m0,w0⟩,P⟩:=h2;subst e;have t:∀{y:Hp},(∀b∈fp,y b=none)->∀b∈fp,GR X pins y b:=λhn b q=>⟨hn b q,(f2 b q).2⟩
 refine codeAny_forLoop_any (λn s'=>∃i σ' y,Inv X pins σ' y s'/\tn i s'.heap/\(∀b∈fp,y b=none)/\W i n σ' y) ?_ m0 ⟨0,σ,H2,I2,Z,λb q=>(f2 b q).1,w0⟩;rintro n s3 ⟨i,j,Q,I3,M,O,w3⟩;rcases P i n j Q w3 with ⟨G,qn⟩|⟨go,N,hN,step⟩
 ·refine A2d E (thn (T.done X rfl rfl rfl hc i pins s3 j Q X.xe I3 (t O) M G) λr s4 ⟨Y,I4⟩=>?_);subst Y;exact A4b ⟨j,Q,I4,qn⟩
 ·refine A2d E (thn (T.item X rfl rfl rfl hc i pins s3 j Q X.xe I3 (t O) M go) λr s4 ⟨u,Y,h4⟩=>?_);subst Y;refine A2d E (thn h4 λ_ s5 ⟨x,H5,I5,r5,y5,C,R⟩=>?_);have S:=I5.pinned (t R) (T.obj _ _ C);refine A2d E (thn (hg _ s5 j H5 x u _ S r5 (step x H5 y5)) λ_ s6 ⟨V,H6,I6,q6⟩=>?_);refine A2d E (thn (q _ s6 V H6 _ I6 q6) λf s7 B=>?_);have l:∀{a:St}{c:Hp},Inv X (pins++Mr fp s5.heap) a c s7->N a c->∃m,m<n/\∃i σ' y,Inv X pins σ' y s7/\tn i s7.heap/\(∀b∈fp,y b=none)/\W i m σ' y:=λ{a c} k K=>by
   obtain⟨m',hm,w7⟩:=hN a c K;refine⟨m',hm,i+1,a,c,k.unpinned,T.keep _ _ _ C λb q o e=>(k.pin (b,o) (L6 _ (L6 _ (II q e)))).1,λb q=>?_,w7⟩;obtain⟨o,e,d⟩:=T.obj _ _ C b q;exact(k.pin (b,o) (L6 _ (L6 _ (II q e)))).2.1
  cases f with
  |next=>obtain⟨a,c,k,K⟩:=B;exact l k K
  |cont=>obtain⟨a,c,k,K⟩:=B;exact l k K
  |brk=>obtain⟨a,c,k,B⟩:=B;exact⟨a,c,k.unpinned,B⟩
  |ret v=>obtain⟨x7,a,c,k,r7,B⟩:=B;exact⟨x7,a,c,k.unpinned,r7,B⟩
end
theorem JO{lo:Int}{n:Nat}{g:TG}{j:TS}{D:MH}{σ:St}{H:Hp}(a:Nat->St->Hp->Prop)(k:a 0 σ H)
  (l:∀i σ H,i<n->a i σ H->g (.int (lo+i)) σ H fun d f=>j {D with nx:=a (i+1),ct:=a (i+1),bk:=D.nx} d f) (o:∀σ H,a n σ H->D.nx σ H) :
  ∃W:Nat->Nat->St->Hp->Prop,(∃m,W 0 m σ H)/\∀i m σ H,W i m σ H ->
   ((Itr lo n).stop i H/\D.nx σ H)\/((Itr lo n).go i H/\∃N:St->Hp->Prop,(∀σ' b,N σ' b->∃h,h<m/\W (i+1) h σ' b)/\∀x b,(Itr lo n).yld i H x b->g x σ b fun d f=>j {D with nx:=N,ct:=N,bk:=D.nx} d f):=by
 refine⟨λi m σ H=>m=n-i/\i<=n/\a i σ H,⟨n,by simp,M6 _,k⟩,?_⟩;rintro i m σ H ⟨rfl,r,p⟩;by_cases c:i<n
 ·refine .inr ⟨c,a (i+1),fun σ' b q=>⟨n-(i+1),by lia,rfl,c,q⟩,λx b y=>?_⟩;obtain⟨e,y⟩:=y;subst e y;exact l i σ _ c p
 ·have e:i=n:=by lia
  subst e;exact .inl ⟨C5 _,o σ H p⟩
abbrev R2:=V->V->Hp->VK->Prop
def OpR(X:Cx)(f:Value->Value->Sem Value)(r:R2):Prop :=
 ∀(pins:List (Addr×Obj))(s:Shared)(σ:St)(H:Hp)(x y:V)(v u:Value)(Q:VK),Inv X pins σ H s->Bb x v->Bb y u->r x y H Q ->
  wpAny (model X.prog X.w) X.A (f v u) (EP X pins σ Q) X.xe s
def UnR(X:Cx)(f:Value->Sem Value)(r:V->Hp->VK->Prop):Prop :=
 ∀(pins:List (Addr×Obj))(s:Shared)(σ:St)(H:Hp)(x:V)(v:Value)(Q:VK),Inv X pins σ H s->Bb x v->r x H Q ->
  wpAny (model X.prog X.w) X.A (f v) (EP X pins σ Q) X.xe s
def GT(X:Cx)(f:Value)(r:List V->Hp->VK->Prop):Prop :=
 ∀(pins:List (Addr×Obj))(s:Shared)(σ:St)(H:Hp)(xs:List V)(us:List Value)(Q:VK),Inv X pins σ H s->AR xs us->r xs H Q ->
  wpAny (model X.prog X.w) X.A (call f us) (EP X pins σ Q) X.xe s
def tOp(r:R2)(ta tb:TE):TE:=fun σ H Q=>ta σ H λx H1=>tb σ H1 λy H2=>r x y H2 Q
def tUn(r:V->Hp->VK->Prop)(ta:TE):TE:=fun σ H Q=>ta σ H λx H1=>r x H1 Q
def rI(C:Int->Int->Prop)(g:Int->Int->V):R2:=λx y H Q=>∃i j,x=.int i/\y=.int j/\C i j/\Q (g i j) H
def rI0(g:Int->Int->V):R2:=λx y H Q=>∃i j,x=.int i/\y=.int j/\Q (g i j) H
def rU(g:Int->V):V->Hp->VK->Prop:=λx H Q=>∃i,x=.int i/\Q (g i) H
section
variable{X:Cx}{a b c:Expr}{ta tb tc:TE}{pos:Pos}
theorem binT(k:PE X a ta)(l:PE X b tb){pins:List (Addr×Obj)}{s:Shared}{σ:St}{H:Hp}{R:V->V->Hp->Prop}(I:Inv X pins σ H s)
  (h:ta σ H λx j=>tb σ j λy d=>R x y d) {Q:Value->Shared->Prop} {f:Value->Value->Sem Value}
  (m:∀v u i x y d,Inv X pins σ d i->Bb x v->Bb y u->R x y d->wpAny (model X.prog X.w) X.A (f v u) Q X.xe i) :
  wpAny (model X.prog X.w) X.A (eval a X.env) (λv e=>wpAny (model X.prog X.w) X.A (eval b X.env) (λu g=>wpAny (model X.prog X.w) X.A (f v u) Q X.xe g) X.xe e) X.xe s:=by
 refine thn (k pins s σ H _ I h) λv z ⟨x,j,o,p,q⟩=>?_;refine thn (l pins z σ j _ o q) λu i ⟨y,d,r,t,n⟩=>?_;exact m v u i x y d r p t n
theorem Ay{op:Operator}{r:R2}(k:OpR X (binaryOp op) r)(d:PE X a ta)(e:PE X b tb):PE X (.BinOp a op b pos) (tOp r ta tb):=by
 intro pins s σ H Q I h;exact wpAny_BinOp (binT d e I h λv u g x y i j l f q=>k pins g σ i x y v u Q j l f q)
theorem IQ{op:UnaryOp}{r:V->Hp->VK->Prop}(j:UnR X (unaryOp op) r)(d:PE X a ta):PE X (.UnaryOp op a pos) (tUn r ta):=by
 intro pins s σ H Q I h;exact UnaryOp_ (thn (d pins s σ H _ I h) λv k ⟨x,g,e,f,i⟩=>j pins k σ g x v Q e f i)
theorem opI{f:Value->Value->Sem Value}{C:Int->Int->Prop}{g:Int->Int->Int}
  (d:∀(i j:Int)(t u:Tok)(s:Shared)(Q:Value->Shared->Prop)(E:Value->Shared->Prop),C i j->Q (.int (g i j) s.toks) {s with toks:=s.toks+1}->wpAny (model X.prog X.w) X.A (f (.int i t) (.int j u)) Q E s) :
  OpR X f (rI C λi j=>.int (g i j)):=by
 intro pins s σ H x y v u Q I e k h;obtain⟨i,j,rfl,rfl,l,q⟩:=h;obtain⟨t,rfl⟩:=e;obtain⟨t',rfl⟩:=k;exact d i j t t' s _ _ l ⟨.int (g i j),H,I.tok _,⟨_,rfl⟩,q⟩
theorem opI0{f:Value->Value->Sem Value}{g:Int->Int->Int}
  (d:∀(i j:Int)(t u:Tok)(s:Shared)(Q:Value->Shared->Prop)(E:Value->Shared->Prop),Q (.int (g i j) s.toks) {s with toks:=s.toks+1}->wpAny (model X.prog X.w) X.A (f (.int i t) (.int j u)) Q E s) :
  OpR X f (rI0 λi j=>.int (g i j)):=by
 intro pins s σ H x y v u Q I k e h;obtain⟨i,j,rfl,rfl,q⟩:=h;obtain⟨t,rfl⟩:=k;obtain⟨t',rfl⟩:=e;exact d i j t t' s _ _ ⟨.int (g i j),H,I.tok _,⟨_,rfl⟩,q⟩
theorem opB0{f:Value->Value->Sem Value}{g:Int->Int->Bool}
  (d:∀(i j:Int)(t u:Tok)(s:Shared)(Q:Value->Shared->Prop)(E:Value->Shared->Prop),Q (.bool (g i j)) s->wpAny (model X.prog X.w) X.A (f (.int i t) (.int j u)) Q E s) :
  OpR X f (rI0 λi j=>.bl (g i j)):=by
 intro pins s σ H x y v u Q I k e h;obtain⟨i,j,rfl,rfl,q⟩:=h;obtain⟨t,rfl⟩:=k;obtain⟨t',rfl⟩:=e;exact d i j t t' s _ _ ⟨.bl (g i j),H,I,rfl,q⟩
def CDiv(i j:Int):Prop:=0<j/\j<1073741824
def CPow(i j:Int):Prop:=0<=j/\j<=1000000/\i.natAbs<2^64
def CMul(i j:Int):Prop:=(-(2^64)<i/\i<2^64)\/(-(2^64)<j/\j<2^64)
theorem CMul.ok{i j:Int}(h:CMul i j):IntMulOk i j:=by
 rcases h with ⟨d,e⟩|⟨d,e⟩
 ·exact .of_left (intBits_le_64 d e)
 ·exact .of_right (intBits_le_64 d e)
theorem AQ:OpR X (binaryOp .Add) (rI0 λi j=>.int (i+j)):=opI0 λ_ _ _ _ _ _ _ q=>add_int q
theorem Bg:OpR X (binaryOp .Sub) (rI0 λi j=>.int (i-j)):=opI0 λ_ _ _ _ _ _ _ q=>sub_int q
theorem CV:OpR X (binaryOp .Mult) (rI CMul λi j=>.int (i*j)):=opI λ_ _ _ _ _ _ _ d q=>mul_int q d.ok
theorem Du:OpR X (binaryOp .FloorDiv) (rI CDiv λi j=>.int (i/j)):=opI λi j _ _ _ _ _ d q=>by
 have e:(0:Int)<j:=d.1;have f:j<1073741824:=d.2;exact floordiv_int A0 (by rw[Int.fdiv_eq_ediv_of_nonneg i A0];exact q) (.inl (PyProof.noPylong_small A0))
theorem BG:OpR X (binaryOp .Mod) (rI (λ_ j=>0<j) λi j=>.int (i%j)):=opI λi j _ _ _ _ _ d q=>by
 have e:(0:Int)<j:=d;exact mod_int' A0 (by rw[Int.fmod_eq_emod_of_nonneg i A0];exact q)
theorem op_pow:OpR X (binaryOp .Pow) (rI CPow λi j=>.int (i^j.toNat)):=opI λ_ _ _ _ _ _ _ d q=>pow_int_small d.1 d.2.1 d.2.2 q
theorem CU:OpR X (binaryOp .LShift) (rI CPow λi j=>.int (i*2^j.toNat)):=opI λ_ _ _ _ _ _ _ d q=>lshift_int_small d.1 d.2.1 d.2.2 q
theorem unI{f:Value->Sem Value}{g:Int->Int}
  (d:∀(i:Int)(t:Tok)(s:Shared)(Q:Value->Shared->Prop)(E:Value->Shared->Prop),Q (.int (g i) s.toks) {s with toks:=s.toks+1}->wpAny (model X.prog X.w) X.A (f (.int i t)) Q E s) :
  UnR X f (rU λi=>.int (g i)):=by
 intro pins s σ H x v Q I e h;obtain⟨i,rfl,q⟩:=h;obtain⟨t,rfl⟩:=e;exact d i t s _ _ ⟨.int (g i),H,I.tok _,⟨_,rfl⟩,q⟩
theorem EE:UnR X (unaryOp .USub) (rU λi=>.int (-i)):=unI λ_ _ _ _ _ q=>neg_int q
end
def scal:V->V->Bool
 |.non,.non=>true|.non,.int _=>true|.int _,.non=>true|.non,.bl _=>true|.bl _,.non=>true|.non,.str _=>true|.str _,.non=>true
 |.int _,.int _=>true|.bl _,.bl _=>true|.str _,.str _=>true|.byt _,.byt _=>true
 |.int _,.str _=>true|.str _,.int _=>true|.bl _,.str _=>true|.str _,.bl _=>true
 |_,_=>false
def rEq:R2:=λx y H Q=>scal x y=true/\Q (.bl (decide (x=y))) H
def rNe:R2:=λx y H Q=>scal x y=true/\Q (.bl (!decide (x=y))) H
theorem NF{i j:Int}:decide (V.int i=V.int j)=(i==j):=by
 rw[R1];simp
theorem dec_bl{i j:Bool}:decide (V.bl i=V.bl j)=(i==j):=by
 rw[R1];simp
theorem Vm{i j:Str}:decide (V.str i=V.str j)=(i==j):=by
 rw[R1];simp
theorem Vn{i j:Array UInt8}:decide (V.byt i=V.byt j)=(i.toList==j.toList):=by
 rw[R1];cases i;cases j;simp
section
variable{X:Cx}{a b c:Expr}{ta tb tc:TE}{pos:Pos}
theorem AZ{pins:List (Addr×Obj)}{σ:St}{H:Hp}{s:Shared}{Q:VK}{k d:Bool}(I:Inv X pins σ H s)(q:Q (.bl k) H)(e:k=d):EP X pins σ Q (.bool d) s:=by
 subst e;exact⟨.bl k,H,I,rfl,q⟩
theorem Cy:OpR X (compareOp .Eq) rEq:=by
 intro pins s σ H x y v u Q I f d h;obtain⟨e,q⟩:=h;cases x with
 |non =>
  cases f;cases y with
  |non=>cases d;exact PySem.EqNone.eq_none_none (AZ I q A6)
  |bl j=>cases d;exact PySem.EqNone.eq_none_bool (AZ I q A6)
  |int j=>obtain⟨t',rfl⟩:=d;exact PySem.EqNone.eq_none_int (AZ I q A6)
  |str j=>obtain⟨t',rfl⟩:=d;exact PySem.EqNone.eq_none_str (AZ I q A6)
  |_=>exact absurd (show false=true from e) C7
 |bl i =>
  cases f;cases y with
  |non=>cases d;exact PySem.EqNone.eq_bool_none (AZ I q A6)
  |bl j=>cases d;exact eq_bool (AZ I q dec_bl)
  |str j=>obtain⟨t',rfl⟩:=d;exact PySem.EqMixed.eq_bool_str (AZ I q A6)
  |_=>exact absurd (show false=true from e) C7
 |int i =>
  obtain⟨t,rfl⟩:=f;cases y with
  |non=>cases d;exact PySem.EqNone.eq_int_none (AZ I q A6)
  |int j=>obtain⟨t',rfl⟩:=d;exact eq_int (AZ I q NF)
  |str j=>obtain⟨t',rfl⟩:=d;exact PySem.EqMixed.eq_int_str (AZ I q A6)
  |_=>exact absurd (show false=true from e) C7
 |str i =>
  obtain⟨t,rfl⟩:=f;cases y with
  |non=>cases d;exact PySem.EqNone.eq_str_none (AZ I q A6)
  |bl j=>cases d;exact PySem.EqMixed.eq_str_bool (AZ I q A6)
  |int j=>obtain⟨t',rfl⟩:=d;exact PySem.EqMixed.eq_str_int (AZ I q A6)
  |str j=>obtain⟨t',rfl⟩:=d;exact eq_str (AZ I q Vm)
  |_=>exact absurd (show false=true from e) C7
 |byt i =>
  obtain⟨t,rfl⟩:=f;cases y with
  |byt j=>obtain⟨t',rfl⟩:=d;exact W.eq_bytes (AZ I q Vn)
  |_=>exact absurd (show false=true from e) C7
 |_=>cases y<;>exact absurd (show false=true from e) C7
theorem MN:OpR X (compareOp .NotEq) rNe:=by
 intro pins s σ H x y v u Q I f d h;obtain⟨e,q⟩:=h;cases x with
 |non =>
  cases f;cases y with
  |non=>cases d;exact PySem.EqNone.ne_none_none (AZ I q A6)
  |bl j=>cases d;exact PySem.EqNone.ne_none_bool (AZ I q A6)
  |int j=>obtain⟨t',rfl⟩:=d;exact PySem.EqNone.ne_none_int (AZ I q A6)
  |str j=>obtain⟨t',rfl⟩:=d;exact PySem.EqNone.ne_none_str (AZ I q A6)
  |_=>exact absurd (show false=true from e) C7
 |bl i =>
  cases f;cases y with
  |non=>cases d;exact PySem.EqNone.ne_bool_none (AZ I q A6)
  |bl j=>cases d;exact ne_bool (AZ I q (K3 not dec_bl))
  |str j=>obtain⟨t',rfl⟩:=d;exact PySem.EqMixed.ne_bool_str (AZ I q A6)
  |_=>exact absurd (show false=true from e) C7
 |int i =>
  obtain⟨t,rfl⟩:=f;cases y with
  |non=>cases d;exact PySem.EqNone.ne_int_none (AZ I q A6)
  |int j=>obtain⟨t',rfl⟩:=d;exact ne_int (AZ I q (K3 not NF))
  |str j=>obtain⟨t',rfl⟩:=d;exact PySem.EqMixed.ne_int_str (AZ I q A6)
  |_=>exact absurd (show false=true from e) C7
 |str i =>
  obtain⟨t,rfl⟩:=f;cases y with
  |non=>cases d;exact PySem.EqNone.ne_str_none (AZ I q A6)
  |bl j=>cases d;exact PySem.EqMixed.ne_str_bool (AZ I q A6)
  |int j=>obtain⟨t',rfl⟩:=d;exact PySem.EqMixed.ne_str_int (AZ I q A6)
  |str j=>obtain⟨t',rfl⟩:=d;exact ne_str (AZ I q (K3 not Vm))
  |_=>exact absurd (show false=true from e) C7
 |byt i =>
  obtain⟨t,rfl⟩:=f;cases y with
  |byt j=>obtain⟨t',rfl⟩:=d;exact W.ne_bytes (AZ I q (K3 not Vn))
  |_=>exact absurd (show false=true from e) C7
 |_=>cases y<;>exact absurd (show false=true from e) C7
theorem EQ:OpR X (compareOp .Lt) (rI0 λi j=>.bl (decide (i<j))):=opB0 λ_ _ _ _ _ _ _ q=>lt_int q
theorem Jo:OpR X (compareOp .LtE) (rI0 λi j=>.bl (decide (i<=j))):=opB0 λ_ _ _ _ _ _ _ q=>le_int q
theorem MO:OpR X (compareOp .Gt) (rI0 λi j=>.bl (decide (j<i))):=opB0 λ_ _ _ _ _ _ _ q=>gt_int q
theorem op_ge:OpR X (compareOp .GtE) (rI0 λi j=>.bl (decide (j<=i))):=opB0 λ_ _ _ _ _ _ _ q=>ge_int q
theorem Wc:OpR X (compareOp .In) (λx y H Q=>∃i j,x=.str i/\y=.str j/\Q (.bl (!(Builtin.Str.occurrences j i 0 j.length 1).isEmpty)) H):=by
 intro pins s σ H x y v u Q I e d h;obtain⟨i,j,rfl,rfl,q⟩:=h;obtain⟨t,rfl⟩:=e;obtain⟨t',rfl⟩:=d;exact in_str (AZ I q rfl)
theorem Jp:OpR X (compareOp .Is) (λx y H Q=>y=.non/\Q (.bl (decide (x=.non))) H):=by
 intro pins s σ H x y v u Q I d e h;obtain⟨rfl,q⟩:=h;cases e;refine is_none_gen (AZ I q ?_);cases x<;>first
  | (cases d;rfl)
  | (obtain⟨t,rfl⟩:=d;rfl)
theorem QS:OpR X (compareOp .IsNot) (λx y H Q=>y=.non/\Q (.bl (!decide (x=.non))) H):=by
 intro pins s σ H x y v u Q I d e h;obtain⟨rfl,q⟩:=h;cases e;refine isnot_none_gen (AZ I q ?_);cases x<;>first
  | (cases d;rfl)
  | (obtain⟨t,rfl⟩:=d;rfl)
theorem LO:OpR X (compareOp .NotIn) (λx y H Q=>∃i j,x=.str i/\y=.str j/\Q (.bl (!(!(Builtin.Str.occurrences j i 0 j.length 1).isEmpty))) H):=by
 intro pins s σ H x y v u Q I e d h;obtain⟨i,j,rfl,rfl,q⟩:=h;obtain⟨t,rfl⟩:=e;obtain⟨t',rfl⟩:=d;exact notIn_str (AZ I q rfl)
theorem AD(b:Expr){op:CmpOp}(h:op≠.In:=by decide)(e:op≠.NotIn:=by decide):behindInMarks op b=false:=by
 have d:(op==CmpOp.In)=false:=by cases op<;>first|rfl|exact absurd rfl h
 have f:(op==CmpOp.NotIn)=false:=by cases op<;>first|rfl|exact absurd rfl e
 cases b<;>simp[behindInMarks,d,f]
theorem CH{op:CmpOp}{r:R2}(l:OpR X (compareOp op) r)(e:PE X a ta)(f:PE X b tb)(d:behindInMarks op b=false):PE X (.Compare a [op] [b] pos) (tOp r ta tb):=by
 intro pins s σ H Q I h;exact wpAny_Compare1 (binT e f I h λv u i x y j k m g q=>l pins i σ j x y v u Q k m g q) d
def Uy(t:TE):TT:=fun σ H Q=>t σ H λx H'=>∃k,x=.bl k/\Q k H'
theorem Aw{op:CmpOp}{r:R2}(E:OpR X (compareOp op) r)(m:PE X a ta)(A:PE X b tb)(t:behindInMarks op b=false):PT X (.Compare a [op] [b] pos) (Uy (tOp r ta tb)):=by
 intro pins s σ H Q I h;refine wpAny_isTrue_Compare1 (thn (m pins s σ H _ I h) λv q ⟨x,B,p,l,C⟩=>thn (A pins q σ B _ p C) λu n ⟨y,o,D,f,i⟩ =>
  thn (E pins n σ o x y v u _ D l f i) λc G ⟨z,w,g,d,k,e,j⟩=>?_) t
 subst e;cases d;exact A0b ⟨w,g,j⟩
def Yh(r r':R2)(ta tb tc:TE):TE:=fun σ H Q=>ta σ H λx H1=>tb σ H1 λy H2=>r x y H2 λz H3=>∃k,z=.bl k /\
 (if k=true then tc σ H3 λw' H4=>r' y w' H4 Q else Q (.bl false) H3)
theorem YN{op f:CmpOp}{r m:R2}(Y:OpR X (compareOp op) r)(g:OpR X (compareOp f) m)(D:PE X a ta)(R:PE X b tb)(N:PE X c tc)
  (P:lastMarks [op,f] [b,c]=false:=by with_unfolding_all rfl):PE X (.Compare a [op,f] [b,c] pos) (Yh r m ta tb tc):=by
 intro pins s σ H Q I h;refine Compare_chain (thn (D pins s σ H _ I h) λv O ⟨x,T,M,B,U⟩=>chain_link (thn (R pins O σ T _ M U) λu G ⟨y,K,V,i,A⟩ =>
  thn (Y pins G σ K x y v u _ V B i A) λd S ⟨z,n,j,p,k,e,l⟩=>?_)) P
 subst e;cases p;refine A0b ?_;cases k with
 |false=>exact ite_ff ⟨.bl false,n,j,rfl,l⟩
 |true=>exact ite_tt (chain_last (thn (N pins S σ n _ j l) λo t ⟨Z,q,w,E,C⟩=>g pins t σ q y Z u o Q w i E C))
theorem Og{op f:CmpOp}{r m:R2}(ho:OpR X (compareOp op) r)(g:OpR X (compareOp f) m)(G:PE X a ta)(Y:PE X b tb)(R:PE X c tc)
  (V:lastMarks [op,f] [b,c]=false:=by with_unfolding_all rfl):PT X (.Compare a [op,f] [b,c] pos) (Uy (Yh r m ta tb tc)):=by
 intro pins s σ H Q I h;refine isTrue_chain (thn (G pins s σ H _ I h) λv U ⟨x,H1,P,D,q1⟩=>test_link (thn (Y pins U σ H1 _ P q1) λu N ⟨y,O,I2,i,B⟩ =>
  thn (ho pins N σ O x y v u _ I2 D i B) λd s3 ⟨z,n,j,q,k,e,l⟩=>?_)) V
 subst e;cases q;refine A0b ?_;cases k with
 |false =>
  obtain⟨k',Z,T⟩:=l;cases Z;exact ite_ff ⟨n,j,T⟩
 |true =>
  refine ite_tt (test_last (thn (R pins s3 σ n _ j l) λo w ⟨z',t,A,M,E⟩=>thn (g pins w σ t y z' u o _ A i M E) λd' s5 ⟨z2,S,C,r5,k2,K,p⟩=>?_));subst K;cases r5;exact A0b ⟨S,C,p⟩
theorem Rq:(sizeLine:Nat)<2^63:=by rw[sizeLine_eq];decide
theorem Op:OpR X (binaryOp .Add) (λx y H Q=>∃i j,x=.str i/\y=.str j/\i.length+j.length<=sizeLine/\Q (.str (i++j)) H):=by
 intro pins s σ H x y v u Q I f d h;obtain⟨i,j,rfl,rfl,e,q⟩:=h;obtain⟨t,rfl⟩:=f;obtain⟨t',rfl⟩:=d;exact add_str (λt' tk=>⟨.str (i++j),H,I.tok _,⟨_,rfl⟩,q⟩) e
theorem Uu{x:V}{us:List Value}(r:AR [x] us):∃u,us=[u]/\Bb x u:=by
 cases r with
 |cons d e=>cases e;exact⟨_,rfl,d⟩
theorem vals2{x y:V}{us:List Value}(r:AR [x,y] us):∃u d,us=[u,d]/\Bb x u/\Bb y d:=by
 cases r with
 |cons g h =>
  cases h with
  |cons e f=>cases f;exact⟨_,_,rfl,g,e⟩
theorem Dj(e:X.calm=true):GT X (.builtin "max") (λxs H Q=>∃i j,xs=[.int i,.int j]/\Q (.int (if j > i then j else i)) H):=by
 intro pins s σ H xs us Q I r h;obtain⟨i,j,rfl,q⟩:=h;obtain⟨u,f,rfl,⟨t,rfl⟩,⟨t',rfl⟩⟩:=vals2 r;refine max_two_ints (I.ok.hd e) λh' tk k=>⟨_,H,I.kept k,?_,q⟩
 by_cases d:j > i
 ·rw[X5 d,X5 d];exact⟨_,rfl⟩
 ·rw[Z8 d,Z8 d];exact⟨_,rfl⟩
theorem DG(e:X.calm=true):GT X (.builtin "min") (λxs H Q=>∃i j,xs=[.int i,.int j]/\Q (.int (if j<i then j else i)) H):=by
 intro pins s σ H xs us Q I r h;obtain⟨i,j,rfl,q⟩:=h;obtain⟨u,f,rfl,⟨t,rfl⟩,⟨t',rfl⟩⟩:=vals2 r;refine min_two_ints (I.ok.hd e) λh' tk k=>⟨_,H,I.kept k,?_,q⟩
 by_cases d:j<i
 ·rw[X5 d,X5 d];exact⟨_,rfl⟩
 ·rw[Z8 d,Z8 d];exact⟨_,rfl⟩
theorem LZ:GT X (.type "str") (λxs H Q=>∃i,xs=[.int i]/\i.natAbs.log2<1920/\Q (.str (toString i)) H):=by
 intro pins s σ H xs us Q I r h;obtain⟨i,rfl,d,q⟩:=h;obtain⟨u,rfl,t,rfl⟩:=Uu r;exact PySem.P.str_of_int d ⟨.str _,H,I.tok _,⟨_,rfl⟩,q⟩
end
structure Uq(h:Heap)(x dx C:Addr)(mA:Str->Option Value):Prop where
 obj:h.get? x=some (instObj C dx)
 ns:h.Ns1 dx mA
 ne:dx≠x
theorem Ww{h:Heap}{g:Addr}{c:Str->Option Value}(n:h.Ns1 g c):∃f,h.get? g=some f/\∀name,lookIn name f=some (c name):=by
 obtain⟨o,d,r,m,k,j,_,i⟩:=n;refine⟨o,m,λname=>?_⟩;have e:=i name;unfold nsFind findBy at e;rw[<-Array.find?_toList]at e;unfold lookIn;rw[k];dsimp only;split
 ·rename_i y q;rw[q]at e;exact K3 some e
 ·rename_i q;rw[q]at e;have a:d.toList.any (·.refKey)=false:=by
   rw[List.any_eq_false];intro y l;obtain⟨z,t,b⟩:=j y (Array.mem_toList_iff.mp l);simp[DictEntry.refKey,b]
  have p:¬d.toList.any (·.refKey)=true:=by rw[a];exact C7
  rw[Z8 p];exact K3 some e
theorem Uq.look{h:Heap}{x c C:Addr}{b:Str->Option Value}(I:Uq h x c C b):∃a,W.InstAt h x (instObj C c) C (some a)/\∀name,lookIn name a=some (b name) :=
 let ⟨a,ho,hl⟩:=Ww I.ns
 ⟨a,⟨I.obj,rfl,rfl,ho⟩,hl⟩
section
variable{prog:Program}{w:World}{A:Around}{E:Value->Shared->Prop}{s:Shared}{K:W.Frag}{x dx C f:Addr}{mA:Str->Option Value}{name:Str}{v:Value}
theorem get_map{a:Bool}{Q:Value->Shared->Prop}(X:K.In s.heap)(I:Uq s.heap x dx C mA)(i:plainGet K C name=true)(g:hasDictIn K C=true)
  (c:findIn K (.ref C) name=some none) (d:mA name=some v) (b:handedIn v=true) (h:Q v {s with toks:=s.toks+1}) :
  wpAny (model prog w) A (getAttr (.ref x) name a) Q E s:=by
 obtain⟨j,J,e⟩:=I.look;exact W.get_value X J (A6a i).1 (W.findObj_own g c rfl (by rw[e,d])) b h
theorem ZR{pl:Sem Bool}{Q:Value×List Value->Shared->Prop}(X:K.In s.heap)(I:Uq s.heap x dx C mA)(a:plainGet K C name=true)
  (b:findIn K (.ref C) name=some (some (.ref f))) (e:isFn K (.ref f)=true) (c:mA name=none) (h:Q (.ref f,[.ref x]) s) :
  wpAny (model prog w) A (getMethod (.ref x) name pl) Q E s:=by
 obtain⟨g,J,d⟩:=I.look;exact W.method_fn X J (A6a a).1 (A6a a).2 b (beq_iff_eq.mp e) (by show(lookIn name g).map (·.isSome)=some false;rw[d,c];rfl) h
theorem set_map{ns:List Str}{Q:Unit->Shared->Prop}(X:K.In s.heap)(I:Uq s.heap x dx C mA)
  (k:findIn K (.ref C) "__setattr__" = some (some (.builtin "object.__setattr__"))) (o:plainOver K C=true) (p:takerIn K C name=some none) (m:hasDictIn K C=true)
  (u:PySem.Within mA ns) (hsz:ns.length<=sizeLine)
  (h:∀h',Uq h' x dx C (λy=>if y=name then some v else mA y)->Heap.SameBut dx s.heap h'->Q () {s with heap:=h',toks:=s.toks+2}) :
  wpAny (model prog w) A (setAttr (.ref x) name v) Q E s:=by
 obtain⟨z,J,G⟩:=I.look;refine W.set_plain X J k (W.osa_open (s:={s with toks:=s.toks+1}) (r:=none) X J o p λb=>?_)
 obtain⟨B,t,i⟩:=any_some m;have q:s.heap.get? x=some ⟨.ref C,some dx,.plain,#[]⟩:=I.obj;refine Z6 (X6 (Z6 (Z6 (wpAny_loadPart q (Z6 (W.Looks.here (s:={s with toks:=s.toks+1}) (W.looks_clsIn X t) ?_))))))
 rw[i];refine X6 (a:=some dx) (Z6 (X6 (Z6 ?_)));refine wpAny_nsSet1 (s:={s with toks:=s.toks+1}) I.ns λh' c d=>?_;obtain⟨D,n,l,e,g,j⟩:=c.count (PySem.Within.cons name v u);refine Z6 (wpAny_lookBehind e (by rw[g];exact pastItsLine_dict (D0 j (by rw[F2];lia))) ?_);exact X6 (h _ ⟨(d.2 _ (K1 I.ne)).trans I.obj,c,I.ne⟩ d)
theorem Zy{R:Result->Shared->Prop}{vs:List Value}{b:List (Str×Value)}(X:K.In s.heap)(c:makesIn K C=true)
  (i:findIn K (.ref C) "__init__" = some (some (.ref f))) (e:W.typeIn K (.ref f)=some (.type "function"))
  (h:codeAny (model prog w) (A.under (.builtin "type.__call__" ⟨.ref C::vs,b⟩)) (.call (.ref f) ⟨.ref (s.heap.objs.size+1)::vs,b⟩) (W.InitBack (s.heap.objs.size+1) R)
   {s with heap:=(s.heap.push emptyDict).push (instObj C s.heap.objs.size)}) :
  codeAny (model prog w) A (.call (.ref C) ⟨vs,b⟩) R s:=by
 obtain⟨k,g,d,t,j⟩:=s;exact W.make_core (W.makes_of X c) (W.looks_findIn X i) (λa=>W.bind_fn X a e) (.inl rfl) h
end
def AT(f:Str)(v:V):List (Str×V)->List (Str×V)
 |[]=>[(f,v)]
 | (g,x)::r=>if g=f then(g,v)::r else(g,x)::AT f v r
theorem Am(f g:Str)(v:V):∀fs:List (Str×V),(AT f v fs).lookup g=if g=f then some v else fs.lookup g
 |[]=>by
  show List.lookup g [(f,v)]=_;by_cases h:g=f
  ·have a:(g==f)=true:=beq_iff_eq.mpr h;simp only[List.lookup,a,X5 h]
  ·have a:(g==f)=false:=beq_eq_false_iff_ne.mpr h;simp only[List.lookup,a,Z8 h]
 | (k,x)::r=>by
  have c:=Am f g v r;rw[show AT f v ((k,x)::r)=(if k=f then(k,v)::r else(k,x)::AT f v r)from rfl];by_cases b:k=f
  ·rw[X5 b];by_cases h:g=k
   ·have a:(g==k)=true:=beq_iff_eq.mpr h;simp only[List.lookup,a,X5 (h.trans b)]
   ·have a:(g==k)=false:=beq_eq_false_iff_ne.mpr h;simp only[List.lookup,a,Z8 (λe:g=f=>h (e.trans b.symm))]
  ·rw[Z8 b];by_cases h:g=k
   ·have a:(g==k)=true:=beq_iff_eq.mpr h;simp only[List.lookup,a,Z8 (λe:g=f=>b (h.symm.trans e))]
   ·have a:(g==k)=false:=beq_eq_false_iff_ne.mpr h;simp only[List.lookup,a];exact c
theorem MD(f:Str)(v:V):∀fs:List (Str×V),f∈(AT f v fs).map (·.1)/\∀g,g∈fs.map (·.1)->g∈(AT f v fs).map (·.1)
 |[]=>⟨by simp[AT],λg h=>by simp at h⟩
 | (k,x)::r=>by
  obtain⟨c,b⟩:=MD f v r;rw[show AT f v ((k,x)::r)=(if k=f then(k,v)::r else(k,x)::AT f v r)from rfl];by_cases a:k=f
  ·rw[X5 a];subst a;exact⟨by simp,λg h=>by simpa using h⟩
  ·rw[Z8 a];refine⟨?_,λg h=>?_⟩
   ·rw[F5];exact C4 _ c
   ·rw[F5]at h⊢;rcases C1.mp h with e|e
    ·exact C1.mpr (.inl e)
    ·exact C4 _ (b g e)
theorem Bw(f:Str)(v:V):∀fs:List (Str×V),(AT f v fs).length<=fs.length+1
 |[]=>by simp[AT]
 | (k,x)::r=>by
  have b:=Bw f v r;rw[show AT f v ((k,x)::r)=(if k=f then(k,v)::r else(k,x)::AT f v r)from rfl];by_cases a:k=f
  ·rw[X5 a,F2,F2];lia
  ·rw[Z8 a,F2,F2];lia
theorem IL.some_of{v:V}{o:Option Value}(r:IL (some v) o):∃u,o=some u/\Bb v u:=by
 cases o with
 |none=>exact(show False from r).elim
 |some u=>exact⟨u,rfl,r⟩
theorem IL.none_of{o:Option Value}(r:IL none o):o=none:=by
 cases o with
 |none=>rfl
 |some u=>exact(show False from r).elim
theorem WG{v:V}{u:Value}(r:Bb v u):handedIn u=true:=by
 cases v with
 |non=>cases(show u=Value.none from r);rfl
 |bl b=>cases(show u=Value.bool b from r);rfl
 |int i=>obtain⟨t,e⟩:=(show ∃t,u=Value.int i t from r);cases e;rfl
 |str x=>obtain⟨t,e⟩:=(show ∃t,u=Value.str x t from r);cases e;rfl
 |byt b=>obtain⟨t,e⟩:=(show ∃t,u=Value.bytes b t from r);cases e;rfl
 |flt b=>obtain⟨t,e⟩:=(show ∃t,u=Value.float b t from r);cases e;rfl
 |ref a=>cases(show u=Value.ref a from r);rfl
 |ty n=>cases(show u=Value.type n from r);rfl
section
variable{P:Program}{w:World}{H H':Hp}{h h':Heap}{a C dx:Addr}{fs fs':List (Str×V)}
theorem NB(c:HOk P w H h)(e:H a=some (.ins C dx fs)):∃b,Uq h a dx C b/\(∀f,IL (fs.lookup f) (b f))/\PySem.Within b (fs.map (·.1))/\fs.length<=1000/\H dx=some (.own a):=by
 obtain⟨d,z,g,i,b,n,r,q⟩:=(show BD P w H h a (.ins C dx fs)from c a _ e)
 exact⟨b,⟨i,n,g⟩,r,q,z,d⟩
end
structure Cls(K:W.Frag)(C:Addr):Prop where
 pg:plainGet K C Str.empty=true
 hd:hasDictIn K C=true
 po:plainOver K C=true
 sa:findIn K (.ref C) "__setattr__" = some (some (.builtin "object.__setattr__"))
theorem Cls.get{K:W.Frag}{C:Addr}(c:Cls K C)(f:Str):plainGet K C f=true:=c.pg
def BB(K:W.Frag)(C:Addr)(f:Str):Prop:=findIn K (.ref C) f=some none
theorem BB.taker{K:W.Frag}{C:Addr}{f:Str}(n:BB K C f):takerIn K C f=some none:=by
 unfold takerIn;rw[show findIn K (.ref C) f=some none from n];rfl
structure Py(K:W.Frag)(C:Addr)(m:Str)(f:Addr):Prop where
 at_:findIn K (.ref C) m=some (some (.ref f))
 fn:isFn K (.ref f)=true
 kp:keepIn K (.ref f)=true
section
variable{X:Cx}{pins:List (Addr×Obj)}{σ:St}{H:Hp}{s:Shared}{a C dx:Addr}{fs:List (Str×V)}{f:Str}{v:V}{A:Around}{E:Value->Shared->Prop}
theorem Ud{b:Bool}{Q:Value->Shared->Prop}(I:Inv X pins σ H s)(e:H a=some (.ins C dx fs))(c:Cls X.K C)(n:BB X.K C f)(l:fs.lookup f=some v)
  (h:∀u s',Inv X pins σ H s'->Bb v u->Q u s'):wpAny (model X.prog X.w) A (getAttr (.ref a) f b) Q E s:=by
 obtain⟨g,O,r,_,_,_⟩:=NB I.hok e;obtain⟨u,i,d⟩:=IL.some_of (v:=v) (o:=g f) (by rw[<-l];exact r f);exact get_map I.kIn O (c.get f) c.hd n i (WG d) (h u _ (I.tok _) d)
theorem Uc{m:Str}{g:Addr}{pl:Sem Bool}{Q:Value×List Value->Shared->Prop}(I:Inv X pins σ H s)(e:H a=some (.ins C dx fs))(c:Cls X.K C)(k:Py X.K C m g)(l:fs.lookup m=none)
  (h:Q (.ref g,[.ref a]) s):wpAny (model X.prog X.w) A (getMethod (.ref a) m pl) Q E s:=by
 obtain⟨b,O,r,_,_,_⟩:=NB I.hok e;have d:b m=none:=IL.none_of (by rw[<-l];exact r m);exact ZR I.kIn O (c.get m) k.at_ k.fn d h
theorem Tv{y:V}{u:Value}{Q:Unit->Shared->Prop}(I:Inv X pins σ H s)(e:H a=some (.ins C dx fs))(c:Cls X.K C)(n:BB X.K C f)(G:fs.length<1000)(p:Bb y u)
  (h:∀s',Inv X pins σ (upd H a (.ins C dx (AT f y fs))) s'->Q () s'):wpAny (model X.prog X.w) A (setAttr (.ref a) f u) Q E s:=by
 obtain⟨k,O,r,j,_,l⟩:=NB I.hok e;have B:(fs.map (·.1)).length<=sizeLine:=by rw[B8,sizeLine_eq];lia
 refine set_map I.kIn O c.sa c.po n.taker c.hd j B λh' d t=>h _ ?_;have i:∃o,h'.get? dx=some o:=let ⟨o,_,_,e',_⟩:=d.ns;⟨o,e'⟩;refine I.write (x:=a) (e:=dx) (by rw[e];exact True.intro) (.inr l) (λb q m z=>(t.2 b m).trans z) i ?_;refine⟨by rw[As O.ne];exact l,?_,O.ne,d.obj,_,d.ns,λg=>?_,λg D=>?_⟩
 ·have:=Bw f y fs;lia
 ·show IL ((AT f y fs).lookup g) (if g=f then some u else k g);rw[Am];by_cases q:g=f
  ·rw[X5 q,X5 q];exact p
  ·rw[Z8 q,Z8 q];exact r g
 ·by_cases q:g=f
  ·rw[q];exact(MD f y fs).1
  ·refine(MD f y fs).2 g (j g λz=>D ?_);show(if g=f then some u else k g)=none;rw[Z8 q];exact z
theorem Inv.made(I:Inv X pins σ H s):Inv X pins σ (upd (upd H s.heap.objs.size (.own (s.heap.objs.size+1))) (s.heap.objs.size+1) (.ins C s.heap.objs.size []))
  {s with heap:=(s.heap.push emptyDict).push (instObj C s.heap.objs.size)}:=by
 have c:(s.heap.push emptyDict).get? s.heap.objs.size=some emptyDict:=D5 s.heap rfl;have g:((s.heap.push emptyDict).push (instObj C s.heap.objs.size)).get? (s.heap.objs.size+1)=some (instObj C s.heap.objs.size):=by
  have:=D5 (s.heap.push emptyDict) (o:=instObj C s.heap.objs.size) rfl
  rwa [P8]at this
 have k:(s.heap.push emptyDict).Ns s.heap.objs.size (λ_=>none):=⟨emptyDict,#[],_,c,rfl,(λe j=>absurd j A6),λ_=>rfl⟩
 have i:=I.laid (a:=s.heap.objs.size) (o:=.own (s.heap.objs.size+1)) (h':=s.heap.push emptyDict) (t':=s.toks) (λb u q=>C2 _ q) (C5 _) ⟨_,c⟩;refine i.laid (a:=s.heap.objs.size+1) (o:=.ins C s.heap.objs.size []) (t':=s.toks) (λb u q=>C2 _ q) (Nat.le_of_eq (P8 _ _)) ?_;have d:s.heap.objs.size≠s.heap.objs.size+1:=F7 (V1 _);refine⟨by rw[As d,Ag],M6 _,d,g,λ_=>none,(Heap.Ns1.of_empty k).at λo q=>C2 _ q,λ_=>True.intro,λy h=>absurd rfl h⟩
theorem attr_of{prog:Program}{w:World}{b:Env}{e:Expr}{f:Str}{d:Pos}{s:Shared}{Q:Value->Shared->Prop}(g:attributeBase e f b (eval e b)=eval e b)
  (h:wpAny (model prog w) A (eval e b) (λo c=>wpAny (model prog w) A (getAttr o f true) Q E c) E s):wpAny (model prog w) A (eval (.Attribute e f d) b) Q E s :=
 Attribute_any_ h (by rw[arm_eval_Attribute,g])
end
def tFld(K:W.Frag)(ta:TE)(f:Str):TE:=fun σ H Q=>ta σ H λx H1=>∃a C dx fs v,x=.ref a/\H1 a=some (.ins C dx fs)/\Cls K C/\BB K C f/\fs.lookup f=some v/\Q v H1
def sFld(K:W.Frag)(ta tv:TE)(f:Str):TS:=λD σ H=>tv σ H λy H1=>ta σ H1 λx H2=>∃a C dx fs,x=.ref a/\H2 a=some (.ins C dx fs)/\Cls K C/\BB K C f/\fs.length<1000 /\
 D.nx σ (upd H2 a (.ins C dx (AT f y fs)))
section
variable{X:Cx}{o e value:Expr}{f:Str}{pos pos' tpos:Pos}{ta tv:TE}
theorem AC(i:PE X e ta)(b:attributeBase e f X.env (eval e X.env)=eval e X.env):PE X (.Attribute e f pos) (tFld X.K ta f):=by
 intro pins s σ H Q I h;refine attr_of b (thn (i pins s σ H _ I h) λu z ⟨x,m,j,r,a,C,y,fs,v,g,k,c,n,l,q⟩=>?_);subst g;obtain rfl:u=Value.ref a:=r;exact Ud j k c n l λw t p d=>⟨v,m,p,d,q⟩
theorem Cm(d:PE X o ta)(k:PE X value tv)(b:swapsWith value (some (.Attribute o f pos')) pos.line X.env=pure false):PS X (.Assign [.Attribute o f pos'] value pos) (sFld X.K ta tv f):=by
 intro pins s σ H D I h;refine plainObj_wpAny_Assign_Attribute (thn (k pins s σ H _ I h) λu A ⟨y,t,m,g,q⟩=>thn (d pins A σ t _ m q) λw E ⟨x,G,v,p,a,C,M,fs,j,r,c,n,l,i⟩=>?_) b;subst j;obtain rfl:w=Value.ref a:=p;exact Tv v r c n l g λB z=>⟨σ,_,z,i⟩
end
section
variable{X:Cx}{pins:List (Addr×Obj)}{σ:St}{H:Hp}{s:Shared}{A:Around}{E:Value->Shared->Prop}{Q:Value->Shared->Prop}{c:Value}{b:Bool}
inductive MG(K:W.Frag)(H:Hp):V->Value->Prop where
 |non:MG K H .non (.type "NoneType")
 |bl (x:Bool):MG K H (.bl x) (.type "bool")
 |int (i:Int):MG K H (.int i) (.type "int")
 |str (x:Str):MG K H (.str x) (.type "str")
 |flt (x:UInt64):MG K H (.flt x) (.type "float")
 |lst {a:Addr} {xs:List V} (e:H a=some (.lst xs)):MG K H (.ref a) (.type "list")
 |frz {a:Addr} {o:Obj} {xs:List V} (e:H a=some (.frz o (.lst xs))):MG K H (.ref a) (.type "list")
 |tup {a:Addr} {xs:List V} (e:H a=some (.tup xs)):MG K H (.ref a) (.type "tuple")
 |dK {a:Addr} {kvs:List (Key×V)} (e:H a=some (.dK kvs)):MG K H (.ref a) (.type "dict")
 |dT {a:Addr} {kvs:List (List Key×V)} (e:H a=some (.dT kvs)):MG K H (.ref a) (.type "dict")
 |ins {a C dx:Addr} {fs:List (Str×V)} (e:H a=some (.ins C dx fs)) (cl:Cls K C) (ha:findIn K (.ref C) "__class__" = some (some (.builtin "object.__class__")))
   (hn:specialIn K (.builtin "object.__class__") "__get__" = some (some (.builtin "getset_descriptor.__get__"))) (htk:takesIn K (.builtin "object.__class__")=some true)
   (hm:mroIn K C (.type "object")=some true):MG K H (.ref a) (.ref C)
theorem WD{x:V}{u t:Value}(I:Inv X pins σ H s)(f:Bb x u)(ty:MG X.K H x t)(e:kitOne X.K t c=some b)(h:∀tk,Q (.bool b) {s with toks:=tk}) :
  wpAny (model X.prog X.w) A (call (.builtin "isinstance") [u,c]) Q E s:=by
 cases ty with
 |non=>cases(show u=Value.none from f);exact A0c W.kitx_none I.kIn True.intro e (λz=>nomatch z) h
 |bl y=>cases(show u=Value.bool y from f);exact A0c W.kitx_bool I.kIn True.intro e (λz=>nomatch z) h
 |int i=>obtain⟨t,q⟩:=(show ∃t,u=Value.int i t from f);cases q;exact A0c W.kitx_int I.kIn True.intro e (λz=>nomatch z) h
 |str y=>obtain⟨t,q⟩:=(show ∃t,u=Value.str y t from f);cases q;exact A0c W.kitx_str I.kIn True.intro e (λz=>nomatch z) h
 |flt y=>obtain⟨t,q⟩:=(show ∃t,u=Value.float y t from f);cases q;exact A0c W.kitx_float I.kIn True.intro e (λz=>nomatch z) h
 |@lst a xs d =>
  cases(show u=Value.ref a from f);obtain⟨_,_,n,_,g⟩:=(show BD X.prog X.w H s.heap a (.lst xs)from I.hok a _ d)
  exact A0c kitx_list I.kIn ⟨_,g,rfl⟩ e (λz=>nomatch z) h
 |@frz a D xs d =>
  cases(show u=Value.ref a from f);obtain⟨_,_,_,n,_,g⟩:=(show BD X.prog X.w H s.heap a (.frz D (.lst xs))from I.hok a _ d)
  exact A0c kitx_list I.kIn ⟨_,g,rfl⟩ e (λz=>nomatch z) h
 |@tup a xs d =>
  cases(show u=Value.ref a from f);obtain⟨_,_,_,p⟩:=(show BD X.prog X.w H s.heap a (.tup xs)from I.hok a _ d)
  obtain⟨o,g,k,_⟩:=p;exact A0c W.kitx_tuple I.kIn ⟨o,g,k⟩ e (λz=>nomatch z) h
 |@dK a j d =>
  cases(show u=Value.ref a from f);obtain⟨_,_,vs,_,p⟩:=(show BD X.prog X.w H s.heap a (.dK j)from I.hok a _ d)
  obtain⟨o,M,B,g,k,_⟩:=p;exact A0c kitx_dict I.kIn ⟨o,g,k.1⟩ e (λz=>nomatch z) h
 |@dT a j d =>
  cases(show u=Value.ref a from f);obtain⟨_,_,xs,_,o,M,B,g,k,_⟩:=(show BD X.prog X.w H s.heap a (.dT j)from I.hok a _ d)
  exact A0c kitx_dict I.kIn ⟨o,g,k.1⟩ e (λz=>nomatch z) h
 |@ins a C R fs d m v G l r =>
  cases(show u=Value.ref a from f);obtain⟨N,O,_⟩:=NB I.hok d;obtain⟨P,J,_⟩:=O.look;exact A0c (W.kitx_own (m.get _) m.hd v G l r) I.kIn J e (λz=>nomatch z) h
end
structure CF(k:Nat)(A:Around):Prop where
 hd:A.handled=none
 dp:A.depth+3*k+5<recursionLimit
 un:A.units+16*k+200<cLine
theorem CF.mono{j k:Nat}{A:Around}(r:CF k A)(h:j<=k):CF j A:=⟨r.hd,by have:=r.dp;lia,by have:=r.un;lia⟩
theorem CF.deeper{k:Nat}{A:Around}(r:CF (k+1) A)(a:Env):CF k (A.deeper a) :=
 ⟨r.hd,by have:=r.dp;show A.depth+1+3*k+5<_;lia,by have:=r.un;show A.units+3+16*k+200<_;lia⟩
theorem TX{A:Around}{C:Addr}{us:List Value}{a:List (Str×Value)}:(A.under (.builtin "type.__call__" ⟨.ref C::us,a⟩)).depth=A.depth+1:=by
 first|rfl|simp[Around.under,Code.weight,Code.isCreation,Code.isGuard,Code.isCaller,Code.frames,Code.isFrame,guardIds]
theorem TW{A:Around}{C:Addr}{us:List Value}{a:List (Str×Value)}:(A.under (.builtin "type.__call__" ⟨.ref C::us,a⟩)).units=A.units+1:=by
 first|rfl|simp[Around.under,Code.cUnits,Code.frames,Code.isFrame]
theorem CF.make{k:Nat}{A:Around}(r:CF (k+1) A)(C:Addr)(us:List Value)(a:List (Str×Value)):CF k (A.under (.builtin "type.__call__" ⟨.ref C::us,a⟩)) :=
 ⟨r.hd,by have:=r.dp;rw[TX];lia,by have:=r.un;rw[TW];lia⟩
theorem CF.depth{k:Nat}{A:Around}(r:CF k A):A.depth<recursionLimit:=by have:=r.dp;lia
theorem CF.units{k:Nat}{A:Around}(r:CF k A):A.units+64<cLine:=by have:=r.un;lia
def Qt:TA:=λ_ H Q=>Q [] H
def CL(ta:TE)(tr:TA):TA:=fun σ H Q=>ta σ H λx H1=>tr σ H1 λxs H2=>Q (x::xs) H2
section
variable{X:Cx}{e:Expr}{es:List Expr}{te:TE}{t:TA}{pos:Pos}
theorem Ab:PA X [] Qt:=λ_ _ _ _ H Q I h=>Calls.spliced_nil ⟨[],H,I,.nil,h⟩
theorem Aa(b:PE X e te)(g:PA X es t)(a:starEach (e::es) X.env=(false,eval e X.env)::starEach es X.env:=by rfl):PA X (e::es) (CL te t):=by
 intro pos pins s σ H Q I h;rw[a];show wpAny _ _ (spliced ((false,eval e X.env)::backTo pos (starEach es X.env))) _ _ s;refine A7b (thn (b pins s σ H _ I h) λu n ⟨x,j,f,i,k⟩=>?_);exact thn (g pos pins n σ j _ f k) λus o ⟨xs,d,l,m,c⟩=>⟨x::xs,d,l,.cons i m,c⟩
def Ye(t:TA):TE:=fun σ H Q=>t σ H λxs H1=>xs.length<=sizeLine/\∀p,H1 p=none->Q (.ref p) (upd H1 p (.tup xs))
def tLst(t:TA):TE:=fun σ H Q=>t σ H λxs H1=>xs.length<=sizeLine/\∀p,H1 p=none->Q (.ref p) (upd H1 p (.lst xs))
theorem CD{x1}(h:PA X es t):PE X (.Tuple es x1 pos) (Ye t):=by
 intro pins s σ H Q I g;refine wpAny_Tuple_spliced (thn (h pos pins s σ H _ I g) λus a ⟨xs,d,c,r,z,q⟩=>⟨by rw[<-r.length];exact z,?_⟩);have f:d a.heap.objs.size=none:=c.hok.fresh (C5 _);refine⟨.ref a.heap.objs.size,upd d a.heap.objs.size (.tup xs),c.laid (t':=a.toks) (λb u e=>C2 _ e) (C5 _) ?_,rfl,q _ f⟩;exact⟨z,us,r,⟨_,D5 _ rfl,rfl,_,rfl⟩⟩
theorem CS(h:PA X es t):PE X (.List es pos) (tLst t):=by
 intro pins s σ H Q I g;refine wpAny_List_spliced (thn (h pos pins s σ H _ I g) λus a ⟨xs,d,c,r,z,q⟩=>⟨by rw[<-r.length];exact z,?_⟩);have f:d a.heap.objs.size=none:=c.hok.fresh (C5 _);refine⟨.ref a.heap.objs.size,upd d a.heap.objs.size (.lst xs),c.laid (t':=a.toks) (λb u e=>C2 _ e) (C5 _) ?_,rfl,q _ f⟩;exact⟨z,us,0,r,D5 _ rfl⟩
end
abbrev Sp:=List V->Hp->VK->XK->Prop
abbrev CXT:=List Env->Hp->Shared->XK->Value->Shared->Prop
structure Tn(P:Program)(w:World)(K:W.Frag)(mg:Str->Option Value)(base:Heap)(A:Around)(outer:List Env)(s:Shared)(H:Hp):Prop where
 frames:A.frames=some outer
 mod:Mod K mg base
 bs:∀b o,base.get? b=some o->s.heap.get? b=some o/\H b=none
 bsz:base.objs.size<=s.heap.objs.size
 funs:s.heap.FunFrames base outer
 frf:∀b∈frs outer,H b=none
 hok:HOk P w H s.heap
 bare:AllBare s.gens
def CE(outer:List Env)(P:Program)(w:World)(H:Hp)(s:Shared)(Q:VK)(u:Value)(s':Shared):Prop :=
 ∃v H',s'.os=s.os/\AllBare s'.gens/\Un (frs outer) [] H H' s.heap s'.heap/\HOk P w H' s'.heap/\Bb v u/\Q v H'
def CR(CX:CXT)(outer:List Env)(P:Program)(w:World)(H:Hp)(s:Shared)(Q:VK)(E:XK)(r:Result)(s':Shared):Prop :=
 match r with
 |.ok (.ret u)=>CE outer P w H s Q u s'
 |.ok _=>False
 |.error e=>CX outer H s E e s'
structure AJ(P:Program)(w:World)(K:W.Frag)(mg:Str->Option Value)(base:Heap)(CX:CXT)(k:Nat)(f:Addr)(fd:FuncData)(ps:List Str)(sp:Sp):Prop where
 len:∀vs H Q E,sp vs H Q E->vs.length=ps.length
 run:∀(A:Around)(outer:List Env)(s:Shared)(H:Hp)(args:Args)(us:List Value)(vs:List V)(Q:VK)(E:XK),CF k A->Tn P w K mg base A outer s H->BindsTo s fd args (ps.zip us)->AR vs us->sp vs H Q E ->
  codeAny (model P w) A (.call (.ref f) args) (CR CX outer P w H s Q E) s
theorem AJ.imp{P:Program}{w:World}{K:W.Frag}{mg:Str->Option Value}{base:Heap}{CX:CXT}{k:Nat}{f:Addr}{e:FuncData}{d:List Str}{sp c:Sp}(F:AJ P w K mg base CX k f e d sp)
  (h:∀vs H Q E,c vs H Q E->sp vs H Q E):AJ P w K mg base CX k f e d c :=
 ⟨λvs H Q E q=>F.len vs H Q E (h _ _ _ _ q),λA a s H b us vs Q E j l i m g=>F.run A a s H b us vs Q E j l i m (h _ _ _ _ g)⟩
theorem Tn.make{P:Program}{w:World}{K:W.Frag}{mg:Str->Option Value}{base:Heap}{A:Around}{a:List Env}{s:Shared}{H:Hp}(e:Tn P w K mg base A a s H)(C:Addr)(us:List Value)(b:List (Str×Value)) :
  Tn P w K mg base (A.under (.builtin "type.__call__" ⟨.ref C::us,b⟩)) a s H:=⟨by first|exact e.frames|(simpa[Around.under,Code.envs,Code.isFrame,pushEnvs] using e.frames),e.mod,e.bs,e.bsz,e.funs,e.frf,e.hok,e.bare⟩
section
variable{X:Cx}{pins:List (Addr×Obj)}{σ:St}{H:Hp}{s s':Shared}
theorem Inv.env0(I:Inv X pins σ H s):Tn X.prog X.w X.K X.mg X.base X.A X.stack s H :=
 ⟨I.ok.frames,I.ok.mod,I.bs,D0 I.ok.bsz I.sz,I.stack,I.stkFree,I.hok,I.bare⟩
theorem Inv.after{Q:VK}{u:Value}(I:Inv X pins σ H s)(h:CE X.stack X.prog X.w H s Q u s'):EP X pins σ Q u s':=by
 obtain⟨v,f,e,bare,un,c,r,q⟩:=h;obtain⟨i,g,d,t,a⟩:=s';obtain rfl:a=s.os:=e;exact⟨v,f,I.call (h':=i) (g':=g) (d':=d) (t':=t) (ch:=[]) un c bare (λb z=>absurd z A6),r,q⟩
end
def UB(sp:Sp)(dvs:List V)(E:XK)(t:TA):TE:=fun σ H Q=>t σ H λvs H1=>sp (vs++dvs) H1 Q E
def Uz(C:Addr)(m:Str)(sp:Sp)(dvs:List V)(E:XK)(ta:TE)(t:TA):TE:=fun σ H Q=>ta σ H λx H1=>∃a dx fs,x=.ref a/\H1 a=some (.ins C dx fs)/\fs.lookup m=none /\
 t σ H1 λvs H2=>sp (x::(vs++dvs)) H2 Q E
def UA(C:Addr)(sp:Sp)(dvs:List V)(E:XK)(t:TA):TE:=fun σ H Q=>t σ H λvs H1=>∀x dx,H1 x=none->H1 dx=none->dx≠x ->
 sp (.ref x::(vs++dvs)) (upd (upd H1 dx (.own x)) x (.ins C dx [])) (λv H2=>v=.non/\Q (.ref x) H2) E
def Ch(K:W.Frag)(fd:FuncData)(ps:List Str)(ds:List Value):Prop :=
 ∀(s:Shared)(us:List Value),K.In s.heap->(us++ds).length=ps.length->BindsTo s fd ⟨us,[]⟩ (ps.zip (us++ds))
theorem Ch.all{K:W.Frag}{b:FuncData}{a:List Str}(h:∀us:List Value,us.length=a.length->bindArgs b ⟨us,[]⟩=pure (a.zip us)):Ch K b a []:=λs us _ c=>by
 rw[R0]at c⊢;exact .of_eq (h us c)
def EM(CX:CXT)(X:Cx)(E:XK):Prop:=∀(pins:List (Addr×Obj))(σ:St)(H:Hp)(s:Shared)(e:Value)(s':Shared),Inv X pins σ H s->CX X.stack H s E e s'->X.xe e s'
section
variable{X:Cx}{CX:CXT}{k:Nat}{f C:Addr}{fd:FuncData}{ps:List Str}{sp:Sp}{dvs:List V}{ds:List Value}{E:XK}{x m:Str}{p pos apos:Pos}{e o:Expr}{es:List Expr}{ta:TE}{t:TA}
theorem YD{pins:List (Addr×Obj)}{σ:St}{H:Hp}{s:Shared}{Q:VK}{us:List Value}{vs:List V}(F:AJ X.prog X.w X.K X.mg X.base CX k f fd ps sp)(g:CF k X.A)(d:Ch X.K fd ps ds)(c:AR dvs ds)(j:EM CX X E)
  (I:Inv X pins σ H s) (r:AR vs us) (h:sp (vs++dvs) H Q E):wpAny (model X.prog X.w) X.A (call (.ref f) us) (EP X pins σ Q) X.xe s:=by
 have b:AR (vs++dvs) (us++ds):=r.append c;have i:(us++ds).length=ps.length:=by rw[<-b.length];exact F.len _ _ _ _ h
 refine A6b (A3g (F.run X.A X.stack s H ⟨us,[]⟩ (us++ds) (vs++dvs) Q E g I.env0 (d s us I.kIn i) b h) λr s' a=>?_);cases r with
 |error e=>exact j pins σ H s e s' I a
 |ok l =>
  cases l with
  |ret u=>exact I.after a
  |next=>exact False.elim a
  |brk=>exact False.elim a
  |cont=>exact False.elim a
theorem pe_call(F:AJ X.prog X.w X.K X.mg X.base CX k f fd ps sp)(n:CF k X.A)(y:Gl X x)(d:X.mg x=some (.ref f))(g:keepIn X.K (.ref f)=true)(j:Ch X.K fd ps ds)(l:AR dvs ds)(v:EM CX X E)
  (i:PA X (e::es) t) (b:(x==("__debug__" : Str))=false:=by decide) (u:starEach (e::es) X.env=(false,eval e X.env)::starEach es X.env:=by rfl) (a:(backTo pos (starEach es X.env)).any (·.1)=false:=by rfl) :
  PE X (.Call (.Name x p) (e::es) [] pos) (UB sp dvs E t):=by
 intro pins s σ H Q I h;refine A1f (FV I y d ?_ b);refine A2g (h₀:=X.base) I.ok.mod.kin g (thn (i pos pins s σ H _ I h) λus B ⟨vs,z,c,r,q⟩=>⟨c.kIn,?_⟩) u a;exact YD F n j l v c r q
theorem pe_meth{pl:Sem Bool}(v:PE X o ta)(c:Cls X.K C)(j:Py X.K C m f)(F:AJ X.prog X.w X.K X.mg X.base CX k f fd ps sp)(M:CF k X.A)(P:Ch X.K fd ps ds)(y:AR dvs ds)(D:EM CX X E)(G:PA X (e::es) t)
  (d:starEach (e::es) X.env=(false,eval e X.env)::starEach es X.env:=by rfl) (b:(backTo pos (starEach es X.env)).any (·.1)=false:=by rfl)
  (B:eval (.Call (.Attribute o m apos) (e::es) [] pos) X.env=(do
   let g <-eval o X.env
   standAt apos.atName
   let (f,first) <-holding [g] (getMethod g m pl)
   callWith pos f first (backTo pos (starEach (e::es) X.env)) (backToKw pos (keywordEach [] X.env))):=by rfl) :
  PE X (.Call (.Attribute o m apos) (e::es) [] pos) (Uz C m sp dvs E ta t):=by
 intro pins s σ H Q I h;refine W.methodCall_KW (pl:=pl) (thn (v pins s σ H _ I h) λu O ⟨x,S,i,T,a,Y,fs,R,N,l,q⟩=>?_) B;subst R;obtain rfl:u=Value.ref a:=T;refine Uc i N c j l ?_;refine A2g (first:=[.ref a]) (h₀:=X.base) I.ok.mod.kin j.kp (thn (G pos pins O σ S _ i q) λus U ⟨vs,V,n,r,z⟩=>⟨n.kIn,?_⟩) d b;exact YD (us:=.ref a::us) (vs:=.ref a::vs) F M P y D n (.cons rfl r) z
structure Mk(K:W.Frag)(C f:Addr):Prop where
 makes:makesIn K C=true
 init:findIn K (.ref C) "__init__" = some (some (.ref f))
 fn:isFn K (.ref f)=true
 kp:keepIn K (.ref C)=true
theorem Si{pins:List (Addr×Obj)}{σ:St}{H:Hp}{s:Shared}{Q:VK}{us:List Value}{vs:List V}(M:Mk X.K C f)(F:AJ X.prog X.w X.K X.mg X.base CX k f fd ps sp)(B:CF (k+1) X.A)(l:Ch X.K fd ps ds)(i:AR dvs ds)
  (G:EM CX X E) (I:Inv X pins σ H s) (r:AR vs us)
  (h:∀x b,H x=none->H b=none->b≠x->sp (.ref x::(vs++dvs)) (upd (upd H b (.own x)) x (.ins C b [])) (λv y=>v=.non/\Q (.ref x) y) E) :
  wpAny (model X.prog X.w) X.A (call (.ref C) us) (EP X pins σ Q) X.xe s:=by
 have g:=h (s.heap.objs.size+1) s.heap.objs.size (I.hok.fresh (W6 _)) (I.hok.fresh (C5 _)) (F7 (V1 _));have c:=Inv.made (C:=C) I;have d:AR (V.ref (s.heap.objs.size+1)::(vs++dvs)) (Value.ref (s.heap.objs.size+1)::(us++ds)):=.cons rfl (r.append i);have D:(Value.ref (s.heap.objs.size+1)::us++ds).length=ps.length:=by
  have e:=d.length;rw[F.len _ _ _ _ g]at e;exact e.symm
 refine A6b (Zy (f:=f) I.kIn M.makes M.init (beq_iff_eq.mp M.fn) (A3g (F.run _ X.stack _ _ ⟨Value.ref (s.heap.objs.size+1)::us,[]⟩ (Value.ref (s.heap.objs.size+1)::(us++ds)) _ _ E (B.make C us [])
  (c.env0.make C us []) (l _ (Value.ref (s.heap.objs.size+1)::us) c.kIn D) d g) λr s' a=>?_))
 cases r with
 |error e=>exact G pins σ _ _ e s' c a
 |ok N =>
  cases N with
  |ret u =>
   obtain⟨v,q,O,j,n,z⟩:=c.after a;subst n;exact⟨j,⟨V.ref (s.heap.objs.size+1),q,O,rfl,z⟩⟩
  |next=>exact False.elim a
  |brk=>exact False.elim a
  |cont=>exact False.elim a
theorem pe_make(M:Mk X.K C f)(F:AJ X.prog X.w X.K X.mg X.base CX k f fd ps sp)(l:CF (k+1) X.A)(v:Gl X x)(d:X.mg x=some (.ref C))(j:Ch X.K fd ps ds)(i:AR dvs ds)(u:EM CX X E)
  (g:PA X (e::es) t) (b:(x==("__debug__" : Str))=false:=by decide) (n:starEach (e::es) X.env=(false,eval e X.env)::starEach es X.env:=by rfl) (a:(backTo pos (starEach es X.env)).any (·.1)=false:=by rfl) :
  PE X (.Call (.Name x p) (e::es) [] pos) (UA C sp dvs E t):=by
 intro pins s σ H Q I h;refine A1f (FV I v d ?_ b);refine A2g (h₀:=X.base) I.ok.mod.kin M.kp (thn (g pos pins s σ H _ I h) λus z ⟨vs,y,c,r,q⟩=>⟨c.kIn,?_⟩) n a;exact Si M F l j i u c r q
theorem YK(M:Mk X.K C f)(F:AJ X.prog X.w X.K X.mg X.base CX k f fd ps sp)(g:CF (k+1) X.A)(j:Gl X x)(b:X.mg x=some (.ref C))(d:Ch X.K fd ps ds)(c:AR dvs ds)(i:EM CX X E)
  (a:(x==("__debug__" : Str))=false:=by decide):PE X (.Call (.Name x p) [] [] pos) (UA C sp dvs E Qt):=by
 intro pins s σ H Q I h;refine A1f (FV I j b ?_ a);exact W.callWith_K0 I.kIn M.kp (Si (us:=[]) M F g d c i I .nil h)
end
section
variable{X:Cx}{CX:CXT}{k:Nat}{f C:Addr}{fd:FuncData}{ps ks:List Str}{sp:Sp}{E:XK}{x m:Str}{p pos apos kpos:Pos}{e o:Expr}{es:List Expr}{kws:List Keyword}{te ta:TE}{t tk:TA}{nm:Option Str}
variable{g:List Value->List Value->List Value}{gV:List V->List V->List V}
end
structure Aq(N P:List Str)(sc:Scope):Prop where
 kind:sc.kind=.function
 co:sc.isCoroutine=false
 gen:sc.isGenerator=false
 nd:N.Nodup
 pre:N.take P.length=P
 par:∀x∈P,sc.names.lookup x=some .local\/sc.names.lookup x=some .cell
 nofree:∀y∈sc.names,y.2≠.free
theorem Qi{a:Str->Option NameKind}{x:Str}:∀{binds:List (Str×Value)}{m:Str->Option Value},(∀v,(x,v)∉binds)->bindL a binds m x=m x
 |[],_,_=>rfl
 | (n,v)::r,m,h=>by
  unfold bindL;rw[Qi λw b=>h w (C4 _ b)];split
  ·have:x≠n:=by rintro rfl;exact h v C8
   simp[this]
  ·rfl
theorem Qk{a:Str->Option NameKind}{x:Str}:∀{binds:List (Str×Value)}{m:Str->Option Value},(∀v,(x,v)∉binds)->bindC a binds m x=m x
 |[],_,_=>rfl
 | (n,v)::r,m,h=>by
  unfold bindC;rw[Qk λw b=>h w (C4 _ b)];split
  ·rfl
  ·have:x≠n:=by rintro rfl;exact h v C8
   simp[this]
theorem Qj{a:Str->Option NameKind}{x:Str}{v:Value}:∀{P:List Str}{vs:List Value}{i:Nat}{m:Str->Option Value},P.Nodup->P[i]?=some x->vs[i]?=some v->a x=some .local ->
  bindL a (P.zip vs) m x=some v
 |[],_,_,_,_,h,_,_=>by simp at h
 |_::_,[],_,_,_,_,h,_=>by simp at h
 |p::P,w::vs,0,m,nd,h1,h2,hk=>by
  simp at h1 h2;subst h1;subst h2;show bindL a ((p,w)::P.zip vs) m p=_;unfold bindL;rw[Qi λv b=>(N5.mp nd).1 (W0 b).1,X5 hk];simp
 |p::P,w::vs,i+1,m,nd,h1,h2,hk=>by
  show bindL a ((p,w)::P.zip vs) m x=_;unfold bindL;exact Qj (i:=i) (N5.mp nd).2 (by simpa using h1) (by simpa using h2) hk
theorem Ql{a:Str->Option NameKind}{x:Str}{v:Value}:∀{P:List Str}{vs:List Value}{i:Nat}{m:Str->Option Value},P.Nodup->P[i]?=some x->vs[i]?=some v->a x≠some .local ->
  bindC a (P.zip vs) m x=some v
 |[],_,_,_,_,h,_,_=>by simp at h
 |_::_,[],_,_,_,_,h,_=>by simp at h
 |p::P,w::vs,0,m,nd,h1,h2,hk=>by
  simp at h1 h2;subst h1;subst h2;show bindC a ((p,w)::P.zip vs) m p=_;unfold bindC;rw[Qk λv b=>(N5.mp nd).1 (W0 b).1,Z8 hk];simp
 |p::P,w::vs,i+1,m,nd,h1,h2,hk=>by
  show bindC a ((p,w)::P.zip vs) m x=_;unfold bindC;exact Ql (i:=i) (N5.mp nd).2 (by simpa using h1) (by simpa using h2) hk
def GH(N:List Str)(vs:List V):St:=vs.map some++List.replicate (N.length-vs.length) none
def Jx(CX:CXT)(P:Program)(w:World)(K:W.Frag)(mg:Str->Option Value)(base:Heap)(N:List Str)(qual:Str)(scope:Scope)(f:Addr)(cd:Value)(A:Around)(outer:List Env)(s:Shared)(H:Hp)(E:XK):Cx where
 prog:=P
 w:=w
 K:=K
 mg:=mg
 base:=base
 A:=A.deeper (envOfC qual scope s.heap.objs.size f cd)
 N:=N
 s₀:=s
 H₀:=H
 env:=envOfC qual scope s.heap.objs.size f cd
 outer:=outer
 stack:=envOfC qual scope s.heap.objs.size f cd::outer
 ex:=[]
 calm:=true
 fn:=λ_=>true
 pn:=[]
 xe:=λe s'=>wpAny (model P w) (A.deeper (envOfC qual scope s.heap.objs.size f cd)) (leaving (envOfC qual scope s.heap.objs.size f cd) e) (λ_ s''=>CX outer H s E e s'') (λe' s''=>CX outer H s E e' s'') s'
theorem Tb{a:Scope}{n:Nat}{x:Str}(h:a.names.lookup x=some .cell):∃c,(cellsFrom n a.names []).lookup x=some c:=by
 have q:=A5b a.names n [] (.inl h);exact Option.isSome_iff_exists.mp q
theorem PX{CX:CXT}{P:Program}{w:World}{K:W.Frag}{mg:Str->Option Value}{base:Heap}{N B:List Str}{j:Str}{d:Scope}{f:Addr}{I:Value}{A:Around}{g:List Env}{s Q:Shared}{H:Hp}{E:XK}{us:List Value}{vs:List V}
  (S:Aq N B d) (X:A.handled=none) (m:Tn P w K mg base A g s H) (hl:vs.length=B.length) (r:AR vs us)
  (x:InCallC s s.heap.objs.size (bindL (envOfC j d s.heap.objs.size f I).kindOf (B.zip us) λ_=>none) (cellsFrom (s.heap.objs.size+1) d.names []) (bindC (envOfC j d s.heap.objs.size f I).kindOf (B.zip us) λ_=>none) Q) :
  Inv (Jx CX P w K mg base N j d f I A g s H E) [] (GH N vs) H Q:=by
 have T:B.length<=N.length:=by have:=K3 List.length S.pre;rw[M9]at this;lia
 obtain⟨G,tk,rfl,O⟩:=x.done;have o:∀b:Addr,b∉(Jx CX P w K mg base N j d f I A g s H E).ex:=λb z=>absurd (show b∈([]:List Addr)from z) A6;refine⟨⟨m.mod,S.kind,rfl,rfl,C5 _,λy z c G l=>?_,λy t=>?_,λy c _ h=>?_,λ_=>X,Around.frames_deeper m.frames,.inr ⟨rfl,rfl⟩,λb z=>absurd z (o b),m.bs,m.bsz,λb _ _=>o b,λb z=>absurd z (o b),m.funs,m.frf⟩,
  rfl,m.bare,Un.kept O,⟨_,x.toInCall.ns,λi y v G l Z=>?_⟩,λy c h=>⟨_,x.cell y c h⟩,m.hok.fresh (C5 _),λy c h=>?_,λp C=>absurd (show p∈([]:List (Addr×Obj))from C) A6,m.hok.kept O,?_⟩
 ·exact name_of_addr x.apart (A1b G) (A1b l)
 ·have t:d.names.lookup y=some .cell\/d.names.lookup y=some .free:=t;rcases t with t|t
  ·exact Tb t
  ·exact absurd rfl (S.nofree _ (A1b t))
 ·exact Nat.le_of_lt (x.above y c (A1b h))
 ·have M:i<vs.length:=by
   unfold GH at l;by_cases M:i<vs.length
   ·exact M
   ·rw[J9 (by simpa using M)]at l;rw[V4]at l;split at l<;>cases l
  have Y:vs[i]?=some v:=by
   unfold GH at l;rw[N4 (by simpa using M),C3]at l;cases e:vs[i]? with
   |none=>rw[e]at l;cases l
   |some a=>rw[e]at l;cases l;rfl
  obtain⟨u,R,U⟩:=r.get Y;have C:B[i]?=some y:=by
   rw[<-S.pre,U8 A0];exact G
  have D:B.Nodup:=by rw[<-S.pre];exact S.nd.sublist (List.take_sublist _ _)
  refine⟨u,U,?_⟩;rcases S.par y (F1 C)with k|k
  ·exact .inl ⟨k,Qj D C R k⟩
  ·obtain⟨c,e⟩:=Tb (n:=s.heap.objs.size+1) k;refine .inr ⟨.inl k,c,e,?_⟩;have q:=x.cell y c e;rw[Ql D C R (by show d.names.lookup y≠_;rw[k];decide)]at q;exact q
 ·exact m.hok.fresh (Nat.le_of_lt (x.above y c (A1b h)))
 ·unfold GH;show _=N.length;rw[C6,B8,P9];lia
theorem fn_of{CX:CXT}{P:Program}{w:World}{K:W.Frag}{mg:Str->Option Value}{base:Heap}{k:Nat}{f:Addr}{name d:Str}{h:Arguments}{i:List Stmt}{a:Scope}{U kV B pm g Z oc:Value}{X od:Option Addr}
  {M:Array (Option Value)} {N D:List Str} {sp:Sp} (lk:K.lookup f=some ⟨oc,od,.func (W.fnOf name d h i a U kV B pm X g Z),M⟩) (R:W.codeIn K g d=true) (S:Aq N D a)
  (len:∀vs H Q E,sp vs H Q E->vs.length=D.length)
  (m:∀(A:Around)(c:List Env)(s:Shared)(H:Hp)(vs:List V)(Q:VK)(E:XK),CF k (A.deeper (envOfC d a s.heap.objs.size f g))->sp vs H Q E ->
   ∃t,PSs (Jx CX P w K mg base N d a f g A c s H E) i t/\t {nx:=λ_ j=>Q .non j,rt:=Q} (GH N vs) H) :
  AJ P w K mg base CX (k+1) f (W.fnOf name d h i a U kV B pm X g Z) D sp:=by
 refine⟨len,λA c s H aa us vs Q E O z hb r C=>?_⟩;have hl:=len _ _ _ _ C;have Y:K.In s.heap:=z.mod.kin.keeps λb o e=>(z.bs b o e).1;have T:s.heap.NoLimit:=z.mod.nolimit.keeps λb o e=>(z.bs b o e).1;have l:∀y∈D.zip us,a.names.lookup y.1=some .local\/(a.names.lookup y.1=some .cell/\((cellsFrom (s.heap.objs.size+1) a.names []).lookup y.1).isSome=true):=λ⟨n,v⟩ hy=>by
  rcases S.par n (W0 hy).1 with q|q
  ·exact .inl q
  ·exact .inr ⟨q,A5b _ _ _ (.inl q)⟩
 refine codeAny_call_function O.depth (Y _ _ lk) rfl S.co S.gen rfl (codeRec_of Y R) (hb _ _ _ _ ?_);refine wpAny_newFunctionEnv_cells S.kind l λab he s1 x=>?_;subst he;refine⟨T.keeps x.toInCall.keep,codeAny_func ?_⟩;obtain⟨t,ht,hq⟩:=m A c s H vs Q E (O.deeper _) C;have I:Inv (Jx CX P w K mg base N d a f g A c s H E) [] (GH N vs) H s1:=PX S O.hd z hl r x;refine A0h (ht [] s1 (GH N vs) H _ I hq) (λfl s' p=>?_) λe s' p=>p;have fin:∀{σ':St}{j:Hp}{v:V}{u:Value},Inv (Jx CX P w K mg base N d a f g A c s H E) [] σ' j s'->Bb v u->Q v j->CE c P w H s Q u s' :=
  λ{σ' j v u} J G q=>⟨v,j,J.os,J.bare,J.base,J.hok,G,q⟩
 cases fl with
 |ret u =>
  obtain⟨v,σ',j,J,G,q⟩:=p;exact fin J G q
 |next =>
  obtain⟨σ',j,J,q⟩:=p;exact fin (v:=V.non) (u:=Value.none) J rfl q
 |brk =>
  obtain⟨_,_,_,q⟩:=p;exact False.elim q
 |cont =>
  obtain⟨_,_,_,q⟩:=p;exact False.elim q
section
variable{X:Cx}{x:Str}{p pos:Pos}{e:Expr}{es:List Expr}{t:TA}{id T:String}{r:List V->Hp->VK->Prop}
def tCB(r:List V->Hp->VK->Prop)(t:TA):TE:=fun σ H Q=>t σ H λvs H1=>r vs H1 Q
theorem Au(i:GT X (.builtin id) r)(o:Gl X x)(c:X.mg x=none)(g:bootBuiltins x=some (.builtin id))(d:PA X (e::es) t)(f:x≠"__name__" := by decide)(b:(x==("__debug__" : Str))=false:=by decide)
  (k:starEach (e::es) X.env=(false,eval e X.env)::starEach es X.env:=by rfl) (a:(backTo pos (starEach es X.env)).any (·.1)=false:=by rfl):PE X (.Call (.Name x p) (e::es) [] pos) (tCB r t):=by
 intro pins s σ H Q I h;refine A1f (Lu I o c g ?_ f b);exact PyProof.Rows.callWith_builtin1 (thn (d pos pins s σ H _ I h) λus q ⟨vs,m,j,l,n⟩=>i pins q σ m vs us Q j l n) k a
theorem BR(i:GT X (.type T) r)(o:Gl X x)(c:X.mg x=none)(g:bootBuiltins x=some (.type T))(d:PA X (e::es) t)(f:x≠"__name__" := by decide)(b:(x==("__debug__" : Str))=false:=by decide)
  (k:starEach (e::es) X.env=(false,eval e X.env)::starEach es X.env:=by rfl) (a:(backTo pos (starEach es X.env)).any (·.1)=false:=by rfl):PE X (.Call (.Name x p) (e::es) [] pos) (tCB r t):=by
 intro pins s σ H Q I h;refine A1f (Lu I o c g ?_ f b);exact A1d (thn (d pos pins s σ H _ I h) λus q ⟨vs,m,j,l,n⟩=>i pins q σ m vs us Q j l n) k a
end
end L2
namespace HT
open PySem PyProof.Rows
section
open PySem.SeqAt
open PySem.AutoSeq1 (wpAny_loadPart')
open PySem.MeetsSeq PySem.MeetsSeq2 PySem.MeetsSeq3
end
section
variable{prog:Program}{w:World}{A:Around}{E:Value->Shared->Prop}{s:Shared}
def sIx(n d:Nat):Option Int->Nat
 |none=>d
 |some v=>if v<0 then(v+(n:Int)).toNat else min v.toNat n
end
end HT
namespace L2
open PySem PySem.Spec PyProof.Rows
abbrev TO:=St->Hp->(Option Int->Hp->Prop)->Prop
def PO(X:Cx)(e:Option Expr)(t:TO):Prop :=
 ∀(pins:List (Addr×Obj))(s:Shared)(σ:St)(H:Hp)(Q:Option Int->Hp->Prop),Inv X pins σ H s->t σ H Q ->
  wpAny (model X.prog X.w) X.A (evalPart e X.env) (λu s'=>∃o H',Inv X pins σ H' s'/\IsPart u o/\Q o H') X.xe s
def tNoPart:TO:=λ_ H Q=>Q none H
def tPart(t:TE):TO:=fun σ H Q=>t σ H λx H1=>∃i,x=.int i/\Q (some i) H1
section
variable{X:Cx}{e:Expr}{te:TE}{lo hi:Option Expr}{tl th:TO}{pos p2:Pos}
theorem po_none:PO X none tNoPart:=by
 intro pins s σ H Q I h;rw[evalPart_none];exact X6 ⟨none,H,I,.none,h⟩
theorem QN(h:PE X e te):PO X (some e) (tPart te):=by
 intro pins s σ H Q I f;rw[evalPart_some];refine thn (h pins s σ H _ I f) λu g ⟨x,c,a,b,d⟩=>?_;obtain⟨i,rfl,q⟩:=d;obtain⟨t,rfl⟩:=b;exact⟨some i,c,a,.int i t,q⟩
def SlR(X:Cx)(r:V->Option Int->Option Int->Hp->VK->Prop):Prop :=
 ∀(pins:List (Addr×Obj))(s:Shared)(σ:St)(H:Hp)(x:V)(v vl vu:Value)(lo hi:Option Int)(sl:Addr)(Q:VK),Inv X pins σ H s->Bb x v->s.heap.IsSliceOf sl vl vu .none->IsPart vl lo->IsPart vu hi->r x lo hi H Q ->
  ∃T id,typeLookup (.type T) "__getitem__" = pure (some (.builtin id))/\s.TypeIs v T/\wpAny (model X.prog X.w) X.A (getItem v (.ref sl)) (EP X pins σ Q) X.xe s
def tSl(r:V->Option Int->Option Int->Hp->VK->Prop)(te:TE)(tl th:TO):TE:=fun σ H Q=>te σ H λx H1=>tl σ H1 λl H2=>th σ H2 λu H3=>r x l u H3 Q
theorem Sn{r:V->Option Int->Option Int->Hp->VK->Prop}(C:SlR X r)(g:PE X e te)(G:PO X lo tl)(E:PO X hi th):PE X (.Subscript e (.Slice lo hi none p2) pos) (tSl r te tl th):=by
 intro pins s σ H Q I h;refine Subscript_ (thn (g pins s σ H _ I h) λv D ⟨x,K,B,p,M⟩=>?_);refine wpAny_Slice (thn (G pins D σ K _ B M) λc y ⟨l,z,O,pl,m⟩=>thn (E pins y σ z _ O m) λd a ⟨u,f,k,N,n⟩=>?_);rw[evalPart_none];refine X6 ?_;have j:Inv X pins σ f {a with heap:=a.heap.push {cls:=.type "slice",data:=.fields #[c,d,.none]} }:=k.kept (t':=a.toks) λb P q=>C2 _ q;obtain⟨T,id,t,o,i⟩:=C pins {a with heap:=a.heap.push {cls:=.type "slice",data:=.fields #[c,d,.none]} } σ f x v c d l u a.heap.objs.size Q j p (Heap.IsSliceOf.new ..) pl N n;show wpAny (model X.prog X.w) X.A (subscriptTail e (.Slice lo hi none p2) v (.ref a.heap.objs.size)) (EP X pins σ Q) X.xe {a with heap:=a.heap.push {cls:=.type "slice",data:=.fields #[c,d,.none]} };exact tail_any (ops:=[.ref a.heap.objs.size,v]) o t i (by with_unfolding_all rfl)
def Uh(xs:List V)(lo hi:Option Int):List V:=(xs.drop (HT.sIx xs.length 0 lo)).take (HT.sIx xs.length xs.length hi-HT.sIx xs.length 0 lo)
theorem SV(xs:List V)(lo hi:Option Int):(Uh xs lo hi).length<=xs.length:=by
 unfold Uh;rw[M9,List.length_drop];lia
end
def ixN(n:Nat)(i:Int):Option Nat:=if 0<=i then(if i<n then some i.toNat else none)else if -(n:Int)<=i then some (i+n).toNat else none
def atI{α:Type}(xs:List α)(i:Int):Option α:=(ixN xs.length i).bind λj=>xs[j]?
theorem ixN_seq{n:Nat}{i:Int}{j:Nat}(h:ixN n i=some j):seqIndex? i n=some j/\j<n/\-(n:Int)<=i/\i<n:=by
 unfold ixN at h;by_cases b:0<=i
 ·rw[X5 b]at h;by_cases a:i<n
  ·rw[X5 a]at h;have e:i.toNat=j:=K0 h;exact⟨by rw[seqIndex_of b a,e],by lia,by lia,a⟩
  ·rw[Z8 a]at h;cases h
 ·rw[Z8 b]at h;by_cases a:-(n:Int)<=i
  ·rw[X5 a]at h;have e:(i+n).toNat=j:=K0 h;exact⟨by rw[seqIndex_neg A0 a,e],by lia,a,by lia⟩
  ·rw[Z8 a]at h;cases h
theorem Vs{α:Type}{xs:List α}{i:Int}{v:α}(h:atI xs i=some v):∃j,seqIndex? i xs.length=some j/\xs[j]?=some v/\j<xs.length/\-(xs.length:Int)<=i/\i<xs.length:=by
 unfold atI at h;cases e:ixN xs.length i with
 |none=>rw[e]at h;cases h
 |some j =>
  rw[e]at h;obtain⟨c,d,a,b⟩:=ixN_seq e;exact⟨j,c,h,d,a,b⟩
theorem Ah{α:Type}{xs:List α}{j:Nat}{v:α}(h:xs[j]?=some v):atI xs (j:Int)=some v:=by
 have a:j<xs.length:=(B9.mp h).1;have e:ixN xs.length (j:Int)=some j:=by
  unfold ixN;rw[X5 A0,X5 A0];simp
 unfold atI;rw[e];exact h
def PlainIx(b:Expr):Prop:=∀o i,subscripted b false o i=operate [o,i] (getItem o i)
def IxR(X:Cx)(r:R2):Prop :=
 ∀(value slice:Expr)(pins:List (Addr×Obj))(s:Shared)(σ:St)(H:Hp)(x y:V)(v u:Value)(Q:VK),Inv X pins σ H s->Bb x v->Bb y u->r x y H Q ->
  subscripted slice false v u=operate [v,u] (getItem v u)->wpAny (model X.prog X.w) X.A (subscriptTail value slice v u) (EP X pins σ Q) X.xe s
def MtR(X:Cx)(id:String)(r:V->List V->Hp->VK->Prop):Prop :=
 ∀(pins:List (Addr×Obj))(s:Shared)(σ:St)(H:Hp)(x:V)(xs:List V)(v:Value)(us:List Value)(Q:VK),Inv X pins σ H s->Bb x v->AR xs us->r x xs H Q ->
  wpAny (model X.prog X.w) X.A (call (.builtin id) (v::us)) (EP X pins σ Q) X.xe s
section
variable{X:Cx}{a b:Expr}{ta tb:TE}{pos:Pos}
theorem Ai{r:R2}(j:IxR X r)(d:PE X a ta)(e:PE X b tb)(c:PlainIx b):PE X (.Subscript a b pos) (tOp r ta tb):=by
 intro pins s σ H Q I h;exact Subscript_ (binT d e I h λv u g x y i k l f q=>j a b pins g σ i x y v u Q k l f q (c _ _))
def rIxL(K:W.Frag):R2:=λx y H Q=>∃p xs i v,x=.ref p/\y=.int i/\SqL K H p xs/\atI xs i=some v/\Q v H
def FM(K:W.Frag):R2:=λx y H Q=>∃p xs i v,x=.ref p/\y=.int i/\SqT K H p xs/\atI xs i=some v/\Q v H
theorem Av:IxR X (rIxL X.K):=by
 intro f d pins s σ H x y v u Q I M o h l;obtain⟨p,xs,i,z,rfl,rfl,C,A,q⟩:=h;cases M;obtain⟨t,rfl⟩:=o;obtain⟨e,r,pl,P⟩:=I.list C;obtain⟨j,c,D,O,B,E⟩:=Vs A;obtain⟨w,n,g⟩:=r.get D;have G:=r.length;have N:=Rq;have fin:EP X pins σ Q w s:=⟨z,H,I,g,q⟩
 by_cases m:0<=i
 ·have k:i.toNat=j:=by
   rw[seqIndex_of m E]at c;exact K0 c
  exact item_listR pl.isList m A0 (by rw[k];simpa using n) fin l
 ·have k:(i+(e.toArray.size:Int)).toNat=j:=by
   rw[seqIndex_neg A0 B]at c;rw[F8,<-G];exact K0 c
  exact subscriptTail_builtinR (x:=w) pl.isList.typeIs slot_list_getitem.lookup
   (wpAny_getItem_list_neg (Q:=λr s'=>r=w/\EP X pins σ Q r s') pl.isList A0 (by rw[F8]<;>lia) A0 (by rw[k];simpa using n) ⟨rfl,fin⟩) l
theorem Aj:IxR X (FM X.K):=by
 intro c d pins s σ H x y v u Q I C g h f;obtain⟨p,xs,i,z,rfl,rfl,B,n,q⟩:=h;cases C;obtain⟨t,rfl⟩:=g;obtain⟨l,r,pl,M⟩:=I.tuple B;obtain⟨j,m,o,D,N,E⟩:=Vs n;obtain⟨w,k,e⟩:=r.get o;have A:=r.length;have G:=Rq;have fin:EP X pins σ Q w s:=⟨z,H,I,e,q⟩
 exact subscriptTail_builtinR (x:=w) pl.typeIs slot_tuple_getitem.lookup
  (getItem_tuple (j:=j) (Q:=λr s'=>r=w/\EP X pins σ Q r s') pl A0 A0 (by rw[F8,<-A];exact m) (by simpa using k) ⟨rfl,fin⟩) f
theorem QG(lo c:Option Int)(n:Nat):(sliceBounds lo c none n).1=((HT.sIx n 0 lo:Nat):Int)/\(sliceBounds lo c none n).2.1=((HT.sIx n n c:Nat):Int)/\(sliceBounds lo c none n).2.2=1:=by
 refine⟨?_,?_,rfl⟩
 ·cases lo with
  |none=>simp[sliceBounds,HT.sIx]
  |some i =>
   simp only[sliceBounds,HT.sIx,Option.getD_none,show(1:Int) > 0 by decide,A4d];by_cases h:i<0
   ·simp only[h,A4d]<;>lia
   ·simp only[h,A3a]<;>lia
 ·cases c with
  |none=>simp[sliceBounds,HT.sIx]
  |some i =>
   simp only[sliceBounds,HT.sIx,Option.getD_none,show(1:Int) > 0 by decide,A4d];by_cases h:i<0
   ·simp only[h,A4d]<;>lia
   ·simp only[h,A3a]<;>lia
theorem OZ(c:List Value)(lo d:Option Int):slicePick c.toArray lo d none=((c.drop (HT.sIx c.length 0 lo)).take (HT.sIx c.length c.length d-HT.sIx c.length 0 lo)).toArray:=by
 obtain⟨f,g,e⟩:=QG lo d c.toArray.size;unfold slicePick;rw[f,g,e];simp only[sliceRange_one,pick_run,F8]<;>rfl
def rSlL(K:W.Frag):V->Option Int->Option Int->Hp->VK->Prop:=λx lo hi H Q=>∃a xs,x=.ref a/\SqL K H a xs/\∀p,H p=none->Q (.ref p) (upd H p (.lst (Uh xs lo hi)))
theorem UM:SlR X (rSlL X.K):=by
 intro pins s σ H x v m t lo d p Q I l f pl j h;obtain⟨a,xs,rfl,i,q⟩:=h;cases l;obtain⟨g,r,e,k⟩:=I.list i;have c:=r.length;refine⟨"list",_,slot_list_getitem.lookup,e.isList.typeIs,?_⟩;refine wpAny_getItem_list_slice e.isList f pl j .none A6 ?_ (by rw[F8]<;>lia);rw[OZ,<-c];refine⟨.ref s.heap.objs.size,_,I.laid (t':=s.toks) (o:=.lst (Uh xs lo d)) (λb n q=>C2 _ q) (C5 _) ?_,rfl,q _ (I.hok.fresh (C5 _))⟩;exact⟨D0 (SV xs lo d) k,_,0,(r.drop (HT.sIx xs.length 0 lo)).take (HT.sIx xs.length xs.length d-HT.sIx xs.length 0 lo),D5 _ rfl⟩
def LX:V->Bool
 |.non=>true
 |.bl _=>true
 |.int _=>true
 |.str _=>true
 |_=>false
def eqV:V->V->Bool
 |.non,.non=>true
 |.bl a,.bl b=>a==b
 |.bl a,.int b=>(if a then 1 else 0)==b
 |.int a,.bl b=>a==(if b then 1 else 0)
 |.int a,.int b=>a==b
 |.str a,.str b=>a==b
 |_,_=>false
theorem eqAt_V{A:Around}{s:Shared}{y x:V}{u v:Value}(d:Bb y u)(c:Bb x v)(e:LX y=true)(fx:LX x=true):SeqAt.EqAt A s u v (eqV y x):=by
 cases y with
 |non =>
  cases d;cases x with
  |non=>cases c;exact SeqAt.EqAt.same _
  |bl b=>cases c;exact SeqAt.EqAt.none_bool b
  |int b=>obtain⟨t,rfl⟩:=c;exact SeqAt.EqAt.none_int b t
  |str b=>obtain⟨t,rfl⟩:=c;exact SeqAt.EqAt.none_str b t
  |_=>exact absurd (show false=true from fx) C7
 |bl a =>
  cases d;cases x with
  |non=>cases c;exact SeqAt.EqAt.bool_none a
  |bl b=>cases c;exact SeqAt.EqAt.bool_bool a b
  |int b=>obtain⟨t,rfl⟩:=c;exact SeqAt.EqAt.bool_int a b t
  |str b=>obtain⟨t,rfl⟩:=c;exact SeqAt.EqAt.bool_str a b t
  |_=>exact absurd (show false=true from fx) C7
 |int a =>
  obtain⟨t',rfl⟩:=d;cases x with
  |non=>cases c;exact SeqAt.EqAt.int_none a t'
  |bl b=>cases c;exact SeqAt.EqAt.int_bool a t' b
  |int b=>obtain⟨t,rfl⟩:=c;exact SeqAt.EqAt.int_int a t' b t
  |str b=>obtain⟨t,rfl⟩:=c;exact SeqAt.EqAt.int_str a t' b t
  |_=>exact absurd (show false=true from fx) C7
 |str a =>
  obtain⟨t',rfl⟩:=d;cases x with
  |non=>cases c;exact SeqAt.EqAt.str_none a t'
  |bl b=>cases c;exact SeqAt.EqAt.str_bool a t' b
  |int b=>obtain⟨t,rfl⟩:=c;exact SeqAt.EqAt.str_int a t' b t
  |str b=>obtain⟨t,rfl⟩:=c;exact SeqAt.EqAt.str_str a t' b t
  |_=>exact absurd (show false=true from fx) C7
 |_=>exact absurd (show false=true from e) C7
def eqU(x:V)(u:Value):Bool:=match u with
 |.none=>eqV .non x
 |.bool b=>eqV (.bl b) x
 |.int i _=>eqV (.int i) x
 |.str z _=>eqV (.str z) x
 |_=>false
theorem eqU_of{x y:V}{u:Value}(r:Bb y u)(f:LX y=true):eqU x u=eqV y x:=by
 cases y with
 |non=>cases r;rfl
 |bl b=>cases r;rfl
 |int i=>obtain⟨t,rfl⟩:=r;rfl
 |str z=>obtain⟨t,rfl⟩:=r;rfl
 |_=>exact absurd (show false=true from f) C7
theorem RK{x:V}:∀{xs:List V}{us:List Value},AR xs us->xs.all LX=true->us.any (eqU x)=xs.any λy=>eqV y x
 |_,_,.nil,_=>rfl
 |y::xs,u::us,.cons r t,f=>by
  rw[List.all_cons,O8]at f;rw[U9,U9,eqU_of r f.1,RK t f.2]
theorem OC{A:Around}{s:Shared}{x:V}{v:Value}(d:Bb x v)(fx:LX x=true):∀{xs:List V}{us:List Value},AR xs us->xs.all LX=true->∀u∈us,SeqAt.EqAt A s u v (eqU x u)
 |_,_,.nil,_=>λu c=>by cases c
 |y::xs,u::us,.cons r t,f=>λe c=>by
  rw[List.all_cons,O8]at f;rcases C1.mp c with rfl|c
  ·rw[eqU_of r f.1];exact eqAt_V r d f.1 fx
  ·exact OC d fx t f.2 e c
def inV(x:V)(xs:List V):Bool:=xs.any λy=>eqV y x
def rIn(K:W.Frag)(neg:Bool):R2:=λx y H Q=>∃p xs,y=.ref p/\(SqL K H p xs\/SqT K H p xs)/\LX x=true/\xs.all LX=true/\Q (.bl (if neg then !inV x xs else inV x xs)) H
theorem Wd:OpR X (compareOp .In) (rIn X.K false):=by
 intro pins s σ H x y v u Q I f g h;obtain⟨p,xs,rfl,d,fx,fs,q⟩:=h;cases g;rcases d with d|d
 ·obtain⟨c,r,pl,i⟩:=I.list d;refine SeqAt.in_listAt (eqU x) pl.isList (λw e=>OC f fx r fs w (by simpa using e)) ⟨.bl _,H,I,rfl,?_⟩;rw[show c.toArray.any (eqU x)=c.any (eqU x) by simp,RK r fs];exact q
 ·obtain⟨c,r,pl,i⟩:=I.tuple d;refine SeqAt.in_tupleAt (eqU x) pl (λw e=>OC f fx r fs w (by simpa using e)) ⟨.bl _,H,I,rfl,?_⟩;rw[show c.toArray.any (eqU x)=c.any (eqU x) by simp,RK r fs];exact q
theorem Dk:GT X (.builtin "len") (λxs H Q=>∃p ys,xs=[.ref p]/\(SqL X.K H p ys\/SqT X.K H p ys)/\Q (.int ys.length) H):=by
 intro pins s σ H xs us Q I r h;obtain⟨p,ys,rfl,d,q⟩:=h;obtain⟨u,rfl,i⟩:=Uu r;cases i;have j:=Rq;rcases d with d|d
 ·obtain⟨e,f,pl,g⟩:=I.list d;have c:=f.length;exact Calls.call_len_list pl.isList (by simp only[F8]<;>lia) ⟨.int ys.length,H,I.tok _,⟨s.toks+1,by rw[F8,c]⟩,q⟩
 ·obtain⟨e,f,pl,g⟩:=I.tuple d;have c:=f.length;exact len_tuple pl (by simp only[F8]<;>lia) ⟨.int ys.length,H,I.tok _,⟨s.toks+1,by rw[F8,c]⟩,q⟩
theorem IK:GT X (.builtin "len") (λxs H Q=>∃z,xs=[.str z]/\z.length<=sizeLine/\Q (.int z.length) H):=by
 intro pins s σ H xs us Q I r h;obtain⟨z,rfl,d,q⟩:=h;obtain⟨u,rfl,t,rfl⟩:=Uu r;have c:=Rq;exact len_str A0 ⟨.int z.length,H,I.tok _,⟨_,rfl⟩,q⟩
theorem BZ:GT X (.type "tuple") (λxs H Q=>∃p ys,xs=[.ref p]/\((SqL X.K H p ys/\∀l,H l=none->Q (.ref l) (upd H l (.tup ys)))\/(SqT X.K H p ys/\Q (.ref p) H))):=by
 intro pins s σ H xs us Q I r h;obtain⟨p,ys,rfl,h⟩:=h;obtain⟨u,rfl,m⟩:=Uu r;cases m;rcases h with ⟨f,q⟩|⟨f,q⟩
 ·obtain⟨c,d,pl,j⟩:=I.list f;have g:=d.length;refine call_tuple_list pl.isList (λh' kp=>?_) (by simp only[F8]<;>lia);have i:Inv X pins σ H {s with heap:=h'}:=I.kept (t':=s.toks) kp
  have k:Inv X pins σ (upd H h'.objs.size (.tup ys)) {s with heap:=h'.push {cls:=.type "tuple",data:=.seq c.toArray} } :=
   i.laid (t':=s.toks) (λb o e=>C2 _ e) (C5 _) (show BD X.prog X.w _ _ _ (.tup ys)from⟨j,c,d,IsTup.new _ _⟩)
  exact⟨.ref h'.objs.size,_,k,rfl,q _ (i.hok.fresh (C5 _))⟩
 ·obtain⟨c,d,pl,j⟩:=I.tuple f;exact call_tuple_same pl ⟨.ref p,H,I,rfl,q⟩
def tyV(K:W.Frag)(T:String)(x:V)(H:Hp):Prop:=match x with
 |.str _=>T="str"
 |.int _=>T="int"
 |.ref p=>(T="list" /\ ∃xs,SqL K H p xs)\/(T="tuple" /\ ∃o,K.lookup p=some o/\o.cls=.type "tuple" /\ o.dict=none) \/
   (T="dict" /\ ((∃kvs,H p=some (.dK kvs))\/∃kvs,H p=some (.dT kvs)))\/(T="set" /\ ∃S n,H p=some (.set S n))
 |_=>False
theorem tyV_is{pins:List (Addr×Obj)}{σ:St}{H:Hp}{s:Shared}{T:String}{x:V}{v:Value}(I:Inv X pins σ H s)(r:Bb x v)(ty:tyV X.K T x H) :
  s.TypeIs v T/\∀a,v=.ref a->∃k,s.heap.get? a=some k/\k.dict=none:=by
 cases x with
 |str z =>
  obtain⟨t,rfl⟩:=r;cases(show T="str" from ty);exact⟨typeIs_str s z t,λ_ e=>nomatch e⟩
 |int i =>
  obtain⟨t,rfl⟩:=r;cases(show T="int" from ty);exact⟨typeIs_int s i t,λ_ e=>nomatch e⟩
 |ref p =>
  cases r;rcases ty with ⟨rfl,xs,q⟩|⟨rfl,o,d,m,g⟩|⟨rfl,d⟩|⟨rfl,S,n,d⟩
  ·obtain⟨l,_,pl,_⟩:=I.list q;refine⟨pl.isList.typeIs,λa e=>?_⟩;cases e;obtain⟨o,n,e,c,g,_⟩:=pl;exact⟨o,e,g⟩
  ·refine⟨⟨o,I.kIn p o d,m⟩,λa e=>?_⟩;cases e;exact⟨o,I.kIn _ o d,g⟩
  ·have z:∃o,s.heap.get? p=some o/\o.ExactDict:=by
    rcases d with ⟨j,d⟩|⟨j,d⟩
    ·obtain⟨_,_,_,_,o,_,_,e,f,_⟩:=I.hok p _ d;exact⟨o,e,f⟩
    ·obtain⟨_,_,_,_,o,_,_,e,f,_⟩:=I.hok p _ d;exact⟨o,e,f⟩
   obtain⟨o,e,f⟩:=z;refine⟨⟨o,e,f.1⟩,λa h=>?_⟩;cases h;exact⟨o,e,f.2.1⟩
  ·obtain⟨o,_,_,_,e,f,_⟩:=I.hok p _ d;refine⟨⟨o,e,f.1⟩,λa h=>?_⟩;cases h;exact⟨o,e,f.2.1⟩
 |_=>exact False.elim ty
def tBM(K:W.Frag)(T:String)(r:V->List V->Hp->VK->Prop)(to:TE)(t:TA):TE:=fun σ H Q=>to σ H λx H1=>tyV K T x H1/\t σ H1 λxs H2=>r x xs H2 Q
variable{o e:Expr}{es:List Expr}{to:TE}{t:TA}{name:Str}{apos cpos:Pos}{T id:String}{r:V->List V->Hp->VK->Prop}
theorem GK(q:PlainAttrs T)(g:Slot T name id)(j:typeOf (.builtin id)=pure (.type "method_descriptor"))(D:MtR X id r)(N:PE X o to)(y:PA X (e::es) t)
  (d:attributeBase o name X.env (eval o X.env)=eval o X.env:=by rfl)
  (i:((backTo cpos (starEach (e::es) X.env)).all (λx=>!x.1) && (backToKw cpos (keywordEach [] X.env)).all (λx=>x.1.isSome)
   && decide ((e::es).length+([]:List Keyword).length+(if([]:List Keyword).isEmpty then 0 else 1)<30))=true:=by rfl)
  (f:(apos.endLine==cpos.line)=true:=by rfl) (n:starEach (e::es) X.env=(false,eval e X.env)::starEach es X.env:=by rfl) (c:(backTo cpos (starEach es X.env)).any (·.1)=false:=by rfl) :
  PE X (.Call (.Attribute o name apos) (e::es) [] cpos) (tBM X.K T r to t):=by
 intro pins s σ H Q I h;refine wpAny_Call_method_late d i f rfl (thn (N pins s σ H _ I h) λv C ⟨x,E,m,l,ty,G⟩=>?_);obtain⟨p,B⟩:=tyV_is m l ty;refine⟨T,id,q,g,j,p,B,?_⟩;have k:=y cpos pins C σ E _ m G;rw[n]at k⊢;refine A6c (by show(false || (backTo cpos (starEach es X.env)).any (·.1))=false;rw[c]<;>rfl) (A4a ?_);exact thn k λus z ⟨vs,A,M,u,w⟩=>D pins z σ A x vs v us Q M l u w
end
def MtM(X:Cx)(id:String)(r:V->List V->Hp->VK->Prop):Prop :=
 ∀(pins:List (Addr×Obj))(s:Shared)(σ:St)(H:Hp)(x:V)(xs:List V)(v:Value)(us:List Value)(Q:VK),Inv X pins σ H s->Bb x v->AR xs us->r x xs H Q ->
  wpAny (model X.prog X.w) X.A (call (.builtin id) (v::us)) (EP X pins σ Q) X.xe s
theorem AR.one:∀{x:V}{us:List Value},AR [x] us->∃u,us=[u]/\Bb x u
 |_,_,.cons r .nil=>⟨_,rfl,r⟩
theorem AR.two:∀{x y:V}{us:List Value},AR [x,y] us->∃u v,us=[u,v]/\Bb x u/\Bb y v:=by
 intro x y us h;cases h with
 |cons r t=>cases t with
  |cons q t=>cases t;exact⟨_,_,rfl,r,q⟩
theorem AR.rep{xs:List V}{us:List Value}(h:AR xs us):∀k:Nat,AR (List.replicate k xs).flatten (List.replicate k us).flatten
 |0=>.nil
 |k+1=>by
  rw[S2,S2,U5,U5];exact AR.append h (AR.rep h k)
theorem PZ(a:List Value):∀(k:Nat)(b:List Value),
  List.foldl (λf d=>f++d) b.toArray (List.replicate k a.toArray)=(b++(List.replicate k a).flatten).toArray
 |0,b=>by simp
 |k+1,b=>by
  have e:b.toArray++a.toArray=(b++a).toArray:=by simp
  have c:(b++a)++(List.replicate k a).flatten=b++(List.replicate (k+1) a).flatten:=by
   rw[S2,U5,R6]
  rw[<-c,<-PZ a k (b++a),<-e,S2,W1]
section
variable{X:Cx}{pins:List (Addr×Obj)}{σ:St}{H:Hp}{s:Shared}{l b:Addr}{xs ys zs:List V}
theorem Inv.lset{a its':List Value}{n:Nat}{f:Array Value->Array Value}{t':Nat}(I:Inv X pins σ H s)(h:H l=some (.lst xs))
  (e:s.heap.get? l=some {cls:=.type "list",data:=.seq a.toArray n}) (g:f a.toArray=its'.toArray) (i:AR ys its') (j:ys.length<=sizeLine) :
  Inv X pins σ (upd H l (.lst ys)) {s with heap:=s.heap.update l (Obj.mapSeq f),toks:=t'}:=by
 have q:=PySem.IsL.update e f;rw[g]at q;refine I.write (x:=l) (e:=l) (by rw[h];exact trivial) (.inl rfl) (λk u c d=>(O5 s.heap (Obj.mapSeq f) (K1 c)).trans d) ⟨_,q⟩ ?_;exact⟨j,its',_,i,q⟩
theorem Inv.lnew{a:List Value}{t':Nat}(I:Inv X pins σ H s)(d:AR ys a)(c:ys.length<=sizeLine) :
  Inv X pins σ (upd H s.heap.objs.size (.lst ys)) {s with heap:=s.heap.push {cls:=.type "list",data:=.seq a.toArray},toks:=t'} :=
 I.laid (λ_ _ q=>C2 _ q) (C5 _) ⟨c,a,0,d,D5 _ rfl⟩
theorem Inv.fresh(I:Inv X pins σ H s):H s.heap.objs.size=none:=I.hok.fresh (C5 _)
theorem Inv.lstM(I:Inv X pins σ H s)(c:H l=some (.lst xs)):xs.length<=sizeLine/\∃(a:List Value)(n:Nat),AR xs a/\xs.length=a.length/\s.heap.get? l=some {cls:=.type "list",data:=.seq a.toArray n}:=by
 obtain⟨z,a,n,r,e⟩:=I.hok l _ c;exact⟨z,a,n,r,r.length,e⟩
theorem Zi{n:Nat}(h:n<=sizeLine):Builtin.List.listTooLong n=false:=by
 unfold Builtin.List.listTooLong;exact X4 A0
end
section
variable{X:Cx}
def US:V->List V->Hp->VK->Prop:=λx vs H Q=>∃l xs y,x=.ref l/\vs=[y]/\H l=some (.lst xs)/\xs.length<sizeLine/\Q .non (upd H l (.lst (xs++[y])))
theorem Ek:MtM X "list.append" US:=by
 intro pins s σ H x vs v us Q I f c h;obtain⟨l,xs,y,rfl,rfl,b,i,q⟩:=h;cases f;obtain⟨u,rfl,d⟩:=c.one;obtain⟨z,a,n,r,g,e⟩:=I.lstM b;refine A2b F.slot_list_append ⟨_,e,rfl⟩ F.entry_list_append (F.args_list_append_2 _ _) (PySem.list_append l a.toArray n u (by rw[F8];lia)) ⟨e,?_⟩;refine⟨.non,_,I.lset (its':=a++[u]) b e A6 (r.append (.cons d .nil)) ?_,rfl,q⟩;rw[C6,R5];lia
def rCat:R2:=λx y H Q=>∃l b xs zs,x=.ref l/\y=.ref b/\H l=some (.lst xs)/\H b=some (.lst zs)/\xs.length+zs.length<=sizeLine/\∀p,H p=none->Q (.ref p) (upd H p (.lst (xs++zs)))
theorem QT:OpR X (binaryOp .Add) rCat:=by
 intro pins s σ H x y v u Q I o d h;obtain⟨l,b,xs,p,rfl,rfl,i,f,B,q⟩:=h;cases o;cases d;obtain⟨z,c,n,r,t,e⟩:=I.lstM i;obtain⟨w,a,A,m,j,g⟩:=I.lstM f;refine PySem.P.add_list e g ?_ (by rw[F8,F8];lia);have k:c.toArray++a.toArray=(c++a).toArray:=by simp
 rw[k];exact⟨.ref _,_,I.lnew (t':=s.toks) (r.append m) (by rw[C6];lia),rfl,q _ I.fresh⟩
def rRep:R2:=λx y H Q=>∃l k xs,x=.ref l/\y=.int k/\H l=some (.lst xs)/\-(2^63)<=k/\k<2^63/\xs.length*k.toNat<=sizeLine /\
 ∀p,H p=none->Q (.ref p) (upd H p (.lst (List.replicate k.toNat xs).flatten))
theorem len_rep{α:Type}(xs:List α)(k:Nat):(List.replicate k xs).flatten.length=k*xs.length:=by
 induction k with
 |zero=>simp
 |succ k a=>rw[S2,U5,C6,a,Nat.succ_mul,Nat.add_comm]
theorem op_rep:OpR X (binaryOp .Mult) rRep:=by
 intro pins s σ H x y v u Q I G w h;obtain⟨l,k,xs,rfl,rfl,B,C,D,p,q⟩:=h;cases G;obtain⟨t,rfl⟩:=w;obtain⟨z,b,n,r,E,e⟩:=I.lstM B;have g:b.toArray.size*k.toNat<=sizeLine:=by rw[F8,<-E];exact p
 have d:¬b.toArray.size*k.toNat > (2^63-1)/8:=by
  have:(sizeLine:Nat)<=(2^63-1)/8:=by decide
  lia
 have f:¬(!Builtin.List.listFitsIndex k)=true:=by
  rw[fitsIndex_both C D];exact C7
 have c:¬Builtin.List.listTooLong (b.toArray.size*k.toNat)=true:=by
  rw[Zi g];exact C7
 have i:List.foldl (λo j=>o++j) #[] (List.replicate (if b.toArray.isEmpty=true then 0 else k.toNat) b.toArray)=(List.replicate k.toNat b).flatten.toArray:=by
  have A:∀m:Nat,List.foldl (λo j=>o++j) #[] (List.replicate m b.toArray)=(List.replicate m b).flatten.toArray:=λm=>by
   have:=PZ b m [];rw[List.nil_append]at this;exact this
  rw[A];cases b with
  |nil=>simp
  |cons a K=>rw[Z8 A6]
 refine wpAny_binaryOp_repeat_ref (T:="list") (U:="int") A3 ⟨_,e,rfl⟩ (λs'=>typeIs_int s' k t) noFill_list_mul F.fills_int_mul F.slot_int_rmul repeat_list F.slot_int_index.lookup
  (A2b F.slot_int_rmul (typeIs_int s k t) F.entry_int_rmul (F.args_int_rmul_2 _ _) (int___rmul___int_list k t l b.toArray n)
   ⟨e,rfl,⟨_,e,rfl⟩,A2b F.slot_list_mul ⟨_,e,rfl⟩ F.entry_list_mul (F.args_list_mul_2 _ _) (AutoListH.list___mul___list_int_3 l b.toArray n k t f d c) ⟨e,?_⟩⟩)
 rw[i];exact⟨.ref _,_,I.lnew (t':=s.toks) (r.rep k.toNat) (by rw[len_rep,V7];exact p),rfl,q _ I.fresh⟩
end
section
variable{prog:Program}{w:World}{A:Around}{E:Value->Shared->Prop}{s:Shared}
end
section
variable{X:Cx}
end
end L2
namespace Att
open PySem PySem.W PySem.Calls PyProof.Rows
theorem Nb{P:Params}{h:Heap}:∀(ns:List Int)(vs:List Value),WellAll P h vs (ns.map WData.int)->IntsAre vs ns:=by
 intro ns;induction ns with
 |nil =>
  intro vs w;rw[List.map_nil]at w;cases w;exact .nil
 |cons n ns c =>
  intro vs w;rw[F5]at w;cases w with
  |cons a b =>
   cases a;exact .cons _ _ (c _ b)
theorem VU{l:OpenLaw}{n:Nat}(s:l.most=some n){P:Params}{h:Heap}{args:List WData}{c:List Value}
  (b:l.row.toRowW.claim.pre args=true) (j:WellAll P h c args) :
  ∃a vs ns,c=[Value.ref a]/\args=[WData.list (ns.map WData.int)]/\h.get? a=some {cls:=.type "list",data:=.seq vs.toArray}/\IntsAre vs ns/\ns.length<=n:=by
 have k:WShape.hasAll [] args [.list .int]=true:=(pre_splitW b).1;have m:l.pre.holds [] {args:=args}=true:=(pre_splitW b).2;obtain⟨d,r,rfl,t,u⟩:=hasAllW_cons k;obtain rfl:=hasAllW_nil u;obtain⟨xs,rfl,o⟩:=hasW_list t;obtain⟨ns,rfl⟩:=items_int o;have e:ns.length<=n:=by
  unfold OpenLaw.pre at m;have i:(WTm.not (.lt (.lit (.int (n:Int))) (.len (.arg 0)))).holds [] {args:=[.list (ns.map .int)]}=true:=by
   have i:=(holds_andW m).1;rw[s]at i;exact i
  have g:=condW_of i (w_not (w_lt w_lit (w_len_list (w_arg rfl))));rw[B8]at g;refine P4 λq=>?_;have x:(n:Int)<((ns.length:Nat):Int):=by lia
  first
   | (rw[Z7 x]at g;exact absurd g A3)
   | (simp at g;lia)
 cases j with
 |cons p v =>
  cases v;cases p with
  |list w f=>exact⟨_,_,ns,rfl,rfl,w,Nb ns _ f,e⟩
theorem VY(l:OpenLaw)(args:List WData):l.row.toRowW.claim.post args (.bool true) args=true :=
 postW_of (r:=l.row.toRowW) (X:=(true==true))
  (show WShape.has [] (.bool true) .bool=true by first|rfl|decide|simp[WShape.has,WShape.arms,WShape.armsAll])
  (show(WTm.eq .res (.lit (.bool true))).value [] {args:=args,res:=some (.bool true),after:=args}=some (.bool (true==true))from w_eq_bool (w_res rfl) w_lit) rfl
theorem Te{l:OpenLaw}{n:Nat}{q:Program}{c:List Str}{B:(Str->Option Value)->Heap->Prop}{C:World->Heap->Prop}{d:DefRec}
  (H:l.most=some n) (v:d.params.defaults=[])
  (call:∀(w:World)(e b:Shared)(mg t:Str->Option Value)(j:Addr)(o:Obj)(y p g:Value)(a:Addr)(vs:List Value)(ns:List Int),
   Ground q c [] B w e mg t b.heap->C w b.heap ->
   b.heap.get? j=some o->o.data=.func (docDef d.name d.params d.body d.scope y p g)->b.heap.CodeRec p d.name->mg d.name=some (.ref j) ->
   b.heap.get? a=some {cls:=.type "list",data:=.seq vs.toArray}->IntsAre vs ns->ns.length<=n->b.gens=#[] ->
   codeAny (model l.prog w) callerA (.call (.ref j) ⟨[.ref a],[]⟩) (λr s'=>r=.ok (.ret (.bool true))/\OldK b.heap s'.heap/\s'.os=b.os/\AllBare s'.gens) b) :
  WalkO q c B C l.row.toRowW d [] (λf vs=>PySem.call f vs):=by
 intro w e b mg t G Y j o y p g O kV U M x z u K E D as k A R s I;obtain rfl:O=.none:=Dflts.none z v;obtain rfl:kV=.none:=Dflts.noKw z;obtain⟨a,vs,ns,rfl,rfl,i,h,m⟩:=VU H k s;refine enter_call (A3g (call w e b mg t j o y p g a vs ns G Y U (fd_plain M) x u i h m K) λr s' P=>?_);obtain⟨rfl,S,N,Q⟩:=P;exact⟨.inl ⟨.bool true,.bool true,[],rfl,λ_=>rfl,.bool true,VY l _,λ_=>⟨List.Pairwise.nil,λ_ T=>(nomatch T)⟩⟩,S,N,Q⟩
section
variable{prog:Program}{w:World}{A:Around}{E:Value->Shared->Prop}{s:Shared}{K:Frag}
end
end Att
namespace L2
open PySem PySem.Spec PyProof.Rows
theorem PB:∀{vs:List Value}{ns:List Int},IntsAre vs ns->AR (ns.map V.int) vs
 |_,_,.nil=>.nil
 |_,_,.cons n t h=>.cons ⟨t,rfl⟩ (PB h)
def Only(H:Hp):Prop:=∀b,H b=none\/∃o xs,H b=some (.frz o (.lst xs))
theorem ZF{P:Program}{w:World}{K:W.Frag}{mg R:Str->Option Value}{CX:CXT}{k:Nat}{Q a:Addr}{Z:FuncData}{x:Str}{sp:Sp}{c:Shared}{vs:List Value}{ns:List Int}
  (KX:K.In c.heap) (E:c.heap.Ns mainGlobals mg) (g:c.heap.Ns builtinsNs R) (O:∀x:Str,x≠"__name__" -> R x=bootBuiltins x) (D:c.heap.NoLimit) (hg:c.gens=#[])
  (M:c.heap.get? a=some {cls:=.type "list",data:=.seq vs.toArray}) (hi:IntsAre vs ns) (hl:ns.length<=sizeLine) (hr:CF k callerA)
  (F:∀base:Heap,K.In base->base.Ns mainGlobals mg->AJ P w K mg base CX k Q Z [x] sp) (l:∀(s:Shared)(u:Value),BindsTo s Z ⟨[u],[]⟩ [(x,u)])
  (U:∀H:Hp,Only H->SqL K H a (ns.map V.int)->sp [.ref a] H (λv _=>v=.bl true) λ_ _ _=>False)
  (X:∀H e s',CX [] H c (λ_ _ _=>False) e s'->False) :
  codeAny (model P w) callerA (.call (.ref Q) ⟨[.ref a],[]⟩) (λr s'=>r=.ok (.ret (.bool true))/\OldK c.heap s'.heap/\s'.os=c.os/\AllBare s'.gens) c:=by
 have rv:=PB hi;have C:=hi.length;have j:∀H:Hp,Only H->SqL K H a (ns.map V.int)->HOk P w H c.heap->(∀b,H b≠none->b=a)->(H a≠none->K.lookup a=none) ->
   codeAny (model P w) callerA (.call (.ref Q) ⟨[.ref a],[]⟩) (λr s'=>r=.ok (.ret (.bool true))/\OldK c.heap s'.heap/\s'.os=c.os/\AllBare s'.gens) c:=by
  intro H hO hS B hA hK;have f:∀{b:Addr}{o:Obj},c.heap.get? b=some o->H b=none->(Ru c.heap H).get? b=some o:=λe n=>ZQ e n;have S:∀{b:Addr}{o:Obj}{A:Array DictEntry}{p:Nat},c.heap.get? b=some o->o.data=.dict A p->H b=none:=λ{b o A p} e d=>by
   cases q:H b with
   |none=>rfl
   |some u =>
    have T:b=a:=hA b (by rw[q];simp);subst T;rw[M]at e;cases e;have d':Data.seq vs.toArray _=Data.dict A p:=d;cases d'
  have i:∀{b:Addr}{m:Str->Option Value},c.heap.Ns b m->(Ru c.heap H).Ns b m:=λ{b m} ⟨o,A,p,e,d,r⟩=>⟨o,A,p,f e (S e d),d,r⟩
  have y:K.In (Ru c.heap H):=λb o e=>f (KX b o e) (by
   cases q:H b with
   |none=>rfl
   |some u =>
    have T:b=a:=hA b (by rw[q];simp);subst T;rw[hK (by rw[q];simp)]at e;cases e)
  have hM:Mod K mg (Ru c.heap H):=⟨y,i E,⟨R,i g,O⟩,let ⟨mc,h1,h2⟩:=D;⟨mc,i h1,h2⟩⟩
  have e0:Tn P w K mg (Ru c.heap H) callerA [] c H:=⟨rfl,hM,λb o e=>of_hidT e,Nat.le_of_eq (WF _ _),trivial,λb g=>absurd (show b∈([]:List Addr)from g) A6,B,.of_eq hg⟩
  refine A3g ((F _ y (i E)).run callerA [] c H ⟨[.ref a],[]⟩ [.ref a] [.ref a] _ _ hr e0 (l c (.ref a)) (.cons rfl .nil) (U H hO hS)) λr s' h=>?_;cases r with
  |error e=>exact(X H e s' h).elim
  |ok fl =>
   cases fl with
   |next=>exact False.elim h
   |brk=>exact False.elim h
   |cont=>exact False.elim h
   |ret u =>
    obtain⟨v,H',t,bare,un,G,r',q⟩:=h;have q':v=.bl true:=q;subst q';obtain rfl:u=Value.bool true:=r';refine⟨rfl,OldK.of_keep λb o e=>?_,t,bare⟩;cases q:H b with
    |none=>exact un.keep b o e q (by intro z;exact absurd (show b∈([]:List Addr)from z) A6) A6
    |some u =>
     rcases hO b with z|⟨ob,xs,z⟩
     ·rw[q]at z;cases z
     ·have z2:=un.frzs b ob _ z;obtain⟨Y,_⟩:=B b _ z;obtain⟨e2,_⟩:=G b _ z2;rw[e]at Y;cases Y;exact e2
 cases N:K.lookup a with
 |some o =>
  have e:=KX a o N;rw[M]at e;cases e;refine j (λ_=>none) (λ_=>.inl rfl) (.inr ⟨_,vs.toArray,_,N,rfl,rfl,rfl,by rw[F8,C];exact hl,by simpa using rv⟩) (λb u z=>by have I:(none:Option HO)=some u:=z;cases I) (λb z=>absurd rfl z) λz=>absurd rfl z
 |none =>
  refine j (λb=>if b=a then some (.frz {cls:=.type "list",data:=.seq vs.toArray} (.lst (ns.map V.int)))else none) (λb=>?_) (.inl (.inr ⟨{cls:=.type "list",data:=.seq vs.toArray},X5 rfl⟩)) (λb u z=>?_) (λb z=>?_) λ_=>N
  ·by_cases g:b=a
   ·exact .inr ⟨_,_,X5 g⟩
   ·exact .inl (Z8 g)
  ·by_cases g:b=a
   ·have I:=(X5 g).symm.trans z;cases I;subst g;exact⟨M,by rw[B8];exact hl,vs,_,rv,M⟩
   ·have I:=(Z8 g).symm.trans z;cases I
  ·by_cases g:b=a
   ·exact g
   ·exact absurd (Z8 g) z
theorem Ut{l:W.OpenLaw}{n k:Nat}{q:Program}{i:List Str}{Q:(Str->Option Value)->Heap->Prop}{I:World->Heap->Prop}{d:DefRec}{K:Params->W.Frag}{CX:World->CXT}{sp:World->Sp}{x:Str}
  (M:l.most=some n) (t:n<=sizeLine) (A:d.params.defaults=[]) (X:CF k callerA)
  (O:∀(w:World)(h:Heap),I w h->(K w.params).In h)
  (F:∀(w:World)(mg:Str->Option Value)(r:Addr)(h:Heap),(K w.params).In h->h.Ns mainGlobals mg->mg d.name=some (.ref r) ->
   ∃y:FuncData,(∀(s:Shared)(u:Value),BindsTo s y ⟨[u],[]⟩ [(x,u)]) /\
    ∀base:Heap,(K w.params).In base->base.Ns mainGlobals mg->AJ l.prog w (K w.params) mg base (CX w) k r y [x] (sp w))
  (B:∀(w:World)(H:Hp)(a:Addr)(ns:List Int),ns.length<=n->Only H->SqL (K w.params) H a (ns.map V.int)->sp w [.ref a] H (λv _=>v=.bl true) λ_ _ _=>False)
  (C:∀(w:World)(H:Hp)(s:Shared)(e:Value)(s':Shared),CX w [] H s (λ_ _ _=>False) e s'->False) :
  W.WalkO q i Q I l.row.toRowW d [] (λf vs=>PySem.call f vs):=by
 refine Att.Te M A λw D p mg mb r o pm cd U a vs ns G Y ho hd Z z m j c P=>?_;have E:=O w _ Y;obtain⟨y,hb,R⟩:=F w mg r _ E G.T.g z;exact ZF E G.T.g G.T.b G.T.builtins G.T.nolimit P m j (D0 c t) X R hb (λH S N=>B w H a ns c S N) λH e s'=>C w H p e s'
end L2
/- THE LAST THEOREM (shape;LID,My.* are yours):
 My.Adr: a structure of the addresses that your layer names (classes,functions);My.Txt K t: a structure (Prop) of the equations over K;
 My.txt_mk:{K} {implicit addresses ..} (e1:nsIn K mainGlobals "law" = some (some (.ref f))) (e2:K.lookup f=some ⟨oc,od,.func (fnOf "law" "law" params body scope dV kV doc pm an cdv ct),sl⟩) (e3:codeIn K cdv "law" = true) ..:∃t,My.Txt K t
set_option maxRecDepth 100000 in
set_option maxHeartbeats 0 in
theorem PySem.Challenge.cw_LID_holds:PySem.Challenge.rw_LID.Holds:=by
 w_on;o_law;k_head;(case hw=>w_witness2)
 k_fill
 refine L2.Ut (l:=PySem.Challenge.rw_LID) (n:=63) (k:=40) (x:="script") (CX:=λw=>..) (sp:=λ_=>My.sp_law) rfl A3 rfl ⟨rfl,by decide,by decide⟩ (λw h Y=>PySem.W.kIn_of Y) ?F ?S ?C
 case F =>
  intro w mg fa h KX G hmg;have T:∃t,My.Txt (L2.KOf KX) t:=by
   dsimp only[L2.KOf]                          
   (case e1=>PySem.W.k_is)                    
   (case e2=>PySem.W.k_is)
   ..
  obtain⟨t,T⟩:=T;have e0:=hmg.symm.trans (X7 KX G T.law);cases e0                                       
 case S=>exact λw H a ns hl hO hS=>..
 case C=>exact ..
(the tactic k_is has no namespace: write k_is) -/
namespace L2
open PySem PySem.Spec PyProof.Rows
def AY(s:Stmt)(j:Nat):Stmt:=match s with
 |.ClassDef _ _ _ body _ _ _ _ _ _ _=>body.getD j (.Pass ⟨0,0,0,0⟩)
 |_=>.Pass ⟨0,0,0,0⟩
def LY(s:Stmt):Arguments:=match s with
 |.FunctionDef _ a _ _ _ _ _ _ _ _=>a
 |_=>{posonlyargs:=[],args:=[],vararg:=none,kwonlyargs:=[],kw_defaults:=[],kwarg:=none,defaults:=[]}
def FW(s:Stmt):List Stmt:=match s with
 |.FunctionDef _ _ b _ _ _ _ _ _ _=>b
 |_=>[]
def Ak(s:Stmt):Scope:=match s with
 |.FunctionDef _ _ _ _ _ _ sc _ _ _=>sc
 |_=>{kind:=.function,names:=[],isGenerator:=false,isCoroutine:=false}
abbrev CX0:CXT:=λ_ _ _ _ _ _=>False
abbrev E0:XK:=λ_ _ _=>False
theorem Ao{X:Cx}:EM CX0 X E0:=λ_ _ _ _ _ _ _ h=>h.elim
structure Fun(K:W.Frag)(x qual:Str)(st:Stmt)(f:Addr)(fd:FuncData):Prop where
 ex:∃(oc:Value)(od:Option Addr)(kV doc pm:Value)(an:Option Addr)(cdv ct:Value)(osl:Array (Option Value)),
  fd=W.fnOf x qual (LY st) (FW st) (Ak st) .none kV doc pm an cdv ct/\K.lookup f=some ⟨oc,od,.func fd,osl⟩/\W.codeIn K cdv qual=true
 kp:keepIn K (.ref f)=true
section
variable{P:Program}{w:World}{K:W.Frag}{mg:Str->Option Value}{base:Heap}
theorem Fun.ok{x b:Str}{e:Stmt}{f:Addr}{l:FuncData}{N j:List Str}{k:Nat}{sp:Sp}(F:Fun K x b e f l)(S:Aq N j (Ak e))(len:∀vs H Q E,sp vs H Q E->vs.length=j.length)
  (d:∀(c:Value)(A:Around)(a:List Env)(s:Shared)(H:Hp)(vs:List V)(Q:VK)(E:XK),CF k (A.deeper (envOfC b (Ak e) s.heap.objs.size f c))->sp vs H Q E ->
   ∃t,PSs (Jx CX0 P w K mg base N b (Ak e) f c A a s H E).nox (FW e) t/\t {nx:=λ_ o=>Q .non o,rt:=Q} (GH N vs) H):AJ P w K mg base CX0 (k+1) f l j sp:=by
 obtain⟨y,u,kV,n,B,v,c,z,m,rfl,r,g⟩:=F.ex;refine fn_of r g S len λA a s H vs Q E p i=>?_;obtain⟨t,h,q⟩:=d c A a s H vs Q E p i;exact⟨t,h.nox,q⟩
theorem Fun.binds{x a:Str}{d:Stmt}{f:Addr}{k:FuncData}{e:List Str}(F:Fun K x a d f k)
  (h:∀(kV c g:Value)(j:Option Addr)(b i:Value)(us:List Value),us.length=e.length->bindArgs (W.fnOf x a (LY d) (FW d) (Ak d) .none kV c g j b i) ⟨us,[]⟩=pure (e.zip us)):Ch K k e []:=by
 obtain⟨o,p,kV,c,g,j,b,i,l,rfl,n,m⟩:=F.ex;exact .all (h kV c g j b i)
theorem Ue {x a:Str} {d:Stmt} {f:Addr} {m:Value} {n j:Option Addr} {g:Array (Option Value)} {kV e h b i:Value} (l:K.lookup f=some ⟨m,n,.func (W.fnOf x a (LY d) (FW d) (Ak d) .none kV e h j b i),g⟩)
  (c:W.codeIn K b a=true) (k:keepIn K (.ref f)=true):Fun K x a d f (W.fnOf x a (LY d) (FW d) (Ak d) .none kV e h j b i):=⟨⟨m,n,kV,e,h,j,b,i,g,rfl,l,c⟩,k⟩
end
theorem GO{A:Around}{k:Nat}(a:CF k A):A.units+1<cLine:=M7 (Nat.add_le_add_left (by decide:1<=64) _) a.units
section
variable{X:Cx}
theorem pv(i:Nat){x:Str}{b:Pos}(d:X.N[i]?=some x:=by rfl)(e:Vis X.env.scope x:=by first|exact Or.inl rfl|exact Or.inr (Or.inl rfl)|exact Or.inr (Or.inr rfl))(c:(x==("__debug__" : Str))=false:=by decide)
  (a:(x==("__classdict__" : Str))=false:=by decide):PE X (.Name x b) (Ey i):=pe_var d e c a
end
theorem Bc{A B:Prop}(h:B):if false=true then A else B:=by
 rw[Z8 C7];exact h
theorem BJ{A B:Prop}(h:A):if true=true then A else B:=by
 rw[X5 rfl];exact h
theorem EC{c A B:Prop}[Decidable c](a:c->A)(b:¬c->B):if c then A else B:=by
 by_cases h:c
 ·rw[X5 h];exact a h
 ·rw[Z8 h];exact b h
theorem SR{c A B:Prop}[Decidable c](a:c)(h:B):if(!decide c)=true then A else B:=by
 rw[Z7 a];exact Bc h
def Ax(H H':Hp):Prop:=∀b o,H b=some o->H' b=some o
theorem Ax.refl(H:Hp):Ax H H:=λ_ _ h=>h
theorem Ax.trans{H d e:Hp}(a:Ax H d)(b:Ax d e):Ax H e:=λc o h=>b c o (a c o h)
theorem Ax.seq{K:W.Frag}{H b:Hp}{a:Addr}{xs:List V}(e:Ax H b)(h:SqL K H a xs):SqL K b a xs:=by
 rcases h with (h|⟨o,h⟩)|h
 ·exact .inl (.inl (e _ _ h))
 ·exact .inl (.inr ⟨o,e _ _ h⟩)
 ·exact .inr h
structure Em(hid fs:List Addr)(h h':Heap):Prop where
 keep:∀b o,h.get? b=some o->b∉hid->h'.get? b=some o
 slot:∀b o,b∈fs->h.get? b=some o->∃sl,h'.get? b=some {o with slots:=sl}
 sub:∀b,b∈fs->b∈hid
def Lf(a T:Addr)(cls fl:Value)(h:Heap):Prop :=
 ∃(oe:Obj)(vs:Array Value)(oT:Obj)(ts:Array Value),h.get? a=some oe/\oe.cls=cls/\oe.data=.fields vs/\vs[1]?=some (.ref T)/\vs[2]?=some .none/\T≠a/\h.get? T=some oT/\oT.data=.fields ts/\ts[3]?=some fl
def FlyNew(a:Addr)(cls:Value)(h:Heap):Prop:=∃(oe:Obj)(vs:Array Value),h.get? a=some oe/\oe.cls=cls/\oe.data=.fields vs/\vs[1]?=some .none/\vs[2]?=some .none
def MV(a D:Addr)(h:Heap):Prop:=∃o,h.get? a=some o/\o.cls=.ref D/\∃vs,o.data=.fields vs/\vs[2]?=some .none
theorem Lf.exc{a T D:Addr}{g:Value}{h:Heap}(x:Lf a T (.ref D) g h):MV a D h:=by
 obtain⟨d,vs,_,_,b,c,f,_,e,_⟩:=x;exact⟨d,b,c,vs,f,e⟩
theorem MV.not{a D:Addr}{h:Heap}(x:MV a D h):∃o,h.get? a=some o/\o.cls=.ref D/\notCls o=true:=by
 obtain⟨o,e,c,vs,d,_⟩:=x;exact⟨o,e,c,by unfold notCls;rw[d]⟩
section
variable{M:Model}{A:Around}{E:Value->Shared->Prop}{s:Shared}{b0:Heap}{env:Env}{outer:List Env}{L a T:Addr}{cls fl:Value}{Q:Unit->Shared->Prop}
theorem Qa{i:Obj}{vs:Array Value}{c:Value}{l:Bool}(n:A.frames=some (env::outer))(w:s.heap.FunFrames b0 (env::outer))(G:env.frame=some L)(t:s.heap.get? a=some i)(h:i.data=.fields vs)(u:vs[2]?=some .none)
  (k:∀h' C,Lf a C i.cls (rawInt L) h'->s.heap.get? C=none->Em (a::frs (env::outer)) (frs (env::outer)) s.heap h'->Q () {s with heap:=h'}) :
  wpAny M A (do let x <-frameOf env;let pl <-entryPlaceOf L l;let b <-EntryCells.newEntry c x .none (rawInt L) .none pl;setField (.ref a) 1 b) Q E s:=by
 refine Z6 (wpAny_frameOf_fun n w G λg d=>Z6 (wpAny_entryPlaceOf λpl D=>?_));unfold EntryCells.newEntry newFields;refine Z6 (A5f ?_ (D.sizeOk5 _ _ _ _ _));have v:a∉frs (env::outer):=λz=>by
  obtain⟨_,o,B,l⟩:=w.mem z;rw[t]at B;cases B;exact l vs h
 have j:g.get? a=some i:=(d.2.1 a v).trans t;have sz:1<vs.size:=by
  have:=(U4.mp u).1;omega
 have p:g.objs.size≠a:=U2 (C9 j);have gn:∀b o,s.heap.get? b=some o->∃o',g.get? b=some o':=λb o q=>by
  by_cases z:b∈frs (env::outer)
  ·obtain⟨r,e⟩:=d.2.2 b o q;exact⟨_,e⟩
  ·exact⟨o,(d.2.1 b z).trans q⟩
 refine A4g (C2 _ j) h sz (k _ g.objs.size ⟨_,_,_,_,T8 _ (C2 _ j) (A3h (A1g h _)),Obj.cls_mapFields _ _,A1g h _,?_,?_,p,(O5 _ _ p.symm).trans (D5 _ rfl),rfl,?_⟩ ?_ ?_)
 ·simp[sz]
 ·rw[Array.getElem?_setIfInBounds_ne A3];exact u
 ·first|(simp;done)|(rcases D with rfl|⟨_,_,_,_,_,_,_,rfl⟩<;>simp)
 ·cases q:s.heap.get? g.objs.size with
  |none=>rfl
  |some o =>
   obtain⟨o',H⟩:=gn _ _ q;exact absurd (C9 H) (P1 _)
 ·have kp:∀(x:Obj)(f:Obj->Obj) b o,g.get? b=some o->b≠a->((g.push x).update a f).get? b=some o:=λx f b o q z=>(O5 _ _ (K1 z)).trans (C2 _ q);refine⟨λb o q z=>kp _ _ b o ((d.2.1 b λm=>z (.tail _ m)).trans q) λy=>z (y▸.head _),λb o m q=>?_,λb m=>.tail _ m⟩;obtain⟨r,e⟩:=d.2.2 b o q;exact⟨r,kp _ _ b _ e λy=>v (y▸m)⟩
theorem Ss(j:A.frames=some (env::outer))(v:s.heap.FunFrames b0 (env::outer))(t:env.frame=some L)(D:FlyNew a cls s.heap\/Lf a T cls .none s.heap)
  (k:∀h' c,Lf a c cls (rawInt L) h'->s.heap.get? c=none->Em (a::T::frs (env::outer)) (frs (env::outer)) s.heap h'->Q () {s with heap:=h'}):wpAny M A (noteFrame (.ref a) env) Q E s:=by
 unfold noteFrame;simp only[t];rcases D with ⟨C,vs,e,rfl,i,u,r⟩|⟨C,vs,K,G,e,rfl,i,u,r,H,p,l,x⟩
 ·refine Z6 (A0f e i u ?_);rw[Z8 A3];refine Qa j v t e i r λh' c f n h=>k h' c f n ⟨λb o q z=>h.keep b o q λm=>z ?_,h.slot,λb m=>.tail _ (.tail _ m)⟩;rcases C1.mp m with y|y
  ·exact y▸.head _
  ·exact .tail _ (.tail _ y)
 ·refine Z6 (A0f e i u ?_);rw[X5 (show(Value.ref T != Value.none)=true from by simp)];refine Z6 (A0f p l x ?_);rw[Z8 (by simp[rawInt])];refine Z6 (A4g p l (U4.mp x).1 ?_);have g:∀b,b≠T->(s.heap.update T (Obj.mapFields (·.setIfInBounds 3 Value.none))).get? b=s.heap.get? b:=λb z=>O5 _ _ (K1 z);have w:∀b o,s.heap.get? b=some o->(∀vs,o.data≠.fields vs)->b≠T:=λb o q d z=>by
   rw[z,p]at q;cases q;exact d G l
  have B:∀b,b∈frs (env::outer)->b≠T:=λb m=>by
   obtain⟨_,o,I,d⟩:=v.mem m;exact w b o I d
  refine Qa (s:={s with heap:=s.heap.update T (Obj.mapFields (·.setIfInBounds 3 Value.none))}) j (v.of_keeps λb o q d=>⟨o,(g b (w b o q d)).trans q,rfl⟩) t ((g a (K1 H)).trans e) i r λh' c f n h=>k h' c f ?_ ⟨λb o q z=>?_,λb o m q=>h.slot b o m ((g b (B b m)).trans q),λb m=>.tail _ (.tail _ m)⟩
  ·by_cases z:c=T
   ·rw[z,T8 _ p (A3h (A1g l _))]at n;cases n
   ·rw[<-g c z];exact n
  ·refine h.keep b o ((g b λy=>z (y▸.tail _ (.head _))).trans q) λm=>z ?_;rcases C1.mp m with y|y
   ·exact y▸.head _
   ·exact .tail _ (.tail _ y)
theorem Ly {fr:Option Addr} (n:Lf a T cls fl s.heap) (k:∀h',Lf a T cls (fr.elim .none λf=>rawInt f) h'->(∀b o,s.heap.get? b=some o->b≠T->h'.get? b=some o)->Q () {s with heap:=h'}):wpAny M A (setFlight (.ref a) fr) Q E s:=by
 obtain⟨l,vs,p,r,d,rfl,i,h,m,e,g,c,j⟩:=n;unfold setFlight;refine Z6 (A0f d i h ?_);rw[X5 (show(Value.ref T != Value.none)=true from by simp)];have z:=(U4.mp j).1;refine A4g g c z (k _ ⟨l,vs,_,_,(O5 _ _ e).trans d,rfl,i,h,m,e,T8 _ g (A3h (A1g c _)),A1g c _,by simp[z]⟩ λb o q y=>(O5 _ _ (K1 y)).trans q)
theorem PQ(g:A.frames=some (env::outer))(r:s.heap.FunFrames b0 (env::outer))(h:env.frame=some L)(t:FlyNew a cls s.heap\/Lf a T cls .none s.heap)
  (k:∀h' c,Lf a c cls .none h'->s.heap.get? c=none->Em (a::T::frs (env::outer)) (frs (env::outer)) s.heap h'->Q () {s with heap:=h'}):wpAny M A (leaving env (.ref a)) Q E s:=by
 unfold leaving;refine Z6 (Ss g r h t λl c f n d=>Ly (s:={s with heap:=l}) f λp i kp=>k p c i n ⟨λb o q z=>kp b o (d.keep b o q z) λy=>?_,λb o m q=>?_,d.sub⟩)
 ·rw[y,n]at q;cases q
 ·obtain⟨j,e⟩:=d.slot b o m q;exact⟨j,kp b _ e λy=>by rw[y,n]at q;cases q⟩
end
theorem BD.be{P:Program}{w:World}{H:Hp}{h:Heap}{a:Addr}{o:HO}(x:BD P w H h a o):∃u,h.get? a=some u:=by
 cases o with
 |lst xs=>obtain⟨_,_,_,_,e⟩:=x;exact⟨_,e⟩
 |tup xs=>obtain⟨_,_,_,u,e,_⟩:=x;exact⟨u,e⟩
 |dK b=>obtain⟨_,_,_,_,u,_,_,e,_⟩:=x;exact⟨u,e⟩
 |dT b=>obtain⟨_,_,_,_,u,_,_,e,_⟩:=x;exact⟨u,e⟩
 |set S n=>obtain⟨u,_,_,_,e,_⟩:=x;exact⟨u,e⟩
 |ins C i fs=>obtain⟨_,_,_,e,_⟩:=x;exact⟨_,e⟩
 |own y=>exact x
 |xd fs=>obtain⟨_,⟨u,_,_,e,_⟩,_⟩:=x;exact⟨u,e⟩
 |rng lo c=>obtain⟨_,_,_,e⟩:=x;exact⟨_,e⟩
 |frz d u=>exact⟨_,x.1⟩
 |tbl g=>exact⟨_,x⟩
 |met f y=>exact⟨_,x⟩
 |ext φ=>exact x.2.1
theorem OH{P:Program}{w:World}{H:Hp}{h h':Heap}{d fs:List Addr}(f:HOk P w H h)(n:Em d fs h h')(a:∀b,b∈d->H b=none):HOk P w H h':=λb u q =>
 (f b u q).stay (λc v e r=>n.keep c v r λm=>by
  have z:=a c m;rcases e with rfl|e
  ·rw[q]at z;cases z
  ·rw[e]at z;cases z) (λ_ z=>z) λ_ _ z=>z
theorem Qs{j a fs:List Addr}{p H:Hp}{g h h':Heap}(u:Un j [] p H g h)(n:Em a fs h h')(c:∀b,b∈a->b∈fs\/g.get? b=none)(l:∀b,b∈fs->b∈j\/g.get? b=none):Un j [] p H g h' where
 keep:=λb o q m i f=>n.keep b o (u.keep b o q m i f) λz=>by
  rcases c b z with y|y
  ·rcases l b y with y|y
   ·exact i y
   ·rw[q]at y;cases y
  ·rw[q]at y;cases y
 slot:=λb o q m i f=>by
  obtain⟨r,e⟩:=u.slot b o q m i f;by_cases z:b∈a
  ·rcases c b z with y|y
   ·obtain⟨d,k⟩:=n.slot b _ y e;exact⟨d,k⟩
   ·rw[q]at y;cases y
  ·exact⟨r,n.keep b _ e z⟩
 free:=u.free
 there:=λb o q f=>by
  obtain⟨o',e⟩:=u.there b o q f;by_cases z:b∈a
  ·rcases c b z with y|y
   ·obtain⟨d,k⟩:=n.slot b _ y e;exact⟨_,k⟩
   ·rw[q]at y;cases y
  ·exact⟨_,n.keep b _ e z⟩
 tups:=u.tups
 frzs:=u.frzs
 tbls:=u.tbls
abbrev FlyT(a T:Addr)(cls:Value)(h:Heap):Prop:=Lf a T cls .none h
def CXE(P:Program)(w:World):CXT:=λouter H s E e s' =>
 ∃(a T:Addr)(cls:Value)(H':Hp),e=.ref a/\s'.os=s.os/\AllBare s'.gens/\Un (frs outer) [] H H' s.heap s'.heap/\HOk P w H' s'.heap /\
  FlyT a T cls s'.heap/\s.heap.get? a=none/\s.heap.get? T=none/\H' a=none/\H' T=none/\E cls none H'
section
variable{P:Program}{w:World}{K:W.Frag}{mg:Str->Option Value}{base:Heap}{N:List Str}{qual:Str}{scope:Scope}{f:Addr}{cd:Value}{A:Around}{outer:List Env}{s:Shared}{H:Hp}{E:XK}
def Raises(X:Cx)(E:XK):Prop:=∀(pins:List (Addr×Obj))(σ:St)(H:Hp)(s:Shared)(e:Addr)(cls:Value)(args:List Value)(h':Heap),Inv X pins σ H s->Heap.MadeExcOf s.heap h' e cls args->E cls none H->X.xe (.ref e) {s with heap:=h'}
theorem Inv.gk{X:Cx}{pins:List (Addr×Obj)}{σ:St}{H:Hp}{s:Shared}(I:Inv X pins σ H s)(a:X.ex=[]):∀b o,X.s₀.heap.get? b=some o->∃o',s.heap.get? b=some o':=λb o q=>I.base.there b o q (by rw[a];simp)
theorem Inv.gn{X:Cx}{pins:List (Addr×Obj)}{σ:St}{H:Hp}{s:Shared}(I:Inv X pins σ H s)(c:X.ex=[]){b:Addr}(q:s.heap.get? b=none):X.s₀.heap.get? b=none:=by
 cases e:X.s₀.heap.get? b with
 |none=>rfl
 |some o =>
  obtain⟨o',a⟩:=I.gk c b o e;rw[q]at a;cases a
theorem Inv.ownNew{X:Cx}{pins:List (Addr×Obj)}{σ:St}{H:Hp}{s:Shared}(I:Inv X pins σ H s):X.s₀.heap.get? X.env.locals=none:=Q6 I.ok.above
theorem Inv.frsOut{X:Cx}{pins:List (Addr×Obj)}{σ:St}{H:Hp}{s:Shared}(I:Inv X pins σ H s):∀b,b∈frs X.stack->b∈frs X.outer\/X.s₀.heap.get? b=none:=λb a=>by
 rcases C1.mp (I.stkSub b a)with z|z
 ·right;rw[z];exact I.ownNew
 ·exact .inl z
theorem Nr:Raises (Jx (CXE P w) P w K mg base N qual scope f cd A outer s H E) E:=by
 intro pins σ k a e l r h' I c O;obtain⟨t,B,_⟩:=c.there;refine PQ (s:={a with heap:=h'}) (T:=e) I.ok.frames (I.stack.of_keeps λb o q d=>⟨o,c.keeps b o q,rfl⟩) rfl (.inl ⟨_,_,B,rfl,rfl,rfl,rfl⟩) λG T M n x=>?_;have D:∀b o,a.heap.get? b=some o->b≠e:=λb o q z=>by
  rw[z,c.new]at q;cases q
 have C:∀b o,a.heap.get? b=some o->b≠T:=λb o q z=>by
  have:=c.keeps b o q;rw[z,show h'.get? T=none from n]at this;cases this
 have j:∀b o,a.heap.get? b=some o->b≠e/\b≠T:=λb o q=>⟨D b o q,C b o q⟩
 have h:Em (frs (Jx (CXE P w) P w K mg base N qual scope f cd A outer s H E).stack) (frs (Jx (CXE P w) P w K mg base N qual scope f cd A outer s H E).stack) a.heap G:=⟨λb o q z=>x.keep b o (c.keeps b o q) λm=>by
   rcases C1.mp m with y|y
   ·exact(j b o q).1 y
   ·rcases C1.mp y with y|y
    ·exact(j b o q).1 y
    ·exact z y,λb o m q=>x.slot b o m (c.keeps b o q),λ_ z=>z⟩
 have p:∀b,(∀o,a.heap.get? b≠some o)->s.heap.get? b=none/\k b=none:=λb z=>⟨I.gn rfl (by
  cases q:a.heap.get? b with
  |none=>rfl
  |some o=>exact absurd q (z o)),by
  cases q:k b with
  |none=>rfl
  |some u =>
   obtain⟨v,y⟩:=(I.hok b u q).be;exact absurd y (z v)⟩
 have i:=p e λo q=>(j e o q).1 rfl;have g:=p T λo q=>(j T o q).2 rfl;exact⟨e,T,l,k,rfl,I.os,I.bare,Qs I.base h (λb z=>.inl z) I.frsOut,OH I.hok h I.stkFree,M,i.1,g.1,i.2,g.2,O⟩
theorem passE:EM (CXE P w) (Jx (CXE P w) P w K mg base N qual scope f cd A outer s H E) E:=by
 intro pins σ O M e s' I h;obtain⟨a,T,j,d,rfl,m,bare,un,c,r,D,t,o,x,C⟩:=h;have J:Inv (Jx (CXE P w) P w K mg base N qual scope f cd A outer s H E) pins σ d s':=I.call' (ch:=[]) m un c bare (λb z=>absurd z A6);refine PQ J.ok.frames J.stack rfl (.inr r) λG i fl2 l n=>?_;have p:=I.gn rfl D;have B:=I.gn rfl t;have g:∀b,b∈a::T::frs (Jx (CXE P w) P w K mg base N qual scope f cd A outer s H E).stack->b∈frs (Jx (CXE P w) P w K mg base N qual scope f cd A outer s H E).stack\/(s.heap.get? b=none/\d b=none):=λb z=>by
  rcases C1.mp z with rfl|z
  ·exact .inr ⟨p,o⟩
  ·rcases C1.mp z with rfl|z
   ·exact .inr ⟨B,x⟩
   ·exact .inl z
 have k:d i=none:=by
  cases q:d i with
  |none=>rfl
  |some u =>
   obtain⟨v,y⟩:=(J.hok i u q).be;rw[l]at y;cases y
 refine⟨a,i,j,d,rfl,J.os,J.bare,Qs J.base n (λb z=>(g b z).imp id (·.1)) J.frsOut,OH J.hok n (λb z=>?_),fl2,p,J.gn rfl l,o,k,C⟩;rcases g b z with y|y
 ·exact J.stkFree b y
 ·exact y.2
theorem Fun.okE{x:Str}{c:Stmt}{h:FuncData}{g:List Str}{k:Nat}{sp:Sp}(F:Fun K x qual c f h)(S:Aq N g (Ak c))(len:∀vs H Q E,sp vs H Q E->vs.length=g.length)
  (b:∀(a:Value)(A:Around)(outer:List Env)(s:Shared)(H:Hp)(vs:List V)(Q:VK)(E:XK),CF k (A.deeper (envOfC qual (Ak c) s.heap.objs.size f a))->sp vs H Q E ->
   ∃t,PSs (Jx (CXE P w) P w K mg base N qual (Ak c) f a A outer s H E) (FW c) t/\t {nx:=λ_ m=>Q .non m,rt:=Q} (GH N vs) H):AJ P w K mg base (CXE P w) (k+1) f h g sp:=by
 obtain⟨p,q,kV,n,o,u,a,r,i,rfl,j,e⟩:=F.ex;exact fn_of j e S len λA outer s H vs Q E l d=>b a A outer s H vs Q E l d
end
def vmro:List Value:=[.type "ValueError",.type "Exception",.type "BaseException",.type "object"]
abbrev Mb(K:W.Frag)(C:Addr):Prop:=excIn K C vmro "ValueError.__new__" = true
theorem RB{K:W.Frag}{h:Heap}{C:Addr}{b:List Value}{newId:String}(X:K.In h)(q:excIn K C b newId=true) :
  ∃(bm:List Value)(N:Addr)(nm f:Str)(bs:List Value)(c:Bool)(sn:List Str)(sub:List Value)(ab:Bool)(col:Option Bool)(dd:Option Addr)(k0 k1 k2 k3 k5:Option Value)(mN:Str->Option Value),
   h.get? C=some (excClassObj nm f C N bs bm c sn sub ab col dd k0 k1 k2 k3 k5 newId)/\h.Ns N mN/\mN "__init__" = none/\OwnTail h b bm/\∀v,mroIn K C v=some ((Value.ref C::bm).contains v):=by
 unfold excIn at q;split at q
 case h_2=>cases q
 rename_i dd g r o;split at q
 case h_2=>cases q
 rename_i j bm k0 k1 k2 k3 n k5 d i;simp only[O8,A5c,Bool.not_eq_true']at q;obtain⟨⟨⟨⟨⟨u,s⟩,k⟩,p⟩,e⟩,m⟩:=q;subst u s;have a:∀v,mroIn K j v=some ((Value.ref j::bm).contains v):=λv=>by
  unfold mroIn clsIn;rw[o];show(if g.mro.isEmpty=true then none else some (g.mro.contains v))=_;rw[d];rfl
 obtain⟨nm,bs,w,ns,f,c,sn,sub,ab,col,t⟩:=g;dsimp only at d k e m;subst d;subst k;obtain⟨l⟩:=r;dsimp only at i;subst i;exact⟨bm,ns,nm,f,bs,c,sn,sub,ab,col,dd,k0,k1,k2,k3,k5,_,X _ _ o,.of_isNs (W.isNs_of_in X e),W.nsMap_none_of_in X e m,W.tail_of_in X p,a⟩
section
variable{X:Cx}{C:Addr}{x:Str}{np cpos pos:Pos}{e:Expr}{es:List Expr}{t:TA}{E:XK}
def tRaise(C:Addr)(E:XK)(t:TA):TS:=λ_ σ H=>t σ H λvs H1=>vs.length<=100/\E (.ref C) none H1
theorem LK(v:Raises X E)(A:X.calm=true)(p:Gl X x)(G:X.mg x=some (.ref C))(z:Mb X.K C)(y:PA X (e::es) t)
  (f:(x==("__debug__" : Str))=false:=by decide) (g:starEach (e::es) X.env=(false,eval e X.env)::starEach es X.env:=by rfl) (c:(backTo cpos (starEach es X.env)).any (·.1)=false:=by rfl) :
  PS X (.Raise (some (.Call (.Name x np) (e::es) [] cpos)) none pos) (tRaise C E t):=by
 intro pins s σ H D I h;obtain⟨bm,N,nm,B,bs,j,sn,sub,ab,col,dd,k0,k1,k2,k3,k5,mN,w,O,r,l,S⟩:=RB I.mod.kin z;have a:bm.contains (.type "BaseException")=true:=l.hasType A3;refine wpAny_Raise_call_subU (C:=C) (nm:=nm) (q:=B) (N:=N) (bs:=bs) (bm:=bm) (hdct:=j) (sn:=sn) (sub:=sub) (ab:=ab) (col:=col) (dd:=dd) (k0:=k0) (k1:=k1) (k2:=k2) (k3:=k3) (k5:=k5) (newId:="ValueError.__new__") (mN:=mN)
  PySem.F.excBase_ValueError A3 PySem.F.excBase_ValueError a (I.ok.hd A) (by rw[g];show(false || (backTo cpos (starEach es X.env)).any (·.1))=false;rw[c];rfl) r (FV I p G ⟨rfl,?_⟩ f)
 have i:=y cpos pins s σ H _ I h;rw[g]at i⊢;refine A4a (thn i λus n ⟨vs,Q,m,u,P,R⟩=>?_);have k:∀b o,X.base.get? b=some o->n.heap.get? b=some o:=m.bk;refine⟨rfl,?_,k _ _ w,O.keeps k,l.keeps k,λh' M d=>v pins σ Q n M _ _ h' m d R⟩;show us.length<=sizeLine;rw[<-u.length];exact D0 P A3
end
def NI(CX:CXT)(X:Cx)(E:XK)(S:St->Prop):Prop:=∀(pins:List (Addr×Obj))(σ:St)(H:Hp)(s:Shared)(e:Value)(s':Shared),S σ->Inv X pins σ H s->CX X.stack H s E e s'->X.xe e s'
def Yi(S:St->Prop)(sp:Sp)(dvs:List V)(E:XK)(t:TA):TE:=fun σ H Q=>S σ/\t σ H λvs H1=>sp (vs++dvs) H1 Q E
section
variable{X:Cx}{CX:CXT}{k:Nat}{f:Addr}{fd:FuncData}{ps:List Str}{sp:Sp}{dvs:List V}{ds:List Value}{E:XK}{x:Str}{p pos:Pos}{e:Expr}{es:List Expr}{t:TA}{S:St->Prop}
theorem run_fnS{pins:List (Addr×Obj)}{σ:St}{H:Hp}{s:Shared}{Q:VK}{us:List Value}{vs:List V}(F:AJ X.prog X.w X.K X.mg X.base CX k f fd ps sp)(g:CF k X.A)(d:Ch X.K fd ps ds)(c:AR dvs ds)(l:NI CX X E S)
  (i:S σ) (I:Inv X pins σ H s) (r:AR vs us) (h:sp (vs++dvs) H Q E):wpAny (model X.prog X.w) X.A (call (.ref f) us) (EP X pins σ Q) X.xe s:=by
 have b:AR (vs++dvs) (us++ds):=r.append c;have j:(us++ds).length=ps.length:=b.length.symm.trans (F.len _ _ _ _ h);refine A6b (A3g (F.run X.A X.stack s H ⟨us,[]⟩ (us++ds) (vs++dvs) Q E g I.env0 (d s us I.kIn j) b h) ?_);intro r s' a;rcases r with e|(_|_|_|_)
 ·exact l pins σ H s e s' i I a
 all_goals first
  |exact I.after a
  |exact a.elim
theorem YO(F:AJ X.prog X.w X.K X.mg X.base CX k f fd ps sp)(m:CF k X.A)(v:Gl X x)(d:X.mg x=some (.ref f))(g:keepIn X.K (.ref f)=true)(j:Ch X.K fd ps ds)(l:AR dvs ds)(u:NI CX X E S)
  (i:PA X (e::es) t) (b:(x==("__debug__" : Str))=false:=by decide) (o:starEach (e::es) X.env=(false,eval e X.env)::starEach es X.env:=by rfl) (a:(backTo pos (starEach es X.env)).any (·.1)=false:=by rfl) :
  PE X (.Call (.Name x p) (e::es) [] pos) (Yi S sp dvs E t):=by
 intro pins s σ H Q I h;obtain⟨n,h⟩:=h;refine A1f (FV I v d ?_ b);refine A2g (h₀:=X.base) I.ok.mod.kin g ?_ o a;exact thn (i pos pins s σ H _ I h) λus z ⟨vs,y,c,r,q⟩=>⟨c.kIn,run_fnS F m j l u n c r q⟩
end
theorem Inv.re{X:Cx}{pins a b:List (Addr×Obj)}{σ:St}{H:Hp}{s:Shared}{A2:Around}{c2:Bool}{c:Value->Shared->Prop}(I:Inv X pins σ H s)(d:c2=true->A2.handled=none)(e:A2.frames=X.A.frames)
  (f:∀p,p∈b++a->p∈X.pn++pins):Inv {X with A:=A2,calm:=c2,xe:=c,pn:=b} a σ H s :=
 ⟨⟨I.ok.mod,I.ok.kind,I.ok.glob,I.ok.blt,I.ok.above,I.ok.inj,I.ok.has,I.ok.cab,d,e.trans I.ok.frames,I.ok.stk,I.ok.exf,I.ok.bs,I.ok.bsz,I.ok.noex,I.ok.exfs,I.ok.funs,I.ok.frf⟩,
  I.os,I.bare,I.base,I.loc,I.cell,I.free,I.freeC,λp z=>I.pin p (f p z),I.hok,I.len⟩
theorem Inv.un_re{X:Cx}{pins a b:List (Addr×Obj)}{σ:St}{H:Hp}{s:Shared}{A2:Around}{c2:Bool}{c:Value->Shared->Prop}(I:Inv {X with A:=A2,calm:=c2,xe:=c,pn:=b} a σ H s)(d:X.calm=true->X.A.handled=none)
  (e:X.A.frames=A2.frames) (f:∀p,p∈X.pn++pins->p∈b++a):Inv X pins σ H s :=
 ⟨⟨I.ok.mod,I.ok.kind,I.ok.glob,I.ok.blt,I.ok.above,I.ok.inj,I.ok.has,I.ok.cab,d,e.trans I.ok.frames,I.ok.stk,I.ok.exf,I.ok.bs,I.ok.bsz,I.ok.noex,I.ok.exfs,I.ok.funs,I.ok.frf⟩,
  I.os,I.bare,I.base,I.loc,I.cell,I.free,I.freeC,λp z=>I.pin p (f p z),I.hok,I.len⟩
theorem SP.map{X Y:Cx}{p q:List (Addr×Obj)}{D:MH}{f:Flow}{s:Shared}(k:∀σ H,Inv X p σ H s->Inv Y q σ H s)(h:SP X p D f s):SP Y q D f s:=by
 cases f with
 |next=>obtain⟨σ',a,I,z⟩:=h;exact⟨σ',a,k _ _ I,z⟩
 |brk=>obtain⟨σ',a,I,z⟩:=h;exact⟨σ',a,k _ _ I,z⟩
 |cont=>obtain⟨σ',a,I,z⟩:=h;exact⟨σ',a,k _ _ I,z⟩
 |ret u=>obtain⟨v,σ',a,I,r,z⟩:=h;exact⟨v,σ',a,k _ _ I,r,z⟩
def MR(a D:Addr):HO:=.ext (MV a D)
theorem ZP{P:Program}{w:World}{H:Hp}{h:Heap}{a D:Addr}(e:MV a D h):BD P w H h a (MR a D):=by
 obtain⟨o,e,r⟩:=e;exact⟨⟨o,e,r⟩,⟨o,e⟩,λf g ⟨d,b,c⟩ k=>⟨d,k _ b,c⟩⟩
theorem Inv.track{X:Cx}{pins:List (Addr×Obj)}{σ:St}{H:Hp}{s:Shared}{a:Addr}{o:HO}(I:Inv X pins σ H s)(g:H a=none)(f:X.s₀.heap.get? a=none)(t:X.base.get? a=none)(h:X.env.locals≠a)(i:∀x c,X.env.cells.lookup x=some c->c≠a)
  (k:∀p,p∈X.pn++pins->p.1≠a) (l:∀b,b∈X.fs->b≠a) (new:BD X.prog X.w (upd H a o) s.heap a o):Inv X pins σ (upd H a o) s:=by
 have d:∀b u,H b=some u->b≠a:=λb u q z=>by rw[z,g]at q;cases q
 refine⟨I.ok,I.os,I.bare,⟨I.base.keep,I.base.slot,λb u q n x=>?_,I.base.there,λb xs q=>?_,λb u v q=>?_,λb j q=>?_⟩,I.loc,I.cell,?_,λx c q=>?_,λp z=>?_,λb u q=>?_,I.len⟩
 ·rw[As (λz=>by rw[z,f]at q;cases q)];exact I.base.free b u q n x
 ·have z:=I.base.tups b xs q;rw[As (d _ _ z)];exact z
 ·have z:=I.base.frzs b u v q;rw[As (d _ _ z)];exact z
 ·obtain⟨m,z⟩:=I.base.tbls b j q;exact⟨m,by rw[As (d _ _ z)];exact z⟩
 ·rw[As h];exact I.free
 ·rw[As (i x c q)];exact I.freeC x c q
 ·obtain⟨e,n,r⟩:=I.pin p z;exact⟨e,by rw[As (k p z)];exact n,r⟩
 ·by_cases z:b=a
  ·subst z;rw[Ag]at q;cases q;exact new
  ·rw[As z]at q;exact(I.hok b u q).stay (λc v _ r=>r) (λc r=>by rw[As (d _ _ r)];exact r) λc xs r=>by rw[As (d _ _ r)];exact r
theorem Inv.gone{X:Cx}{pins:List (Addr×Obj)}{σ:St}{H:Hp}{s:Shared}{h':Heap}{n:Str}{i:Nat}{v:Option Value}{m:Str->Option Value}{tk:Nat}(I:Inv X pins σ H s)(R:X.N.Nodup)(E:X.N[i]?=some n)(S:X.env.scope.names.lookup n=some .local)
  (t:∀(i:Nat)(x:Str)(v:V),X.N[i]?=some x->σ[i]?=some (some v)->Vis X.env.scope x->∃u,Bb v u/\Look X.env s.heap m x u) (w:h'.Ns X.env.locals (λx=>if x=n then v else m x)) (d:Heap.SameBut X.env.locals s.heap h'):Inv X pins (σ.set i none) H {s with heap:=h',toks:=tk}:=by
 have a:∀b o,X.s₀.heap.get? b=some o->b≠X.env.locals:=λb o e=>F7 (F6 (C9 e) I.ok.above);refine⟨I.ok,I.os,I.bare,⟨λb o e z B f=>?_,λb o e z B f=>?_,I.base.free,λb o e f=>?_,I.base.tups,I.base.frzs,I.base.tbls⟩,⟨_,w,λj y O D h P=>?_⟩,λy c e=>?_,I.free,I.freeC,λp K=>?_,λb u q=>?_,by simpa using I.len⟩
 ·exact(d.2 b (a b o e)).trans (I.base.keep b o e z B f)
 ·obtain⟨M,q⟩:=I.base.slot b o e z B f;exact⟨M,(d.2 b (a b o e)).trans q⟩
 ·obtain⟨o',q⟩:=I.base.there b o e f;exact⟨o',(d.2 b (a b o e)).trans q⟩
 ·by_cases C:j=i
  ·subst C;rw[V8 (by rw[I.len];exact(B9.mp E).1)]at h;cases h
  ·rw[W8 (K1 C)]at h;obtain⟨u,r,l⟩:=t j y O D h P;refine⟨u,r,?_⟩;have Q:y≠n:=λz=>C (Oq R D (z▸E));rcases l with ⟨k,q⟩|⟨k,c,q,z⟩
   ·exact .inl ⟨k,by simp[Q,q]⟩
   ·exact .inr ⟨k,c,q,z.sameBut d (I.cne y c q)⟩
 ·obtain⟨G,z⟩:=I.cell y c e;exact⟨G,z.sameBut d (I.cne y c e)⟩
 ·obtain⟨e,z,g,r⟩:=I.pin p K;exact⟨(d.2 p.1 g).trans e,z,g,r⟩
 ·have g:∀c v,H c=some v->c≠X.env.locals:=λc v q z=>by rw[z,I.free]at q;cases q
  refine(I.hok b u q).stay (λc v A r=>(d.2 c ?_).trans r) (λ_ z=>z) λ_ _ z=>z;rcases A with rfl|A
  ·exact g _ _ q
  ·exact g _ _ A
theorem WI{K:W.Frag}{M:Model}{A:Around}{E:Value->Shared->Prop}{s:Shared}{e C D:Addr}{n:Obj}{Q:Bool->Shared->Prop}(X:K.In s.heap)(V:Mb K C)(G:Mb K D)(v:mroIn K D (.ref C)=some true)
  (o:s.heap.get? e=some n) (a:n.cls=.ref D) (r:Q true s):wpAny M A (excMatches (.ref e) (.ref C)) Q E s:=by
 obtain⟨h,g,d,t,os⟩:=s;obtain⟨bm,N,nm,qn,bs,hd,sn,sub,ab,col,dd,k0,k1,k2,k3,k5,mN,q,hN,hi,Y,Z⟩:=RB X G;have c:bm.contains (.type "BaseException")=true:=Y.hasType A3;by_cases z:D=C
 ·subst z;exact wpAny_excMatches_sub_self q o a c r
 ·obtain⟨j,N',T,I,ac,ad,w,u,x,p,y,P,B,O,ae,H,U,i,R,aa,l,S⟩:=RB X V;have k:(Value.ref C::j).contains (.type "BaseException")=true:=by rw[List.contains_cons,l.hasType (X:="BaseException") (b:=true) A3,Bool.or_true]
  have m:(Value.ref D::bm).contains (.ref C)=true:=K0 ((Z (.ref C)).symm.trans v);have f:=tc_notTuple;unfold excMatches
  repeat (first
   | (with_reducible refine wpAny_loadPart_at o ?_;rw[a])
   |with_reducible refine wpAny_loadPart_at i ?_
   | (with_reducible refine wpAny_isSubtype_exc i ?_;rw[k])
   | (with_reducible refine wpAny_isSubtype_exc q ?_;rw[m])
   |wp_step)
  exact r
section
variable{X:Cx}{C:Addr}{x n:Str}{np hpos pos:Pos}{i:Nat}{b₀:Stmt}{suite body:List Stmt}{S:St->Prop}{tb:XK->TS}{th:TS}
theorem land{pins B:List (Addr×Obj)}{σ:St}{H1:Hp}{I s':Shared}{e:Value}{E1:XK}{Q:Flow->Shared->Prop}{nm:Option Str}{ac:Value->Shared->Prop}
  (k:X.stack=X.env::X.outer) (ak:X.env.frame=some X.env.locals) (ag:X.ex=[]) (hg:Gl X x) (hm:X.mg x=some (.ref C)) (hC:Mb X.K C) (al:X.calm=true)
  (ah:∀H d h,E1 H d h->∃D,H=.ref D/\Mb X.K D/\mroIn X.K D (.ref C)=some true)
  (J0:Inv {X with xe:=ac,pn:=X.pn++pins} B σ H1 I) (aj:CXE X.prog X.w X.stack H1 I E1 e s')
  (go:∀(a D:Addr)(h:Hp)(Y:Shared),e=.ref a->E1 (.ref D) none h->h a=none->MV a D Y.heap->X.s₀.heap.get? a=none->X.base.get? a=none->X.env.locals≠a->(∀x c,X.env.cells.lookup x=some c->c≠a) ->
   (∀p,p∈X.pn++pins->p.1≠a)->(∀b,b∈X.fs->b≠a)->Inv X pins σ h Y ->
   (∀(Q':Unit->Shared->Prop)(E':Value->Shared->Prop),(∀s3,Inv X pins σ h s3->MV a D s3.heap->Q' () s3)->wpAny (model X.prog X.w) (X.A.mark (some (.ref a))) (setFlight (.ref a) none) Q' E' Y) ->
   codeAny (model X.prog X.w) (X.A.mark (some (.ref a))) (.handlers (.ref a) [.ExceptHandler none nm (b₀::suite) hpos] X.env) (λr g=>match r with
     |.ok f=>(match nm with
      |none=>Q f g
      |some n=>wpAny (model X.prog X.w) X.A (do bindName X.env n .none;unbindBehindTheSuite X.env n hpos) (λ_ j=>Q f j) X.xe g)
     |.error x=>cameBackBy (model X.prog X.w) X.A X.env X.xe x g) Y)
  (ai:(x==("__debug__" : Str))=false:=by decide) :
  wpAny (model X.prog X.w) X.A (noteFrame e X.env) (λ_ g=>wpAny (model X.prog X.w) X.A (setFlight e none) (λ_ j=>wpAny (model X.prog X.w) X.A (handleBy e X.env [.ExceptHandler (some (.Name x np)) nm (b₀::suite) hpos]) Q X.xe j) X.xe g) X.xe s':=by
 obtain⟨a,T,H,h,rfl,os,bare,un,U,fl,M,nT,ha,hT,hE⟩:=aj;obtain⟨D,rfl,hD,aa⟩:=ah _ _ _ hE;have V:∀p,p∈X.pn++pins->p.1≠a:=λp hp z=>by
  have q:=(J0.pin p (Q5 _ hp)).1;rw[z,M]at q;cases q
 have G:Inv X pins σ H1 I:=J0.un_re J0.ok.hd rfl (λp hp=>Q5 _ hp);have J:Inv X pins σ h s':=G.call' (ch:=[]) os un U bare (λb z=>absurd z A6);have fr:=J.stack;have sub:∀b,b∈frs X.stack->b∈a::T::frs X.stack:=λb z=>.tail _ (.tail _ z);have am:X.A.frames=some (X.env::X.outer):=J.ok.frames.trans (by rw[k]);have R:∀b,b∈a::T::frs X.stack->h b=none:=λb z=>by
  rcases C1.mp z with rfl|z
  ·exact ha
  ·rcases C1.mp z with rfl|z
   ·exact hT
   ·exact J.stkFree b z
 have g0:∀{b},I.heap.get? b=none->X.s₀.heap.get? b=none:=λq=>G.gn ag q;have an:∀b,b∈a::T::frs X.stack->b∈frs X.stack\/X.s₀.heap.get? b=none:=λb z=>by
  rcases C1.mp z with rfl|z
  ·exact .inr (g0 M)
  ·rcases C1.mp z with rfl|z
   ·exact .inr (g0 nT)
   ·exact .inl z
 have P:∀b,b∈a::T::frs X.stack->b∈frs X.stack\/I.heap.get? b=none:=λb z=>by
  rcases C1.mp z with rfl|z
  ·exact .inr M
  ·rcases C1.mp z with rfl|z
   ·exact .inr nT
   ·exact .inl z
 have t:∀E,Em (a::T::frs X.stack) (frs X.stack) s'.heap E->Inv X pins σ h {s' with heap:=E}:=λE nr =>
  G.call' (s':={s' with heap:=E}) (ch:=[]) os (Qs un nr P λb z=>.inl z) (OH U nr R) bare (λb z=>absurd z A6)
 have N:=fr;rw[k]at N;have af:frs X.stack=frs (X.env::X.outer):=by rw[k]
 refine Ss am N ak (.inr fl) λh4 T4 ae n4 l=>?_;rw[<-af]at l;have kn:∀{E},(∀b o,h4.get? b=some o->b≠T4->E.get? b=some o)->Em (a::T::frs X.stack) (frs X.stack) s'.heap E:=λkp=>by
  have ne:∀b o,s'.heap.get? b=some o->b≠T4:=λb o q y=>by
   rw[y,n4]at q;cases q
  refine⟨λb o q z=>kp b o (l.keep b o q z) (ne b o q),λb o m q=>?_,l.sub⟩;obtain⟨sl,e⟩:=l.slot b o m q;exact⟨sl,kp b _ e (ne b o q)⟩
 refine Ly (s:={s' with heap:=h4}) ae λZ u O=>?_;have J5:=t Z (kn O);obtain⟨ao,_,_,_,q5,c5,_⟩:=id u;have M5:Inv {X with A:=X.A.mark (some (.ref a)),calm:=false,xe:=λ_ _=>False,pn:=X.pn} pins σ h {s' with heap:=Z}:=J5.re (λz=>nomatch z) rfl (λ_ z=>z);refine wpAny_handleBy_cons (codeAny_handlers_test (FV (X:={X with A:=X.A.mark (some (.ref a)),calm:=false,xe:=λ_ _=>False,pn:=X.pn}) M5 hg hm ?_ ai)) (by intro q;cases q);refine WI M5.kIn hC hD aa q5 c5 ?_;have nL:∀{b o},I.heap.get? b=some o->b≠a:=λq z=>by rw[z,M]at q;cases q
 refine go a D h {s' with heap:=Z} rfl hE ha u.exc (g0 M) ?_ ?_ ?_ V ?_ J5 ?_
 ·cases q:X.base.get? a with
  |none=>rfl
  |some o =>
   have:=G.bk a o q;rw[M]at this;cases this
 ·obtain⟨m,⟨o,_,_,q,_⟩,_⟩:=G.loc;exact nL q
 ·intro y c q;obtain⟨v,o,ho,_⟩:=G.cell y c q;exact nL ho
 ·intro b hb;obtain⟨_,o,ho,_⟩:=G.funs.mem hb;exact nL ho
 ·intro Q' E' hk;refine Ly (s:={s' with heap:=Z}) u λh6 ab ad=>hk _ (t h6 (kn λb o q y=>ad b o (O b o q y) y)) ab.exc
abbrev Yc(X:Cx)(pins:List (Addr×Obj))(D:MH)(hs:List ExceptHandler):Value->Shared->Prop:=λe s₁ =>
 wpAny (model X.prog X.w) X.A (noteFrame e X.env) (λ_ s₂=>wpAny (model X.prog X.w) X.A (setFlight e none) (λ_ s₃=>wpAny (model X.prog X.w) X.A (handleBy e X.env hs) (SP X pins D) X.xe s₃) X.xe s₂) X.xe s₁
def tTryAsH(K:W.Frag)(C:Addr)(i:Nat)(S:St->Prop)(tb:XK->TS)(th:Addr->TS):TS:=λD σ H =>
 tb (λcls _ H'=>∃D',cls=.ref D'/\Mb K D'/\mroIn K D' (.ref C)=some true/\∀σ' a,S σ'->H' a=none ->
  th a {nx:=fun σ2 H2=>D.nx (σ2.set i none) H2,rt:=D.rt,bk:=fun σ2 H2=>D.bk (σ2.set i none) H2,ct:=fun σ2 H2=>D.ct (σ2.set i none) H2} (σ'.set i (some (.ref a))) (upd H' a (MR a D'))) D σ H
theorem VX{th:Addr->TS}(G:X.stack=X.env::X.outer)(ac:X.env.frame=some X.env.locals)(U:X.ex=[])(y:X.calm=true)(hg:Gl X x)(hm:X.mg x=some (.ref C))(hC:Mb X.K C)(hN:X.N.Nodup)(hi:X.N[i]?=some n)(P:X.env.scope.names.lookup n=some .local)
  (hb:∀(xe:Value->Shared->Prop)(pn:List (Addr×Obj))(E1:XK),NI (CXE X.prog X.w) {X with xe:=xe,pn:=pn} E1 S->PSs {X with xe:=xe,pn:=pn} body (tb E1))
  (aa:∀(a:Addr),PSs {X with A:=X.A.mark (some (.ref a)),calm:=false,xe:=λ_ _=>False,pn:=X.pn} (b₀::suite) (th a)) (Z:(x==("__debug__" : Str))=false:=by decide) :
  PS X (.Try body [.ExceptHandler (some (.Name x np)) (some n) (b₀::suite) hpos] [] [] pos) (tTryAsH X.K C i S tb th):=by
 intro pins s σ H D I h;refine wpAny_Try_except ?_;have I1:Inv {X with xe:=Yc X pins D [.ExceptHandler (some (.Name x np)) (some n) (b₀::suite) hpos],pn:=X.pn++pins} [] σ H s :=
  I.re I.ok.hd rfl (λp z=>by simpa using z)
 refine A0h (hb (Yc X pins D [.ExceptHandler (some (.Name x np)) (some n) (b₀::suite) hpos]) (X.pn++pins) _ ?pass [] s σ H D I1 h) (λf O q=>?_) (λe O q=>q)
 case pass =>
  intro T σ' H1 O e s' hS J ab;refine land (pins:=pins) G ac U hg hm hC y (λad d H' ⟨M,z,a,b,_⟩=>⟨M,z,a,b⟩) J ab (λa M H' s2 _ hE ha ho g0 gb nL nC nP nF J5 E=>?_) Z;obtain⟨D2,z,_,_,k⟩:=hE;cases z;refine codeAny_handlers_suite_as (E _ _ λs3 J3 L3=>?_);have J4:=J3.track (o:=MR a M) ha g0 gb nL nC nP nF (ZP L3);refine NL J4 hN hi (.inl P) (v:=.ref a) rfl (λs4 K4=>?_) (.inr P);have J6:Inv {X with A:=X.A.mark (some (.ref a)),calm:=false,xe:=λ_ _=>False,pn:=X.pn} pins (σ'.set i (some (.ref a))) (upd H' a (MR a M)) s4:=K4.re (λz=>nomatch z) rfl (λ_ z=>z);refine A0h (aa a pins s4 _ _ _ J6 (k σ' a hS ha)) (λf V q=>?_) (λ_ _ z=>z.elim);have gone:∀{c:St}{j:Hp},Inv {X with A:=X.A.mark (some (.ref a)),calm:=false,xe:=λ_ _=>False,pn:=X.pn} pins c j V->∀{Q:Unit->Shared->Prop},(∀B,Inv X pins (c.set i none) j B->Q () B) ->
    wpAny (model X.prog X.w) X.A (do bindName X.env n .none;unbindBehindTheSuite X.env n hpos) Q X.xe V:=λ{c j} t Q hq=>by
   have l:Inv X pins c j V:=t.un_re J3.ok.hd rfl (λ_ z=>z);obtain⟨m,hn,R⟩:=id l.loc;exact wpAny_nameGoes_keeps P hn (by rw[l.ok.kind];rfl) λh' v Y sb=>hq _ (l.gone hN hi P R Y sb)
  cases f with
  |next=>obtain⟨c,j,t,q⟩:=q;exact gone t λB l=>⟨_,j,l,q⟩
  |brk=>obtain⟨c,j,t,q⟩:=q;exact gone t λB l=>⟨_,j,l,q⟩
  |cont=>obtain⟨c,j,t,q⟩:=q;exact gone t λB l=>⟨_,j,l,q⟩
  |ret u=>obtain⟨v,c,j,t,r,q⟩:=q;exact gone t λB l=>⟨v,_,j,l,r,q⟩
 have g:∀σ H,Inv {X with xe:=Yc X pins D [.ExceptHandler (some (.Name x np)) (some n) (b₀::suite) hpos],pn:=X.pn++pins} [] σ H O->Inv X pins σ H O :=
  fun σ H J=>J.un_re J.ok.hd rfl (λp z=>by simpa using z)
 cases f with
 |next=>exact A4b (q.map g)
 |brk=>exact q.map g
 |cont=>exact q.map g
 |ret u=>exact q.map g
end
structure Tk(k:Nat)(A:Around):Prop where
 dp:A.depth+3*k+5<recursionLimit
 un:A.units+16*k+200<cLine
theorem CF.marked{k:Nat}{A:Around}(r:CF k A)(e:Option Value):Tk k (A.mark e):=⟨r.dp,r.un⟩
structure VJ(P:Program)(w:World)(K:W.Frag)(mg:Str->Option Value)(base:Heap)(k:Nat)(f:Addr)(fd:FuncData)(ps:List Str)(sp:Sp):Prop where
 len:∀vs H Q E,sp vs H Q E->vs.length=ps.length
 run:∀(A:Around)(outer:List Env)(s:Shared)(H:Hp)(args:Args)(us:List Value)(vs:List V)(Q:VK),Tk k A->Tn P w K mg base A outer s H->BindsTo s fd args (ps.zip us)->AR vs us->sp vs H Q E0 ->
  codeAny (model P w) A (.call (.ref f) args) (CR CX0 outer P w H s Q E0) s
section
variable{P:Program}{w:World}{K:W.Frag}{mg:Str->Option Value}{base:Heap}
theorem Fun.okH{x c:Str}{h:Stmt}{f:Addr}{G:FuncData}{N D:List Str}{k:Nat}{sp:Sp}(F:Fun K x c h f G)(S:Aq N D (Ak h))(len:∀vs H Q E,sp vs H Q E->vs.length=D.length)
  (i:∀(d:Value)(A:Around)(a:List Env)(s:Shared)(H:Hp)(vs:List V)(Q:VK),Tk k (A.deeper (envOfC c (Ak h) s.heap.objs.size f d))->sp vs H Q E0 ->
   ∃t,PSs {Jx CX0 P w K mg base N c (Ak h) f d A a s H E0 with calm:=false,xe:=λ_ _=>False} (FW h) t/\t {nx:=λ_ j=>Q .non j,rt:=Q} (GH N vs) H):VJ P w K mg base (k+1) f G D sp:=by
 obtain⟨oc,od,kV,aa,pm,an,d,ct,Z,rfl,lk,p⟩:=F.ex;refine⟨len,λA a s H O us vs Q n g hb r l=>?_⟩;have hl:=len _ _ _ _ l;have M:K.In s.heap:=g.mod.kin.keeps λb o e=>(g.bs b o e).1;have B:s.heap.NoLimit:=g.mod.nolimit.keeps λb o e=>(g.bs b o e).1;refine codeAny_call_function (by have:=n.dp;lia) (M _ _ lk) rfl S.co S.gen rfl (codeRec_of M p) (hb _ _ _ _ ?_);refine wpAny_newFunctionEnv_cells S.kind (λ⟨y,v⟩ hy=>?_) λX R C z=>?_
 ·rcases S.par y (W0 hy).1 with q|q
  ·exact .inl q
  ·exact .inr ⟨q,A5b _ _ _ (.inl q)⟩
 subst R;refine⟨B.keeps z.toInCall.keep,codeAny_func ?_⟩;obtain⟨t,Y,hq⟩:=i d A a s H vs Q ⟨by have:=n.dp;show A.depth+1+3*k+5<_;lia,by have:=n.un;show A.units+3+16*k+200<_;lia⟩ l;have I:Inv (Jx CX0 P w K mg base N c (Ak h) f d {A with handled:=none} a s H E0) [] (GH N vs) H C:=PX S rfl ⟨g.frames,g.mod,g.bs,g.bsz,g.funs,g.frf,g.hok,g.bare⟩ hl r z;have J:Inv {Jx CX0 P w K mg base N c (Ak h) f d A a s H E0 with calm:=false,xe:=λ_ _=>False} [] (GH N vs) H C:=I.re (A2:=A.deeper (envOfC c (Ak h) s.heap.objs.size f d)) (c2:=false) (λz=>nomatch z) rfl (λ_ z=>z);refine A0h (Y [] C (GH N vs) H _ J hq) (λT s' m=>?_) λ_ _ z=>z.elim;cases T with
 |ret u =>
  obtain⟨v,σ',j,J,U,q⟩:=m;exact⟨v,j,J.os,J.bare,J.base,J.hok,U,q⟩
 |next =>
  obtain⟨σ',j,J,q⟩:=m;exact⟨.non,j,J.os,J.bare,J.base,J.hok,rfl,q⟩
 |brk=>obtain⟨_,_,_,q⟩:=m;exact q.elim
 |cont=>obtain⟨_,_,_,q⟩:=m;exact q.elim
end
section
variable{X:Cx}{k:Nat}{f:Addr}{fd:FuncData}{ps:List Str}{sp:Sp}{x:Str}{p pos:Pos}{e:Expr}{es:List Expr}{t:TA}
theorem YQ(F:VJ X.prog X.w X.K X.mg X.base k f fd ps sp)(u:Tk k X.A)(z:Gl X x)(l:X.mg x=some (.ref f))(m:keepIn X.K (.ref f)=true)(o:Ch X.K fd ps [])
  (n:PA X (e::es) t) (d:(x==("__debug__" : Str))=false:=by decide) (v:starEach (e::es) X.env=(false,eval e X.env)::starEach es X.env:=by rfl) (c:(backTo pos (starEach es X.env)).any (·.1)=false:=by rfl) :
  PE X (.Call (.Name x p) (e::es) [] pos) (UB sp [] E0 t):=by
 intro pins s σ H Q I h;refine A1f (FV I z l ?_ d);refine A2g (h₀:=X.base) I.ok.mod.kin m ?_ v c;refine thn (n pos pins s σ H _ I h) λus j ⟨vs,g,b,r,q⟩=>⟨b.kIn,?_⟩
 have q:sp (vs++[]) g Q E0:=q;rw[R0]at q;have y:us.length=ps.length:=r.length.symm.trans (F.len _ _ _ _ q);have a:=o j us b.kIn (by rw[R0];exact y);rw[R0]at a;refine A6b (A3g (F.run X.A X.stack j g ⟨us,[]⟩ us vs Q u b.env0 a r q) ?_);intro r s' i;rcases r with e|(_|_|_|_)
 all_goals first
  |exact b.after i
  |exact i.elim
end
section
variable{X:Cx}{tg:Expr}
def Its(x:Str):It:=⟨λi _=>i<x.cps.size,λi H v H'=>H'=H/\∃c,x.cps[i]?=some c/\v=.str ⟨#[c]⟩,λi _=>i=x.cps.size⟩
theorem RS{P:Program}{w:World}{K:W.Frag}(it:Addr)(x:Str)(t:Tok)(T:String)(O:["enumerate","zip","dict_itemiterator","dict_reverseitemiterator","odict_iterator","itertools.zip_longest","itertools.pairwise"].contains T=false)
  (W:∀A:Around,A.handled=none->Walks P w A it [it] [it] x.cps.size (SignAt x) (λi h=>h.IsStrIter it T x t i))
  (a:∀(A:Around)(i:Nat)(s:Shared)(Q:Value->Shared->Prop)(E:Value->Shared->Prop),s.heap.IsStrIter it T x t i->Q (.ref it) s->wpAny (model P w) A (pyIter (.ref it)) Q E s):RM P w K tg (Its x) [it] it (λi h=>h.IsStrIter it T x t i) where
 mem:=by simp
 obj:=λi h g b f=>by
  have e:b=it:=by simpa using f
  subst e;obtain⟨o,e,c,d⟩:=g;exact⟨o,e,λv z=>by rw[d]at z;cases z⟩
 keep:=λi h h' ⟨o,e,r⟩ k=>⟨o,k it A6 o e,r⟩
 item:=by
  intro X B N D G i pins s σ H E I l g n;subst B N D;obtain⟨y,q,U,C,f4,p⟩:=l it A6;refine(W X.A (I.ok.hd G)).item i s _ _ n g λv h' tk S j m=>?_;obtain⟨c,u,M,rfl⟩:=S;have V:Inv X pins σ H {s with heap:=h',toks:=tk}:=I.turned (λb o f e=>m b o (by simpa using f) e) y q C f4 p;obtain⟨o,e,Y,R⟩:=id j;exact⟨_,rfl,Vh (s:={s with heap:=h',toks:=tk}) e Y R O ⟨.str ⟨#[c]⟩,H,V,⟨u,rfl⟩,⟨rfl,c,M,rfl⟩,j,λb f=>(l b f).1⟩⟩
 done:=by
  intro X B N D G i pins s σ H E I l g n;subst B N D;obtain⟨y,q,U,C,f4,p⟩:=l it A6;have z:i=x.cps.size:=n;subst z;exact(W X.A (I.ok.hd G)).done s _ _ g λh' tk m=>⟨rfl,I.turned (λb o f e=>m b o (by simpa using f) e) y q C f4 p⟩
 self:=a
def iStr(tl:TE):TI:=fun σ H R=>tl σ H λv H1=>∃x,v=.str x/\R (Its x) H1
theorem YI{l:Expr}{j:TE}(m:PE X l j):PI X tg l (iStr j):=by
 intro pins s σ H R I h;refine thn (m pins s σ H _ I h) λv a ⟨y,d,c,n,p⟩=>?_;obtain⟨x,rfl,q⟩:=p;obtain⟨t,rfl⟩:=n;have fp:∀b,b∈[a.heap.objs.size]->GR X pins d b:=λb k=>by
  have e:b=a.heap.objs.size:=by simpa using k
  subst e;exact c.fpOk (C5 _) (c.hok.fresh (C5 _))
 cases i:x.cps.all (· < 128)with
 |true =>
  refine wpAny_pyIter_ascii i ?_;refine⟨a.heap.objs.size,[a.heap.objs.size],_,_,d,rfl,c.kept (t':=a.toks) λb o e=>C2 _ e,RS _ x t "str_ascii_iterator" A3 (λA f=>Walks.strAscii f _ x t) (λ_ _ _ _ _ g h=>wpAny_pyIter_striter_ascii g h),⟨_,D5 _ rfl,rfl,rfl⟩,fp,q⟩
 |false =>
  refine wpAny_pyIter_wide i ?_;refine⟨a.heap.objs.size,[a.heap.objs.size],_,_,d,rfl,c.kept (t':=a.toks) λb o e=>C2 _ e,RS _ x t "str_iterator" A3 (λA f=>Walks.strWide f _ x t) (λ_ _ _ _ _ g h=>wpAny_pyIter_striter_wide g h),⟨_,D5 _ rfl,rfl,rfl⟩,fp,q⟩
theorem for_str{x:Str}{g:TG}{k:TS}{D:MH}{σ:St}{H:Hp}(a:Nat->St->Hp->Prop)(l:a 0 σ H)
  (n:∀i c σ H,x.cps[i]?=some c->a i σ H->g (.str ⟨#[c]⟩) σ H fun d h=>k {D with nx:=a (i+1),ct:=a (i+1),bk:=D.nx} d h) (o:∀σ H,a x.cps.size σ H->D.nx σ H) :
  ∃W:Nat->Nat->St->Hp->Prop,(∃m,W 0 m σ H)/\∀i m σ H,W i m σ H ->
   ((Its x).stop i H/\D.nx σ H)\/((Its x).go i H/\∃N:St->Hp->Prop,(∀σ' b,N σ' b->∃j,j<m/\W (i+1) j σ' b)/\∀v b,(Its x).yld i H v b->g v σ b fun d h=>k {D with nx:=N,ct:=N,bk:=D.nx} d h):=by
 refine⟨λi m σ H=>m=x.cps.size-i/\i<=x.cps.size/\a i σ H,⟨x.cps.size,by simp,M6 _,l⟩,?_⟩;rintro i m σ H ⟨rfl,s,p⟩;by_cases f:i<x.cps.size
 ·refine .inr ⟨f,a (i+1),fun σ' b r=>⟨x.cps.size-(i+1),by lia,rfl,f,r⟩,λv b y=>?_⟩;obtain⟨e,c,q,rfl⟩:=y;subst e;exact n i c σ _ q p
 ·have e:i=x.cps.size:=by lia
  subst e;exact .inl ⟨rfl,o σ H p⟩
theorem GD:GT X (.type "int") (λxs H Q=>∃x n,xs=[.str x]/\PySem.intText? x=some n/\x.length<=640/\Q (.int n) H):=by
 intro pins s σ H xs us Q I r h;obtain⟨x,n,rfl,a,d,q⟩:=h;cases r with
 |cons c b =>
  cases b;obtain⟨t,rfl⟩:=c;exact W.KIN.call_text a d ⟨.int n,H,I.tok _,⟨_,rfl⟩,q⟩
theorem Td(M:X.calm=true):GT X (.builtin "all") (λxs H Q=>∃(p:Addr)(bs:List Bool),xs=[.ref p]/\SqL X.K H p (bs.map V.bl)/\Q (.bl (bs.all id)) H):=by
 intro pins s σ H xs us Q I r h;obtain⟨p,bs,rfl,D,q⟩:=h;cases r with
 |cons y w =>
  cases w;cases(show _=Value.ref p from y);obtain⟨a,k,pl,T⟩:=I.list D;have l:p≠s.heap.objs.size:=F7 (by obtain⟨o,n,e,_⟩:=pl;exact C9 e);refine call_all_walk (A3f pl.isList ?_);have c:∀(i:Nat) v,a[i]?=some v->∃b,bs[i]?=some b/\v=.bool b:=λi v e=>by
   cases g:bs[i]? with
   |none =>
    have:a[i]?=none:=k.none_of (by rw[C3,g];rfl);rw[e]at this;cases this
   |some b =>
    obtain⟨u,m,R⟩:=k.get (i:=i) (x:=V.bl b) (by rw[C3,g];rfl);rw[e]at m;cases m;exact⟨b,rfl,R⟩
  refine⟨s.heap.objs.size,_,_,_,_,_,λi=>bs.getD i true,rfl,Walks.list (A:=X.A.in1) (I.ok.hd M) s.heap.objs.size p l a.toArray,⟨⟨_,D5 _ rfl,rfl,rfl⟩,?_⟩,?_,?_⟩
  ·exact pl.isList.at λo e=>C2 _ e
  ·intro i v G N S C j;obtain⟨b,g,rfl⟩:=c i v (by simpa using C);have E:bs.getD i true=b:=by rw[F0,g];rfl
   have j:N (bs.getD i true) G:=j;rw[E]at j;exact A0b j
  ·intro h' tk t;have P:Inv X pins σ H {s with heap:=h',toks:=tk}:=I.kept λb o e=>t b o (by intro z;exact F7 (C9 e) (by simpa using z)) (C2 _ e);have len:a.toArray.size=bs.length:=by rw[F8,<-k.length,B8]
   have B:(List.range a.toArray.size).all (λi=>bs.getD i true)=bs.all id:=by
    rw[len,R1,T9,T9];constructor
    ·intro z b O;obtain⟨i,f,e⟩:=W7.mp O;have:=z i (J1.mpr f);rw[F0,D8 f,e]at this;exact this
    ·intro z i f;have d:=J1.mp f;rw[F0,D8 d];exact z _ (List.getElem_mem d)
   rw[B];exact⟨.bl _,H,P,rfl,q⟩
end
section
variable{X:Cx}{iter:Expr}{ti:TE}{x G:Str}{px px1 px2 cpos pos:Pos}{scope:Scope}{g:Str}
end
structure Tm(K:W.Frag)(D:Addr):Prop where
 hd:hasDictIn K D=true
 ga:findIn K (.ref D) "__getattribute__" = some (some (.builtin "BaseException.__getattribute__"))
 gt:findIn K (.ref D) "__getattr__" = some none
 cl:findIn K (.ref D) "__class__" = some (some (.builtin "object.__class__"))
 sp:specialIn K (.builtin "object.__class__") "__get__" = some (some (.builtin "getset_descriptor.__get__"))
 tk:takesIn K (.builtin "object.__class__")=some true
 mo:mroIn K D (.type "object")=some true
 mb:mroIn K D (.type "BaseException")=some true
section
variable{K:W.Frag}{prog:Program}{w:World}{A:Around}{E:Value->Shared->Prop}{s:Shared}{a D:Addr}{o:Obj}
open PySem.W Builtin Builtin.ObjectAttr Builtin.Getset_descriptor
theorem exc_find{M:Model}{h:Heap}(X:K.In h)(f:Tm K D):Looks M h (find (.ref a) (.ref D) "__class__") (.bind (.builtin "getset_descriptor.__get__") (.builtin "object.__class__")) :=
 (looks_findIn X f.cl).andThen ((looks_specialIn X f.sp).andThen ((show Looks M h (dataDescriptor? (some (.builtin "object.__class__")) (some (.builtin "getset_descriptor.__get__"))) (some (.builtin "getset_descriptor.__get__",.builtin "object.__class__"))from(looks_takesIn X f.tk).andThen .now).andThen (Looks.tag .now)))
theorem exc_get{R:Result->Shared->Prop}{b:Value}(X:K.In s.heap)(f:Tm K D)(e:s.heap.get? a=some o)(c:o.cls=.ref D)(i:R (.ok (.ret (.ref D))) s) :
  codeAny (model prog w) A (.call (.builtin "getset_descriptor.__get__") ⟨[.builtin "object.__class__",.ref a,b],[]⟩) R s:=by
 obtain⟨h,g,d,t,j⟩:=s;have l:Looks (model prog w) h (typeOf (.ref a)) (.ref D):=c▸(Looks.ld e).andThen .now;have k:=looks_mroIn (M:=model prog w) X f.mo;refine codeAny_call_builtin KF.slot_gs.plain KF.entry_gs (KF.slot_gs.check _ _ _ _ _ _ _ _ KF.type_class (KF.args_gs _ _ _) ?_);unfold Builtin.«getset_descriptor.__get__» descrGet;rw[dga_obj];refine Z6 (X6 ?_);unfold descrGetter descrCheckInstance descrNameAndClass isInstance;simp only[KF.owner_class]
 repeat lk
 refine⟨Code.quiet_builtin _ A1,codeAny_builtin KF.entry_class ?_⟩;unfold Builtin.«object.__class__» shownTypeOf
 repeat lk
 exact i
theorem WJ{Q:Option Value->Shared->Prop}(X:K.In s.heap)(f:Tm K D)(i:s.heap.get? a=some o)(e:o.cls=.ref D)(p:Q (some (.ref D)) {s with toks:=s.toks+1}) :
  wpAny (model prog w) A (getAttr? (.ref a) "__class__") Q E s:=by
 obtain⟨h,g,d,t,m⟩:=s;have j:Looks (model prog w) h (typeOf (.ref a)) (.ref D):=e▸(Looks.ld i).andThen .now;have l:=looks_findIn (M:=model prog w) X f.ga;have L2:=looks_findIn (M:=model prog w) X f.gt;have n:=exc_find (M:=model prog w) (a:=a) X f;have r:Looks (model prog w) h (isInstance (.ref a) (.type "BaseException")) true:=j.andThen (looks_mroIn X f.mb);unfold getAttr? getAttrBy? getAttrBy;refine Z6 (wpAny_mkText (Z6 (A6h (wpAny_holding (Z6 (j.at (Z6 (l.at ?_))))))));dsimp only;have q:(Value.builtin "BaseException.__getattribute__" == Value.builtin "object.__getattribute__")=false:=by decide +kernel
 rw[Z8 (by rw[q,W9];exact C7)];unfold getAttrByItsOwn hookBefore;rw[X5 (by rfl)];refine Z6 (L2.at ?_);refine Z6 (A6h (wpAny_holding ?_));unfold callGetattribute;rw[Z8 A3];unfold boundAndCalled;refine Z6 (wpAny_of_eq (PySem.F.excAttr_ValueError.ga.bind (.ref a)) ?_);dsimp only;refine A6b (codeAny_call_builtin PySem.F.excAttr_ValueError.ga.plain PySem.F.entry_bexc_ga ?_);have k:builtinKind "BaseException.__getattribute__" = some .slot:=by decide +kernel
 have b:splitId "BaseException.__getattribute__" = some ("BaseException","__getattribute__"):=by decide +kernel
 have c:=PySem.F.args_bexc_ga (.ref a) (.str "__class__" t);simp only[checkBuiltinCall,k,b];refine Z6 (r.at ?_);rw[Z8 A3];refine wpAny_of_eq (a:=()) c ?_;unfold Builtin.«object.__getattribute__»;dsimp only at n
 repeat ((fail_if_success (with_reducible show wpAny _ _ (call _ _) _ _ _));lk)
 refine A6b (exc_get (s:=⟨h,g,d,t+1,m⟩) X f i e ?_);dsimp only
 repeat lk
 exact p
end
inductive TyX(K:W.Frag)(H:Hp):V->Value->Prop where
 |of {x:V} {t:Value} (h:MG K H x t):TyX K H x t
 |exc {a D:Addr} (e:H a=some (MR a D)) (f:Tm K D):TyX K H (.ref a) (.ref D)
theorem ZG{K:W.Frag}{a D:Addr}(f:Tm K D):W.KitX K (.ref a) (.ref D) (λh=>∃o,h.get? a=some o/\o.cls=.ref D/\notCls o=true) where
 ty:=λM h X ⟨o,e,c,_⟩=>c▸(W.Looks.ld e).andThen .now
 it:=λM h X _=>by
  obtain⟨p,b,_⟩:=any_some f.hd;unfold clsIn at b;split at b
  ·rename_i r d' j d i;intro v s u s' k q;unfold isType loadHead;exact Z6 (wpAny_loadPart (k _ _ (X _ _ i)) (X6 q))
  ·cases b
 ne:=λh l dd m n t X g=>by
  obtain⟨p,b,_⟩:=any_some f.hd;refine T7.mpr λq=>?_;have e:D=l:=Value.ref.inj (beq_iff_eq.mp q);subst e;unfold clsIn at b;split at b
  ·rename_i r d' j d i;have z:=(X _ _ i).symm.trans g;cases z
  ·cases b
 ca:=λX ⟨o,e,c,_⟩ k=>WJ X f e c k
def clsV:V->Option Value
 |.ty n=>some (.type n)
 |.ref C=>some (.ref C)
 |_=>none
theorem AW{X:Cx}:GT X (.builtin "isinstance") (λxs H Q=>∃x c d t b,xs=[x,c]/\clsV c=some d/\TyX X.K H x t/\kitOne X.K t d=some b/\Q (.bl b) H):=by
 intro pins s σ H xs us Q I r h;obtain⟨x,c,d,t,b,rfl,g,ty,j,q⟩:=h;cases r with
 |@cons _ u _ _ k l =>
  cases l with
  |@cons _ v _ _ i o =>
   cases o;have m:v=d:=by
    cases c with
    |ty n=>cases g;exact i
    |ref C=>cases g;exact i
    |_=>cases g
   subst m;cases ty with
   |of ty=>exact WD I k ty j λtk=>⟨.bl b,H,I.tok tk,rfl,q⟩
   |@exc a D e f =>
    cases(show u=Value.ref a from k);obtain⟨p,_,_⟩:=(show BD X.prog X.w H s.heap a (MR a D)from I.hok a _ e)
    exact A0c (ZG f) I.kIn (MV.not p) j (λz=>nomatch z) λtk=>⟨.bl b,H,I.tok tk,rfl,q⟩
section
variable{X:Cx}{c:Expr}{a b:List Stmt}{tc:TT}{t u:TS}{pos:Pos}
end
def GC(env:Env)(a:List (Str×Addr))(x:Str×NameKind):List (Str×Addr):=if(x.2==NameKind.free)=true then(x.1,(env.cells.lookup x.1).getD 0)::a else a
def Ul(env:Env)(l:List (Str×NameKind)):List (Str×Addr):=l.foldl (GC env) []
theorem Uf{α β:Type}{l:List α}{f:α->β->Sem (ForInStep β)}{g:β->α->β}(h:∀x∈l,∀b,f x b=pure (.yield (g b x))):∀b,forIn l b f=pure (l.foldl g b):=by
 induction l with
 |nil=>intro b;rfl
 |cons x l c =>
  intro b;rw[List.forIn_cons,h x C8,pure_bind];exact c (λy a=>h y (C4 _ a)) _
theorem OQ{d:Scope}{b:Env}(h:∀y∈d.names,y.2=.free->∃c,b.cells.lookup y.1=some c):closureFor d b=pure (Ul b d.names):=by
 simp only[closureFor];rw[Uf (g:=GC b) (λx l c=>by
  obtain⟨n,k⟩:=x;by_cases i:k=.free
  ·subst i;obtain⟨a,f⟩:=h _ l rfl;have e:cellOf b n=pure a:=by unfold cellOf;rw[show b.cells.lookup n=some a from f]
   simp only[GC,beq_self_eq_true,A4d,e,show b.cells.lookup n=some a from f,Option.getD_some];rfl
  ·have j:(k==NameKind.free)=false:=by simpa using i
   simp only[GC,j,O2,A3a])]
 rfl
theorem Qf(b:Env){y:Str}{c:Addr}:∀(l:List (Str×NameKind))(a:List (Str×Addr)),(l.foldl (GC b) a).lookup y=some c->a.lookup y=some c\/((y,NameKind.free)∈l/\c=(b.cells.lookup y).getD 0)
 |[],a,h=>.inl h
 | (n,k)::r,a,h=>by
  rw[W1]at h;rcases Qf b r _ h with z|⟨z,e⟩
  ·unfold GC at z;split at z
   ·rename_i g;have d:k=.free:=by simpa using g
    rw[P5]at z;split at z
    ·rename_i i;have f:y=n:=by simpa using i
     subst f d;exact .inr ⟨C8,(K0 z).symm⟩
    ·exact .inl z
   ·exact .inl z
  ·exact .inr ⟨C4 _ z,e⟩
theorem SZ(b:Env){y:Str}:∀(l:List (Str×NameKind))(a:List (Str×Addr)),(∃c,a.lookup y=some c)->∃c,(l.foldl (GC b) a).lookup y=some c
 |[],_,h=>h
 | (n,k)::r,a,h=>by
  rw[W1];refine SZ b r _ ?_;unfold GC;split
  ·rw[P5];split
   ·exact⟨_,rfl⟩
   ·exact h
  ·exact h
theorem Uk(b:Env){y:Str}:∀(l:List (Str×NameKind))(a:List (Str×Addr)),(y,NameKind.free)∈l->∃c,(l.foldl (GC b) a).lookup y=some c
 |[],_,h=>by simp at h
 | (n,k)::r,a,h=>by
  rw[W1];rcases C1.mp h with e|h
  ·cases e;refine SZ b r _ ⟨(b.cells.lookup y).getD 0,?_⟩;unfold GC;simp only[beq_self_eq_true,A4d,P5]
  ·exact Uk b r _ h
theorem Of{a:Env}{y:Str}:∀{b:List (Str×NameKind)},(∀z∈b,z.2≠.cell) ->
  ((b.map λ(n,k)=>if(k==NameKind.free && a.scope.kind==.function && a.kindOf n==some .cell)then(n,NameKind.cell)else(n,k)).lookup y=some .cell \/
   (b.map λ(n,k)=>if(k==NameKind.free && a.scope.kind==.function && a.kindOf n==some .cell)then(n,NameKind.cell)else(n,k)).lookup y=some .free)->(y,NameKind.free)∈b
 |[],_,h=>by simp at h
 | (n,k)::r,hc,h=>by
  have e:=@Of a y r (λz g=>hc z (C4 _ g));have h':List.lookup y ((if(k==NameKind.free && a.scope.kind==.function && a.kindOf n==some .cell)=true then(n,NameKind.cell)else(n,k))::(r.map λ(n,k)=>if(k==NameKind.free && a.scope.kind==.function && a.kindOf n==some .cell)then(n,NameKind.cell)else(n,k)))=some .cell \/
   List.lookup y ((if(k==NameKind.free && a.scope.kind==.function && a.kindOf n==some .cell)=true then(n,NameKind.cell)else(n,k))::(r.map λ(n,k)=>if(k==NameKind.free && a.scope.kind==.function && a.kindOf n==some .cell)then(n,NameKind.cell)else(n,k)))=some .free:=h
  clear h;by_cases d:(k==NameKind.free && a.scope.kind==.function && a.kindOf n==some .cell)=true
  ·rw[X5 d]at h';have f:k=.free:=by
    simp only[O8,A5c]at d;exact d.1.1
   simp only[P5]at h';cases c:y==n with
   |true =>
    have:y=n:=by simpa using c
    subst this f;exact C8
   |false =>
    rw[c]at h';exact C4 _ (e h')
  ·rw[Z8 d]at h';simp only[P5]at h';cases c:y==n with
   |true =>
    rw[c]at h';have:y=n:=by simpa using c
    subst this;rcases h' with z|z
    ·exact absurd (K0 z) (hc (y,k) C8)
    ·cases K0 z;exact C8
   |false =>
    rw[c]at h';exact C4 _ (e h')
theorem LJ{a:Env}{y:Str}:∀{b:List (Str×NameKind)},b.lookup y=some .free ->
  ((b.map λ(n,k)=>if(k==NameKind.free && a.scope.kind==.function && a.kindOf n==some .cell)then(n,NameKind.cell)else(n,k)).lookup y=some .cell \/
   (b.map λ(n,k)=>if(k==NameKind.free && a.scope.kind==.function && a.kindOf n==some .cell)then(n,NameKind.cell)else(n,k)).lookup y=some .free)
 |[],h=>by simp at h
 | (n,k)::r,h=>by
  have e:=@LJ a y r;show List.lookup y ((if(k==NameKind.free && a.scope.kind==.function && a.kindOf n==some .cell)=true then(n,NameKind.cell)else(n,k))::(r.map λ(n,k)=>if(k==NameKind.free && a.scope.kind==.function && a.kindOf n==some .cell)then(n,NameKind.cell)else(n,k)))=some .cell \/
   List.lookup y ((if(k==NameKind.free && a.scope.kind==.function && a.kindOf n==some .cell)=true then(n,NameKind.cell)else(n,k))::(r.map λ(n,k)=>if(k==NameKind.free && a.scope.kind==.function && a.kindOf n==some .cell)then(n,NameKind.cell)else(n,k)))=some .free
  rw[P5]at h;by_cases d:(k==NameKind.free && a.scope.kind==.function && a.kindOf n==some .cell)=true
  ·rw[X5 d];simp only[P5];cases c:y==n with
   |true=>exact .inl rfl
   |false=>rw[c]at h;exact e h
  ·rw[Z8 d];simp only[P5];cases c:y==n with
   |true=>rw[c]at h;exact .inr h
   |false=>rw[c]at h;exact e h
section
variable{prog:Program}{w:World}{A:Around}{R:Result->Shared->Prop}{s:Shared}
abbrev Ux(ifs:List Expr)(env:Env):Sem Bool:=forIn ifs true λc r=>if r=true then do let ok <-isTrue c env (eval c env);pure (ForInStep.yield ok)else pure (ForInStep.yield r)
theorem SW{q a j:Expr}{p:List Expr}{e:Scope}{z:Pos}{it t:Value}{b:Env}(I:Nat->Shared->Prop)
  (C:∀n s,I n s->wpAny (model prog w) A (pyNext it) (λr d=>match r with
   |none=>R (.ok .next) d
   |some v=>wpAny (model prog w) A (letOwnedTupleGo a it v) (λ_ i=>wpAny (model prog w) A (assign a b v) (λ_ k =>
     wpAny (model prog w) A (Ux p b) (λok c =>
      if ok=true then wpAny (model prog w) A (eval q b) (λx o =>
       wpAny (model prog w) A (call (.builtin "list.append") [t,x]) (λ_ l=>∃m,m<n/\I m l) (λ_ _=>False) o) (λ_ _=>False) c
      else ∃m,m<n/\I m c) (λ_ _=>False) k) (λ_ _=>False) i) (λ_ _=>False) d) (λ_ _=>False) s)
  (n:Nat) (h:I n s):codeAny (model prog w) A (.compLoop (.ListComp q [⟨a,j,p,0⟩] e z) 0 it t b) R s:=by
 refine codeAny_loop rfl I (λn s D=>?_) n h;show wpAny _ A ((compTurn (.ListComp q [⟨a,j,p,0⟩] e z) 0 it t b).onRaise (λx=>do noteFrame x b;theTreesLotGoes x)) _ _ s;refine wpAny_noted ?_;rw[compTurn_list];refine Z6 (wpAny_standAt (Z6 (A0h (C n s D) (λr d g=>?_) λ_ _ h'=>h'.elim)));cases r with
 |none=>exact X6 g
 |some v =>
  refine Z6 (A0h g (λ_ i h₀=>?_) λ_ _ h'=>h'.elim);refine Z6 (A0h h₀ (λ_ k y=>Z6 (A0h y (λok c f=>?_) λ_ _ h'=>h'.elim)) λ_ _ h'=>h'.elim);cases ok with
  |false=>exact X6 ⟨rfl,f⟩
  |true =>
   exact Z6 (Z6 (A0h f (λx o B=>Z6 (A0h B (λ_ l u=>X6 (X6 ⟨rfl,u⟩)) λ_ _ h'=>h'.elim)) λ_ _ h'=>h'.elim))
end
def Nd(cs:List Nat)(σ:St):St:=cs.map λj=>(σ[j]?).getD none
def cxC(X:Cx)(scope:Scope)(N:List Str)(s:Shared)(H:Hp)(ex:List Addr):Cx :=
 {X with N:=N,s₀:=s,H₀:=H,env:=compEnvC scope (Ul X.env scope.names) s.heap.objs.size X.env,outer:=X.stack,stack:=X.stack,ex:=ex,fn:=λ_=>false,pn:=[],xe:=λ_ _=>False}
def PTs(X:Cx)(ifs:List Expr)(t:TT):Prop :=
 ∀(pins:List (Addr×Obj))(s:Shared)(σ:St)(H:Hp)(Q:Bool->Hp->Prop),Inv X pins σ H s->t σ H Q->wpAny (model X.prog X.w) X.A (Ux ifs X.env) (TP X pins σ Q) X.xe s
def tYes:TT:=λ_ H Q=>Q true H
theorem BS{X:Cx}:PTs X [] tYes:=λ_ _ _ H _ I h=>wpAny_tests_nil ⟨H,I,h⟩
structure BM(X:Cx)(scope:Scope)(N:List Str)(k:Nat)(cs:List Nat):Prop where
 cell:∀y∈scope.names,y.2≠.cell
 kind:scope.kind=.function
 names:∀y∈scope.names,y.2=.local->scope.names.lookup y.1=some .local
 free:∀y∈scope.names,y.2=.free->X.env.scope.names.lookup y.1=some .cell\/X.env.scope.names.lookup y.1=some .free
 len:N.length=k+cs.length
 cap:∀j,j<cs.length->∃x,N[k+j]?=some x/\X.N[cs.getD j 0]?=some x/\scope.names.lookup x=some .free
def FY(k:Nat)(cs:List Nat)(g:TG)(tc:TT)(te:TE)(J:It)(σ:St)(H1:Hp)(fin:List V->Hp->Prop):Prop :=
 ∃W:Nat->Nat->List V->Hp->Prop,(∃m,W 0 m [] H1)/\∀i m acc H,W i m acc H ->
  (J.stop i H/\fin acc H)\/(J.go i H/\∃Nx:List V->Hp->Prop,(∀acc' H',Nx acc' H'->∃m',m'<m/\W (i+1) m' acc' H')/\∀x H',J.yld i H x H'->g x (List.replicate k none++Nd cs σ) H' fun σ2 H2=>(∃ts:St,ts.length=k/\σ2=ts++Nd cs σ)/\acc.length<sizeLine /\
   tc σ2 H2 λb H3=>if b=true then te σ2 H3 λv H4=>Nx (acc++[v]) H4 else Nx acc H3)
def tComp(k:Nat)(cs:List Nat)(wi:TI)(g:TG)(tc:TT)(te:TE):TE:=fun σ H Q=>wi σ H λJ H1=>FY k cs g tc te J σ H1 λacc H2=>∀p,H2 p=none->Q (.ref p) (upd H2 p (.lst acc))
section
variable{X:Cx}{tg iter elt:Expr}{ifs:List Expr}{scope:Scope}{pos:Pos}{wi:TI}{g:TG}{tc:TT}{te:TE}{N:List Str}{k:Nat}{cs:List Nat}
theorem Inv.block{pins:List (Addr×Obj)}{σ:St}{H:Hp}{s s':Shared}{O:List Addr}(S:BM X scope N k cs)(I:Inv X pins σ H s)
  (d:∀b∈O,GR X pins H b/\∃o,s.heap.get? b=some o) (M:s'.os=s.os) (hg:AllBare s'.gens) (B:∀b o,s.heap.get? b=some o->s'.heap.get? b=some o) (Z:∃m,s'.heap.Ns s.heap.objs.size m) :
  Inv (cxC X scope N s H O) [] (List.replicate k none++Nd cs σ) H s':=by
 have t:∀{x c},(Ul X.env scope.names).lookup x=some c->X.env.cells.lookup x=some c:=λ{x c} h=>by
  rcases Qf X.env _ _ h with z|⟨z,e⟩
  ·simp at z
  ·obtain⟨a,ha⟩:=I.ok.has x (S.free _ z rfl);rw[e,ha];rfl
 have K:∀b,b∈O->b≠s.heap.objs.size:=λb n z=>by
  obtain⟨_,o,A⟩:=d b n;exact absurd (C9 A) (by rw[z];exact P1 _)
 refine⟨⟨I.ok.mod,S.kind,I.ok.glob,I.ok.blt,C5 _,λx y c D f=>I.ok.inj x y c (t D) (t f),λx hx=>?_,λx c h _=>(nomatch h),I.ok.hd,I.ok.frames,.inl rfl,λb n=>⟨K b n,λx c h=>?_⟩,I.bs,?_,λb o e n=>?_,λb n hf=>?_,I.stack,I.stkFree⟩,
  M,hg,Un.kept B,?_,λx c h=>?_,I.hok.fresh (C5 _),λx c h=>I.freeC x c (t h),λp hp=>absurd (show p∈([]:List (Addr×Obj))from hp) A6,I.hok.kept B,?_⟩
 ·exact Uk X.env _ _ (Of S.cell hx)
 ·exact(d b n).1.2.2.2.2.1 x c (t h)
 ·exact D0 I.ok.bsz I.sz
 ·rcases(d b n).1.2.2.2.1 with z|z
  ·exact I.ok.noex b o e z
  ·exact absurd (F6 (C9 e) (D0 I.ok.bsz z)) (P1 _)
 ·rcases C1.mp (I.stkSub b hf)with z|z
  ·exact(d b n).1.2.1 z
  ·exact(d b n).1.2.2.1 z
 ·obtain⟨m,hm⟩:=Z;obtain⟨mo,aa,E⟩:=I.loc;refine⟨m,hm,λi x v D f h3=>?_⟩;have hi:k<=i:=by
   by_cases z:i<k
   ·rw[N4 (by simpa using z),V4,X5 z]at f;cases f
   ·lia
  obtain⟨j,rfl⟩:∃j,i=k+j:=⟨i-k,by lia⟩
  rw[J9 A6,P9,Nat.add_sub_cancel_left]at f;unfold Nd at f;rw[C3]at f;have Q:j<cs.length:=by
   by_cases z:j<cs.length
   ·exact z
   ·rw[W3 A0]at f;cases f
  obtain⟨x',R,U,G⟩:=S.cap j Q;rw[show N[k+j]?=some x from D]at R;cases R;rw[D8 Q]at f;have r:(σ[cs[j]]?).getD none=some v:=K0 f;rw[F0,D8 Q]at U;have h4:σ[cs[j]]?=some (some v):=by
   cases q:σ[cs[j]]? with
   |none=>rw[q]at r;cases r
   |some w=>rw[q]at r;rw[show w=some v from r]
  have Y:=S.free (x,.free) (A1b G) rfl;obtain⟨u,ru,l⟩:=E _ x v U h4 (.inr Y);refine⟨u,ru,?_⟩;rcases l with ⟨z,_⟩|⟨_,c,P,z⟩
  ·have z':X.env.scope.names.lookup x=some .local:=z;rcases Y with q|q<;>· rw[z']at q;cases q
  ·obtain⟨c',V⟩:=Uk X.env _ [] (A1b G);have T:=t V;rw[P]at T;cases T;obtain⟨o,A,C⟩:=z;exact .inr ⟨LJ G,c,V,o,B _ _ A,C⟩
 ·obtain⟨v,o,A,C⟩:=I.cell x c (t h);exact⟨v,o,B _ _ A,C⟩
 ·show(List.replicate k none++Nd cs σ).length=N.length;rw[C6,P9,S.len];unfold Nd;rw[B8]
end
structure TurnQ(C:Cx->Prop)(P:Program)(w:World)(K:W.Frag)(tg:Expr)(J:It)(fp:List Addr)(it:Addr)(tn:Nat->Heap->Prop):Prop where
 obj:∀i h,tn i h->∀b∈fp,∃o,h.get? b=some o/\∀v,o.data≠.cell v
 keep:∀i h h',tn i h->(∀b∈fp,∀o,h.get? b=some o->h'.get? b=some o)->tn i h'
 item:∀(X:Cx),C X->X.prog=P->X.w=w->X.K=K->∀(i:Nat)(pins:List (Addr×Obj))(s:Shared)(σ:St)(H:Hp)(E:Value->Shared->Prop),Inv X pins σ H s->(∀b∈fp,GR X pins H b)->tn i s.heap->J.go i H ->
  wpAny (model P w) X.A (pyNext (.ref it)) (λr s1=>∃u,r=some u/\wpAny (model P w) X.A (letOwnedTupleGo tg (.ref it) u) (λ_ s2=>∃x H',Inv X pins σ H' s2/\Bb x u/\J.yld i H x H'/\tn (i+1) s2.heap/\∀b∈fp,H' b=none) E s1) E s
 done:∀(X:Cx),C X->X.prog=P->X.w=w->X.K=K->∀(i:Nat)(pins:List (Addr×Obj))(s:Shared)(σ:St)(H:Hp)(E:Value->Shared->Prop),Inv X pins σ H s->(∀b∈fp,GR X pins H b)->tn i s.heap->J.stop i H ->
  wpAny (model P w) X.A (pyNext (.ref it)) (λr s1=>r=none/\Inv X pins σ H s1) E s
 self:∀(A:Around)(i:Nat)(s:Shared)(Q:Value->Shared->Prop)(E:Value->Shared->Prop),tn i s.heap->Q (.ref it) s->wpAny (model P w) A (pyIter (.ref it)) Q E s
theorem RM.q{P:Program}{w:World}{K:W.Frag}{b:Expr}{J:It}{fp:List Addr}{it:Addr}{a:Nat->Heap->Prop}(T:RM P w K b J fp it a):TurnQ (λX=>X.calm=true) P w K b J fp it a :=
 ⟨T.obj,T.keep,λX c p w k=>T.item X p w k c,λX c p w k=>T.done X p w k c,T.self⟩
section
variable{X:Cx}{tg iter elt:Expr}{ifs:List Expr}{scope:Scope}{pos:Pos}{wi:TI}{g:TG}{tc:TT}{te:TE}{N:List Str}{k:Nat}{cs:List Nat}{fin:List V->Hp->Prop}
theorem WN{pins:List (Addr×Obj)}{σ:St}{C:Hp}{sD s1:Shared}{it D:Addr}{fp:List Addr}{tn:Nat->Heap->Prop}{J:It}{n0:Nat}{RR:Result->Shared->Prop}{Cq:Cx->Prop}(hc:∀s H Y,Cq (cxC X scope N s H Y))(S:BM X scope N k cs)
  (hg:∀s H Y,PG (cxC X scope N s H Y) tg g) (ht:∀s H Y,PTs (cxC X scope N s H Y) ifs tc) (he:∀s H Y,PE (cxC X scope N s H Y) elt te)
  (ID:Inv X pins σ C sD) (hD:sD.heap.get? D=some {cls:=.type "list",data:=.seq ([]:List Value).toArray n0}) (ad:X.s₀.heap.objs.size<=D) (fD:GR X pins C D) (al:D∉fp)
  (T:TurnQ Cq X.prog X.w X.K tg J fp it tn) (st:tn 0 sD.heap) (f2:∀b∈fp,GR X pins C b) (a:FY k cs g tc te J σ C fin)
  (aq:s1.os=sD.os) (av:AllBare s1.gens) (hk:∀b o,sD.heap.get? b=some o->s1.heap.get? b=some o) (hn:∃m,s1.heap.Ns sD.heap.objs.size m)
  (an:∀(t:Hp)(d:List V)(Q:Shared),fin d t->t D=none->Inv X pins σ (upd t D (.lst d)) Q->(∃m,Q.heap.Ns sD.heap.objs.size m)->GR X pins (upd t D (.lst d)) sD.heap.objs.size->RR (.ok .next) Q) :
  codeAny (model X.prog X.w) X.A (.compLoop (.ListComp elt [⟨tg,iter,ifs,0⟩] scope pos) 0 (.ref it) (.ref D) (compEnvC scope (Ul X.env scope.names) sD.heap.objs.size X.env)) RR s1:=by
 obtain⟨W,⟨m0,w0⟩,am⟩:=a;have R:∀b,b∈D::fp->∃o,sD.heap.get? b=some o:=λb a=>by
  rcases C1.mp a with rfl|z
  ·exact⟨_,hD⟩
  ·obtain⟨o,e,_⟩:=T.obj _ _ st b z;exact⟨o,e⟩
 have l:∀b∈D::fp,GR X pins C b/\∃o,sD.heap.get? b=some o:=λb a=>⟨by
  rcases C1.mp a with rfl|z
  ·exact fD
  ·exact f2 b z,R b a⟩
 have P:∀b,b∈D::fp->b≠sD.heap.objs.size:=λb a z=>by
  obtain⟨o,e⟩:=R b a;exact absurd (C9 e) (by rw[z];exact P1 _)
 have ah:∀b,b∈D::fp->b∉frs X.stack:=λb a hf=>by
  rcases C1.mp (ID.stkSub b hf)with z|z
  ·exact(l b a).1.2.1 z
  ·exact(l b a).1.2.2.1 z
 have I0:=ID.block S l aq av hk hn;have af:=I0.ok;have G:∀b,b∈D::fp->∀x c,(Ul X.env scope.names).lookup x=some c->c≠b:=λb a x c h=>(af.exf b a).2 x c h;have I:∀{t:Hp}{pl:List (Addr×Obj)},(∀b∈fp,t b=none)->(∀p∈pl,p.1=D)->∀b∈fp,GR (cxC X scope N sD C (D::fp)) pl t b:=λhn E b a =>
  ⟨hn b a,P b (.tail _ a),ah b (.tail _ a),.inl (.tail _ a),G b (.tail _ a),λp au z=>al (by
   have:=E p au;rw[<-this,z];exact a)⟩
 refine SW (λn s'=>∃(i:Nat)(d:List V)(f:List Value)(M:Nat)(t:Hp),Inv (cxC X scope N sD C (D::fp)) [] (List.replicate k none++Nd cs σ) t s'/\tn i s'.heap/\(∀b∈fp,t b=none)/\t D=none/\d.length<=sizeLine/\AR d f /\
  s'.heap.get? D=some {cls:=.type "list",data:=.seq f.toArray M}/\W i n d t) ?_ m0
  ⟨0,[],[],n0,C,I0,T.keep _ _ _ st (λb _ o e=>hk b o e),λb a=>(f2 b a).1,fD.1,M6 _,.nil,hk _ _ hD,w0⟩
 rintro n s3 ⟨i,d,f,M,H3,I3,ak,ag,aa,ab,v3,e3,w3⟩;have aj:Inv (cxC X scope N sD C (D::fp)) [(D,{cls:=.type "list",data:=.seq f.toArray M})] (List.replicate k none++Nd cs σ) H3 s3:=I3.pins_of λp E=>by
  rw[D7]at E;subst E;exact⟨e3,aa,P D (.head _),ah D (.head _),λv z=>by cases z⟩
 have one:∀p∈[((D,{cls:=.type "list",data:=.seq f.toArray M}):Addr×Obj)],p.1=D:=λp E=>by
  rw[D7]at E;subst E;rfl
 rcases am i n d H3 w3 with ⟨ac,qf⟩|⟨go,Nx,ae,step⟩
 ·refine thn (T.done (cxC X scope N sD C (D::fp)) (hc _ _ _) rfl rfl rfl i _ s3 _ H3 _ aj (I ag one) ak ac) λr Q ⟨hr,U⟩=>?_;subst hr;have IX:Inv X pins σ H3 Q:=ID.call' (ch:=D::fp) U.os U.base U.hok U.bare λb a=>⟨(l b a).1.2.2.2.1,(l b a).1.2.1,(l b a).1.2.2.2.2.1,(l b a).1.2.2.2.2.2⟩
  have p4:=(U.pin (D,{cls:=.type "list",data:=.seq f.toArray M}) (by show _∈[]++[_];simp)).1;have IY:Inv X pins σ (upd H3 D (.lst d)) Q:=by
   refine IX.track aa (Q6 ad) (Q6 (D0 ID.ok.bsz ad)) (K1 fD.2.1) fD.2.2.2.2.1 fD.2.2.2.2.2 (λb a z=>fD.2.2.1 (z▸a)) ?_;exact⟨ab,f,M,v3,p4⟩
  refine an H3 d Q qf aa IY ?_ (ID.fpOk (C5 _) ?_)
  ·obtain⟨m,hm,_⟩:=U.loc;exact⟨m,hm⟩
  ·rw[As (K1 (P D (.head _)))];exact U.free
 ·refine thn (T.item (cxC X scope N sD C (D::fp)) (hc _ _ _) rfl rfl rfl i _ s3 _ H3 (λ_ _=>False) aj (I ag one) ak go) λr Q ⟨u,hr,h4⟩=>?_;subst hr;refine thn h4 λ_ s5 ⟨x,H5,I5,r5,y5,Z,as⟩=>?_;have ao:=I5.pinned (I as one) (T.obj _ _ Z);refine thn (hg sD C (D::fp) _ s5 _ H5 x u _ ao r5 (step x H5 y5)) λ_ s6 ⟨O,H6,I6,⟨ts,tl,ai⟩,ay,q6⟩=>?_;refine thn (ht sD C (D::fp) _ s6 O H6 _ I6 q6) λb s7 ⟨H7,I7,q7⟩=>?_;have weak:∀{pl:List (Addr×Obj)}{t:Hp}{s':Shared},Inv (cxC X scope N sD C (D::fp)) pl O t s'->Inv (cxC X scope N sD C (D::fp)) [] (List.replicate k none++Nd cs σ) t s':=λ{pl t s'} J=>by
   refine(J.weak (σ':=List.replicate k none++Nd cs σ) ?_ λj v e=>?_).pins_of λp E=>absurd E A6
   ·rw[ai,C6,C6,P9,tl]
   ·by_cases z:j<k
    ·rw[N4 (by simpa using z),V4,X5 z]at e;cases e
    ·rw[J9 (by rw[P9];lia),P9]at e;rw[ai,J9 A0,tl];exact e
  have B:∀{pl:List (Addr×Obj)}{σ':St}{t:Hp}{s':Shared},Inv (cxC X scope N sD C (D::fp)) (pl++Mr fp s5.heap) σ' t s'->tn (i+1) s'.heap/\∀b∈fp,t b=none:=λ{pl σ' t s'} J =>
   ⟨T.keep _ _ _ Z λb a o e=>(J.pin (b,o) (L6 _ (L6 _ (II a e)))).1,λb a=>by
    obtain⟨o,e,_⟩:=T.obj _ _ Z b a;exact(J.pin (b,o) (L6 _ (L6 _ (II a e)))).2.1⟩
  cases b with
  |false =>
   have ar:Nx d H7:=by simpa using q7
   obtain⟨m',hm,w7⟩:=ae _ _ ar;rw[Z8 C7];have p7:=I7.pin (D,{cls:=.type "list",data:=.seq f.toArray M}) (L6 _ (Q5 _ (D7.mpr rfl)));exact⟨m',hm,i+1,d,f,M,H7,weak I7,(B I7).1,(B I7).2,p7.2.1,ab,v3,p7.1,w7⟩
  |true =>
   rw[X5 rfl]at q7;rw[X5 rfl];refine thn (he sD C (D::fp) _ s7 O H7 _ I7 q7) λy s8 ⟨v,H8,I8,r8,q8⟩=>?_;obtain⟨m',hm,w8⟩:=ae _ _ q8;have p8:=I8.pin (D,{cls:=.type "list",data:=.seq f.toArray M}) (L6 _ (Q5 _ (D7.mpr rfl)));have ax:=v3.length;refine A2b F.slot_list_append ⟨_,p8.1,rfl⟩ F.entry_list_append (F.args_list_append_2 _ _) (PySem.list_append D f.toArray M y (by rw[F8];lia)) ⟨p8.1,?_⟩;have q:=PySem.IsL.update p8.1 (·.push y);have eq:f.toArray.push y=(f++[y]).toArray:=by simp
   dsimp only at q;rw[eq]at q;have aw:Inv (cxC X scope N sD C (D::fp)) ([]++Mr fp s5.heap) O H8 s8:=I8.pins_of λp E=>I8.pin p (L6 _ (L6 _ E));have I9:=aw.turned (t':=s8.toks) (it:=D) (h':=s8.heap.update D (Obj.mapSeq (·.push y))) (λb o a e=>(O5 s8.heap (Obj.mapSeq (·.push y)) (K1 a)).trans e) p8.2.1 (P D (.head _)) (.inl (.head _)) (G D (.head _))
    (λp E z=>al (by
     have:=(PL (fp:=fp) (h:=s5.heap) (p:=p) (by simpa[cxC] using E)).1;rw[z]at this;exact this))
   refine⟨m',hm,i+1,d++[v],f++[y],_,H8,weak I9,(B I9).1,(B I9).2,p8.2.1,?_,v3.append (.cons r8 .nil),q,w8⟩;rw[C6,R5];lia
theorem OO{pins:List (Addr×Obj)}{σ:St}{x:Hp}{a:Shared}{it:Addr}{fp:List Addr}{G:Nat->Heap->Prop}{J:It}{RR:Value->Addr->Result->Shared->Prop}{E:Value->Shared->Prop}{Cq:Cx->Prop}(hc:∀s H p,Cq (cxC X scope N s H p))(S:BM X scope N k cs)
  (R:∀s H p,PG (cxC X scope N s H p) tg g) (U:∀s H p,PTs (cxC X scope N s H p) ifs tc) (Q:∀s H p,PE (cxC X scope N s H p) elt te)
  (v:Inv X pins σ x a) (T:TurnQ Cq X.prog X.w X.K tg J fp it G) (O:G 0 a.heap) (Z:∀b∈fp,GR X pins x b) (hb:FY k cs g tc te J σ x fin)
  (B:∀(D C:Addr)(q:Hp)(d:List V)(r:Shared),fin d q->q D=none->Inv X pins σ (upd q D (.lst d)) r->(∃m,r.heap.Ns C m)->GR X pins (upd q D (.lst d)) C->RR (.ref D) C (.ok .next) r) :
  wpAny (model X.prog X.w) X.A (newList []) (λd c=>wpAny (model X.prog X.w) X.A (newFunctionEnv scope X.env.globals (Ul X.env scope.names) [] X.env.qual none .none (some X.env)) (λn u =>
   codeAny (model X.prog X.w) X.A (.compStart (.ListComp elt [⟨tg,iter,ifs,0⟩] scope pos) 0 (.ref it) d {n with scope:=relabel scope X.env}) (RR d n.locals) u) E c) E a:=by
 refine A5f (wpAny_newFunctionEnv S.cell (by intro y hy;simp at hy) (λl f h=>?_) S.kind);dsimp only at f h⊢;have i:∀b o,a.heap.get? b=some o->(a.heap.push {cls:=.type "list",dict:=none,data:=.seq ([]:List Value).toArray}).get? b=some o:=λb o e=>C2 _ e;have Y:Inv X pins σ x {a with heap:=a.heap.push {cls:=.type "list",dict:=none,data:=.seq ([]:List Value).toArray} }:=v.kept (t':=a.toks) i;have P:(a.heap.push {cls:=.type "list",dict:=none,data:=.seq ([]:List Value).toArray}).get? a.heap.objs.size=some {cls:=.type "list",data:=.seq ([]:List Value).toArray}:=D5 _ rfl;have I:a.heap.objs.size∉fp:=λz=>by
  obtain⟨o,e,_⟩:=T.obj _ _ O _ z;exact absurd (C9 e) (P1 _)
 have t:G 0 (a.heap.push {cls:=.type "list",dict:=none,data:=.seq ([]:List Value).toArray}):=T.keep _ _ _ O λb _ o e=>i b o e;have M:∀b o,(a.heap.push {cls:=.type "list",dict:=none,data:=.seq ([]:List Value).toArray}).get? b=some o->l.get? b=some o:=λb o e=>h.extBut b o (F7 (C9 e)) (C2 _ e);have j:∀c:Shared,c={a with heap:=l,toks:=a.toks+([]:List (Str×Value)).length} ->
   codeAny (model X.prog X.w) X.A (.compLoop (.ListComp elt [⟨tg,iter,ifs,0⟩] scope pos) 0 (.ref it) (.ref a.heap.objs.size) (compEnvC scope (Ul X.env scope.names) (a.heap.push {cls:=.type "list",dict:=none,data:=.seq ([]:List Value).toArray}).objs.size X.env))
    (RR (.ref a.heap.objs.size) (a.heap.push {cls:=.type "list",dict:=none,data:=.seq ([]:List Value).toArray}).objs.size) c:=by
  rintro c rfl;exact WN (sD:={a with heap:=a.heap.push {cls:=.type "list",dict:=none,data:=.seq ([]:List Value).toArray} }) hc S R U Q Y P v.sz (v.fpOk (C5 _) v.fresh) I T t Z hb rfl v.bare M ⟨_,f⟩ λq d r=>B _ _ q d r
 exact codeAny_compStart_list (j _ rfl) (T.self _ 0 _ _ _ (T.keep _ _ _ t λb _ o e=>M b o e) (j _ rfl))
theorem Df(P:X.calm=true)(S:BM X scope N k cs)(E:PI X tg iter wi)(t:∀s H c,PG (cxC X scope N s H c) tg g)(G:∀s H c,PTs (cxC X scope N s H c) ifs tc)(r:∀s H c,PE (cxC X scope N s H c) elt te)
  (j:∀x,foldedSetIterable iter X.env x=pure x:=by intro _;rfl):PE X (.ListComp elt [⟨tg,iter,ifs,0⟩] scope pos) (tComp k cs wi g tc te):=by
 intro pins s σ H Q I h;rw[eval_ListComp];refine wpAny_comprehension_free (use:=none) rfl j (OQ λy Y z=>I.ok.has _ (S.free y Y z)) S.kind S.names (thn (E pins s σ H _ I h) λv s1 p=>thn p λU s2 O=>?_);obtain⟨it,fp,tn,J,H2,rfl,I2,T,i,K,f⟩:=O;refine OO (RR:=λa C=>compPost (model X.prog X.w) X.A X.xe none (EP X pins σ Q) a C) (Cq:=λX=>X.calm=true) (λ_ _ _=>P) S t G r I2 T.q i K f λD C M a n u R B l d=>?_;obtain⟨m,V⟩:=l;refine⟨m,V,λh' Z=>⟨.ref D,upd M D (.lst a),?_,rfl,u D R⟩⟩;exact B.turned (t':=n.toks) (it:=C) (λb o f e=>(Z.2 b f).trans e) d.1 d.2.1 d.2.2.2.1 d.2.2.2.2.1 d.2.2.2.2.2
def Yf(i k:Nat)(cs:List Nat)(wi:TI)(g:TG)(tc:TT)(te:TE):TS:=λD σ H=>wi σ H λJ H1=>FY k cs g tc te J σ H1 λacc H2=>∀p,H2 p=none->D.nx (σ.set i (some (.ref p))) (upd H2 p (.lst acc))
theorem Iq{i:Nat}{y:Str}{j c:Pos}(hc:X.calm=true)(hN:X.N.Nodup)(t:X.N[i]?=some y)(n:X.env.scope.names.lookup y=some .local)(S:BM X scope N k cs)(hi:PI X tg iter wi)
  (U:∀s H l,PG (cxC X scope N s H l) tg g) (ht:∀s H l,PTs (cxC X scope N s H l) ifs tc) (R:∀s H l,PE (cxC X scope N s H l) elt te)
  (r:swapsWith (.ListComp elt [⟨tg,iter,ifs,0⟩] scope pos) (some (.Name y j)) c.line X.env=pure true:=by rfl) (K:∀x,foldedSetIterable iter X.env x=pure x:=by intro _;rfl) :
  PS X (.Assign [.Name y j] (.ListComp elt [⟨tg,iter,ifs,0⟩] scope pos) c) (Yf i k cs wi g tc te):=by
 intro pins s σ H D I h;rw[exec_Assign_Name_used _ _ _ _ r];refine Z6 (wpAny_standAt (Z6 ?_));show wpAny _ X.A (do let _ <-comprehension (.ListComp elt [⟨tg,iter,ifs,0⟩] scope pos) scope X.env _ (newList []) false (eval iter X.env) (some (assign (.Name y j) X.env))) _ _ s;refine Z6 (A0h (wpAny_comprehension_free (use:=some (assign (.Name y j) X.env)) (Q:=λ_ s'=>SP X pins D .next s') rfl K (OQ λy n Y=>I.ok.has _ (S.free y n Y)) S.kind S.names
  (thn (hi pins s σ H _ I h) λv s1 P=>thn P λaa s2 h2=>?_)) (λ_ s' hq=>X6 (X6 hq)) λ_ _ e=>e)
 obtain⟨it,fp,tn,J,H2,rfl,I2,T,G,f2,B⟩:=h2;refine OO (RR:=λf C=>compPost (model X.prog X.w) X.A X.xe (some (assign (.Name y j) X.env)) (λ_ s'=>SP X pins D .next s') f C) (Cq:=λX=>X.calm=true) (λ_ _ _=>hc) S U ht R I2 T.q G f2 B λL C H' f s4 V nD Z O d=>?_;obtain⟨m,hm⟩:=O;show wpAny _ X.A (assign (.Name y j) X.env (.ref L)) _ _ _;refine wpAny_assign_Name (PF Z hN t (.inl n) (v:=.ref L) rfl (λs5 M E=>?_) (.inr n));obtain⟨a,sb,ha⟩:=E;have u:C≠a:=by
  rcases ha with z|z
  ·rw[z];exact d.2.1
  ·exact λq=>d.2.2.2.2.1 y a z q.symm
 refine⟨m,hm.sameBut sb u,λh' p=>⟨σ.set i (some (.ref L)),upd H' L (.lst f),?_,V L nD⟩⟩;exact M.turned (t':=s5.toks) (it:=C) (λb o B e=>(p.2 b B).trans e) d.1 d.2.1 d.2.2.2.1 d.2.2.2.2.1 d.2.2.2.2.2
end
section
variable{K:W.Frag}{k:Nat}{cs:List Nat}{g:TG}{tc:TT}{te:TE}{σ:St}{H:Hp}{fin:List V->Hp->Prop}
abbrev Bt(k:Nat)(cs:List Nat)(g:TG)(tc:TT)(te:TE)(σ:St)(x:V)(acc:List V)(H:Hp)(Nx:List V->Hp->Prop):Prop :=
 g x (List.replicate k none++Nd cs σ) H fun σ2 H2=>(∃ts:St,ts.length=k/\σ2=ts++Nd cs σ)/\acc.length<sizeLine/\tc σ2 H2 λb H3=>if b=true then te σ2 H3 λv H4=>Nx (acc++[v]) H4 else Nx acc H3
theorem ED{a:Addr}{xs:List V}(c:Nat->List V->Hp->Prop)(h:c 0 [] H)(r:∀i b H,i<=xs.length->c i b H->SqL K H a xs)
  (j:∀i x b H,xs[i]?=some x->c i b H->Bt k cs g tc te σ x b H (c (i+1))) (l:∀b H,c xs.length b H->fin b H):FY k cs g tc te (Itl K a) σ H fin:=by
 refine⟨λi m b H=>m=xs.length-i/\i<=xs.length/\c i b H,⟨xs.length,by simp,M6 _,h⟩,?_⟩;rintro i m b H ⟨rfl,n,p⟩;have q:=r i b H n p;by_cases d:i<xs.length
 ·refine .inr ⟨⟨xs,xs[i],q,by simp[d]⟩,c (i+1),λf o s=>⟨xs.length-(i+1),by lia,rfl,d,s⟩,λx o y=>?_⟩;obtain⟨e,y⟩:=y;subst e;exact j i x b _ (y xs q) p
 ·have e:i=xs.length:=by lia
  subst e;exact .inl ⟨⟨xs,q,C5 _⟩,l b H p⟩
theorem RG{a:Addr}{xs:List V}(c:Nat->List V->Hp->Prop)(h:c 0 [] H)(r:∀i b H,i<=xs.length->c i b H->SqT K H a xs)
  (j:∀i x b H,xs[i]?=some x->c i b H->Bt k cs g tc te σ x b H (c (i+1))) (l:∀b H,c xs.length b H->fin b H):FY k cs g tc te (Itt K a) σ H fin:=by
 refine⟨λi m b H=>m=xs.length-i/\i<=xs.length/\c i b H,⟨xs.length,by simp,M6 _,h⟩,?_⟩;rintro i m b H ⟨rfl,n,p⟩;have q:=r i b H n p;by_cases d:i<xs.length
 ·refine .inr ⟨⟨xs,xs[i],q,by simp[d]⟩,c (i+1),λf o s=>⟨xs.length-(i+1),by lia,rfl,d,s⟩,λx o y=>?_⟩;obtain⟨e,y⟩:=y;subst e;exact j i x b _ (y xs q) p
 ·have e:i=xs.length:=by lia
  subst e;exact .inl ⟨⟨xs,q,C5 _⟩,l b H p⟩
theorem WO{lo:Int}{n:Nat}(c:Nat->List V->Hp->Prop)(f:c 0 [] H)(h:∀i a H,i<n->c i a H->Bt k cs g tc te σ (.int (lo+i)) a H (c (i+1)))(j:∀a H,c n a H->fin a H):FY k cs g tc te (Itr lo n) σ H fin:=by
 refine⟨λi m a H=>m=n-i/\i<=n/\c i a H,⟨n,by simp,M6 _,f⟩,?_⟩;rintro i m a H ⟨rfl,q,p⟩;by_cases b:i<n
 ·refine .inr ⟨b,c (i+1),λd l o=>⟨n-(i+1),by lia,rfl,b,o⟩,λx l y=>?_⟩;obtain⟨e,y⟩:=y;subst e y;exact h i a _ b p
 ·have e:i=n:=by lia
  subst e;exact .inl ⟨C5 _,j a H p⟩
end
section
variable{prog:Program}{w:World}{A:Around}{E:Value->Shared->Prop}{s:Shared}
theorem LQ{I t:Addr}{k:Nat}{vs:Array Value}{v:Value}{Q:Value->Shared->Prop}(c:s.heap.IsTupleIter I t k)(d:s.heap.IsTuple t vs)(h:vs[k]?=some v)
  (q:∀g,g.IsTupleIter I t (k+1)->Heap.SameBut I s.heap g->Q v {s with heap:=g}):wpAny (model prog w) A (Builtin.SmallTypes.nextOf (.ref I)) Q E s:=by
 obtain⟨m,b,f,a⟩:=id c;obtain⟨j,e,_,l,i⟩:=d;unfold Builtin.SmallTypes.nextOf;refine Z6 (wpAny_callSpecial?_slot (name:=Str.ofString "__next__") c.typeIs A2e (A2h A2e c.typeIs F.entry_tuple_iterator_next ?_ (F.args_tuple_iterator_next_1 _)));show wpAny _ _ (field (.ref I) 0 >>= _) _ _ s;refine Z6 (A0f b a (x:=.ref t) rfl ?_);show wpAny _ _ (if(Value.ref t==Value.none)=true then _ else _) _ _ s;rw[Z8 (λz:(Value.ref t==Value.none)=true=>C7 z)];show wpAny _ _ (field (.ref I) 1 >>= _) _ _ s;refine Z6 (A0f b a (x:=.int k 0) rfl ?_);show wpAny _ _ (seqItems? (.ref t) >>= _) _ _ s;refine Z6 (A1c e i ?_);simp only[M4,h];refine Z6 (A4g b a A6 (X6 ⟨v,rfl,X6 (q _ ?_ (Heap.SameBut.update ..))⟩));exact⟨_,T8 _ b (A3h (A1g a _)),(Obj.cls_mapFields ..).trans f,by rw[A1g a];simp[rawInt]⟩
theorem Mt{I t:Addr}{k:Nat}{vs:Array Value}{Q:Value->Shared->Prop}(f:A.handled=none)(d:s.heap.IsTupleIter I t k)(h:s.heap.IsTuple t vs)(j:vs[k]?=none)
  (q:∀g e,Heap.ExtBut I s.heap g->(∃o,g.get? e=some o/\o.cls=.type "StopIteration")->E (.ref e) {s with heap:=g}):wpAny (model prog w) A (Builtin.SmallTypes.nextOf (.ref I)) Q E s:=by
 obtain⟨u,b,p,c⟩:=id d;obtain⟨n,i,_,r,l⟩:=h;unfold Builtin.SmallTypes.nextOf;refine Z6 (wpAny_callSpecial?_slot (name:=Str.ofString "__next__") d.typeIs A2e (A2h A2e d.typeIs F.entry_tuple_iterator_next ?_ (F.args_tuple_iterator_next_1 _)));show wpAny _ _ (field (.ref I) 0 >>= _) _ _ s;refine Z6 (A0f b c (x:=.ref t) rfl ?_);show wpAny _ _ (if(Value.ref t==Value.none)=true then _ else _) _ _ s;rw[Z8 (λz:(Value.ref t==Value.none)=true=>C7 z)];show wpAny _ _ (field (.ref I) 1 >>= _) _ _ s;refine Z6 (A0f b c (x:=.int k 0) rfl ?_);show wpAny _ _ (seqItems? (.ref t) >>= _) _ _ s;refine Z6 (A1c i l ?_);simp only[M4,j];refine Z6 (wpAny_rule (Z6 (A4g b c A6 ?_)));show wpAny _ _ (newExc (.type "StopIteration") [] >>= _) _ _ _;refine Z6 ?_;simp only[newExc,newTuple];refine Z6 (A5f ?_ (by size_fits));refine Z6 (m:=firstArgMember _ _) (wpAny_of_eq (a:=Value.none) (by first|rfl|(simp only[firstArgMember];rfl)) (A5f ?_ (by size_fits)));simp only[raiseNew];refine Z6 (wpAny_handled ?_)
 first|rw[show A.in1.handled=none from f]|rw[f]
 refine Z6 (X6 (wpAny_throw (q _ _ (((Heap.SameBut.update ..).extBut.push _).push _) ⟨_,D5 _ rfl,rfl⟩)))
def Ci:Bool->Heap->Addr->Addr->Nat->Prop
 |true,h,I,l,k=>h.IsTupleIter I l k
 |false,h,I,l,k=>h.IsListIter I l k
def DH:Bool->Heap->Addr->Array Value->Prop
 |true,h,l,vs=>h.IsTuple l vs
 |false,h,l,vs=>h.IsList l vs
def SqX(K:W.Frag):Bool->Hp->Addr->List V->Prop
 |true,H,a,xs=>SqT K H a xs
 |false,H,a,xs=>SqL K H a xs
theorem Ci.move{b:Bool}{h g:Heap}{I l:Addr}{k:Nat}(x:Ci b h I l k)(e:∀o,h.get? I=some o->g.get? I=some o):Ci b g I l k:=by
 cases b with
 |true=>obtain⟨o,a,r⟩:=x;exact⟨o,e _ a,r⟩
 |false=>obtain⟨o,a,r⟩:=x;exact⟨o,e _ a,r⟩
theorem Ci.there{b:Bool}{h:Heap}{I l:Addr}{k:Nat}(x:Ci b h I l k):∃o,h.get? I=some o/\∀v,o.data≠.cell v:=by
 cases b with
 |true=>obtain⟨o,a,_,d⟩:=x;exact⟨o,a,λv z=>by rw[d]at z;cases z⟩
 |false=>obtain⟨o,a,_,d⟩:=x;exact⟨o,a,λv z=>by rw[d]at z;cases z⟩
theorem DH.move{b:Bool}{h g:Heap}{l:Addr}{vs:Array Value}(x:DH b h l vs)(e:∀o,h.get? l=some o->g.get? l=some o):DH b g l vs:=by
 cases b with
 |true=>obtain⟨o,a,r⟩:=x;exact⟨o,e _ a,r⟩
 |false=>obtain⟨o,a,r⟩:=x;exact⟨o,e _ a,r⟩
theorem Dw{b:Bool}{I l:Addr}{k:Nat}{vs:Array Value}{v:Value}{Q:Value->Shared->Prop}(a:Ci b s.heap I l k)(d:DH b s.heap l vs)(c:vs[k]?=some v)
  (q:∀g,Ci b g I l (k+1)->Heap.SameBut I s.heap g->Q v {s with heap:=g}):wpAny (model prog w) A (Builtin.SmallTypes.nextOf (.ref I)) Q E s:=by
 cases b with
 |true=>exact LQ a d c q
 |false=>exact wpAny_nextOf_list_item a d c q
theorem FG{b:Bool}{I l:Addr}{k:Nat}{vs:Array Value}{Q:Value->Shared->Prop}(a:A.handled=none)(c:Ci b s.heap I l k)(f:DH b s.heap l vs)(d:vs[k]?=none)
  (q:∀g e,Heap.ExtBut I s.heap g->(∃o,g.get? e=some o/\o.cls=.type "StopIteration")->E (.ref e) {s with heap:=g}):wpAny (model prog w) A (Builtin.SmallTypes.nextOf (.ref I)) Q E s:=by
 cases b with
 |true=>exact Mt a c f d q
 |false=>exact wpAny_nextOf_list_end a c f d q
theorem Fq{b:Bool}{l:Addr}{vs:Array Value}{Q:Value->Shared->Prop}(a:DH b s.heap l vs)
  (q:∀g,Ci b g s.heap.objs.size l 0->g.objs.size=s.heap.objs.size+1->(∀c o,s.heap.get? c=some o->g.get? c=some o)->Q (.ref s.heap.objs.size) {s with heap:=g}):wpAny (model prog w) A (pyIter (.ref l)) Q E s:=by
 cases b with
 |true=>exact wpAny_pyIter_tuple a (q _ ⟨_,D5 _ rfl,rfl,rfl⟩ (P8 ..) λc o e=>C2 _ e)
 |false=>exact A3f a (q _ ⟨_,D5 _ rfl,rfl,rfl⟩ (P8 ..) λc o e=>C2 _ e)
structure VL(z U O i j l m:Addr):Prop where
 nd:[z,U,O,i,j].Nodup
 l:l∉[z,O,i,j]
 m:m∉[z,O,i,j]
theorem WT{b c:Bool}{z U O i j l m:Addr}{k:Nat}{xs ys:Array Value}{x y p q:Value}{Q:Value->Shared->Prop}(D:VL z U O i j l m)(K:IsZip s.heap z U O .none)(hU:IsPair s.heap U (.ref i) (.ref j))(hO:IsPair s.heap O p q)
  (hi:Ci b s.heap i l k) (hj:Ci c s.heap j m k) (hl:DH b s.heap l xs) (hm:DH c s.heap m ys) (hx:xs[k]?=some x) (hy:ys[k]?=some y)
  (fin:∀g,IsZip g z U O (rawInt s.heap.objs.size)->IsPair g O x y->Ci b g i l (k+1)->Ci c g j m (k+1)->IsPair g s.heap.objs.size x y->g.objs.size=s.heap.objs.size+1 ->
   (∀a o,a∉[z,O,i,j]->s.heap.get? a=some o->g.get? a=some o)->Q (.ref s.heap.objs.size) {s with heap:=g}) :
  wpAny (model prog w) A (Builtin.«zip.__next__» ⟨[.ref z],[]⟩) (λr s'=>∃v,r=.done (.ret v)/\Q v s') E s:=by
 obtain⟨nd,nl,nm⟩:=D;simp only[N5,C1,D6,K7,A4e,P6,and_true,A3b]at nd nl nm;obtain⟨⟨zU,Y,zi,zj⟩,⟨UO,Ui,Uj⟩,⟨Oi,Oj⟩,ij⟩:=nd;obtain⟨lz,lO,li,lj⟩:=nl;obtain⟨mz,mO,mi,mj⟩:=nm;show wpAny _ _ (field (.ref z) 2 >>= _) _ _ _;refine Z6 (A0f K rfl (x:=.bool false) rfl ?_);show wpAny _ _ (field (.ref z) 3 >>= _) _ _ _;refine Z6 (A0f K rfl (x:=.ref U) rfl (Z6 (A1c hU rfl ?_)));show wpAny _ _ (Builtin.SmallTypes.ownedTupleIsFree (.ref z) >>= _) _ _ _;refine Z6 ?_;unfold Builtin.SmallTypes.ownedTupleIsFree;refine Z6 (A0f K rfl (x:=.none) rfl (X6 ?_));simp only[A4d];refine Z6 (wpAny_rule (Z6 (A0f K rfl (x:=.ref O) rfl (Z6 (A2c K A6 λh1 t B=>?_)))));replace t:IsZip h1 z U O .ellipsis:=t;refine Z6 ?_;simp only[List.zipIdx_cons,List.zipIdx_nil,List.forIn_cons,List.forIn_nil];refine Z6 (Z6 (A7a ?_));show wpAny _ _ (Builtin.SmallTypes.nextOf (.ref i) >>= _) _ _ _;refine Z6 (Dw (hi.move λo e=>B.extBut _ _ (K1 zi) e) (hl.move λo e=>B.extBut _ _ lz e) hx λh2 ae G=>X6 ?_);have P:IsPair h2 O p q:=G.extBut _ _ Oi (B.extBut _ _ (K1 Y) hO);refine Z6 (A1c P rfl (Z6 (A6f P λh3 u H=>?_)));replace u:IsPair h3 O x q:=u;refine Z6 (wpAny_letGo (X6 (Z6 (Z6 (A7a ?_)))));show wpAny _ _ (Builtin.SmallTypes.nextOf (.ref j) >>= _) _ _ _;refine Z6 (Dw (hj.move λo e=>H.extBut _ _ (K1 Oj) (G.extBut _ _ (K1 ij) (B.extBut _ _ (K1 zj) e))) (hm.move λo e=>H.extBut _ _ mO (G.extBut _ _ mi (B.extBut _ _ mz e))) hy λh4 ad I=>X6 ?_);have V:IsPair h4 O x q:=I.extBut _ _ Oj u;refine Z6 (A1c V rfl (Z6 (A6f V λd n N=>?_)));replace n:IsPair d O x y:=n;refine Z6 (wpAny_letGo (X6 (X6 (Z6 (A1c n rfl (Z6 (wpAny_newTuple ?_)))))));have sz:d.objs.size=s.heap.objs.size:=by rw[N.1,I.1,H.1,G.1,B.1]
 have T:IsZip d z U O .ellipsis:=N.extBut _ _ Y (I.extBut _ _ zj (H.extBut _ _ Y (G.extBut _ _ zi t)));have kp:∀a o,a∉[z,O,i,j]->s.heap.get? a=some o->d.get? a=some o:=λa o f e=>by
  simp only[C1,D6,K7,A4e]at f;exact N.extBut _ _ f.2.1 (I.extBut _ _ f.2.2.2 (H.extBut _ _ f.2.1 (G.extBut _ _ f.2.2.1 (B.extBut _ _ f.1 e))))
 have ab:Ci b d i l (k+1):=ae.move λo e=>N.extBut _ _ (K1 Oi) (I.extBut _ _ ij (H.extBut _ _ (K1 Oi) e));have ac:Ci c d j m (k+1):=ad.move λo e=>N.extBut _ _ (K1 Oj) e;have S:z<d.objs.size:=C9 T;show wpAny _ _ (Builtin.SmallTypes.ownedTupleHandOut (.ref z) (.ref d.objs.size) >>= _) _ _ _;refine Z6 ?_;unfold Builtin.SmallTypes.ownedTupleHandOut;have aa:IsZip (d.push {cls:=.type "tuple",data:=.seq #[x,y]}) z U O .ellipsis:=C2 _ T;refine Z6 (A2c aa A6 λh7 C s7=>?_);replace C:IsZip h7 z U O (rawInt d.objs.size):=C;refine A2c C A6 λM h Z=>?_;replace h:IsZip M z U O (rawInt d.objs.size):=h;have X:∀a o,a≠z->d.get? a=some o->M.get? a=some o:=λa o na e=>Z.extBut _ _ na (s7.extBut _ _ na (C2 _ e));have hT:IsPair M d.objs.size x y:=Z.extBut _ _ (U2 S) (s7.extBut _ _ (U2 S) (D5 _ rfl));have R:M.objs.size=d.objs.size+1:=by rw[Z.1,s7.1,P8]
 rw[sz]at h hT R;refine X6 ⟨_,rfl,?_⟩;show Q (.ref d.objs.size) _;rw[sz];refine fin M h (X _ _ (K1 Y) n) (ab.move λo e=>X _ o (K1 zi) e) (ac.move λo e=>X _ o (K1 zj) e) hT R λa o f e=>X a o ?_ (kp a o f e);simp only[C1,D6,K7,A4e]at f;exact f.1
theorem WS{b c:Bool}{z U O i j l m:Addr}{k:Nat}{xs ys:Array Value}{p q:Value}{Q:Fin->Shared->Prop}(V:A.handled=none)(D:VL z U O i j l m)(B:IsZip s.heap z U O .none)(hU:IsPair s.heap U (.ref i) (.ref j))(hO:IsPair s.heap O p q)
  (Y:Ci b s.heap i l k) (hj:Ci c s.heap j m k) (hl:DH b s.heap l xs) (hm:DH c s.heap m ys) (C:xs[k]?=none\/ys[k]?=none)
  (fin:∀g e,(∀a o,a∉[z,O,i,j]->s.heap.get? a=some o->g.get? a=some o)->(∃o,g.get? e=some o/\o.cls=.type "StopIteration")->E (.ref e) {s with heap:=g}) :
  wpAny (model prog w) A (Builtin.«zip.__next__» ⟨[.ref z],[]⟩) Q E s:=by
 obtain⟨Z,nl,nm⟩:=D;simp only[N5,C1,D6,K7,A4e,P6,and_true,A3b]at Z nl nm;obtain⟨⟨zU,zO,K,zj⟩,⟨UO,Ui,Uj⟩,⟨Oi,Oj⟩,ij⟩:=Z;obtain⟨lz,lO,li,lj⟩:=nl;obtain⟨mz,mO,mi,mj⟩:=nm;show wpAny _ _ (field (.ref z) 2 >>= _) _ _ _;refine Z6 (A0f B rfl (x:=.bool false) rfl ?_);show wpAny _ _ (field (.ref z) 3 >>= _) _ _ _;refine Z6 (A0f B rfl (x:=.ref U) rfl (Z6 (A1c hU rfl ?_)));show wpAny _ _ (Builtin.SmallTypes.ownedTupleIsFree (.ref z) >>= _) _ _ _;refine Z6 ?_;unfold Builtin.SmallTypes.ownedTupleIsFree;refine Z6 (A0f B rfl (x:=.none) rfl (X6 ?_));simp only[A4d];refine Z6 (wpAny_rule (Z6 (A0f B rfl (x:=.ref O) rfl (Z6 (A2c B A6 λh1 r u=>?_)))));replace r:IsZip h1 z U O .ellipsis:=r;refine Z6 ?_;simp only[List.zipIdx_cons,List.zipIdx_nil,List.forIn_cons,List.forIn_nil];refine Z6 (Z6 (A7a ?_));show wpAny _ _ (Builtin.SmallTypes.nextOf (.ref i) >>= _) _ _ _;have d:∀{a:Addr},a∉[z,O,i,j]->a≠z/\a≠O/\a≠i/\a≠j:=λh=>by simpa only[C1,D6,K7,A4e] using h
 cases R:xs[k]? with
 |none =>
  refine Z6 (FG V (Y.move λo e=>u.extBut _ _ (K1 K) e) (hl.move λo e=>u.extBut _ _ lz e) R λS e v P=>?_);obtain⟨N,f,n⟩:=P;have I:IsZip S z U O .ellipsis:=v _ _ K r;have M:e≠z:=λt=>by subst t;rw[I]at f;cases f;simp at n
  exact A2c I A6 λX _ y=>fin X e (λa o h t=>y.extBut _ _ (d h).1 (v _ _ (d h).2.2.1 (u.extBut _ _ (d h).1 t))) ⟨N,y.extBut _ _ M f,n⟩
 |some x =>
  have hy:ys[k]?=none:=by
   rcases C with t|t
   ·rw[R]at t;cases t
   ·exact t
  refine Z6 (Dw (Y.move λo e=>u.extBut _ _ (K1 K) e) (hl.move λo e=>u.extBut _ _ lz e) R λS ab v=>X6 ?_);have G:IsPair S O p q:=v.extBut _ _ Oi (u.extBut _ _ (K1 zO) hO);refine Z6 (A1c G rfl (Z6 (A6f G λX aa y=>?_)));refine Z6 (wpAny_letGo (X6 (Z6 (Z6 (A7a ?_)))));show wpAny _ _ (Builtin.SmallTypes.nextOf (.ref j) >>= _) _ _ _;refine Z6 (FG V (hj.move λo e=>y.extBut _ _ (K1 Oj) (v.extBut _ _ (K1 ij) (u.extBut _ _ (K1 zj) e))) (hm.move λo e=>y.extBut _ _ mO (v.extBut _ _ mi (u.extBut _ _ mz e))) hy λh4 e T P=>?_);obtain⟨N,f,n⟩:=P;have H:IsZip h4 z U O .ellipsis:=T _ _ zj (y.extBut _ _ zO (v.extBut _ _ K r));have M:e≠z:=λt=>by subst t;rw[H]at f;cases f;simp at n
  exact A2c H A6 λh5 _ s5=>fin h5 e (λa o h t=>s5.extBut _ _ (d h).1 (T _ _ (d h).2.2.2 (y.extBut _ _ (d h).2.1 (v.extBut _ _ (d h).2.2.1 (u.extBut _ _ (d h).1 t))))) ⟨N,s5.extBut _ _ M f,n⟩
theorem WU(b:Heap)(n:Nat)(d:b.objs.size=n+2)(i j:Value):∃c,c=((b.push {cls:=.type "tuple",data:=.seq #[i,j]}).push {cls:=.type "tuple",data:=.seq #[.none,.none]}).push
   {cls:=.type "zip",data:=.fields #[.none,.bool false,.bool false,.ref b.objs.size,.ref (b.push {cls:=.type "tuple",data:=.seq #[i,j]}).objs.size]} /\
  IsZip c (n+4) (n+2) (n+3) .none/\IsPair c (n+2) i j/\IsPair c (n+3) .none .none/\(∀a o,b.get? a=some o->c.get? a=some o) /\
  ((b.push {cls:=.type "tuple",data:=.seq #[i,j]}).push {cls:=.type "tuple",data:=.seq #[.none,.none]}).objs.size=n+4:=by
 have f:(b.push {cls:=.type "tuple",data:=.seq #[i,j]}).objs.size=n+3:=by rw[P8,d]
 have g:((b.push {cls:=.type "tuple",data:=.seq #[i,j]}).push {cls:=.type "tuple",data:=.seq #[.none,.none]}).objs.size=n+4:=by rw[P8,f]
 refine⟨_,rfl,?_,?_,?_,λa o e=>C2 _ (C2 _ (C2 _ e)),g⟩
 ·have q:=D5 ((b.push {cls:=.type "tuple",data:=.seq #[i,j]}).push {cls:=.type "tuple",data:=.seq #[.none,.none]}) (o:={cls:=.type "zip",data:=.fields #[.none,.bool false,.bool false,.ref b.objs.size,.ref (b.push {cls:=.type "tuple",data:=.seq #[i,j]}).objs.size]}) rfl;rw[g]at q;show _=some _;rw[q,d,f]
 ·have q:=C2 {cls:=.type "zip",data:=.fields #[.none,.bool false,.bool false,.ref b.objs.size,.ref (b.push {cls:=.type "tuple",data:=.seq #[i,j]}).objs.size]} (C2 {cls:=.type "tuple",data:=.seq #[.none,.none]} (D5 b (o:={cls:=.type "tuple",data:=.seq #[i,j]}) rfl));rw[<-d];exact q
 ·have q:=C2 {cls:=.type "zip",data:=.fields #[.none,.bool false,.bool false,.ref b.objs.size,.ref (b.push {cls:=.type "tuple",data:=.seq #[i,j]}).objs.size]} (D5 (b.push {cls:=.type "tuple",data:=.seq #[i,j]}) (o:={cls:=.type "tuple",data:=.seq #[.none,.none]}) rfl);rw[<-f];exact q
theorem Wv{b c:Bool}(l m:Addr)(xs ys:Array Value):Meets (Builtin.«zip.__new__» ⟨[.type "zip",.ref l,.ref m],[]⟩) (λ_ R s=>DH b s.heap l xs/\DH c s.heap m ys /\
   ∀g,IsZip g (s.heap.objs.size+4) (s.heap.objs.size+2) (s.heap.objs.size+3) .none->IsPair g (s.heap.objs.size+2) (.ref s.heap.objs.size) (.ref (s.heap.objs.size+1))->IsPair g (s.heap.objs.size+3) .none .none ->
    Ci b g s.heap.objs.size l 0->Ci c g (s.heap.objs.size+1) m 0->(∀a o,s.heap.get? a=some o->g.get? a=some o)->R (.ok (.ret (.ref (s.heap.objs.size+4)))) {s with heap:=g}) :=
 .of_wp λprog w A R s h=>by
  obtain⟨f,g,d,tk,B⟩:=s;obtain⟨M,K,h⟩:=h;have t:=sub_zip
  wp_walk using Fq M
  intro j z I k1;have r:DH c (Shared.heap ⟨j,g,d,tk,B⟩) m ys:=K.move λo e=>k1 _ o e
  wp_walk using Fq r
  intro k y x k2
  wp_walk
  refine⟨_,rfl,?_⟩;have n:j.objs.size=f.objs.size+1:=I;have C:k.objs.size=f.objs.size+2:=by rw[show k.objs.size=j.objs.size+1 from x,n]
  obtain⟨u,v,H,N,D,k5,G⟩:=WU k f.objs.size C (.ref f.objs.size) (.ref j.objs.size);have q:IsPair u (f.objs.size+2) (.ref f.objs.size) (.ref (f.objs.size+1)):=by rw[<-n];exact N
  have p:Ci c k (f.objs.size+1) m 0:=by rw[<-n];exact y
  have i:=h u H q D ((z.move λo e=>k2 _ o e).move λo e=>k5 _ o e) (p.move λo e=>k5 _ o e) λa o e=>k5 _ _ (k2 _ _ (k1 _ _ e));dsimp only at i;rw[v,<-G]at i;exact i
theorem Inv.turnedL{X:Cx}{pins:List (Addr×Obj)}{σ:St}{H:Hp}{s:Shared}{g:Heap}{tk:Nat}{ch:List Addr}(I:Inv X pins σ H s)(k:∀b o,b∉ch->s.heap.get? b=some o->g.get? b=some o)(a:∀b∈ch,GR X pins H b):Inv X pins σ H {s with heap:=g,toks:=tk}:=by
 have f:∀b u,H b=some u->b∉ch:=λb u e z=>by rw[(a b z).1]at e;cases e
 refine I.step (g':=s.gens) (d':=s.drawn) (ch:=ch) (λb h=>⟨(a b h).2.2.2.1,(a b h).2.1,(a b h).2.2.2.2.1,(a b h).2.2.2.2.2⟩) (λb o _ _ d e _=>k b o d e) (λb o _ _ d e _=>⟨o.slots,k b o d e⟩) (λ_ _ _ _ n=>n)
  (λb o d e=>⟨o,k b o d e⟩) (λ_ _ e=>e) (λ_ _ _ e=>e) (λb t e=>⟨#[],by rw[e];simp⟩) (λm i=>?_) (λb u e=>?_) I.bare
 ·obtain⟨o,l,j,p,r⟩:=i;exact⟨o,l,j,k _ o (λz=>(a _ z).2.1 rfl) p,r⟩
 ·refine(I.hok b u e).stay (λc v d q=>k c v ?_ q) (λ_ q=>q) λ_ _ q=>q;rcases d with z|z
  ·rw[z];exact f b u e
  ·exact f c _ z
theorem Inv.pair{X:Cx}{pins:List (Addr×Obj)}{σ:St}{H:Hp}{s:Shared}{g:Heap}{tk n:Nat}{ch:List Addr}{x y:V}{u v:Value}(I:Inv X pins σ H s)(k:∀b o,b∉ch->s.heap.get? b=some o->g.get? b=some o)(a:∀b∈ch,GR X pins H b)
  (h:Bb x u) (d:Bb y v) (e:g.get? s.heap.objs.size=some {cls:=.type "tuple",data:=.seq #[u,v] n}):H s.heap.objs.size=none/\Inv X pins σ (upd H s.heap.objs.size (.tup [x,y])) {s with heap:=g,toks:=tk}:=by
 have f:=I.fpOk (C5 _) I.fresh;refine⟨f.1,(I.turnedL (tk:=tk) k a).track f.1 (Q6 I.sz) (Q6 (D0 I.ok.bsz I.sz)) (K1 f.2.1) f.2.2.2.2.1 f.2.2.2.2.2 (λb c z=>f.2.2.1 (z▸c)) ?_⟩;exact⟨by show 2<=sizeLine;decide,[u,v],.cons h (.cons d .nil),_,e,rfl,n,rfl⟩
theorem Inv.sq{X:Cx}{pins:List (Addr×Obj)}{σ:St}{H:Hp}{s:Shared}{b:Bool}{a:Addr}{xs:List V}(I:Inv X pins σ H s)(h:SqX X.K b H a xs):∃c:List Value,AR xs c/\DH b s.heap a c.toArray:=by
 cases b with
 |true =>
  obtain⟨c,r,p,_⟩:=I.tuple h;exact⟨c,r,p⟩
 |false =>
  obtain⟨c,r,p,_⟩:=I.list h;exact⟨c,r,p.isList⟩
theorem Inv.sq_inj{X:Cx}{pins:List (Addr×Obj)}{σ:St}{H:Hp}{s:Shared}{b:Bool}{a:Addr}{xs ys:List V}(I:Inv X pins σ H s)(h:SqX X.K b H a xs)(h':SqX X.K b H a ys):xs=ys:=by
 cases b with
 |true=>exact I.tuple_inj h h'
 |false=>exact I.list_inj h h'
def Itz(K:W.Frag)(b c:Bool)(l m:Addr):It :=
 ⟨λi H=>∃xs ys x y,SqX K b H l xs/\SqX K c H m ys/\xs[i]?=some x/\ys[i]?=some y,
  λi H v H'=>∃(T:Addr)(x y:V),v=.ref T/\H T=none/\H'=upd H T (.tup [x,y])/\(∀xs,SqX K b H l xs->xs[i]?=some x)/\∀ys,SqX K c H m ys->ys[i]?=some y,
  λi H=>∃xs ys,SqX K b H l xs/\SqX K c H m ys/\(xs.length<=i\/ys.length<=i)⟩
def ZipTn(b c:Bool)(z U O i j l m:Addr)(k:Nat)(h:Heap):Prop:=IsZip h z U O .none/\IsPair h U (.ref i) (.ref j)/\(∃p q,IsPair h O p q)/\Ci b h i l k/\Ci c h j m k
theorem Yb{P:Program}{w:World}{K:W.Frag}{es:List Expr}{n:Nat}{N:Pos}{b c:Bool}{z U O i j l m:Addr}(D:VL z U O i j l m):RM P w K (.Tuple es n N) (Itz K b c l m) [z,U,O,i,j] z (ZipTn b c z U O i j l m) where
 mem:=by simp
 obj:=λk h r a d=>by
  obtain⟨f,B,⟨p,q,M⟩,G,C⟩:=r;simp only[C1,D6,K7]at d;rcases d with rfl|rfl|rfl|rfl|rfl
  ·exact⟨_,f,λv t=>by cases t⟩
  ·exact⟨_,B,λv t=>by cases t⟩
  ·exact⟨_,M,λv t=>by cases t⟩
  ·exact G.there
  ·exact C.there
 keep:=λk h h' r kp=>by
  obtain⟨f,B,⟨p,q,M⟩,G,C⟩:=r;exact⟨kp z A6 _ f,kp U A6 _ B,⟨p,q,kp O A6 _ M⟩,G.move λo e=>kp i A6 o e,C.move λo e=>kp j A6 o e⟩
 item:=by
  intro X hP hw hK hc k pins s σ H E I Y r hg;subst hP hw hK;obtain⟨f,B,⟨p,q,M⟩,G,C⟩:=r;obtain⟨xs,ys,x,y,Z,sy,hx,hy⟩:=hg;obtain⟨us,ru,ou⟩:=I.sq Z;obtain⟨vs,rv,ov⟩:=I.sq sy;obtain⟨u,hu,ae⟩:=ru.get hx;obtain⟨v,hv,ad⟩:=rv.get hy;have R:s.TypeIs (.ref z) "zip" := ⟨_,f,rfl⟩
  unfold pyNext;refine Z6 (A6h (wpAny_callSpecial?_slot (name:=Str.ofString "__next__") R A6d (A2h A6d R F.entry_zip_next (WT D f B M G C ou ov (by simpa using hu) (by simpa using hv) λg gZ gO gi gj gT gs gk=>X6 ⟨_,rfl,?_⟩) (F.args_zip_next_1 _))));refine wpAny_letOwnedTupleGo_zip (s:={s with heap:=g}) gZ λg2 ab S=>?_;obtain⟨nd,nl,nm⟩:=D;simp only[N5,C1,D6,K7,A4e,P6,and_true,A3b]at nd;obtain⟨⟨zU,zO,zi,zj⟩,⟨UO,Ui,Uj⟩,⟨Oi,Oj⟩,ij⟩:=nd;have V:z<s.heap.objs.size:=C9 f;have kk:∀a o,a∉[z,O,i,j]->s.heap.get? a=some o->g2.get? a=some o:=λa o d e=>(S.2 a (λt=>d (by simp[t]))).trans (gk a o d e);have aa:∀a∈[z,O,i,j],GR X pins H a:=λa d=>Y a (by
   simp only[C1,D6,K7]at d⊢;rcases d with t|t|t|t<;>simp[t])
  obtain⟨nT,J⟩:=I.pair (tk:=s.toks) kk aa ae ad ((S.2 _ (U2 V)).trans gT);refine⟨.ref s.heap.objs.size,_,J,rfl,⟨_,x,y,rfl,nT,rfl,λaf q'=>by rw[I.sq_inj q' Z];exact hx,λag q'=>by rw[I.sq_inj q' sy];exact hy⟩,⟨ab,kk U _ ?_ B,⟨u,v,(S.2 O (K1 zO)).trans gO⟩,gi.move λo e=>(S.2 i (K1 zi)).trans e,gj.move λo e=>(S.2 j (K1 zj)).trans e⟩,λa d=>?_⟩
  ·simp only[C1,D6,K7,A4e];exact⟨K1 zU,UO,Ui,Uj⟩
  ·have e:=(Y a d).1;have lt:a≠s.heap.objs.size:=by
    simp only[C1,D6,K7]at d;rcases d with t|t|t|t|t<;>subst t
    ·exact F7 V
    ·exact F7 (C9 B)
    ·exact F7 (C9 M)
    ·obtain⟨o,e,_⟩:=G.there;exact F7 (C9 e)
    ·obtain⟨o,e,_⟩:=C.there;exact F7 (C9 e)
   rw[As lt];exact e
 done:=by
  intro X hP hw hK hc k pins s σ H E I Y r hg;subst hP hw hK;obtain⟨f,B,⟨p,q,M⟩,G,C⟩:=r;obtain⟨xs,ys,Z,sy,Q⟩:=hg;obtain⟨us,ru,ou⟩:=I.sq Z;obtain⟨vs,rv,ov⟩:=I.sq sy;have lu:=ru.length;have lv:=rv.length;have R:s.TypeIs (.ref z) "zip" := ⟨_,f,rfl⟩
  have he:us.toArray[k]?=none\/vs.toArray[k]?=none:=Q.imp (λt=>by simp;lia) (λt=>by simp;lia);unfold pyNext;refine Z6 (A6h (wpAny_callSpecial?_slot (name:=Str.ofString "__next__") R A6d (A2h A6d R F.entry_zip_next (WS (I.ok.hd hc) D f B M G C ou ov he λg e gk ge=>?_) (F.args_zip_next_1 _))));obtain⟨o,ho,ac⟩:=ge;refine Z6 (A5g (T:="StopIteration") (b:=true) ⟨o,ho,ac⟩ isSubtype_stop (X6 ⟨rfl,?_⟩));exact I.turnedL (tk:=s.toks) gk λa d=>Y a (by
   simp only[C1,D6,K7]at d⊢;rcases d with t|t|t|t<;>simp[t])
 self:=λ_ _ _ _ _ r h=>wpAny_pyIter_zip r.1 h
end
theorem DH.obj{b:Bool}{h:Heap}{l:Addr}{vs:Array Value}(x:DH b h l vs):∃o,h.get? l=some o:=by
 cases b with
 |true=>obtain⟨o,e,_⟩:=x;exact⟨o,e⟩
 |false=>obtain⟨o,e,_⟩:=x;exact⟨o,e⟩
theorem WK(b:Heap)(n:Nat)(d:b.objs.size=n+1):∃c,c=b.push {cls:=.type "enumerate",data:=.fields #[.none,.bool false,.ref n,rawInt 0,.none,.none]}/\IsEnum c (n+1) n 0 .none/\∀a o,b.get? a=some o->c.get? a=some o:=by
 refine⟨_,rfl,?_,λa o e=>C2 _ e⟩;have q:=D5 b (o:={cls:=.type "enumerate",data:=.fields #[.none,.bool false,.ref n,rawInt 0,.none,.none]}) rfl;rw[d]at q;exact q
set_option maxHeartbeats 1000000 in
theorem TV{b:Bool}(l:Addr)(xs:Array Value):Meets (Builtin.«enumerate.__new__» ⟨[.type "enumerate",.ref l],[]⟩) (λ_ R s=>DH b s.heap l xs /\
   ∀g,IsEnum g (s.heap.objs.size+1) s.heap.objs.size 0 .none->Ci b g s.heap.objs.size l 0->(∀a o,s.heap.get? a=some o->g.get? a=some o)->R (.ok (.ret (.ref (s.heap.objs.size+1)))) {s with heap:=g}) :=
 .of_wp λprog w A R s h=>by
  obtain⟨n,g,d,tk,t⟩:=s;obtain⟨p,h⟩:=h;obtain⟨z,i⟩:=p.obj;have q:=sub_enumerate;have fin:∀f,Ci b f n.objs.size l 0->f.objs.size=n.objs.size+1->(∀c o,n.get? c=some o->f.get? c=some o)->∃v,Fin.done (Flow.ret (.ref f.objs.size))=Fin.done (Flow.ret v)/\R (.ok (.ret v)) ⟨f.push {cls:=.type "enumerate",data:=.fields #[.none,.bool false,.ref n.objs.size,rawInt 0,.none,.none]},g,d,tk,t⟩:=λf k j k1=>by
   obtain⟨x,r,u,k2⟩:=WK f n.objs.size j;refine⟨_,rfl,?_⟩;have m:=h x u (k.move λo e=>k2 _ o e) λa o e=>k2 _ _ (k1 _ _ e);dsimp only at m;rw[r,<-j]at m;exact m
  wp_walk using AutoSeq1.wpAny_loadPart' i
  refine wpAny_stack_any λB=>X6 ?_;split
  ·rename_i y _ _ _ _ _;cases(y==Value.type "enumerate")
   ·wp_walk using AutoSeq1.wpAny_loadPart' i,Fq p
    intro f k j k1
    wp_walk
    exact fin f k j k1
   ·wp_walk using AutoSeq1.wpAny_loadPart' i,Fq p
    intro f k j k1
    wp_walk
    exact fin f k j k1
  ·wp_walk using AutoSeq1.wpAny_loadPart' i,Fq p
   intro f k j k1
   wp_walk
   exact fin f k j k1
theorem Qc{prog:Program}{w:World}{A:Around}{b:Bool}(m:A.handled=none)(I l:Addr)(j:l≠I)(vs:Array Value) :
  Draws prog w A I [I,l] vs.size (λk v=>vs[k]?=some v) (λk h=>Ci b h I l k/\DH b h l vs) where
 live:=λ_ _ a=>let ⟨o,ho,_⟩:=a.1.there;⟨o,ho⟩
 frame:=λ_ _ _ a c=>⟨a.1.move λo e=>c I A6 o e,a.2.move λo e=>c l A6 o e⟩
 item:=λk s Q E d a n=>Dw a.1 a.2 (v:=vs[k]) (by simp[d]) λg i f=>n _ g s.toks (by simp[d]) ⟨i,a.2.move λo e=>(f.2 l j).trans e⟩ f
 done:=λs Q E a p=>FG m a.1 a.2 A6 p
def Ite(K:W.Frag)(b:Bool)(l:Addr):It :=
 ⟨λi H=>∃xs x,SqX K b H l xs/\xs[i]?=some x,
  λi H v H'=>∃(T:Addr)(x:V),v=.ref T/\H T=none/\H'=upd H T (.tup [.int i,x])/\∀xs,SqX K b H l xs->xs[i]?=some x,
  λi H=>∃xs,SqX K b H l xs/\xs.length=i⟩
theorem VO{P:Program}{w:World}{K:W.Frag}{es:List Expr}{n:Nat}{p:Pos}{b:Bool}{e I l:Addr}(R:e≠I)(le:l≠e)(lI:l≠I) :
  RM P w K (.Tuple es n p) (Ite K b l) [e,I] e (λk h=>(∃c,IsEnum h e I k c)/\Ci b h I l k) where
 mem:=by simp
 obj:=λk h j a d=>by
  obtain⟨⟨c,f⟩,m⟩:=j;simp only[C1,D6,K7]at d;rcases d with rfl|rfl
  ·exact⟨_,f,λv t=>by cases t⟩
  ·exact m.there
 keep:=λk h h' j kp=>by
  obtain⟨⟨c,f⟩,m⟩:=j;exact⟨⟨c,kp e A6 _ f⟩,m.move λo t=>kp I A6 o t⟩
 item:=by
  intro X N Y S T k pins s σ H E J r j G;subst N Y S;obtain⟨⟨c,f⟩,m⟩:=j;obtain⟨xs,x,y,M⟩:=G;obtain⟨us,B,O⟩:=J.sq y;have lu:=B.length;have hk:k<xs.length:=(B9.mp M).1;refine wpAny_pyNext_enum_itemD (Qc (b:=b) (A:=X.A.in1) (J.ok.hd T) I l lI us.toArray) f ⟨m,O⟩ (by simp;lia) R (by simp[R,K1 le]) λu g tk hu gE gS gT gs gk=>⟨_,rfl,?_⟩
  obtain⟨u',D,U⟩:=B.get M;have eu:u=u':=by
   have:us[k]?=some u:=by simpa using hu
   rw[D]at this;exact(K0 this).symm
  subst eu;refine wpAny_letOwnedTupleGo_enum (s:={s with heap:=g,toks:=tk+1}) gE λg2 C V=>?_;have q:e<s.heap.objs.size:=C9 f;have kk:∀a o,a∉[e,I]->s.heap.get? a=some o->g2.get? a=some o:=λa o d t=>(V.2 a (λz=>d (by simp[z]))).trans (gk a o (λz=>d (by simp[z])) (λz=>d (by simp[z])) t);obtain⟨nT,J2⟩:=J.pair (tk:=tk+1) (x:=.int k) (u:=.int k tk) kk r ⟨tk,rfl⟩ U ((V.2 _ (U2 q)).trans gT);refine⟨.ref s.heap.objs.size,_,J2,rfl,⟨_,x,rfl,nT,rfl,λaa q'=>by rw[J.sq_inj q' y];exact M⟩,⟨⟨_,by simpa using C⟩,gS.1.move λo t=>(V.2 I (K1 R)).trans t⟩,λa d=>?_⟩;have t:=(r a d).1;have lt:a≠s.heap.objs.size:=by
   simp only[C1,D6,K7]at d;rcases d with z|z<;>subst z
   ·exact F7 q
   ·obtain⟨o,t,_⟩:=m.there;exact F7 (C9 t)
  rw[As lt];exact t
 done:=by
  intro X N Y S T k pins s σ H E J r j G;subst N Y S;obtain⟨⟨c,f⟩,m⟩:=j;obtain⟨xs,y,Z⟩:=G;obtain⟨us,B,O⟩:=J.sq y;have lu:=B.length;have ek:k=us.toArray.size:=by simp;lia
  refine wpAny_pyNext_enum_endD (Qc (b:=b) (A:=X.A.in1) (J.ok.hd T) I l lI us.toArray) f ⟨ek▸m,O⟩ λg gk=>⟨rfl,?_⟩
  exact J.turnedL (tk:=s.toks) (ch:=[e,I]) (λa o d t=>gk a o (λz=>d (by simp[z])) t) r
 self:=λA i s Q E j h=>by
  obtain⟨⟨c,f⟩,_⟩:=j;exact wpAny_pyIter_enum f h
section
variable{X:Cx}{es:List Expr}{n:Nat}{tpos p pos:Pos}{e1 e2:Expr}{t:TA}
def iZip(b c:Bool)(K:W.Frag)(t:TA):TI:=fun σ H R=>t σ H λvs H1=>∃(l m:Addr),vs=[.ref l,.ref m]/\(∃xs,SqX K b H1 l xs)/\(∃ys,SqX K c H1 m ys)/\R (Itz K b c l m) H1
theorem DH.lt{b:Bool}{h:Heap}{l:Addr}{vs:Array Value}(x:DH b h l vs):l<h.objs.size:=by
 cases b with
 |true=>obtain⟨o,e,_⟩:=x;exact C9 e
 |false=>obtain⟨o,e,_⟩:=x;exact C9 e
theorem apart5(n l m:Nat)(b:l<n)(a:m<n):VL (n+4) (n+2) (n+3) n (n+1) l m:=by
 refine⟨(show([n+4,n+2,n+3,n,n+1]:List Nat).Nodup from ?_),(show l∉([n+4,n+3,n,n+1]:List Nat)from ?_),(show m∉([n+4,n+3,n,n+1]:List Nat)from ?_)⟩
 ·simp only[N5,C1,D6,K7,A4e,P6,and_true,A3b];lia
 ·simp only[C1,D6,K7,A4e];lia
 ·simp only[C1,D6,K7,A4e];lia
theorem pi_zip(b c:Bool)(z:Gl X "zip")(M:X.mg "zip" = none)(i:PA X [e1,e2] t)(r:starEach [e1,e2] X.env=[(false,eval e1 X.env),(false,eval e2 X.env)]:=by rfl)(d:starEach [e2] X.env=[(false,eval e2 X.env)]:=by rfl) :
  PI X (.Tuple es n tpos) (.Call (.Name "zip" p) [e1,e2] [] pos) (iZip b c X.K t):=by
 intro pins s σ H R I h;refine Call_ (Lu I z M PyProof.Rows.boot_zip (A1d (thn (i pos pins s σ H _ I h) λus f ⟨vs,O,e,D,P⟩=>?_) (by rw[r,d]) (by rw[d];rfl)));obtain⟨l,m,rfl,⟨xs,E⟩,⟨ys,N⟩,q⟩:=P;obtain⟨u,v,rfl,T,B⟩:=D.two;cases(show u=Value.ref l from T);cases(show v=Value.ref m from B);obtain⟨C,_,o⟩:=e.sq E;obtain⟨G,_,k⟩:=e.sq N;refine callType_new F.called_zip A3 (F.typeCall_zip_2 _ _) (F.newCall_zip_2 _ _) (λobj=>F.args_object_init_3 obj _ _) F.entry_zip_new (Wv (b:=b) (c:=c) l m C.toArray G.toArray) ⟨o,k,λg j Q x w A gk=>?_⟩;refine⟨⟨_,j,rfl⟩,wpAny_pyIter_zip (s:={f with heap:=g}) j ?_⟩;have S:=o.lt;have lm:=k.lt;have y:=apart5 f.heap.objs.size l m S lm;refine⟨f.heap.objs.size+4,_,_,_,O,rfl,e.kept (t':=f.toks) gk,Yb y,⟨j,Q,⟨_,_,x⟩,w,A⟩,λa i=>?_,q⟩;have le:f.heap.objs.size<=a:=by
  simp only[C1,D6,K7]at i;rcases i with t|t|t|t|t<;>rw[t]<;>first|exact C5 _|exact V3 _ _
 exact e.fpOk le (e.hok.fresh le)
def iEnum(b:Bool)(K:W.Frag)(t:TA):TI:=fun σ H R=>t σ H λvs H1=>∃(l:Addr),vs=[.ref l]/\(∃xs,SqX K b H1 l xs)/\R (Ite K b l) H1
theorem Ny(b:Bool)(A:Gl X "enumerate")(r:X.mg "enumerate" = none)(d:PA X [e1] t)(m:starEach [e1] X.env=[(false,eval e1 X.env)]:=by rfl) :
  PI X (.Tuple es n tpos) (.Call (.Name "enumerate" p) [e1] [] pos) (iEnum b X.K t):=by
 intro pins s σ H R I h;refine Call_ (Lu I A r PyProof.Rows.boot_enumerate (A1d (thn (d pos pins s σ H _ I h) λus c ⟨vs,x,f,w,y⟩=>?_) m rfl));obtain⟨l,rfl,⟨xs,z⟩,q⟩:=y;obtain⟨u,rfl,B⟩:=w.one;cases(show u=Value.ref l from B);obtain⟨o,_,j⟩:=f.sq z;refine callType_new F.called_enumerate A3 (F.typeCall_enumerate_1 _) (F.newCall_enumerate_1 _) (λobj=>F.args_object_init_2 obj _) F.entry_enumerate_new (TV (b:=b) l o.toArray) ⟨j,λg i v gk=>?_⟩;refine⟨⟨_,i,rfl⟩,wpAny_pyIter_enum (s:={c with heap:=g}) i ?_⟩;have k:=j.lt;refine⟨c.heap.objs.size+1,_,_,_,x,rfl,f.kept (t':=c.toks) gk,VO (e:=c.heap.objs.size+1) (I:=c.heap.objs.size) (l:=l) (Nat.succ_ne_self _) (F7 (Z3 k)) (F7 k),⟨⟨_,i⟩,v⟩,λa d=>?_,q⟩;have le:c.heap.objs.size<=a:=by
  simp only[C1,D6,K7]at d;rcases d with t|t<;>rw[t]<;>first|exact C5 _|exact V3 _ _
 exact f.fpOk le (f.hok.fresh le)
end
section
variable{K:W.Frag}{b c:Bool}{l m:Addr}{xs ys:List V}{σ:St}{H:Hp}
theorem SS{K:W.Frag}{i j:Nat}{T:Addr}{x y:V}{σ:St}{H:Hp}{Q:St->Hp->Prop}(h:H T=some (.tup [x,y]))(q:Q ((σ.set i (some x)).set j (some y)) H):gTup K 2 (ST (OJ i) (ST (OJ j) gNil)) (.ref T) σ H Q :=
 ⟨T,_,rfl,SqT.of h,rfl,x,_,rfl,y,_,rfl,rfl,q⟩
theorem LV{g:TG}{n:TS}{D:MH}(a:Nat->St->Hp->Prop)(o:a 0 σ H)(v:∀i σ H,i<=xs.length->a i σ H->SqX K b H l xs)
  (r:∀i x σ H T,xs[i]?=some x->a i σ H->H T=none->g (.ref T) σ (upd H T (.tup [.int i,x])) fun f j=>n {D with nx:=a (i+1),ct:=a (i+1),bk:=D.nx} f j) (t:∀σ H,a xs.length σ H->D.nx σ H) :
  ∃W:Nat->Nat->St->Hp->Prop,(∃m,W 0 m σ H)/\∀i m σ H,W i m σ H ->
   ((Ite K b l).stop i H/\D.nx σ H)\/((Ite K b l).go i H/\∃N:St->Hp->Prop,(∀σ' d,N σ' d->∃k,k<m/\W (i+1) k σ' d)/\∀x d,(Ite K b l).yld i H x d->g x σ d fun f j=>n {D with nx:=N,ct:=N,bk:=D.nx} f j):=by
 refine⟨λi m σ H=>m=xs.length-i/\i<=xs.length/\a i σ H,⟨xs.length,by simp,M6 _,o⟩,?_⟩;rintro i m σ H ⟨rfl,u,p⟩;have q:=v i σ H u p;by_cases h:i<xs.length
 ·refine .inr ⟨⟨xs,xs[i],q,by simp[h]⟩,a (i+1),fun σ' d A=>⟨xs.length-(i+1),by lia,rfl,h,A⟩,λx d y=>?_⟩;obtain⟨T,z,rfl,s,rfl,w⟩:=y;exact r i z σ _ T (w xs q) p s
 ·have e:i=xs.length:=by lia
  subst e;exact .inl ⟨⟨xs,q,rfl⟩,t σ H p⟩
variable{k:Nat}{cs:List Nat}{g:TG}{tc:TT}{te:TE}{fin:List V->Hp->Prop}
theorem blk_zip(d:Nat->List V->Hp->Prop)(r:d 0 [] H)(B:∀i a H,d i a H->SqX K b H l xs/\SqX K c H m ys)
  (s:∀i x y a H T,xs[i]?=some x->ys[i]?=some y->d i a H->H T=none->Bt k cs g tc te σ (.ref T) a (upd H T (.tup [x,y])) (d (i+1))) (w:∀a H,d (min xs.length ys.length) a H->fin a H):FY k cs g tc te (Itz K b c l m) σ H fin:=by
 refine⟨λi n a H=>n=min xs.length ys.length-i/\i<=min xs.length ys.length/\d i a H,⟨min xs.length ys.length,by simp,M6 _,r⟩,?_⟩;rintro i n a H ⟨rfl,G,p⟩;obtain⟨f,h⟩:=B i a H p;by_cases j:i<min xs.length ys.length
 ·have t:i<xs.length:=by lia
  have u:i<ys.length:=by lia
  refine .inr ⟨⟨xs,ys,xs[i],ys[i],f,h,by simp[t],by simp[u]⟩,d (i+1),λq A E=>⟨min xs.length ys.length-(i+1),by lia,rfl,j,E⟩,λx A y=>?_⟩;obtain⟨T,z,D,rfl,v,rfl,C,o⟩:=y;exact s i z D a _ T (C xs f) (o ys h) p v
 ·have e:i=min xs.length ys.length:=by lia
  subst e;exact .inl ⟨⟨xs,ys,f,h,by lia⟩,w a H p⟩
theorem blk_str{x:Str}(d:Nat->List V->Hp->Prop)(n:d 0 [] H)(o:∀i ch a H,x.cps.toList[i]?=some ch->d i a H->Bt k cs g tc te σ (.str ⟨#[ch]⟩) a H (d (i+1)))(q:∀a H,d x.cps.toList.length a H->fin a H):FY k cs g tc te (Its x) σ H fin:=by
 have s:x.cps.toList.length=x.cps.size:=by simp
 refine⟨λi m a H=>m=x.cps.size-i/\i<=x.cps.size/\d i a H,⟨x.cps.size,by simp,M6 _,n⟩,?_⟩;rintro i m a H ⟨rfl,u,p⟩;by_cases f:i<x.cps.size
 ·refine .inr ⟨f,d (i+1),λj r t=>⟨x.cps.size-(i+1),by lia,rfl,f,t⟩,λv r y=>?_⟩;obtain⟨e,ch,h,rfl⟩:=y;subst e;exact o i ch a _ (by simpa using h) p
 ·have e:i=x.cps.size:=by lia
  subst e;exact .inl ⟨rfl,q a H (by rw[s];exact p)⟩
end
theorem PE.or{X:Cx}{e:Expr}{t u:TE}(h:PE X e t)(h':PE X e u):PE X e (fun σ H Q=>t σ H Q\/u σ H Q):=by
 intro pins s σ H Q I q;rcases q with q|q
 ·exact h pins s σ H Q I q
 ·exact h' pins s σ H Q I q
theorem rm{a b:Nat}{A:Around}(h:CF b A)(c:a<=b:=by first|decide|lia):CF a A:=h.mono c
structure Cal(P:Program)(w:World)(K:W.Frag)(mg:Str->Option Value)(base:Heap)(CX:CXT)(k:Nat)(x:Str)(ps:List Str)(sp:Sp):Prop where
 ex:∃(f:Addr)(fd:FuncData),AJ P w K mg base CX k f fd ps sp/\mg x=some (.ref f)/\keepIn K (.ref f)=true/\Ch K fd ps []
structure BK(P:Program)(w:World)(K:W.Frag)(mg:Str->Option Value)(base:Heap)(CX:CXT)(k:Nat)(C:Addr)(m:Str)(ps:List Str)(sp:Sp):Prop where
 ex:∃(f:Addr)(fd:FuncData),AJ P w K mg base CX k f fd ps sp/\Py K C m f/\Ch K fd ps []
 cl:Cls K C
structure RP(P:Program)(w:World)(K:W.Frag)(mg:Str->Option Value)(base:Heap)(CX:CXT)(k:Nat)(x:Str)(C:Addr)(ps:List Str)(sp:Sp):Prop where
 ex:∃(f:Addr)(fd:FuncData),AJ P w K mg base CX k f fd ps sp/\Mk K C f/\mg x=some (.ref C)/\Ch K fd ps []
section
variable{X:Cx}{CX:CXT}{k:Nat}{C:Addr}{ps:List Str}{sp:Sp}{E:XK}{x m:Str}{p pos apos:Pos}{e o:Expr}{es:List Expr}{ta:TE}{t:TA}
theorem Ap(c:Cal X.prog X.w X.K X.mg X.base CX k x ps sp)(j:CF k X.A)(q:Gl X x)(n:EM CX X E)(i:PA X (e::es) t)(b:(x==("__debug__" : Str))=false:=by decide)
  (l:starEach (e::es) X.env=(false,eval e X.env)::starEach es X.env:=by rfl) (a:(backTo pos (starEach es X.env)).any (·.1)=false:=by rfl):PE X (.Call (.Name x p) (e::es) [] pos) (UB sp [] E t):=by
 obtain⟨f,r,F,d,g,h⟩:=c.ex;exact pe_call F j q d g h .nil n i b l a
theorem AF{pl:Sem Bool}(l:PE X o ta)(c:BK X.prog X.w X.K X.mg X.base CX k C m ps sp)(j:CF k X.A)(q:EM CX X E)(h:PA X (e::es) t)
  (b:starEach (e::es) X.env=(false,eval e X.env)::starEach es X.env:=by rfl) (a:(backTo pos (starEach es X.env)).any (·.1)=false:=by rfl)
  (n:eval (.Call (.Attribute o m apos) (e::es) [] pos) X.env=(do
   let d <-eval o X.env;standAt apos.atName;let (f,first) <-holding [d] (getMethod d m pl);callWith pos f first (backTo pos (starEach (e::es) X.env)) (backToKw pos (keywordEach [] X.env))):=by rfl):PE X (.Call (.Attribute o m apos) (e::es) [] pos) (Uz C m sp [] E ta t):=by
 obtain⟨f,r,F,g,i⟩:=c.ex;exact pe_meth l c.cl g F j i .nil q h b a n
theorem JI(c:RP X.prog X.w X.K X.mg X.base CX k x C ps sp)(i:CF (k+1) X.A)(n:Gl X x)(l:EM CX X E)(g:PA X (e::es) t)(b:(x==("__debug__" : Str))=false:=by decide)
  (j:starEach (e::es) X.env=(false,eval e X.env)::starEach es X.env:=by rfl) (a:(backTo pos (starEach es X.env)).any (·.1)=false:=by rfl):PE X (.Call (.Name x p) (e::es) [] pos) (UA C sp [] E t):=by
 obtain⟨f,q,F,M,d,h⟩:=c.ex;exact pe_make M F i n d h .nil l g b j a
theorem YR(c:RP X.prog X.w X.K X.mg X.base CX k x C ps sp)(g:CF (k+1) X.A)(i:Gl X x)(h:EM CX X E)(a:(x==("__debug__" : Str))=false:=by decide):PE X (.Call (.Name x p) [] [] pos) (UA C sp [] E Qt):=by
 obtain⟨f,j,F,M,b,d⟩:=c.ex;exact YK M F g i b d .nil h a
theorem BL{i:Int}(c:Gl X x)(a:∃tk,X.mg x=some (.int i tk))(b:(x==("__debug__" : Str))=false:=by decide):PE X (.Name x pos) (tC (.int i)):=by
 obtain⟨tk,a⟩:=a;exact QP c a ⟨tk,rfl⟩ b
theorem Nz{z:Str}(c:Gl X x)(a:∃tk,X.mg x=some (.str z tk))(b:(x==("__debug__" : Str))=false:=by decide):PE X (.Name x pos) (tC (.str z)):=by
 obtain⟨tk,a⟩:=a;exact QP c a ⟨tk,rfl⟩ b
theorem De{a:Addr}(d:Gl X x)(b:X.mg x=some (.ref a))(c:(x==("__debug__" : Str))=false:=by decide):PE X (.Name x pos) (tC (.ref a)):=QP d b rfl c
end
def cOk(So:Scope)(No:List Str)(scope:Scope)(N:List Str)(k:Nat)(cs:List Nat):Bool :=
 scope.names.all (λy=>y.2 != .cell) && (scope.kind==.function && (scope.names.all (λy=>y.2 != .local || scope.names.lookup y.1==some .local) && (scope.names.all (λy=>y.2 != .free || (So.names.lookup y.1==some .cell || So.names.lookup y.1==some .free)) &&
  (N.length==k+cs.length && (List.range cs.length).all λj=>match N[k+j]?,No[cs.getD j 0]? with
   |some x,some y=>x==y && scope.names.lookup x==some .free
   |_,_=>false))))
theorem BM.of{X:Cx}{So:Scope}{No:List Str}{a:Scope}{N:List Str}{k:Nat}{cs:List Nat}(m:X.env.scope=So)(i:X.N=No)(h:cOk So No a N k cs=true):BM X a N k cs:=by
 subst m i;unfold cOk at h;simp only[O8,T9,bne_iff_ne,ne_eq,Bool.or_eq_true,A5c,J1]at h;obtain⟨l,n,d,q,f,r⟩:=h;refine⟨l,n,λy b e=>?_,λy b e=>?_,f,λj s=>?_⟩
 ·rcases d y b with z|z
  ·exact absurd e z
  ·exact z
 ·rcases q y b with z|z
  ·exact absurd e z
  ·exact z
 ·have z:=r j s;split at z
  ·rename_i x y c g;simp only[O8,A5c]at z;obtain⟨o,p⟩:=z;subst o;exact⟨x,c,g,p⟩
  ·cases z
theorem IW{σ:St}{H:Hp}{A B:Hp->Prop}(h:A H):tYes σ H λb a=>if b=true then A a else B a:=by
 show if true=true then A H else B H;exact BJ h
theorem RL{b:TE}{σ:St}{H:Hp}{Q:VK}{b1 b2:Bool}(d:b1=true->∀a:VK,a (.bl b2) H->b σ H a)(q:Q (.bl (b1 && b2)) H):∃c,V.bl b1=.bl c/\if c=true then b σ H Q else Q (.bl false) H:=by
 cases b1 with
 |true=>exact⟨true,rfl,BJ (d rfl Q q)⟩
 |false=>exact⟨false,rfl,Bc q⟩
theorem Yd{u:TT}{σ:St}{H:Hp}{Q:Bool->Hp->Prop}{b1 b2:Bool}(b:b1=true->∀a:Bool->Hp->Prop,a b2 H->u σ H a)(q:Q (b1 && b2) H):if b1=true then u σ H Q else Q false H:=by
 cases b1 with
 |true=>exact BJ (b rfl Q q)
 |false=>exact Bc q
section
variable{X:Cx}{scope:Scope}{N:List Str}{s:Shared}{H:Hp}{ex:List Addr}{x y:Str}{px py pos:Pos}{k:Nat}
theorem Bz{i:Nat}(b:N.Nodup)(c:N[i]?=some x)(a:(relabel scope X.env).names.lookup x=some .local):PG (cxC X scope N s H ex) (.Name x pos) (OJ i):=CG (X:=cxC X scope N s H ex) b c (.inl a) (.inr a)
theorem YJ{i j:Nat}(d:X.calm=true)(a:N.Nodup)(c:N[i]?=some x)(f:N[j]?=some y)(e:(relabel scope X.env).names.lookup x=some .local)(b:(relabel scope X.env).names.lookup y=some .local) :
  PG (cxC X scope N s H ex) (.Tuple [.Name x px,.Name y py] k pos) (gTup X.K 2 (ST (OJ i) (ST (OJ j) gNil))) :=
 Oh (X:=cxC X scope N s H ex) d (Do (Bz a c e) (Do (Bz a f b) LL))
end
theorem AR.strs:∀(l:List Str)(k:Nat),AR (l.map V.str) (strsFrom k l)
 |[],_=>.nil
 |x::r,k=>.cons ⟨k,rfl⟩ (AR.strs r (k+1))
section
variable{X:Cx}
theorem SH:MtR X "str.split" (λx xs H Q=>∃a b,x=.str a/\xs=[.str b]/\(b.length==0)=false/\a.length<=100000/\∀p,H p=none->Q (.ref p) (upd H p (.lst ((Txt.split a b).map V.str)))):=by
 intro pins s σ H x xs v us Q I n r h;obtain⟨a,b,rfl,rfl,j,k,q⟩:=h;obtain⟨t,rfl⟩:=n;obtain⟨u,rfl,l⟩:=r.one;obtain⟨i,rfl⟩:=l;have big:a.length+2<=sizeLine:=D0 (Nat.add_le_add_right k 2) A3;have fin:∀(c:List Value)(tk:Nat),AR ((Txt.split a b).map V.str) c->EP X pins σ Q (.ref s.heap.objs.size) {s with heap:=s.heap.push {cls:=.type "list",data:=.seq c.toArray},toks:=tk}:=λc tk m =>
  ⟨.ref _,_,I.lnew (t':=tk) m (by rw[B8];exact D0 (split_le a b) big),rfl,q _ I.fresh⟩
 by_cases f:(decide (a.length<b.length) || decide (Builtin.Str.strKind a<Builtin.Str.strKind b))=true
 ·refine A2b F.slot_str_split (typeIs_str _ _ _) F.entry_str_split (A7c _ _) (meets_str_split_cannot_occur a b t i f) ?_;refine fin _ s.toks ?_;unfold Txt.split;rw[X5 f];exact .cons ⟨t,rfl⟩ .nil
 ·have d:=T7.mpr f;by_cases g:(Builtin.Str.occurrences a b 0 a.length (a.length+1)).isEmpty=true
  ·refine A2b F.slot_str_split (typeIs_str _ _ _) F.entry_str_split (A7c _ _) (meets_str_split_not_found a b t i d j g) ?_;refine fin _ s.toks ?_;unfold Txt.split;rw[Z8 f,X5 g];exact .cons ⟨t,rfl⟩ .nil
  ·have e:Txt.split a b=Builtin.Str.partsBetween a (Builtin.Str.occurrences a b 0 a.length (a.length+1)) b.length:=by
    unfold Txt.split;rw[Z8 f,Z8 g]
   refine A2b F.slot_str_split (typeIs_str _ _ _) F.entry_str_split (A7c _ _) (meets_str_split_sep a b t i d j (T7.mpr g) A0 (by rw[<-e];exact D0 (split_le a b) big)) ?_;refine fin _ _ ?_;rw[e];exact AR.strs _ _
theorem Ro:MtR X "str.partition" (λx xs H Q=>∃a b,x=.str a/\xs=[.str b]/\(b.length==0)=false/\a.length<=100000/\∀p,H p=none->Q (.ref p) (upd H p (.tup [.str (Txt.partition a b).1,.str (Txt.partition a b).2.1,.str (Txt.partition a b).2.2]))):=by
 intro pins s σ H x xs v us Q I m r h;obtain⟨a,b,rfl,rfl,f,d,q⟩:=h;obtain⟨t,rfl⟩:=m;obtain⟨u,rfl,g⟩:=r.one;obtain⟨k,rfl⟩:=g;have fin:∀(c:List Value)(tk:Nat),AR [.str (Txt.partition a b).1,.str (Txt.partition a b).2.1,.str (Txt.partition a b).2.2] c->EP X pins σ Q (.ref s.heap.objs.size) {s with heap:=s.heap.push {cls:=.type "tuple",data:=.seq c.toArray},toks:=tk}:=λc tk j =>
  ⟨.ref _,_,I.laid (t':=tk) (o:=.tup [.str (Txt.partition a b).1,.str (Txt.partition a b).2.1,.str (Txt.partition a b).2.2]) (λ_ _ e=>C2 _ e) (C5 _) ⟨by show 3<=sizeLine;decide,c,j,_,D5 _ rfl,rfl,_,rfl⟩,rfl,q _ I.fresh⟩
 refine A2b F.slot_str_partition (typeIs_str _ _ _) F.entry_str_partition (F.args_str_partition_2 _ _) (meets_str_partition a b t k f (D0 d A3)) ?_;show EP X pins σ Q _ _;cases e:Builtin.Str.occurrences a b 0 a.length 1 with
 |nil =>
  refine fin _ _ ?_;unfold Txt.partition;rw[e];exact .cons ⟨_,rfl⟩ (.cons ⟨_,rfl⟩ (.cons ⟨_,rfl⟩ .nil))
 |cons i l =>
  refine fin _ _ ?_;unfold Txt.partition;rw[e];exact .cons ⟨_,rfl⟩ (.cons ⟨_,rfl⟩ (.cons ⟨_,rfl⟩ .nil))
theorem SX(n:Int):∀{ns:List Int}{a:List Value},AR (ns.map V.int) a->a.countP (λy=>match y with|.int i _=>i==n|_=>false)=ns.countP (· == n)
 |[],_,.nil=>rfl
 |x::r,_,.cons ⟨t,e⟩ rr=>by
  subst e;rw[V6,V6,SX n rr]
theorem WY{ns:List Int}{a:List Value}(h:AR (ns.map V.int) a){y:Value}(b:y∈a):∃i t,y=.int i t:=by
 induction ns generalizing a with
 |nil=>cases h;simp at b
 |cons n r c =>
  cases h with
  |cons q d =>
   obtain⟨t,e⟩:=q;rcases C1.mp b with z|z
   ·exact⟨n,t,z.trans e⟩
   ·exact c d z
theorem Zt:MtR X "list.count" (λx xs H Q=>∃(l:Addr)(ns:List Int)(n:Int),x=.ref l/\xs=[.int n]/\H l=some (.lst (ns.map V.int))/\Q (.int (ns.countP (· == n):Nat)) H):=by
 intro pins s σ H x xs v us Q I g r h;obtain⟨l,ns,n,rfl,rfl,d,q⟩:=h;cases g;obtain⟨u,rfl,c⟩:=r.one;obtain⟨tk,rfl⟩:=c;obtain⟨z,a,k,b,j,e⟩:=I.lstM d;refine A2b F.slot_list_count ⟨_,e,rfl⟩ F.entry_list_count (F.args_list_count_2 _ _) (MeetsSeq.list_count l a.toArray k (.int n tk) (λy=>match y with|.int i _=>i==n|_=>false) (λy f=>?_)) ⟨e,?_⟩
 ·obtain⟨i,t,rfl⟩:=WY b (by simpa using f);exact PySem.MeetsSeq.EqGives.int i n t tk
 ·refine⟨.int _,H,I.tok _,⟨_,rfl⟩,?_⟩;have:(List.countP (λy=>match y with|Value.int i _=>i==n|_=>false) a.toArray.toList)=ns.countP (· == n):=SX n (by simpa using b);rw[this];exact q
end
end L2
namespace L2
open PySem
section
variable{X:Cx}{es es':List Expr}{t t':TA}{pos:Pos}
theorem AL{i:Int}{j}(a:PA X es t):PA X (.Constant (.int i) j pos::es) (CL (tC (.int i)) t):=Aa Ac a
theorem Cp{z:Str}{j}(a:PA X es t):PA X (.Constant (.str z) j pos::es) (CL (tC (.str z)) t):=Aa Lp a
theorem Bu{x1}(h:PA X es' t')(a:PA X es t):PA X (.Tuple es' x1 pos::es) (CL (Ye t') t):=Aa (CD h) a
theorem AV{op:Operator}{r:R2}{a b:Expr}{d c:TE}(h:OpR X (binaryOp op) r)(e:PE X a d)(f:PE X b c)(g:PA X es t):PA X (.BinOp a op b pos::es) (CL (tOp r d c) t):=Aa (Ay h e f) g
theorem JN{K:W.Frag}(h:X.K=K):IxR X (FM K):=h▸Aj
theorem ZO{K:W.Frag}(h:X.K=K):IxR X (rIxL K):=h▸Av
end
theorem AM{P:Prop}(h:∀G:Prop,(P->G)->G):P:=h P id
theorem xq1{α:Sort _}{a:α}{P Q:α->Prop}(h:P a)(k:Q a):∃x,P x/\Q x:=⟨a,h,k⟩
theorem xq2{α β:Sort _}{a:α}{b:β}{P Q R:α->β->Prop}(h:P a b)(h':Q a b)(k:R a b):∃x y,P x y/\Q x y/\R x y:=⟨a,b,h,h',k⟩
theorem xq3{α β γ:Sort _}{a:α}{b:β}{c:γ}{P Q R S:α->β->γ->Prop}(h:P a b c)(h':Q a b c)(d:R a b c)(k:S a b c):∃x y z,P x y z/\Q x y z/\R x y z/\S x y z:=⟨a,b,c,h,h',d,k⟩
theorem xq4{α β γ δ:Sort _}{a:α}{b:β}{c:γ}{d:δ}{P Q R S T:α->β->γ->δ->Prop}(h:P a b c d)(h':Q a b c d)(e:R a b c d)(f:S a b c d)(k:T a b c d):∃x y z w,P x y z w/\Q x y z w/\R x y z w/\S x y z w/\T x y z w:=⟨a,b,c,d,h,h',e,f,k⟩
theorem xq5{K:W.Frag}{f:Str}{H:Hp}{a C c:Addr}{fs:List (Str×V)}{v:V}{Q:V->Prop}(h:H a=some (.ins C c fs))(g:Cls K C)(d:BB K C f)(e:fs.lookup f=some v)(k:Q v):∃b C c fs w,V.ref a=.ref b/\H b=some (.ins C c fs)/\Cls K C/\BB K C f/\fs.lookup f=some w/\Q w:=⟨a,C,c,fs,v,rfl,h,g,d,e,k⟩
theorem xw2{α β:Sort _}{a:α}{b:β}{P:α->Prop}{Q:α->β->Prop}{K:α->β->Prop}(e:P a)(f:Q a b)(k:K a b):∃c,P c/\∃d,Q c d/\K c d:=⟨a,e,b,f,k⟩
theorem xw3{α β γ:Sort _}{a:α}{b:β}{c:γ}{P:α->Prop}{Q:α->β->Prop}{R:α->β->γ->Prop}{K:α->β->γ->Prop}(h:P a)(i:Q a b)(g:R a b c)(k:K a b c):∃d,P d/\∃e,Q d e/\∃f,R d e f/\K d e f:=⟨a,h,b,i,c,g,k⟩
theorem xwb{α β γ:Sort _}{a:α}{b:β}{c:γ}{P:α->Prop}{Q:α->β->γ->Prop}{R:α->β->γ->Prop}{K:α->β->γ->Prop}(h:P a)(i:Q a b c)(g:R a b c)(k:K a b c):∃d,P d/\∃f e,Q d f e/\R d f e/\K d f e:=⟨a,h,b,c,i,g,k⟩
theorem xwm{α β γ δ:Sort _}{a:α}{b:β}{c:γ}{d:δ}{P:α->Prop}{Q:α->β->γ->δ->Prop}{R:α->β->γ->δ->Prop}{S:α->β->γ->δ->Prop}{K:α->β->γ->δ->Prop}(j:P a)(l:Q a b c d)(i:R a b c d)(m:S a b c d)(k:K a b c d):∃e,P e/\∃g f h,Q e g f h/\R e g f h/\S e g f h/\K e g f h:=⟨a,j,b,c,d,l,i,m,k⟩
theorem xwi{α β γ δ ε:Sort _}{a:α}{b:β}{c:γ}{d:δ}{e:ε}{P:α->Prop}{Q:α->β->γ->δ->ε->Prop}{R:α->β->γ->δ->ε->Prop}{S:α->β->γ->δ->ε->Prop}{T:α->β->γ->δ->ε->Prop}{K:α->β->γ->δ->ε->Prop}(n:P a)(o:Q a b c d e)(l:R a b c d e)(p:S a b c d e)(m:T a b c d e)(k:K a b c d e):∃f,P f/\∃h g j i,Q f h g j i/\R f h g j i/\S f h g j i/\T f h g j i/\K f h g j i:=⟨a,n,b,c,d,e,o,l,p,m,k⟩
theorem xwf{α β γ δ ε ζ:Sort _}{a:α}{b:β}{c:γ}{d:δ}{e:ε}{f:ζ}{P:α->Prop}{Q:α->β->γ->δ->ε->ζ->Prop}{R:α->β->γ->δ->ε->ζ->Prop}{S:α->β->γ->δ->ε->ζ->Prop}{T:α->β->γ->δ->ε->ζ->Prop}{U:α->β->γ->δ->ε->ζ->Prop}{K:α->β->γ->δ->ε->ζ->Prop}(p:P a)(q:Q a b c d e f)(n:R a b c d e f)(r:S a b c d e f)(o:T a b c d e f)(s:U a b c d e f)(k:K a b c d e f):∃g,P g/\∃j i m l h,Q g j i m l h/\R g j i m l h/\S g j i m l h/\T g j i m l h/\U g j i m l h/\K g j i m l h:=⟨a,p,b,c,d,e,f,q,n,r,o,s,k⟩
theorem xwn{α β γ δ ε:Sort _}{a:α}{b:β}{c:γ}{d:δ}{e:ε}{P:α->Prop}{Q:α->β->γ->δ->Prop}{R:α->β->γ->δ->Prop}{S:α->β->γ->δ->Prop}{T:α->β->γ->δ->ε->Prop}{K:α->β->γ->δ->ε->Prop}(n:P a)(o:Q a b c d)(l:R a b c d)(p:S a b c d)(m:T a b c d e)(k:K a b c d e):∃f,P f/\∃h g i,Q f h g i/\R f h g i/\S f h g i/\∃j,T f h g i j/\K f h g i j:=⟨a,n,b,c,d,o,l,p,e,m,k⟩
theorem xwj{α β γ δ ε ζ:Sort _}{a:α}{b:β}{c:γ}{d:δ}{e:ε}{f:ζ}{P:α->Prop}{Q:α->β->Prop}{R:α->β->γ->δ->ε->ζ->Prop}{S:α->β->γ->δ->ε->ζ->Prop}{T:α->β->γ->δ->ε->ζ->Prop}{U:α->β->γ->δ->ε->ζ->Prop}{K:α->β->γ->δ->ε->ζ->Prop}(p:P a)(q:Q a b)(n:R a b c d e f)(r:S a b c d e f)(o:T a b c d e f)(s:U a b c d e f)(k:K a b c d e f):∃g,P g/\∃h,Q g h/\∃j m l i,R g h j m l i/\S g h j m l i/\T g h j m l i/\U g h j m l i/\K g h j m l i:=⟨a,p,b,q,c,d,e,f,n,r,o,s,k⟩
theorem Bv{A B:TS}{D:MH}{σ:St}{H:Hp}(h:let r:=B D;let s:=σ;∀k:St->Hp->Prop,(∀{σ H},r σ H->k σ H)->let E:MH:={D with nx:=k};A E s H):Yg A B D σ H:=h _ λz=>z
end L2
namespace Nu
open PySem PySem.NumText PyProof.Rows
theorem ext{a b:Str}(h:a.cps.toList=b.cps.toList):a=b:=by
 obtain⟨⟨l⟩⟩:=a;obtain⟨⟨r⟩⟩:=b;cases h;rfl
theorem len(x:Str):x.length=x.cps.toList.length:=by simp[Str.length]
end Nu
namespace L2
open PySem PySem.Spec PyProof.Rows
section
variable{κ:Type}[DecidableEq κ]
def Bq(kvs:List (κ×V))(k:κ):Option V:=(kvs.find? λkv=>decide (kv.1=k)).map (·.2)
def Dz(kvs:List (κ×V))(k:κ)(v:V):List (κ×V) :=
 if(kvs.any λkv=>decide (kv.1=k))=true then kvs.map (λkv=>if kv.1=k then(kv.1,v)else kv)else kvs++[(k,v)]
theorem BE{p:κ×V}{r:List (κ×V)}{k:κ}(e:p.1=k):Bq (p::r) k=some p.2:=by simp[Bq,O9,e]
theorem Bn{p:κ×V}{r:List (κ×V)}{k:κ}(e:¬p.1=k):Bq (p::r) k=Bq r k:=by simp[Bq,O9,e]
theorem Fa(k:κ):∀a:List (κ×V),(a.any λb=>decide (b.1=k))=(Bq a k).isSome
 |[]=>rfl
 |p::r=>by
  rw[U9];by_cases e:p.1=k
  ·simp only[BE e,Z7 e,Bool.true_or,Option.isSome_some]
  ·rw[Bn e,X4 e,Bool.false_or];exact Fa k r
theorem RQ(k j:κ)(y:V):∀a:List (κ×V),Bq (a.map λb=>if b.1=k then(b.1,y)else b) j=(Bq a j).map λx=>if j=k then y else x
 |[]=>rfl
 |p::r=>by
  have c:=RQ k j y r;rw[F5];by_cases h:p.1=k
  ·rw[X5 h];by_cases e:p.1=j
   ·rw[BE (p:=(p.1,y)) e,BE e,V9,X5 (e.symm.trans h)]
   ·rw[Bn (p:=(p.1,y)) e,Bn e,c]
  ·rw[Z8 h];by_cases e:p.1=j
   ·rw[BE (p:=p) e,BE e,V9,Z8 (λz=>h (e.trans z))]
   ·rw[Bn (p:=p) e,Bn e,c]
theorem PD(k j:κ)(y:V):∀a:List (κ×V),Bq a k=none->Bq (a++[(k,y)]) j=if j=k then some y else Bq a j
 |[],_=>by
  by_cases e:k=j
  ·rw[X5 e.symm];exact BE (p:=(k,y)) e
  ·rw[Z8 (λz=>e z.symm)];exact Bn (p:=(k,y)) e
 |p::r,hn=>by
  rw[List.cons_append];have b:¬p.1=k:=λz=>by rw[BE z]at hn;cases hn
  rw[Bn b]at hn;have c:=PD k j y r hn;by_cases e:p.1=j
  ·rw[BE e,BE e,Z8 (λz=>b (e.trans z))]
  ·rw[Bn e,Bn e,c]
theorem IV(b:List (κ×V))(k j:κ)(y:V):Bq (Dz b k y) j=if j=k then some y else Bq b j:=by
 unfold Dz;by_cases a:(b.any λd=>decide (d.1=k))=true
 ·rw[X5 a,RQ];rw[Fa]at a;by_cases e:j=k
  ·obtain⟨x,c⟩:=Option.isSome_iff_exists.mp a;rw[X5 e,e,c,V9,X5 rfl]
  ·rw[Z8 e];cases Bq b j with
   |none=>rfl
   |some x=>rw[V9,Z8 e]
 ·rw[Z8 a];refine PD k j y b ?_;rw[Fa]at a;cases q:Bq b k with
  |none=>rfl
  |some x=>rw[q]at a;exact(a rfl).elim
theorem EB(a:List (κ×V))(k:κ)(v:V):(Dz a k v).length<=a.length+1:=by
 unfold Dz;split
 ·rw[B8];lia
 ·rw[C6,F2,List.length_nil];lia
theorem GJ{a:List (κ×V)}{k:κ}(v:V)(h:Bq a k=none):Dz a k v=a++[(k,v)]:=by
 unfold Dz;rw[Fa,h];exact Z8 A3
theorem IL.isSome_eq{o:Option V}{u:Option Value}(r:IL o u):o.isSome=u.isSome:=by
 cases o with
 |none=>cases u with
  |none=>rfl
  |some _=>exact(show False from r).elim
 |some _=>cases u with
  |none=>exact(show False from r).elim
  |some _=>rfl
theorem IL.getD{o:Option V}{u:Option Value}{d:V}{d':Value}(r:IL o u)(a:Bb d d'):Bb (o.getD d) (u.getD d'):=by
 cases o with
 |none=>cases u with
  |none=>exact a
  |some _=>exact(show False from r).elim
 |some _=>cases u with
  |none=>exact(show False from r).elim
  |some _=>exact r
theorem KV.val{a:List (κ×V)}{vs:List (κ×Value)}(r:KV a vs)(k:κ):IL (Bq a k) (valueAt vs k):=by
 unfold KV at r;induction r with
 |nil=>exact True.intro
 |@cons p q i qs h t f =>
  obtain⟨d,g⟩:=h;by_cases e:p.1=k
  ·have c:q.1=k:=d.symm.trans e;have b:valueAt (q::qs) k=some q.2:=by simp[valueAt,O9,c]
   rw[BE e,b];exact g
  ·have c:¬q.1=k:=λz=>e (d.trans z);have b:valueAt (q::qs) k=valueAt qs k:=by simp[valueAt,O9,c]
   rw[Bn e,b];exact f
theorem KV.any{a:List (κ×V)}{vs:List (κ×Value)}(r:KV a vs)(k:κ):(a.any λb=>decide (b.1=k))=vs.any λb=>decide (b.1=k):=by
 unfold KV at r;induction r with
 |nil=>rfl
 |cons h t c=>rw[U9,U9,c,h.1]
theorem KV.repl{b:List (κ×V)}{vs:List (κ×Value)}(r:KV b vs)(k:κ){y:V}{u:Value}(d:Bb y u) :
  KV (b.map λa=>if a.1=k then(a.1,y)else a) (vs.map λa=>if a.1=k then(a.1,u)else a):=by
 unfold KV at r⊢;induction r with
 |nil=>exact .nil
 |@cons p q i qs h t f =>
  rw[F5,F5];refine .cons ?_ f;obtain⟨c,g⟩:=h;by_cases e:p.1=k
  ·rw[X5 e,X5 (c.symm.trans e)];exact⟨c,d⟩
  ·rw[Z8 e,Z8 (λz=>e (c.trans z))];exact⟨c,g⟩
theorem KV.put{a:List (κ×V)}{vs:List (κ×Value)}(r:KV a vs)(k:κ){y:V}{u:Value}(b:Bb y u):KV (Dz a k y) (stored vs k u):=by
 unfold Dz stored;rw[r.any k];by_cases e:(vs.any λc=>decide (c.1=k))=true
 ·rw[X5 e,X5 e];exact r.repl k b
 ·rw[Z8 e,Z8 e];exact A2f r ⟨rfl,b⟩
theorem KV.length{a:List (κ×V)}{vs:List (κ×Value)}(r:KV a vs):a.length=vs.length:=A0a r
end
theorem SQ{P:Program}{w:World}{k:Key}{u:Value}(r:Bb (kV k) u):(Cr P w).is k u=true:=by
 cases k with
 |inl i=>obtain⟨t,e⟩:=(show ∃t,u=Value.int i t from r);subst e;exact SK P w i t
 |inr x=>obtain⟨t,e⟩:=(show ∃t,u=Value.str x t from r);subst e;exact SJ P w x t
theorem PV{P:Program}{w:World}:∀{a:List Key}{us:List Value},AR (a.map kV) us->ItemsAre (Cr P w) a us
 |[],_,r=>by rw[List.map_nil]at r;cases r;exact .nil
 |k::a,_,r=>by
  rw[F5]at r;cases r with
  |cons h t=>exact .cons (SQ h) (PV t)
abbrev KT(H:Hp):List (List Key×V)->List (List Key×Addr×Value)->Prop:=Paired λp q=>p.1=q.1/\H q.2.1=some (.tup (p.1.map kV))/\Bb p.2 q.2.2
theorem KT.val{H:Hp}{a:List (List Key×V)}{xs:List (List Key×Addr×Value)}(r:KT H a xs)(k:List Key):IL (Bq a k) ((atKey xs k).map (·.2)):=by
 induction r with
 |nil=>exact True.intro
 |@cons p q i qs h t f =>
  obtain⟨d,_,g⟩:=h;by_cases e:p.1=k
  ·have c:q.1=k:=d.symm.trans e;have b:atKey (q::qs) k=some q.2:=by simp[atKey,O9,c]
   rw[BE e,b];exact g
  ·have c:¬q.1=k:=λz=>e (d.trans z);have b:atKey (q::qs) k=atKey qs k:=by simp[atKey,O9,c]
   rw[Bn e,b];exact f
theorem KT.repl{H:Hp}{a:List (List Key×V)}{xs:List (List Key×Addr×Value)}(r:KT H a xs)(k:List Key){y:V}{u:Value}(g:Bb y u) :
  KT H (a.map λc=>if c.1=k then(c.1,y)else c) (xs.map (putAt k u)):=by
 induction r with
 |nil=>exact .nil
 |@cons p q j qs h t i =>
  rw[F5,F5];refine .cons ?_ i;obtain⟨b,d,f⟩:=h;unfold putAt;by_cases e:p.1=k
  ·rw[X5 e,X5 (b.symm.trans e)];exact⟨b,d,g⟩
  ·rw[Z8 e,Z8 (λz=>e (b.trans z))];exact⟨b,d,f⟩
theorem KT.put{H:Hp}{a:List (List Key×V)}{xs:List (List Key×Addr×Value)}(r:KT H a xs)(k:List Key){b:Addr}{y:V}{u:Value}(d:H b=some (.tup (k.map kV)))(c:Bb y u) :
  KT H (Dz a k y) (storedH xs k b u):=by
 have e:(a.any λf=>decide (f.1=k))=(atKey xs k).isSome:=by
  rw[Fa,(r.val k).isSome_eq,Z0]
 unfold Dz storedH;rw[e];by_cases q:(atKey xs k).isSome=true
 ·rw[X5 q,X5 q];exact r.repl k c
 ·rw[Z8 q,Z8 q];exact A2f r ⟨rfl,d,c⟩
theorem KT.keeps{H c:Hp}{a:List (List Key×V)}{xs:List (List Key×Addr×Value)}(r:KT H a xs)(d:∀b ys,H b=some (.tup ys)->c b=some (.tup ys)):KT c a xs :=
 Paired.mapP r λ_ _ z=>⟨z.1,d _ _ z.2.1,z.2.2⟩
section
variable{P:Program}{w:World}{H:Hp}{h:Heap}{a:Addr}
theorem rd_of{u:HO}(ok:HOk P w H h)(e:Rd H a u):BD P w H h a u:=e.ok ok
theorem Qd{b:List (Key×V)}(ok:HOk P w H h)(e:Rd H a (.dK b)):b.length<=sizeLine/\(a==sysModules)=false/\∃vs,KV b vs/\h.DictOf (Cr P w) a vs :=
 show BD P w H h a (.dK b)from rd_of ok e
theorem dk_of{b:List (Key×V)}(ok:HOk P w H h)(e:H a=some (.dK b)):b.length<=sizeLine/\(a==sysModules)=false/\∃vs,KV b vs/\h.DictOf (Cr P w) a vs:=Qd ok (.inl e)
theorem OG{b:List Key}(ok:HOk P w H h)(e:H a=some (.tup (b.map kV))):(tupleKind (Cr P w)).is h b a:=by
 obtain⟨_,c,r,o,f,g,n,d⟩:=(show BD P w H h a (.tup (b.map kV))from ok a _ e)
 exact⟨o,c.toArray,n,f,g,d,by simpa using PV r⟩
theorem Qb{b:List (List Key×V)}(ok:HOk P w H h)(e:Rd H a (.dT b)):b.length<=sizeLine/\(a==sysModules)=false /\
  ∃xs,KT H b xs/\h.DictOfH (tupleKind (Cr P w)) a xs:=by
 obtain⟨z,y,xs,r,o,s,i,k,n,f,u,g⟩:=(show BD P w H h a (.dT b)from rd_of ok e)
 refine⟨z,y,xs,r,o,s,i,k,n,f,u,λx c=>?_,g⟩;have all:∀{l:List (List Key×V)}{m:List (List Key×Addr×Value)},KT H l m->∀x∈m,(tupleKind (Cr P w)).is h x.1 x.2.1:=by
  intro l m q;induction q with
  |nil=>intro x c;exact nomatch c
  |@cons p q v qs d t j =>
   intro x c;rcases C1.mp c with e|c
   ·subst e;exact OG ok (by rw[<-d.1];exact d.2.1)
   ·exact j x c
 exact all r x c
theorem dt_of{b:List (List Key×V)}(ok:HOk P w H h)(e:H a=some (.dT b)):b.length<=sizeLine/\(a==sysModules)=false /\
  ∃xs,KT H b xs/\h.DictOfH (tupleKind (Cr P w)) a xs:=Qb ok (.inl e)
end
def IU(H:Hp)(a:Addr)(y:V)(r:Option V):Prop :=
 (∃kvs k,Rd H a (.dK kvs)/\y=kV k/\r=Bq kvs k)\/∃kvs k b,Rd H a (.dT kvs)/\y=.ref b/\H b=some (.tup (k.map kV))/\r=Bq kvs k
def Ng(H:Hp)(a:Addr)(y v:V)(H':Hp):Prop :=
 (∃kvs k,H a=some (.dK kvs)/\y=kV k/\kvs.length<sizeLine/\H'=upd H a (.dK (Dz kvs k v))) \/
 ∃kvs k b,H a=some (.dT kvs)/\y=.ref b/\H b=some (.tup (k.map kV))/\kvs.length<sizeLine/\H'=upd H a (.dT (Dz kvs k v))
theorem IU.k{H:Hp}{a:Addr}{b:List (Key×V)}{k:Key}(e:H a=some (.dK b)):IU H a (kV k) (Bq b k):=.inl ⟨b,k,.inl e,rfl,rfl⟩
theorem IU.t{H:Hp}{a b:Addr}{c:List (List Key×V)}{k:List Key}(e:H a=some (.dT c))(d:H b=some (.tup (k.map kV))):IU H a (.ref b) (Bq c k):=.inr ⟨c,k,b,.inl e,rfl,d,rfl⟩
theorem Ng.k{H:Hp}{a:Addr}{b:List (Key×V)}{k:Key}{v:V}(e:H a=some (.dK b))(c:b.length<sizeLine):Ng H a (kV k) v (upd H a (.dK (Dz b k v))):=.inl ⟨b,k,e,rfl,c,rfl⟩
theorem Ng.t{H:Hp}{a b:Addr}{c:List (List Key×V)}{k:List Key}{v:V}(e:H a=some (.dT c))(d:H b=some (.tup (k.map kV)))(f:c.length<sizeLine) :
  Ng H a (.ref b) v (upd H a (.dT (Dz c k v))):=.inr ⟨c,k,b,e,rfl,d,f,rfl⟩
section
variable{X:Cx}{pins:List (Addr×Obj)}{σ:St}{H:Hp}{s:Shared}{a:Addr}{y v:V}{u r:Value}{o:Option V}{A:Around}{E:Value->Shared->Prop}
theorem Inv.big(I:Inv X pins σ H s):sysModules<s.heap.objs.size:=by
 have h:mainGlobals<s.heap.objs.size:=(I.mod.glob.keeps I.bk).lt;exact S9 A3 h
theorem WM{Q:Value->Shared->Prop}(x:A.units+1<cLine)(I:Inv X pins σ H s)(g:IU H a y (some v))(q:Bb y u)(h:∀f s',Inv X pins σ H s'->Bb v f->Q f s') :
  wpAny (model X.prog X.w) A (getItem (.ref a) u) Q E s:=by
 rcases g with ⟨i,k,e,m,l⟩|⟨i,k,b,e,m,C,l⟩
 ·subst m;obtain⟨z,t,vs,c,dd⟩:=Qd I.hok e;obtain⟨f,n,d⟩:=IL.some_of (v:=v) (o:=valueAt vs k) (by rw[l];exact c.val k);exact wpAny_getItem_of (SQ q) dd.mapOf n (h f _ (I.tok _) d)
 ·subst m;cases(show u=Value.ref b from q);obtain⟨z,t,xs,c,dd⟩:=Qb I.hok e;obtain⟨f,n,d⟩:=IL.some_of (v:=v) (o:=(atKey xs k).map (·.2)) (by rw[l];exact c.val k);obtain⟨p,B,j⟩:=F3.mp n;refine wpAny_getItem_heap (A4h x) (OG I.hok C) dd B ?_;rw[j];exact h f _ (I.tok _) d
theorem d_notIn{Q:Value->Shared->Prop}(m:A.units+1<cLine)(I:Inv X pins σ H s)(g:IU H a y o)(j:Bb y u)(h:∀s',Inv X pins σ H s'->Q (.bool (!o.isSome)) s') :
  wpAny (model X.prog X.w) A (compareOp .NotIn u (.ref a)) Q E s:=by
 rcases g with ⟨f,k,e,i,l⟩|⟨f,k,b,e,i,n,l⟩
 ·subst i;obtain⟨z,d,vs,c,dd⟩:=Qd I.hok e;refine wpAny_notIn_of (SQ j) d dd.mapOf ?_;rw[<-(c.val k).isSome_eq,<-l];exact h _ (I.tok _)
 ·subst i;cases(show u=Value.ref b from j);obtain⟨z,d,xs,c,dd⟩:=Qb I.hok e;refine wpAny_notIn_heap (A4h m) (OG I.hok n) d dd ?_;have q:=(c.val k).isSome_eq;rw[Z0]at q;rw[<-q,<-l];exact h _ (I.tok _)
theorem RC{h':Heap}{t':Nat}{c:HO}(I:Inv X pins σ H s)(g:Mut (H a))(d:Heap.SameBut a s.heap h')(h:∃q,h'.get? a=some q)(new:BD X.prog X.w (upd H a c) h' a c) :
  Inv X pins σ (upd H a c) {s with heap:=h',toks:=t'} :=
 I.write (x:=a) (e:=a) g (.inl rfl) (λb q f z=>(d.2 b f).trans z) h new
theorem dk_new{P:Program}{w:World}{e:Hp}{h':Heap}{b:List (Key×V)}{vs:List (Key×Value)}(z:b.length<=sizeLine)(d:(a==sysModules)=false)(c:KV b vs)(dd:h'.DictOf (Cr P w) a vs) :
  BD P w e h' a (.dK b):=⟨z,d,vs,c,dd⟩
theorem WL{K:Hp}{Q:Unit->Shared->Prop}(V:A.units+1<cLine)(I:Inv X pins σ H s)(g:Ng H a y v K)(C:Bb y u)(D:Bb v r)(h:∀s',Inv X pins σ K s'->Q () s') :
  wpAny (model X.prog X.w) A (setItem (.ref a) u r) Q E s:=by
 rcases g with ⟨d,k,e,n,l,x⟩|⟨d,k,b,e,n,M,l,x⟩
 ·subst n x;obtain⟨z,p,vs,f,dd⟩:=dk_of I.hok e;have B:vs.length<=sizeLine:=by rw[<-f.length];exact z
  have t:(Dz d k v).length<=sizeLine:=by have:=EB d k v;lia
  refine wpAny_setItem_pairs (hsz:=B) (SQ C) dd λh' i m=>h _ ?_;have O:∃q,h'.get? a=some q:=let ⟨q,_,_,j,_⟩:=i;⟨q,j⟩;exact RC I (by rw[e];exact True.intro) m O (dk_new t p (f.put k D) i)
 ·subst n x;cases(show u=Value.ref b from C);obtain⟨z,p,xs,f,dd⟩:=dt_of I.hok e;have B:xs.length<=sizeLine:=by rw[<-A0a f];exact z
  have t:(Dz d k v).length<=sizeLine:=by have:=EB d k v;lia
  refine wpAny_setItem_heap (hsz:=B) (A4h V) (OG I.hok M) dd λh' i m=>h _ ?_;obtain⟨q,R,N,j,T,P,S,_,U⟩:=i;refine RC I (by rw[e];exact True.intro) m ⟨q,j⟩ ⟨t,p,_,(f.put k M D).keeps λc ys G=>?_,q,R,N,j,T,P,S,U⟩;rw[As (AG G e (λz=>nomatch z))];exact G
end
section
variable{X:Cx}{pins:List (Addr×Obj)}{σ:St}{H:Hp}{s:Shared}{a:Addr}{kvs:List (Key×V)}{k:Key}{u:Value}{A:Around}{E:Value->Shared->Prop}
end
def NoSl(i:Expr):Prop:=∀ov iv,subscripted i false ov iv=operate [ov,iv] (getItem ov iv)
theorem subD_of{prog:Program}{w:World}{A:Around}{E:Value->Shared->Prop}{s:Shared}{g:Env}{b a:Expr}{l:Pos}{T id:String}{Q:Value->Shared->Prop}
  (p:typeLookup (.type T) "__getitem__" = pure (some (.builtin id))) (n:NoSl a)
  (h:wpAny (model prog w) A (eval b g) (λo e=>wpAny (model prog w) A (eval a g) (λi c=>c.TypeIs o T/\wpAny (model prog w) A (getItem o i) Q E c) E e) E s) :
  wpAny (model prog w) A (eval (.Subscript b a l) g) Q E s:=by
 refine Subscript_ (A0h h (λo e j=>A0h j (λi c d=>?_) λ_ _ x=>x) λ_ _ x=>x);obtain⟨m,d⟩:=d;unfold subscriptTail;refine Z6 ?_;rw[getitemInPython_of_ne m.not_modules];refine Z6 (A4c m p ?_);have fin:wpAny (model prog w) A (subscripted a false o i) (λr f=>wpAny (model prog w) A (letTemporaryGo b o r >>= λ_=>pure r) Q E f) E c:=by
  rw[n o i];exact wpAny_operating (A0h d (λr f k=>Z6 (wpAny_letTemporaryGo (X6 k))) λ_ _ x=>x)
 first
  |exact X6 (Z6 fin)
  |exact Z6 (X6 (Z6 fin))
  |exact Z6 fin
theorem SU{X:Cx}{pins:List (Addr×Obj)}{σ:St}{H:Hp}{s:Shared}{a:Addr}{y:V}{o:Option V}(I:Inv X pins σ H s)(g:IU H a y o):s.TypeIs (.ref a) "dict" := by
 rcases g with ⟨c,k,e,_,_⟩|⟨c,k,b,e,_,_,_⟩
 ·obtain⟨_,_,vs,_,dd⟩:=Qd I.hok e;exact dd.typeIs
 ·obtain⟨_,_,xs,_,dd⟩:=Qb I.hok e;exact dd.typeIs
def tDGet(td ty:TE):TE:=fun σ H Q=>td σ H λx H1=>ty σ H1 λy H2=>∃a v,x=.ref a/\IU H2 a y (some v)/\Q v H2
def tDNotIn(ty td:TE):TE:=fun σ H Q=>ty σ H λy H1=>td σ H1 λx H2=>∃a o,x=.ref a/\IU H2 a y o/\Q (.bl (!o.isSome)) H2
def sDPut(td ty tv:TE):TS:=λD σ H=>tv σ H λv H1=>td σ H1 λx H2=>ty σ H2 λy H3=>∃a H4,x=.ref a/\Ng H3 a y v H4/\D.nx σ H4
section
variable{X:Cx}{o i e value:Expr}{pos pos' tpos:Pos}{td ty tv:TE}
theorem UU(q:X.A.units+1<cLine)(z:PE X o td)(k:PE X i ty)(d:NoSl i):PE X (.Subscript o i pos) (tDGet td ty):=by
 intro pins s σ H Q I h;refine subD_of PySem.F.slot_dict_getitem.lookup d (thn (z pins s σ H _ I h) λu p ⟨x,t,n,B,w⟩=>thn (k pins p σ t _ n w) λD E ⟨y,m,c,f,a,v,r,g,l⟩=>?_);subst r;obtain rfl:u=Value.ref a:=B;exact⟨SU c g,WM q c g f λC G j b=>⟨v,m,j,b,l⟩⟩
theorem Wa(c:X.A.units+1<cLine)(d:PE X i ty)(r:PE X o td):PC X .NotIn i o (tDNotIn ty td):=by
 intro pins s σ H Q I h;refine thn (d pins s σ H _ I h) λz w ⟨y,n,l,b,p⟩=>thn (r pins w σ n _ l p) λu C ⟨x,k,q,m,a,t,j,g,f⟩=>?_;subst j;obtain rfl:u=Value.ref a:=m;exact d_notIn c q g b λB v=>⟨.bl (!t.isSome),k,v,rfl,f⟩
theorem JG(B:X.A.units+1<cLine)(M:PE X o td)(l:PE X i ty)(n:PE X value tv)(b:swapsWith value (some (.Subscript o i pos')) pos.line X.env=pure false) :
  PS X (.Assign [.Subscript o i pos'] value pos) (sDPut td ty tv):=by
 intro pins s σ H D I h;refine wpAny_Assign_Subscript (thn (n pins s σ H _ I h) λr z ⟨v,E,w,k,G⟩=>thn (M pins z σ E _ w G) λu q ⟨x,t,K,N,m⟩=>thn (l pins q σ t _ K m) λP R ⟨y,Q,j,c,a,d,C,g,p⟩=>?_) b;subst C;obtain rfl:u=Value.ref a:=N;exact WL B j g c k λO f=>⟨σ,d,f,p⟩
end
theorem dk_empty{P:Program}{w:World}{H:Hp}(h:Heap)(a:sysModules<h.objs.size):BD P w H (h.push {cls:=.type "dict",data:=.dict #[]}) h.objs.size (.dK []) :=
 ⟨M6 _,beq_eq_false_iff_ne.mpr (K1 (F7 a)),[],.nil,Heap.DictOf.new h⟩
theorem dt_empty{P:Program}{w:World}{H:Hp}(h:Heap)(a:sysModules<h.objs.size):BD P w H (h.push {cls:=.type "dict",data:=.dict #[]}) h.objs.size (.dT []) :=
 ⟨M6 _,beq_eq_false_iff_ne.mpr (K1 (F7 a)),[],.nil,_,#[],0,D5 _ rfl,⟨rfl,rfl,rfl⟩,rfl,rfl,P6⟩
def tDNewK:TE:=λ_ H Q=>∀p,H p=none->Q (.ref p) (upd H p (.dK []))
def tDNewT:TE:=λ_ H Q=>∀p,H p=none->Q (.ref p) (upd H p (.dT []))
section
variable{X:Cx}{pos:Pos}
theorem LM:PE X (.Dict [] [] pos) tDNewK:=λpins s σ H Q I h =>
 wpAny_Dict_empty ⟨.ref s.heap.objs.size,_,I.laid (a:=s.heap.objs.size) (o:=.dK []) (t':=s.toks) (λ_ _ q=>C2 _ q) (C5 _) (dk_empty s.heap I.big),rfl,h _ (I.hok.fresh (C5 _))⟩
theorem Sr:PE X (.Dict [] [] pos) tDNewT:=λpins s σ H Q I h =>
 wpAny_Dict_empty ⟨.ref s.heap.objs.size,_,I.laid (a:=s.heap.objs.size) (o:=.dT []) (t':=s.toks) (λ_ _ q=>C2 _ q) (C5 _) (dt_empty s.heap I.big),rfl,h _ (I.hok.fresh (C5 _))⟩
end
structure M1(X:Cx)(o:Expr)(m:Str)(apos:Pos)(e:Expr)(cpos:Pos):Prop where
 base:attributeBase o m X.env (eval o X.env)=eval o X.env
 few:((backTo cpos (starEach [e] X.env)).all (λx=>!x.1) && (backToKw cpos (keywordEach [] X.env)).all (λx=>x.1.isSome)
  && decide (([e]:List Expr).length+([]:List Keyword).length+(if([]:List Keyword).isEmpty then 0 else 1)<30))=true
 line:(apos.endLine==cpos.line)=true
 trees:backTo cpos (starEach [e] X.env)=[(false,eval e X.env)]
def IsD(H:Hp)(a:Addr):Prop:=(∃kvs,Rd H a (.dK kvs))\/∃kvs,Rd H a (.dT kvs)
theorem isD_at{X:Cx}{pins:List (Addr×Obj)}{σ:St}{H:Hp}{s:Shared}{a:Addr}(I:Inv X pins σ H s)(d:IsD H a) :
  s.TypeIs (.ref a) "dict" /\ (∀b,Value.ref a=.ref b->∃c,s.heap.get? b=some c/\c.dict=none)/\(a==sysModules)=false:=by
 rcases d with ⟨g,e⟩|⟨g,e⟩
 ·obtain⟨_,f,vs,_,dd⟩:=Qd I.hok e;refine⟨dd.typeIs,λb q=>?_,f⟩;cases q;obtain⟨c,_,_,h,i,_⟩:=dd;exact⟨c,h,i.2.1⟩
 ·obtain⟨_,f,xs,_,dd⟩:=Qb I.hok e;refine⟨dd.typeIs,λb q=>?_,f⟩;cases q;obtain⟨c,_,_,h,i,_⟩:=dd;exact⟨c,h,i.2.1⟩
section
variable{X:Cx}{pins:List (Addr×Obj)}{σ:St}{H:Hp}{s:Shared}{a:Addr}{y d:V}{u r:Value}{o:Option V}{A:Around}{E:Value->Shared->Prop}
theorem d_get1{Q:Value->Shared->Prop}(p:A.units+1<cLine)(I:Inv X pins σ H s)(g:IU H a y o)(n:Bb y u)(h:∀m s',Inv X pins σ H s'->Bb (o.getD .non) m->Q m s') :
  wpAny (model X.prog X.w) A (call (.builtin "dict.get") [.ref a,u]) Q E s:=by
 rcases g with ⟨i,k,e,j,l⟩|⟨i,k,b,e,j,q,l⟩
 ·subst j;obtain⟨z,f,vs,c,dd⟩:=Qd I.hok e;refine call_meetsIn A2a dd.typeIs A5d (A5a _ _) (meets_dict_get (Cr X.prog X.w) a (SQ n) f) ⟨_,dd.mapOf,h _ _ (I.tok _) ?_⟩;rw[l];exact(c.val k).getD rfl
 ·subst j;cases(show u=Value.ref b from n);obtain⟨z,f,xs,c,dd⟩:=Qb I.hok e;refine call_meetsIn A2a dd.typeIs A5d (A5a _ _) (meetsH_dict_get (tupleKind (Cr X.prog X.w)) a b f) ⟨A4h p,k,xs,OG I.hok q,dd,h _ _ (I.tok _) ?_⟩;rw[l];exact(c.val k).getD rfl
end
def tDGet1(td ty:TE):TE:=fun σ H Q=>td σ H λx H1=>∃a,x=.ref a/\IsD H1 a/\ty σ H1 λy H2=>∃o,IU H2 a y o/\Q (o.getD .non) H2
section
variable{X:Cx}{o e f:Expr}{apos cpos:Pos}{td ty tx:TE}
theorem LN(r:X.A.units+1<cLine)(C:PE X o td)(j:PE X e ty)(m:M1 X o "get" apos e cpos):PE X (.Call (.Attribute o "get" apos) [e] [] cpos) (tDGet1 td ty):=by
 intro pins s σ H Q I h;refine wpAny_Call_method m.base m.few m.line PySem.F.plainAttrs_dict A2a PySem.F.type_dict_get (thn (C pins s σ H _ I h) λu q ⟨x,w,c,D,a,v,d,z⟩=>?_);subst v;obtain rfl:u=Value.ref a:=D;obtain⟨t,n,_⟩:=isD_at c d;refine⟨t,n,?_⟩;rw[m.trees];refine A6c rfl (A4a (A7b (thn (j pins q σ w _ c z) λK M ⟨y,p,B,i,G,g,l⟩=>Calls.spliced_nil ?_)));exact d_get1 r B g i λE N k b=>⟨_,p,k,b,l⟩
end
section
variable{X:Cx}{pins:List (Addr×Obj)}{σ:St}{H:Hp}{s:Shared}{a:Addr}{kvs:List (Key×V)}{A:Around}{E:Value->Shared->Prop}
end
section
variable{X:Cx}{pins:List (Addr×Obj)}{σ:St}{H:Hp}{s:Shared}{a:Addr}{y:V}{u:Value}{A:Around}{E:Value->Shared->Prop}
end
section
variable{X:Cx}
end
section
variable{κ:Type}[DecidableEq κ]
theorem Ya{a:List (κ×V)}{k:κ}(h:Bq a k=none):¬k∈a.map (·.1):=by
 intro m;obtain⟨p,b,e⟩:=D1.mp m;have q:(a.any λc=>decide (c.1=k))=true:=List.any_eq_true.mpr ⟨p,b,Z7 e⟩;rw[Fa,h]at q;exact absurd q A6
theorem UZ:∀{l:List κ}{k:κ},l.Nodup->¬k∈l->(l++[k]).Nodup
 |[],k,_,_=>by simp
 |a::r,k,h,hk=>by
  obtain⟨b,c⟩:=N5.mp h;show(a::(r++[k])).Nodup;refine N5.mpr ⟨λm=>?_,UZ c λm=>hk (C1.mpr (Or.inr m))⟩;rcases D3.mp m with q|q
  ·exact b q
  ·exact hk (C1.mpr (Or.inl (D7.mp q).symm))
theorem nd_putK{a:List (κ×V)}{k:κ}(v:V)(b:(a.map (·.1)).Nodup)(h:Bq a k=none):((Dz a k v).map (·.1)).Nodup:=by
 rw[GJ v h,D4];exact UZ b (Ya h)
end
section
variable{X:Cx}
theorem QQ{K:W.Frag}{e:Expr}{f:Str}{b:TE}{a:Pos}(d:X.K=K)(g:PE X e b)(c:attributeBase e f X.env (eval e X.env)=eval e X.env):PE X (.Attribute e f a) (tFld K b f):=d▸AC g c
end
section
variable{X:Cx}
theorem GN{ns:List Int}{a:List Value}(d:AR (ns.map V.int) a):∀(i:Nat) v,a.toArray[i]?=some v->∃t,v=.int (ns.getD i 0) t:=λi v e=>by
 have e:a[i]?=some v:=by simpa using e
 cases c:ns[i]? with
 |none =>
  have:a[i]?=none:=d.none_of (by rw[C3,c];rfl);rw[e]at this;cases this
 |some b =>
  obtain⟨u,f,g⟩:=d.get (i:=i) (x:=V.int b) (by rw[C3,c];rfl);rw[e]at f;cases f;rw[F0,c];obtain⟨t,rfl⟩:=g;exact⟨t,rfl⟩
theorem Qg(G:X.calm=true):GT X (.builtin "min") (λxs H Q=>∃(p:Addr)(ns:List Int),xs=[.ref p]/\SqL X.K H p (ns.map V.int)/\ns≠[]/\∀m∈ns,(∀x∈ns,m<=x)->Q (.int m) H):=by
 intro pins s σ H xs us Q I r h;obtain⟨p,ns,rfl,E,N,q⟩:=h;cases r with
 |cons C B =>
  cases B;cases(show _=Value.ref p from C);obtain⟨a,g,pl,R⟩:=I.list E;have d:p<s.heap.objs.size:=by obtain⟨o,n,e,_⟩:=pl;exact C9 e
  have l:p≠s.heap.objs.size:=F7 d;have len:a.toArray.size=ns.length:=by rw[F8,<-g.length,B8]
  have k:0<ns.length:=U1.mpr N;refine call_min_walk (A3f pl.isList ?_);refine⟨s.heap.objs.size,_,_,_,_,_,_,rfl,(Walks.list (A:=X.A.in1) (I.ok.hd G) s.heap.objs.size p l a.toArray),⟨⟨_,D5 _ rfl,rfl,rfl⟩,?_⟩,?_,by rw[len];exact k,CmpOf.ints_lt (λi=>ns.getD i 0) (GN g),?_⟩
  ·exact pl.isList.at λo e=>C2 _ e
  ·intro b f;show b<(s.heap.push _).objs.size;rw[P8];rcases C1.mp f with rfl|f
   ·exact V1 _
   ·rcases C1.mp f with rfl|f
    ·exact Z3 d
    ·cases f
  ·intro v h' tk u y;have O:Inv X pins σ H {s with heap:=h',toks:=tk}:=I.kept λb o e=>y b o (by intro z;exact F7 (C9 e) (by simpa using z)) (C2 _ e);obtain⟨t,rfl⟩:=GN g _ _ u;obtain⟨b1,b2⟩:=argBest_lt (λi=>ns.getD i 0) (a.toArray.size-1);generalize argBest (λi j=>decide (ns.getD i 0<ns.getD j 0)) (a.toArray.size-1)=z at b1 b2 u⊢;rw[len]at b1 b2;have c:z<ns.length:=by lia
   have w:ns.getD z 0=ns[z]:=by rw[F0,D8 c];rfl
   refine⟨.int _,H,O,⟨t,rfl⟩,q _ (by rw[w];exact List.getElem_mem c) λx D=>?_⟩;obtain⟨j,P,e⟩:=W7.mp D;have:=b2 j A0;have M:ns.getD j 0=x:=by rw[F0,D8 P,<-e];rfl
   rw[<-M];exact this
theorem Qh(G:X.calm=true):GT X (.builtin "max") (λxs H Q=>∃(p:Addr)(ns:List Int),xs=[.ref p]/\SqL X.K H p (ns.map V.int)/\ns≠[]/\∀m∈ns,(∀x∈ns,x<=m)->Q (.int m) H):=by
 intro pins s σ H xs us Q I r h;obtain⟨p,ns,rfl,E,N,q⟩:=h;cases r with
 |cons C B =>
  cases B;cases(show _=Value.ref p from C);obtain⟨a,g,pl,R⟩:=I.list E;have d:p<s.heap.objs.size:=by obtain⟨o,n,e,_⟩:=pl;exact C9 e
  have l:p≠s.heap.objs.size:=F7 d;have len:a.toArray.size=ns.length:=by rw[F8,<-g.length,B8]
  have k:0<ns.length:=U1.mpr N;refine call_max_walk (A3f pl.isList ?_);refine⟨s.heap.objs.size,_,_,_,_,_,_,rfl,(Walks.list (A:=X.A.in1) (I.ok.hd G) s.heap.objs.size p l a.toArray),⟨⟨_,D5 _ rfl,rfl,rfl⟩,?_⟩,?_,by rw[len];exact k,CmpOf.ints_gt (λi=>ns.getD i 0) (GN g),?_⟩
  ·exact pl.isList.at λo e=>C2 _ e
  ·intro b f;show b<(s.heap.push _).objs.size;rw[P8];rcases C1.mp f with rfl|f
   ·exact V1 _
   ·rcases C1.mp f with rfl|f
    ·exact Z3 d
    ·cases f
  ·intro v h' tk u y;have O:Inv X pins σ H {s with heap:=h',toks:=tk}:=I.kept λb o e=>y b o (by intro z;exact F7 (C9 e) (by simpa using z)) (C2 _ e);obtain⟨t,rfl⟩:=GN g _ _ u;obtain⟨b1,b2⟩:=argBest_gt (λi=>ns.getD i 0) (a.toArray.size-1);generalize argBest (λi j=>decide (ns.getD i 0 > ns.getD j 0)) (a.toArray.size-1)=z at b1 b2 u⊢;rw[len]at b1 b2;have c:z<ns.length:=by lia
   have w:ns.getD z 0=ns[z]:=by rw[F0,D8 c];rfl
   refine⟨.int _,H,O,⟨t,rfl⟩,q _ (by rw[w];exact List.getElem_mem c) λx D=>?_⟩;obtain⟨j,P,e⟩:=W7.mp D;have:=b2 j A0;have M:ns.getD j 0=x:=by rw[F0,D8 P,<-e];rfl
   rw[<-M];exact this
end
theorem all_same(ns a:List Int):((List.range (min ns.length a.length)).all (λj=>ns.getD j 0==a.getD j 0) && ns.length==a.length)=decide (ns=a):=by
 rw[R1,O8,T9,A5c,decide_eq_true_iff];constructor
 ·rintro⟨c,d⟩;refine List.ext_getElem d λi b e=>?_;have:=c i (J1.mpr A0);rw[A5c,F0,F0,D8 b,D8 e]at this;exact this
 ·rintro rfl;exact⟨λx _=>beq_iff_eq.mpr rfl,rfl⟩
section
variable{X:Cx}
theorem VP{H:Hp}{ns:List Int}{b:List Value}(f:AR (ns.map V.int) b){A:Around}{s:Shared}{d:List Int}{a:List Value}(c:AR (d.map V.int) a)(j:Nat)(h:j<b.toArray.size)(i:j<a.toArray.size):PySem.SeqAt.EqAt A s b.toArray[j] a.toArray[j] (ns.getD j 0==d.getD j 0):=by
 obtain⟨t,e⟩:=GN f j _ (Array.getElem?_eq_getElem h);obtain⟨u,g⟩:=GN c j _ (Array.getElem?_eq_getElem i);rw[e,g];exact PySem.SeqAt.EqAt.int_int _ t _ u
theorem We(n:X.A.units+64<cLine):OpR X (compareOp .Eq) (λx y H Q=>∃(a b:Addr)(ns c:List Int),x=.ref a/\y=.ref b/\SqT X.K H a (ns.map V.int)/\SqT X.K H b (c.map V.int)/\Q (.bl (decide (ns=c))) H):=by
 intro pins s σ H x y v u Q I m f h;obtain⟨a,b,ns,c,rfl,rfl,i,k,q⟩:=h;cases m;cases f;obtain⟨xs,d,g,_⟩:=I.tuple i;obtain⟨ys,e,l,_⟩:=I.tuple k;refine PySem.SeqAt.eq_tupleAt g l A0 (λj k1 k2=>VP (H:=H) d e j k1 k2) ?_;rw[F8,F8,<-d.length,<-e.length,B8,B8,all_same];exact⟨.bl _,H,I,rfl,q⟩
end
section
variable{prog:Program}{w:World}{κ:Type}[DecidableEq κ]{knd:HeapKind prog w κ}{A:Around}{E:Value->Shared->Prop}{s:Shared}
end
section
variable{X:Cx}{pins:List (Addr×Obj)}{σ:St}{H:Hp}{s:Shared}{a:Addr}{y v:V}{u r:Value}{o:Option V}{A:Around}{E:Value->Shared->Prop}
end
section
variable{X:Cx}{o e f:Expr}{apos cpos:Pos}{td ty tx:TE}
end
section
variable{prog:Program}{w:World}{A:Around}{E:Value->Shared->Prop}{s:Shared}{d it:Addr}{o:Obj}{es:Array DictEntry}{ep i:Nat}
end
end L2
namespace L2
open PySem PySem.W PySem.Spec PyProof.Rows
def isT:Value->Bool
 |.bool b=>b
 |_=>false
theorem Qq:∀{bs:List Bool}{a:List Value},AR (bs.map V.bl) a->a=bs.map Value.bool
 |[],_,.nil=>rfl
 |b::bs,_,.cons r t=>by
  cases(show _=Value.bool b from r);rw[Qq t];rfl
theorem eq_isT(b:Bool):PySem.MeetsSeq.EqGives (.bool b) (.bool true) b:=λP w A E s Q q=>SeqAt.EqAt.bool_bool b true P w E Q (by
 cases b<;>exact q)
theorem Vk{bs:List Bool}{y:Value}(a:y∈bs.map Value.bool):PySem.MeetsSeq.EqGives y (.bool true) (isT y):=by
 obtain⟨b,_,rfl⟩:=D1.mp a;exact eq_isT b
theorem Vo:∀bs:List Bool,(bs.map Value.bool).countP isT=bs.countP id
 |[]=>rfl
 |b::bs=>by
  rw[F5,V6,V6,Vo bs];rfl
structure CalH(P:Program)(w:World)(K:W.Frag)(mg:Str->Option Value)(base:Heap)(k:Nat)(x:Str)(ps:List Str)(sp:Sp):Prop where
 ex:∃(f:Addr)(fd:FuncData),VJ P w K mg base k f fd ps sp/\mg x=some (.ref f)/\keepIn K (.ref f)=true/\Ch K fd ps []
section
variable{X:Cx}{CX:CXT}{k:Nat}{ps:List Str}{sp:Sp}{E:XK}{x:Str}{p pos:Pos}{e:Expr}{es:List Expr}{t:TA}{S:St->Prop}
theorem pe_calS(c:Cal X.prog X.w X.K X.mg X.base CX k x ps sp)(i:CF k X.A)(o:Gl X x)(n:NI CX X E S)(d:PA X (e::es) t)(b:(x==("__debug__" : Str))=false:=by decide)
  (m:starEach (e::es) X.env=(false,eval e X.env)::starEach es X.env:=by rfl) (a:(backTo pos (starEach es X.env)).any (·.1)=false:=by rfl):PE X (.Call (.Name x p) (e::es) [] pos) (Yi S sp [] E t):=by
 obtain⟨f,q,j,l,g,h⟩:=c;exact YO j i o l g h .nil n d b m a
theorem pe_calH(c:CalH X.prog X.w X.K X.mg X.base k x ps sp)(i:Tk k X.A)(n:Gl X x)(d:PA X (e::es) t)(b:(x==("__debug__" : Str))=false:=by decide)
  (m:starEach (e::es) X.env=(false,eval e X.env)::starEach es X.env:=by rfl) (a:(backTo pos (starEach es X.env)).any (·.1)=false:=by rfl):PE X (.Call (.Name x p) (e::es) [] pos) (UB sp [] E0 t):=by
 obtain⟨f,o,j,l,g,h⟩:=c.ex;exact YQ j i n l g h d b m a
end
section
variable{X:Cx}
theorem Wt:MtR X "list.count" (λx xs H Q=>∃(l:Addr)(bs:List Bool),x=.ref l/\xs=[.bl true]/\H l=some (.lst (bs.map V.bl))/\Q (.int (bs.countP id:Nat)) H):=by
 intro pins s σ H x xs v us Q I i r h;obtain⟨l,bs,rfl,rfl,c,q⟩:=h;cases i;obtain⟨u,rfl,b⟩:=r.one;cases b;obtain⟨z,f,k,a,j,e⟩:=I.lstM c;have g:=Qq a;subst g;refine A2b F.slot_list_count ⟨_,e,rfl⟩ F.entry_list_count (F.args_list_count_2 _ _) (MeetsSeq.list_count l _ k (.bool true) isT (λy d=>Vk (by simpa using d))) ⟨e,?_⟩;refine⟨.int _,H,I.tok _,⟨_,rfl⟩,?_⟩;rw[List.toList_toArray,Vo];exact q
theorem Ws:MtR X "list.index" (λx xs H Q=>∃(l:Addr)(bs:List Bool)(j:Nat),x=.ref l/\xs=[.bl true]/\H l=some (.lst (bs.map V.bl))/\bs.length<1000/\bs[j]?=some true/\(∀m,m<j->bs[m]?=some false)/\Q (.int (j:Nat)) H):=by
 intro pins s σ H x xs v us Q I p r h;obtain⟨l,bs,j,rfl,rfl,f,t,a,b,q⟩:=h;cases p;obtain⟨u,rfl,d⟩:=r.one;cases d;obtain⟨z,i,k,c,A,e⟩:=I.lstM f;have o:=Qq c;subst o;have jl:j<bs.length:=(B9.mp a).1;refine A2b F.slot_list_index ⟨_,e,rfl⟩ F.entry_list_index (F.args_list_index_2 _ _) (MeetsSeq.list_index l _ k (.bool true) isT (λy g=>Vk (by simpa using g)) j (by simpa using jl) A0 ?_ ?_) ⟨e,?_⟩
 ·have:=(B9.mp a).2;simp[isT,this]
 ·intro m w n;have:=(B9.mp (b m n)).2;simp[isT,this]
 ·exact⟨.int _,H,I.tok _,⟨_,rfl⟩,q⟩
end
end L2
namespace Tx
open PySem PySem.Builtin PySem.Builtin.Str PyProof.Rows
theorem CI(a b:Str):(a++b).cps.toList=a.cps.toList++b.cps.toList:=cps_toList_append a b
def jl(sep:List Nat):List (List Nat)->List Nat
 |[]=>[]
 |[x]=>x
 |x::y::r=>x++sep++jl sep (y::r)
theorem GP(a:Str):∀b:List Str,(Str.join a b).cps.toList=jl a.cps.toList (b.map λt=>t.cps.toList)
 |[]=>rfl
 |[x]=>rfl
 |x::y::r=>by
  have e:Str.join a (x::y::r)=x++a++Str.join a (y::r):=rfl;rw[e,CI,CI,GP a (y::r)];rfl
theorem RI{c:Nat}:∀{x y A B:List Nat},c∉x->c∉y->x++c::A=y++c::B->x=y/\A=B
 |[],[],A,B,_,_,h=>⟨rfl,by simpa using h⟩
 |[],y::ys,A,B,_,hy,h=>by
  simp at h;exact absurd (by rw[h.1];exact C8) hy
 |x::xs,[],A,B,hx,_,h=>by
  simp at h;exact absurd (by rw[<-h.1];exact C8) hx
 |x::xs,y::ys,A,B,hx,hy,h=>by
  simp at h;obtain⟨e,h⟩:=h;obtain⟨b,a⟩:=RI (x:=xs) (y:=ys) (λz=>hx (C4 _ z)) (λz=>hy (C4 _ z)) h;exact⟨by rw[e,b],a⟩
theorem Ua(c:Nat)(s:List Nat):∀(as bs:List (List Nat)),as≠[]->bs≠[]->(∀t∈as,c∉t)->(∀t∈bs,c∉t)->jl (c::s) as=jl (c::s) bs->as=bs
 |[],_,h,_,_,_,_=>absurd rfl h
 |_,[],_,h,_,_,_=>absurd rfl h
 |[x],[y],_,_,_,_,e=>by
  have a:x=y:=e;rw[a]
 |[x],y::z::r,_,_,ha,_,e=>by
  have a:x=y++c::s++jl (c::s) (z::r):=e;exact absurd (by rw[a];simp) (ha x C8)
 |x::z::r,[y],_,_,_,hb,e=>by
  have a:x++c::s++jl (c::s) (z::r)=y:=e;exact absurd (by rw[<-a];simp) (hb y C8)
 |x::x2::r,y::y2::r',_,_,ha,hb,e=>by
  have a:x++c::(s++jl (c::s) (x2::r))=y++c::(s++jl (c::s) (y2::r')):=by
   have:x++c::s++jl (c::s) (x2::r)=y++c::s++jl (c::s) (y2::r'):=e
   simpa using this
  obtain⟨d,f⟩:=RI (ha x C8) (hb y C8) a;have g:=List.append_cancel_left f;rw[d,Ua c s (x2::r) (y2::r') A6 A6 (λt b=>ha t (C4 _ b)) (λt b=>hb t (C4 _ b)) g]
theorem PP {as bs:List Str} (h:as.map (λt=>t.cps.toList)=bs.map λt=>t.cps.toList):as=bs:=by
 induction as generalizing bs with
 |nil=>cases bs with|nil=>rfl|cons=>simp at h
 |cons a r c =>
  cases bs with
  |nil=>simp at h
  |cons b q =>
   simp at h;rw[Nu.ext (a:=a) (b:=b) (by simpa using h.1),c (by simpa using h.2)]
theorem Sa(c:Nat)(a:List Str)(b:a≠[])(f:∀t∈a,c∉t.cps.toList):Txt.split (Str.join ⟨#[c]⟩ a) ⟨#[c]⟩=a:=by
 refine PP (Ua c [] _ _ ?_ ?_ ?_ ?_ ?_)
 ·intro h;have:=split_pos (Str.join ⟨#[c]⟩ a) ⟨#[c]⟩;have g:(Txt.split (Str.join ⟨#[c]⟩ a) ⟨#[c]⟩).length=0:=by simpa using K3 List.length h
  lia
 ·simpa using b
 ·intro t d;obtain⟨p,e,rfl⟩:=D1.mp d;exact StrLaws.split_free _ c p e
 ·intro t d;obtain⟨p,e,rfl⟩:=D1.mp d;exact f p e
 ·have h:=K3 (λz:Str=>z.cps.toList) (StrLaws.join_split (Str.join ⟨#[c]⟩ a) ⟨#[c]⟩);rw[GP,GP]at h;exact h
theorem JJ(c:Nat)(a b:Str)(h:c∉a.cps.toList):Txt.partition (a++⟨#[c]⟩++b) ⟨#[c]⟩=(a,⟨#[c]⟩,b):=by
 have f:c∈(a++⟨#[c]⟩++b).cps.toList:=by rw[CI,CI];simp
 have o:=StrLaws.partition_sum (a++⟨#[c]⟩++b) ⟨#[c]⟩;have t:=partition_head (a++⟨#[c]⟩++b) ⟨#[c]⟩;have m:=StrLaws.found_one (a++⟨#[c]⟩++b) c;rw[Z7 f]at m;have d:(Txt.partition (a++⟨#[c]⟩++b) ⟨#[c]⟩).2.1=⟨#[c]⟩:=by
  unfold Txt.partition;cases e:occurrences (a++⟨#[c]⟩++b) ⟨#[c]⟩ 0 (a++⟨#[c]⟩++b).length 1 with
  |nil=>rw[e]at m;simp at m
  |cons i l=>rfl
 have g:c∉(Txt.partition (a++⟨#[c]⟩++b) ⟨#[c]⟩).1.cps.toList:=by
  rcases t with ⟨_,no⟩|⟨i,e,u,no⟩
  ·obtain⟨j,v⟩:=M0 f;exact absurd ((StrLaws.subAt_one _ c j).mpr v) (no j)
  ·rw[e];exact StrLaws.part_free _ c 0 i (by have:i+1<=_:=u.1;lia) λk _ p=>no k p
 have e:(Txt.partition (a++⟨#[c]⟩++b) ⟨#[c]⟩).1.cps.toList++(Txt.partition (a++⟨#[c]⟩++b) ⟨#[c]⟩).2.1.cps.toList++(Txt.partition (a++⟨#[c]⟩++b) ⟨#[c]⟩).2.2.cps.toList=a.cps.toList++[c]++b.cps.toList:=by
  have n:=K3 (λz:Str=>z.cps.toList) o;rw[CI,CI,CI,CI]at n;exact n
 rw[d]at e;have s:(Txt.partition (a++⟨#[c]⟩++b) ⟨#[c]⟩).1.cps.toList++c::(Txt.partition (a++⟨#[c]⟩++b) ⟨#[c]⟩).2.2.cps.toList=a.cps.toList++c::b.cps.toList:=by simpa using e
 obtain⟨q,r⟩:=RI g h s;exact Prod.ext (Nu.ext q) (Prod.ext d (Nu.ext r))
theorem dig_text{n:Int}(a:0<=n)(b:n<=9):(Str.ofString (toString n))=(⟨#[48+n.toNat]⟩:Str):=by
 obtain⟨m,rfl⟩:=F4 a;exact(show ∀m:Nat,m<10->(Str.ofString (toString (m:Int)))=(⟨#[48+(m:Int).toNat]⟩:Str) by decide +kernel) m A0
end Tx
namespace Tx
open PySem PySem.Builtin PySem.Builtin.Str PyProof.Rows
end Tx
namespace Tx
open PySem PySem.Builtin PySem.Builtin.Str PyProof.Rows
theorem at_two(x:Str)(c d k:Nat)(e:x.cps.toList[k]?=some c)(a:x.cps.toList[k+1]?=some d):StrLaws.At x ⟨#[c,d]⟩ x.length k:=by
 have l:k+1<x.cps.toList.length:=(B9.mp a).1;refine⟨?_,?_⟩
 ·show k+2<=x.length;rw[Nu.len];lia
 ·rw[StrLaws.subAt_eq];show((x.cps.toList.drop k).take 2==[c,d])=true;have b:x.cps.toList.drop k=c::d::x.cps.toList.drop (k+2):=by
   rw[List.drop_eq_getElem_cons A0,(B9.mp e).2,List.drop_eq_getElem_cons l,(B9.mp a).2]
  rw[b];simp
def Led(c d:Nat)(l:List Nat):Prop:=∀k:Nat,l[k]?=some c->l[k+1]?=some d
theorem Om{x:Str}{c d a b:Nat}(l:Led c d x.cps.toList)(m:b<=x.length)(h:∀k,a<=k->k<b->¬StrLaws.At x ⟨#[c,d]⟩ x.length k):c∉(strSub x a b).cps.toList:=by
 intro g;rw[StrLaws.strSub_toList]at g;obtain⟨j,e⟩:=M0 g;have f:j<b-a:=by
  have i:j<((x.cps.toList.drop a).take (b-a)).length:=(B9.mp e).1;rw[M9]at i;lia
 rw[U8 f,List.getElem?_drop]at e;exact h (a+j) A0 A0 (at_two x c d (a+j) e (l _ e))
theorem ML{x:Str}{c d:Nat}(j:Led c d x.cps.toList):∀(b:List Nat)(a f:Nat),StrLaws.ChainG x ⟨#[c,d]⟩ x.length a b f->(∀k,f<=k->¬StrLaws.At x ⟨#[c,d]⟩ x.length k)->∀p∈StrLaws.partsFrom x 2 a b,c∉p.cps.toList
 |[],a,f,h,hn,p,hp=>by
  have e:f=a:=h;subst e;rw[D7.mp hp];exact Om j (C5 _) λk l _=>hn k l
 |g::r,a,f,h,hn,p,hp=>by
  rcases C1.mp hp with rfl|i
  ·exact Om j (by have:g+2<=_:=h.2.1.1;lia) h.2.2.1
  ·exact ML j r _ f h.2.2.2 hn p i
theorem kind_le(x:Str):¬Builtin.Str.strKind x<Builtin.Str.strKind (⟨#[59,32]⟩:Str):=by
 have e:Builtin.Str.strKind (⟨#[59,32]⟩:Str)=1:=by simp[Builtin.Str.strKind]
 rw[e];unfold Builtin.Str.strKind;split
 ·decide
 ·split<;>decide
theorem Sb{x:Str}(l:Led 59 32 x.cps.toList):∀p∈Txt.split x ⟨#[59,32]⟩,59∉p.cps.toList:=by
 obtain⟨f,d,g⟩:=StrLaws.occ_tight x ⟨#[59,32]⟩ A3;have a:59∈x.cps.toList->∃k,StrLaws.At x ⟨#[59,32]⟩ x.length k:=λb=>by
  obtain⟨j,m⟩:=M0 b;exact⟨j,at_two x 59 32 j m (l j m)⟩
 unfold Txt.split;split
 ·rename_i i;intro p e;rw[D7.mp e];intro b;obtain⟨k,c⟩:=a b;have r:k+2<=x.length:=c.1;rw[Bool.or_eq_true,A6g,A6g]at i;rcases i with h|h
  ·have o:x.length<2:=h;lia
  ·exact kind_le x h
 ·split
  ·rename_i n;intro p e;rw[D7.mp e];intro b;obtain⟨k,c⟩:=a b;rw[List.isEmpty_iff.mp n]at d;have q:f=0:=d;exact g k A0 c
  ·rw[StrLaws.partsBetween_eq];exact ML l _ 0 f d g
theorem ZE{c d:Nat}(a:c≠d):∀b:List (List Nat),(∀t∈b,c∉t)->Led c d (jl [c,d] b)
 |[],_=>λk h=>by simp[jl]at h
 |[x],hf=>λk h=>absurd (F1 (show x[k]?=some c from h)) (hf x C8)
 |x::y::r,hf=>λk h=>by
  have g:=ZE a (y::r) λt j=>hf t (C4 _ j);have e:jl [c,d] (x::y::r)=x++(c::d::jl [c,d] (y::r)):=by
   show x++[c,d]++jl [c,d] (y::r)=_;simp
  rw[e]at h⊢;by_cases i:k<x.length
  ·rw[N4 i]at h;exact absurd (F1 h) (hf x C8)
  ·rw[J9 A0]at h;rw[J9 A0];obtain⟨m,f⟩:∃m,k-x.length=m:=⟨_,rfl⟩
   rw[show k+1-x.length=m+1 by lia];rw[f]at h;cases m with
   |zero=>rfl
   |succ m =>
    cases m with
    |zero =>
     have:some d=some c:=h;exact absurd (K0 this).symm a
    |succ m =>
     rw[V5,V5]at h⊢;exact g m h
theorem RZ(a:List Str)(e:a≠[])(f:∀t∈a,59∉t.cps.toList):Txt.split (Str.join ⟨#[59,32]⟩ a) ⟨#[59,32]⟩=a:=by
 have d:Led 59 32 (Str.join ⟨#[59,32]⟩ a).cps.toList:=by
  rw[GP];refine ZE A3 _ λt b=>?_;obtain⟨p,c,rfl⟩:=D1.mp b;exact f p c
 refine PP (Ua 59 [32] _ _ ?_ ?_ ?_ ?_ ?_)
 ·intro h;have:=split_pos (Str.join ⟨#[59,32]⟩ a) ⟨#[59,32]⟩;have g:(Txt.split (Str.join ⟨#[59,32]⟩ a) ⟨#[59,32]⟩).length=0:=by simpa using K3 List.length h
  lia
 ·simpa using e
 ·intro t b;obtain⟨p,c,rfl⟩:=D1.mp b;exact Sb d p c
 ·intro t b;obtain⟨p,c,rfl⟩:=D1.mp b;exact f p c
 ·have h:=K3 (λz:Str=>z.cps.toList) (StrLaws.join_split (Str.join ⟨#[59,32]⟩ a) ⟨#[59,32]⟩);rw[GP,GP]at h;exact h
end Tx
namespace L2
open PySem PySem.Spec PyProof.Rows
section
variable{X:Cx}
end
abbrev NE:=Sum Int (List Int)
abbrev NK:=List NE
def isR:NE->Bool
 |.inl _=>false
 |.inr _=>true
section
variable(P:Program)(w:World)
inductive Cv(h:Heap):NK->List Value->Prop
 |nil:Cv h [] []
 |int {i:Int} {v:Value} {ks:NK} {vs:List Value} (e:(intKind P w).is i v=true) (r:Cv h ks vs):Cv h (.inl i::ks) (v::vs)
 |tup {ps:List Int} {b:Addr} {ks:NK} {vs:List Value} (e:IsTupleKey (intKind P w) h ps b) (r:Cv h ks vs):Cv h (.inr ps::ks) (.ref b::vs)
structure GG(sh:List Bool)(h:Heap)(k:NK)(a:Addr):Prop where
 shape:k.map isR=sh
 ex:∃o its n,h.get? a=some o/\o.cls=.type "tuple" /\ o.data=.seq its n/\Cv P w h k its.toList
def MS:NE->Int
 |.inl i=>(intKind P w).hash i
 |.inr ps=>tupleKeyHash (intKind P w) ps
def MT:NE->Nat
 |.inl _=>1
 |.inr ps=>ps.length+1
def Zq(k:NK):Int:=reduceHash (Builtin.Tuple.tupleHashOf (k.map (MS P w)))
def Zr(k:NK):Nat:=(k.map MT).sum+1
end
section
variable{P:Program}{w:World}{sh:List Bool}{h h':Heap}
theorem Cv.inj{x y:NK}{vs:List Value}(g:Cv P w h x vs):Cv P w h y vs->x.map isR=y.map isR->x=y:=by
 induction g generalizing y with
 |nil=>intro c _;cases c;rfl
 |int e r f =>
  intro c a;cases c with
  |int b d =>
   rw[F5,F5]at a;rw[(intKind P w).inj _ _ _ e b,f d (A1h a).2]
  |tup b d=>cases a
 |tup e r f =>
  intro c a;cases c with
  |int b d=>cases a
  |tup b d =>
   rw[F5,F5]at a;rw[e.inj b,f d (A1h a).2]
theorem Cv.keep{x:NK}{vs:List Value}(d:Cv P w h x vs)(k:∀c b,IsTupleKey (intKind P w) h c b->IsTupleKey (intKind P w) h' c b):Cv P w h' x vs:=by
 induction d with
 |nil=>exact .nil
 |int e r a=>exact .int e a
 |tup e r a=>exact .tup (k _ _ e) a
theorem GG.ty{s:Shared}{k:NK}{a:Addr}(x:GG P w sh s.heap k a):s.TypeIs (.ref a) "tuple" := by
 obtain⟨o,_,_,c,b,_⟩:=x.ex;exact⟨o,c,b⟩
variable{A:Around}{E:Value->Shared->Prop}{s:Shared}
theorem Wm{k:NK}{a:Addr}{Q:Int->Shared->Prop}(D:A.units+1<cLine)(y:GG P w sh s.heap k a)(q:Q (Zq P w k) {s with toks:=s.toks+Zr k}):wpAny (model P w) A (pyHash (.ref a)) Q E s:=by
 have ty:=y.ty;obtain⟨_,o,G,n,H,_,B,C⟩:=y;unfold pyHash
 first|unfold pyHashByItsType|skip
 first|refine Z6 (wpAny_cRoomFor_or (.inr A0) ?_)|skip
 refine Z6 (A4c ty PySem.F.slot_tuple_hash.lookup ?_);show wpAny _ _ (if(some (Value.builtin "tuple.__hash__")==some Value.none)=true then _ else _) Q E s;rw[Z8 (by rw[beq_builtin_none];exact C7)];refine Z6 (A4c ty PySem.F.slot_tuple_hash.lookup ?_);show wpAny _ _ (callSpecialIfBoundUnlessNone? (.ref a) "__hash__" _ >>= _) Q E s;refine Z6 (wpAny_callSpecialIfBoundUnlessNone?_slot ty PySem.F.slot_tuple_hash (A2h PySem.F.slot_tuple_hash ty PySem.F.entry_tuple_hash ?_ (PySem.F.args_tuple_hash_1 _)));show wpAny _ _ (Builtin.Tuple.tupleItemsOf (.ref a) >>= _) _ _ s;refine Z6 (A7d H B (Z6 ?_));rw[<-Y6];refine A5h _ (λf (b:Array Int) s'=>∃g m,k=g++m/\Cv P w s.heap m f/\b.toList=g.map (MS P w)/\s'={s with toks:=s.toks+(g.map MT).sum}) _ ?_ ?_ _ _ ⟨[],k,rfl,C,rfl,rfl⟩
 ·rintro x f b s' ⟨g,m,rfl,u,p,rfl⟩;cases u with
  |@int i v j vs e r =>
   refine Z6 ((intKind P w).pyHash e ?_);have fin:∃d l,g++Sum.inl i::j=d++l/\Cv P w s.heap l f/\(b.push ((intKind P w).hash i)).toList=d.map (MS P w)/\({s with toks:=s.toks+(g.map MT).sum+1}:Shared)={s with toks:=s.toks+(d.map MT).sum}:=⟨g++[.inl i],j,by simp,r,by simp[p,MS],by simp[MT,Y5]⟩
   first|exact X6 fin|exact Z6 (X6 (X6 fin))
  |@tup t c j vs e r =>
   refine Z6 (wpAny_pyHash_tuple (by show A.units+1<cLine;exact D) e ?_);have fin:∃d l,g++Sum.inr t::j=d++l/\Cv P w s.heap l f/\(b.push (tupleKeyHash (intKind P w) t)).toList=d.map (MS P w)/\({s with toks:=s.toks+(g.map MT).sum+(t.length+1)}:Shared)={s with toks:=s.toks+(d.map MT).sum}:=⟨g++[.inr t],j,by simp,r,by simp[p,MS],by simp[MT,Y5]⟩
   first|exact X6 fin|exact Z6 (X6 (X6 fin))
 ·rintro b s' ⟨g,m,rfl,u,p,rfl⟩;cases u;rw[R0]at q;show wpAny _ _ (retInt (Builtin.Tuple.tupleHashOf b.toList)) _ _ _;rw[p];refine wpAny_ret_mkInt ?_;unfold Zq Zr reduceHash at q;show wpAny _ _ (if(decide (-(2:Int)^63<=Builtin.Tuple.tupleHashOf (g.map (MS P w))) && decide (Builtin.Tuple.tupleHashOf (g.map (MS P w))<2^63))=true then _ else _) Q E _;split at q
  ·rename_i z;rw[X5 z];exact X6 (by simpa[Y5] using q)
  ·rename_i z;rw[Z8 z];exact Z6 (wpAny_rule (X6 (by simpa[Y5] using q)))
theorem QX{x y:NK}{a b:Addr}{R:Fin->Shared->Prop}(hu:A.units<cLine)(hx:GG P w sh s.heap x a)(X:GG P w sh s.heap y b)(q:R (.done (.ret (.bool (decide (x=y))))) s):wpAny (model P w) A (Builtin.«tuple.__eq__» ⟨[.ref a,.ref b],[]⟩) R E s:=by
 have tb:=X.ty;obtain⟨sx,oa,xs,na,U,_,N,I⟩:=hx;obtain⟨sy,ob,ys,nb,G,_,Q,T⟩:=X;show wpAny _ _ (isInstance (.ref b) (.type "tuple") >>= _) _ _ s;refine Z6 (A5g tb A6e ?_);simp only[R4,O2,A3a];refine Z6 (A7d U N (Z6 (A7d G Q (Z6 ?_))));refine A5h _ (λi r s'=>r.1=none/\s'=s/\∃t B us vs,i=List.zip us vs/\Cv P w s.heap t us/\Cv P w s.heap B vs/\t.map isR=B.map isR/\decide (t=B)=decide (x=y)/\(us.length==vs.length)=(xs.size==ys.size)) _ ?_ ?_ _ _ ⟨rfl,rfl,x,y,xs.toList,ys.toList,rfl,I,T,sx.trans sy.symm,rfl,by simp⟩
 ·rintro⟨u,v⟩ i r s' ⟨O,rfl,t,B,us,vs,g,n,f,c,d,e⟩;cases n with
  |nil=>simp at g
  |@int Z u' S l H D =>
   cases f with
   |nil=>simp at g
   |@int Y v' m k C o =>
    simp only[List.zip_cons_cons,List.cons.injEq,Prod.mk.injEq]at g;obtain⟨⟨rfl,rfl⟩,rfl⟩:=g;rw[F5,F5]at c;refine Z6 ((intKind P w).eqBool H C ?_);by_cases j:Z=Y
    ·subst j;rw[Z7 rfl];simp only[R4,O2,A3a];refine X6 ⟨rfl,rfl,S,m,l,k,rfl,D,o,(A1h c).2,?_,by simpa using e⟩;rw[<-d];exact decide_eq_decide.mpr ⟨λz=>by rw[z],λz=>(A1h z).2⟩
    ·rw[X4 j];simp only[Bool.not_false,A4d];have K:decide (x=y)=false:=by rw[<-d];exact X4 λz=>j (Sum.inl.inj (A1h z).1)
     rw[K]at q;exact Z6 (X6 (X6 (X6 q)))
   |tup C o=>cases c
  |@tup M c1 S l H D =>
   cases f with
   |nil=>simp at g
   |int C o=>cases c
   |@tup V c2 m k C o =>
    simp only[List.zip_cons_cons,List.cons.injEq,Prod.mk.injEq]at g;obtain⟨⟨rfl,rfl⟩,rfl⟩:=g;rw[F5,F5]at c;refine Z6 (wpAny_eqBool_tuple hu H C ?_);by_cases j:M=V
    ·subst j;rw[Z7 rfl];simp only[R4,O2,A3a];refine X6 ⟨rfl,rfl,S,m,l,k,rfl,D,o,(A1h c).2,?_,by simpa using e⟩;rw[<-d];exact decide_eq_decide.mpr ⟨λz=>by rw[z],λz=>(A1h z).2⟩
    ·rw[X4 j];simp only[Bool.not_false,A4d];have K:decide (x=y)=false:=by rw[<-d];exact X4 λz=>j (Sum.inr.inj (A1h z).1)
     rw[K]at q;exact Z6 (X6 (X6 (X6 q)))
 ·rintro⟨D,o⟩ s' ⟨O,rfl,t,B,us,vs,g,n,f,c,d,e⟩;simp only at O;subst O;refine X6 ?_;have p:(xs.size==ys.size)=decide (x=y):=by
   rw[<-d,<-e];cases n with
   |nil =>
    cases f with
    |nil=>simp
    |int _ _=>cases c
    |tup _ _=>cases c
   |int _ _ =>
    cases f with
    |nil=>cases c
    |int _ _=>simp at g
    |tup _ _=>cases c
   |tup _ _ =>
    cases f with
    |nil=>cases c
    |int _ _=>cases c
    |tup _ _=>simp at g
  show R (.done (.ret (.bool (xs.size==ys.size)))) s';rw[p];exact q
theorem nest_eq{x y:NK}{a b:Addr}{Q:Bool->Shared->Prop}(l:A.units+1<cLine)(f:GG P w sh s.heap x a)(i:GG P w sh s.heap y b)(q:Q (decide (x=y)) s):wpAny (model P w) A (eqBool (.ref a) (.ref b)) Q E s:=by
 unfold eqBool
 try with_reducible refine wpAny_holding ?_
 show wpAny _ _ (if(Value.ref a==Value.ref b)=true then _ else _) Q E s;by_cases c:(Value.ref a==Value.ref b)=true
 ·rw[X5 c];have e:a=b:=by have:=eq_of_beq c;injection this
  subst e;have:x=y:=by
   obtain⟨u,o,r,n,t,_,k,m⟩:=f;obtain⟨p,o',its',v,g,_,d,j⟩:=i;obtain rfl:o=o':=K0 (t.symm.trans g);rw[k]at d;injection d with h1 _
   subst h1;exact m.inj j (u.trans p.symm)
  subst this;exact Z6 (wpAny_rule (X6 (by simpa using q)))
 ·rw[Z8 c];exact Z6 (wpAny_richCompare_same_room (op:=.Eq) f.ty i.ty PySem.F.slot_tuple_eq (A2h PySem.F.slot_tuple_eq f.ty PySem.F.entry_tuple_eq (QX (by show A.units+1<cLine;exact l) f i ⟨_,rfl,(λe=>nomatch e),A0b q⟩) (PySem.F.args_tuple_eq_2 _ _)) A0)
theorem VW{n:Nat}{l:List Int}{a:Addr}{Q:Bool->Shared->Prop}(f:IsTupleKey (intKind P w) s.heap l a)(q:Q true s):wpAny (model P w) A (eqIsQuiet (n+1) (.ref a)) Q E s:=by
 have ty:=f.typeIs;obtain⟨o,e,m,k,_,g,i⟩:=f;unfold eqIsQuiet;refine Z6 (A4c ty PySem.F.slot_tuple_eq.lookup ?_);show wpAny _ _ (isInstance (.ref a) (.type "tuple") >>= _) _ _ s;refine Z6 (A5g ty A6e ?_);simp only[R4,O2,A3a];refine Z6 (A1c k g (Z6 ?_));show wpAny _ _ (forIn e _ _) _ _ s;rw[<-Y6];refine A5h _ (λc r s'=>r.1=none/\s'=s/\∀v∈c,carriedByValue v=true) _ ?_ ?_ _ _ ⟨rfl,rfl,i.byValue⟩
 ·rintro v c r s' ⟨d,rfl,b⟩;rw[eqIsQuiet_byValue _ (b v C8)];refine Z6 (X6 ?_);simp only[R4,O2,A3a];exact X6 ⟨rfl,rfl,λu j=>b u (C4 _ j)⟩
 ·rintro⟨p,t⟩ s' ⟨d,rfl,_⟩;simp only at d;subst d;exact X6 q
theorem TK{x:NK}{a:Addr}{Q:Bool->Shared->Prop}(i:GG P w sh s.heap x a)(q:Q true s):wpAny (model P w) A (eqIsQuiet 8 (.ref a)) Q E s:=by
 have ty:=i.ty;obtain⟨_,o,f,m,p,_,k,l⟩:=i;unfold eqIsQuiet;refine Z6 (A4c ty PySem.F.slot_tuple_eq.lookup ?_);show wpAny _ _ (isInstance (.ref a) (.type "tuple") >>= _) _ _ s;refine Z6 (A5g ty A6e ?_);simp only[R4,O2,A3a];refine Z6 (A1c p k (Z6 ?_));show wpAny _ _ (forIn f _ _) _ _ s;rw[<-Y6];refine A5h _ (λb r s'=>r.1=none/\s'=s/\∃j,Cv P w s.heap j b) _ ?_ ?_ _ _ ⟨rfl,rfl,x,l⟩
 ·rintro v b r s' ⟨d,rfl,j,g⟩;cases g with
  |int e c =>
   rw[eqIsQuiet_byValue _ ((intKind P w).byValue _ _ e)];refine Z6 (X6 ?_);simp only[R4,O2,A3a];exact X6 ⟨rfl,rfl,_,c⟩
  |tup e c =>
   refine Z6 (VW (n:=6) e ?_);simp only[R4,O2,A3a];exact X6 ⟨rfl,rfl,_,c⟩
 ·rintro⟨c,t⟩ s' ⟨d,rfl,_⟩;simp only at d;subst d;exact X6 q
end
def LR(P:Program)(w:World)(sh:List Bool):HeapKind P w NK where
 is:=GG P w sh
 hash:=Zq P w
 draws:=Zr
 room:=λA=>A.units+1<cLine
 inj:=λhx hy=>by
  obtain⟨s1,o,its,n,ho,_,hd,hi⟩:=hx;obtain⟨s2,o',its',n',ho',_,hd',hi'⟩:=hy;obtain rfl:o=o':=K0 (ho.symm.trans ho');rw[hd]at hd';injection hd' with h1 _
  subst h1;exact hi.inj hi' (s1.trans s2.symm)
 keeps:=λ{h h' k a d o es ep} hx ho hd hs=>by
  obtain⟨s1,o',its,n,ho',hc,hd',hi⟩:=hx;have ne:a≠d:=by
   rintro rfl;obtain rfl:o'=o:=K0 (ho'.symm.trans ho);rw[hd]at hd';exact nomatch hd'
  exact⟨s1,o',its,n,(hs.2 a ne).trans ho',hc,hd',hi.keep λps b e=>e.keeps ho hd hs⟩
 pyHash:=λhu hk q=>Wm hu hk q
 eqBool:=λhu hx hy q=>nest_eq hu hx hy q
 quiet:=λhk q=>TK hk q
def NEl(H:Hp):NE->V->Prop
 |.inl i,v=>v=.int i
 |.inr ps,v=>∃t,v=.ref t/\H t=some (.tup (ps.map V.int))
def GE(H:Hp)(b:Addr)(k:NK):Prop:=∃vs,H b=some (.tup vs)/\Paired (NEl H) k vs
abbrev KN(H:Hp):List (NK×V)->List (NK×Addr×Value)->Prop:=Paired λp q=>p.1=q.1/\GE H q.2.1 p.1/\Bb p.2 q.2.2
def VV(P:Program)(w:World)(sh:List Bool)(a:Addr)(xs:List (NK×Addr×Value)):Heap->Prop:=λh=>∃o es ep,h.get? a=some o/\o.ExactDict/\o.data=.dict es ep/\es.toList=xs.map (entryOfKey (LR P w sh))
structure BC(P:Program)(w:World)(sh:List Bool)(H:Hp)(a:Addr)(kvs:List (NK×V)):Prop where
 ex:∃xs,H a=some (.ext (VV P w sh a xs))/\KN H kvs xs/\(xs.map (·.1)).Nodup/\(∀x∈xs,x.1.map isR=sh)/\kvs.length<=sizeLine/\(a==sysModules)=false
section
variable{P:Program}{w:World}{sh:List Bool}{H H':Hp}{h h':Heap}{a b:Addr}{k:NK}{kvs:List (NK×V)}
theorem GE.keep(c:∀b ys,H b=some (.tup ys)->H' b=some (.tup ys))(e:GE H b k):GE H' b k:=by
 obtain⟨vs,e,r⟩:=e;refine⟨vs,c _ _ e,Paired.imp' (λx v z=>?_) r⟩;cases x with
 |inl i=>exact z
 |inr g =>
  obtain⟨t,d,f⟩:=z;exact⟨t,d,c _ _ f⟩
theorem KN.keep{xs:List (NK×Addr×Value)}(c:∀b ys,H b=some (.tup ys)->H' b=some (.tup ys))(r:KN H kvs xs):KN H' kvs xs:=Paired.imp' (λp q z=>⟨z.1,z.2.1.keep c,z.2.2⟩) r
theorem BC.keep(n:BC P w sh H a kvs)(c:∀b ys,H b=some (.tup ys)->H' b=some (.tup ys))(d:∀o,H a=some o->H' a=some o):BC P w sh H' a kvs:=by
 obtain⟨xs,e,r,z⟩:=n.ex;exact⟨xs,d _ e,KN.keep c r,z⟩
theorem WE{c:List Int}{us:List Value}(r:AR (c.map V.int) us):ItemsAre (intKind P w) c us:=by
 induction c generalizing us with
 |nil=>cases r;exact .nil
 |cons i c f =>
  cases r with
  |cons d e =>
   obtain⟨t,rfl⟩:=(show ∃t,_=Value.int i t from d)
   exact .cons (by show Value.isInt i (.int i t)=true;simp[Value.isInt]) (f e)
theorem int_key(ok:HOk P w H h){d:List Int}(e:H a=some (.tup (d.map V.int))):IsTupleKey (intKind P w) h d a:=by
 obtain⟨_,c,r,o,g,i,n,f⟩:=(show BD P w H h a (.tup (d.map V.int))from ok a _ e)
 exact⟨o,c.toArray,n,g,i,f,by simpa using WE r⟩
theorem QV(ok:HOk P w H h)(e:GE H b k)(m:k.map isR=sh):GG P w sh h k b:=by
 obtain⟨vs,e,r⟩:=e;obtain⟨_,f,c,o,q,s,n,p⟩:=(show BD P w H h b (.tup vs)from ok b _ e)
 refine⟨m,o,f.toArray,n,q,s,p,?_⟩;have go:∀{k:NK}{vs:List V}{us:List Value},Paired (NEl H) k vs->AR vs us->Cv P w h k us:=by
  intro k vs us r;induction r generalizing us with
  |nil=>intro c;cases c;exact .nil
  |@cons x v z vs d t g =>
   intro c;cases c with
   |cons j l =>
    cases x with
    |inl i =>
     have d:v=.int i:=d;subst d;obtain⟨tk,rfl⟩:=(show ∃t,_=Value.int i t from j)
     exact .int (by show Value.isInt i (.int i tk)=true;simp[Value.isInt]) (g l)
    |inr A =>
     obtain⟨u,rfl,y⟩:=d;cases(show _=Value.ref u from j);exact .tup (int_key ok y) (g l)
 simpa using go r c
theorem QW(ok:HOk P w H h)(n:BC P w sh H a kvs):∃xs,H a=some (.ext (VV P w sh a xs))/\KN H kvs xs/\h.DictOfH (LR P w sh) a xs/\(∀x∈xs,x.1.map isR=sh)/\kvs.length<=sizeLine/\(a==sysModules)=false:=by
 obtain⟨xs,e,r,v,d,z,y⟩:=n.ex;obtain⟨⟨o,A,i,s,u,g,B⟩,_⟩:=(show BD P w H h a (.ext _)from ok a _ e)
 refine⟨xs,e,r,⟨o,A,i,s,u,g,B,λx c=>?_,v⟩,d,z,y⟩;have all:∀{l:List (NK×V)}{m:List (NK×Addr×Value)},KN H l m->∀x∈m,GE H x.2.1 x.1:=by
  intro l m q;induction q with
  |nil=>intro x c;exact nomatch c
  |@cons p q C qs f t j =>
   intro x c;rcases C1.mp c with e|c
   ·subst e;rw[<-f.1];exact f.2.1
   ·exact j x c
 exact QV ok (all r x c) (d x c)
theorem KN.val{xs:List (NK×Addr×Value)}(r:KN H kvs xs)(k:NK):IL (Bq kvs k) ((atKey xs k).map (·.2)):=by
 induction r with
 |nil=>exact True.intro
 |@cons p q i qs h t f =>
  obtain⟨c,_,g⟩:=h;by_cases e:p.1=k
  ·rw[BE e,show atKey (q::qs) k=some q.2 by simp[atKey,O9,c.symm.trans e]];exact g
  ·have d:¬q.1=k:=λz=>e (c.trans z);rw[Bn e,show atKey (q::qs) k=atKey qs k by simp[atKey,O9,d]];exact f
theorem KN.put{xs:List (NK×Addr×Value)}(r:KN H kvs xs)(k:NK){y:V}{u:Value}(i:GE H b k)(d:Bb y u):KN H (Dz kvs k y) (storedH xs k b u):=by
 have e:(kvs.any λl=>decide (l.1=k))=(atKey xs k).isSome:=by rw[Fa,(r.val k).isSome_eq,Z0]
 unfold Dz storedH;rw[e];by_cases q:(atKey xs k).isSome=true
 ·rw[X5 q,X5 q];clear e q;induction r with
  |nil=>exact .nil
  |@cons p q m qs h t j =>
   refine .cons ?_ j;obtain⟨c,f,g⟩:=h;unfold putAt;dsimp only;by_cases z:p.1=k
   ·rw[X5 z,X5 (c.symm.trans z)];exact⟨c,f,d⟩
   ·rw[Z8 z,Z8 λq=>z (c.trans q)];exact⟨c,f,g⟩
 ·rw[Z8 q,Z8 q];exact A2f r ⟨rfl,i,d⟩
end
def tDNewN(P:Program)(w:World)(sh:List Bool):TE:=λ_ H Q=>∀p H',H p=none->Ax H H'->BC P w sh H' p []->Q (.ref p) H'
def tDGetN(P:Program)(w:World)(sh:List Bool)(td ty:TE):TE:=fun σ H Q=>td σ H λx H1=>∃a,x=.ref a/\(∃kvs,BC P w sh H1 a kvs)/\ty σ H1 λy H2=>∃b k kvs,y=.ref b/\BC P w sh H2 a kvs/\GE H2 b k/\k.map isR=sh/\Q ((Bq kvs k).getD .non) H2
def sDPutN(P:Program)(w:World)(sh:List Bool)(td ty tv:TE):TS:=λD σ H=>tv σ H λv H1=>td σ H1 λx H2=>ty σ H2 λy H3=>∃a b k kvs,x=.ref a/\y=.ref b/\BC P w sh H3 a kvs/\GE H3 b k/\k.map isR=sh/\kvs.length<sizeLine/\∀H4,(∀c o,H3 c=some o->c≠a->H4 c=some o)->BC P w sh H4 a (Dz kvs k v)->D.nx σ H4
section
variable{X:Cx}{sh:List Bool}
theorem Sz{xs:List (NK×Addr×Value)}{H:Hp}{h:Heap}{a:Addr}(r:VV X.prog X.w sh a xs h):BD X.prog X.w H h a (.ext (VV X.prog X.w sh a xs)):=by
 obtain⟨o,q,m,g,p,l,t⟩:=id r;refine⟨r,⟨o,g⟩,λn s j d=>?_⟩;obtain⟨o',b,c,e,i,f,k⟩:=j;exact⟨o',b,c,d o' e,i,f,k⟩
theorem YL{c:Pos}:PE X (.Dict [] [] c) (tDNewN X.prog X.w sh):=λpins s σ H Q I h=>by
 have fr:=I.hok.fresh (C5 s.heap.objs.size);have lo:(s.heap.objs.size==sysModules)=false:=beq_eq_false_iff_ne.mpr (K1 (F7 I.big));refine wpAny_Dict_empty ⟨.ref s.heap.objs.size,upd H s.heap.objs.size (.ext (VV X.prog X.w sh s.heap.objs.size [])),I.laid (a:=s.heap.objs.size) (t':=s.toks) (λ_ _ q=>C2 _ q) (C5 _) (Sz ⟨_,#[],0,D5 _ rfl,⟨rfl,rfl,rfl⟩,rfl,rfl⟩),rfl,h _ _ fr (λb o e=>by rw[As (AA e fr)];exact e) ⟨[],Ag,.nil,P6,(λx d=>by simp at d),M6 _,lo⟩⟩
variable{o e:Expr}{apos cpos:Pos}{td ty:TE}
theorem YM(V:X.A.units+64<cLine)(R:PE X o td)(t:PE X e ty)(m:M1 X o "get" apos e cpos):PE X (.Call (.Attribute o "get" apos) [e] [] cpos) (tDGetN X.prog X.w sh td ty):=by
 intro pins s σ H Q I h;refine wpAny_Call_method m.base m.few m.line PySem.F.plainAttrs_dict A2a PySem.F.type_dict_get (thn (R pins s σ H _ I h) λu K ⟨x,O,j,T,a,N,⟨M,d⟩,P⟩=>?_);subst N;obtain rfl:u=Value.ref a:=T;obtain⟨xs,_,_,dd,_⟩:=QW j.hok d;refine⟨dd.typeIs,λb q=>?_,?_⟩
 ·cases q;obtain⟨p,_,_,r,G,_⟩:=dd;exact⟨p,r,G.2.1⟩
 rw[m.trees];refine A6c rfl (A4a (A7b (thn (t pins K σ O _ j P) λC U ⟨y,E,f,n,b,k,i,B,v,S,l,D⟩=>Calls.spliced_nil ?_)));subst B;cases(show C=Value.ref b from n);obtain⟨c,_,z,g,_,_,lo⟩:=QW f.hok v;refine call_meetsIn A2a g.typeIs A5d (A5a _ _) (meetsH_dict_get (LR X.prog X.w sh) a b lo) ⟨by show X.A.units+1+1<cLine;lia,k,c,QV f.hok S l,g,_,E,f.tok _,(KN.val z k).getD (d:=.non) rfl,D⟩
variable{i value:Expr}{pos pos':Pos}{tv:TE}
theorem YH(hu:X.A.units+64<cLine)(ho:PE X o td)(S:PE X i ty)(V:PE X value tv)(M:swapsWith value (some (.Subscript o i pos')) pos.line X.env=pure false):PS X (.Assign [.Subscript o i pos'] value pos) (sDPutN X.prog X.w sh td ty tv):=by
 intro pins s σ H D I h;refine wpAny_Assign_Subscript (thn (V pins s σ H _ I h) λr s1 ⟨v,H1,I1,Q,q1⟩=>thn (ho pins s1 σ H1 _ I1 q1) λu s2 ⟨x,H2,I2,rx,U⟩=>thn (S pins s2 σ H2 _ I2 U) λT s3 ⟨y,C,n,N,a,b,k,f,ex,P,n3,K,E,lt,Y⟩=>?_) M;subst ex P;obtain rfl:u=Value.ref a:=rx;cases(show T=Value.ref b from N);obtain⟨xs,t,g,dd,d,z,lo⟩:=QW n.hok n3;have hz:xs.length<=sizeLine:=by rw[<-A0a g];exact z
 have hl:(Dz f k v).length<=sizeLine:=by have:=EB f k v;lia
 refine wpAny_setItem_heap (knd:=LR X.prog X.w sh) (hsz:=hz) (by show X.A.units+1+1<cLine;lia) (QV n.hok K E) dd λh' m p=>?_;obtain⟨q,Z,O,B,h2,R,h4,_,h5⟩:=m;have tk:∀c ys,C c=some (.tup ys)->upd C a (.ext (VV X.prog X.w sh a (storedH xs k b r))) c=some (.tup ys):=λc ys l=>by
  rw[As (AG l t (λz=>nomatch z))];exact l
 refine⟨σ,_,RC n (by rw[t];exact True.intro) p ⟨q,B⟩ (Sz ⟨q,Z,O,B,h2,R,h4⟩),Y _ (λc o l ne=>by rw[As ne];exact l) ⟨_,Ag,KN.keep tk (KN.put g k K Q),h5,λx j=>?_,hl,lo⟩⟩;unfold storedH at j;split at j
 ·obtain⟨y,G,rfl⟩:=D1.mp j;unfold putAt;split
  ·exact d y G
  ·exact d y G
 ·rcases D3.mp j with w|w
  ·exact d x w
  ·rw[D7]at w;subst w;exact E
end
end L2
namespace J
open PySem L2
theorem asI{N P:List Str}{c:Scope}(a:c.kind=.function:=by rfl)(b:c.isCoroutine=false:=by rfl)(d:c.isGenerator=false:=by rfl)(e:N.Nodup:=by decide +kernel)(f:N.take P.length=P:=by rfl)(g:∀x∈P,c.names.lookup x=some .local∨c.names.lookup x=some .cell:=by decide +kernel)(h:∀y∈c.names,y.2≠.free:=by decide +kernel):Aq N P c:=⟨a,b,d,e,f,g,h⟩
def top(i:Nat):Stmt:=PySem.Challenge.pw_jumpfield_k58_whole_growing_boxes.main.body.getD i (.Pass ⟨0,0,0,0⟩)
abbrev Ic:Stmt:=top 17
abbrev TM:List Str:=["thing"]
theorem MK:Aq TM TM (Ak Ic):=asI
abbrev Li:Stmt:=top 24
theorem Sg:Aq TM TM (Ak Li):=asI
abbrev QK:Stmt:=top 25
abbrev dC:List Str:=["wanted","state"]
theorem YB:Aq dC dC (Ak QK):=asI
abbrev Ep:Stmt:=top 29
abbrev Ld:List Str:=["text","words","cell","conditions"]
abbrev Gp:List Str:=["text"]
theorem DL:Aq Ld Gp (Ak Ep):=asI
abbrev Ia:Stmt:=top 30
abbrev Ra:List Str:=["word"]
theorem Pb:Aq Ra Ra (Ak Ia):=asI
abbrev Gd:Stmt:=top 31
theorem NS:Aq Ra Ra (Ak Gd):=asI
abbrev Ec:Stmt:=top 32
theorem LE:Aq Ra Ra (Ak Ec):=asI
abbrev Fe:Stmt:=top 33
abbrev Ov:List Str:=["word","parts"]
theorem IM:Aq Ov Ra (Ak Fe):=asI
abbrev Fd:Stmt:=top 34
abbrev Ou:List Str:=["signs","numbers","sign"]
abbrev Fw:List Str:=["signs"]
theorem EG:Aq Ou Fw (Ak Fd):=asI
abbrev Eo:Stmt:=top 35
theorem NT:Aq Ra Ra (Ak Eo):=asI
abbrev Gc:Stmt:=top 38
abbrev Pl:List Str:=["box","dx","dy"]
theorem NR:Aq Pl Pl (Ak Gc):=asI
abbrev CO:Stmt:=top 39
abbrev EA:List Str:=["boxes","left","top","right","bottom"]
abbrev FT:List Str:=["boxes"]
theorem DM:Aq EA FT (Ak CO):=asI
abbrev Ge:Stmt:=top 44
abbrev Pn:List Str:=["box","limit"]
theorem NU:Aq Pn Pn (Ak Ge):=asI
abbrev Lh:Stmt:=top 45
abbrev TL:List Str:=["grove","field"]
theorem Sf:Aq TL TL (Ak Lh):=asI
abbrev Ie:Stmt:=top 46
abbrev Re:List Str:=["grove"]
theorem Pc:Aq Re Re (Ak Ie):=asI
abbrev Mm:Stmt:=top 47
abbrev Wn:List Str:=["grove","square","level","parts","bare"]
abbrev JK:List Str:=["grove","square"]
theorem GX:Aq Wn JK (Ak Mm):=asI
abbrev Mn:Stmt:=top 48
abbrev Wo:List Str:=["grove","square","kept"]
theorem Lg:Aq Wo JK (Ak Mn):=asI
abbrev FQ:Stmt:=top 49
abbrev MP:List Str:=["grove","square","inner"]
theorem LF:Aq MP JK (Ak FQ):=asI
abbrev Ed:Stmt:=top 50
abbrev Mw:List Str:=["grove","square","bare","place","quarter","part_place","part"]
theorem BH:Aq Mw JK (Ak Ed):=asI
abbrev Fc:Stmt:=top 51
abbrev Ot:List Str:=["grove","field","box","wide"]
abbrev Fu:List Str:=["grove","field","box"]
theorem EF:Aq Ot Fu (Ak Fc):=asI
abbrev GY:Stmt:=top 52
abbrev QY:List Str:=["grove","field","level","wide"]
abbrev Iv:List Str:=["grove","field","level"]
theorem Ga:Aq QY Iv (Ak GY):=asI
abbrev Od:Stmt:=top 54
abbrev Zp:List Str:=["grove","field","box","reach"]
theorem Mj:Aq Zp TL (Ak Od):=asI
abbrev Tz:Stmt:=top 56
abbrev dF:List Str:=["jumps","field","n","tuples"]
abbrev QR:List Str:=["jumps","field","n"]
theorem UN:Aq dF QR (Ak Tz):=asI
abbrev Ty:Stmt:=top 57
abbrev dE:List Str:=["jumps","field","n","grove","told","here","rest","e","square","result"]
theorem DK:Aq dE QR (Ak Ty):=asI
abbrev Id:Stmt:=top 58
abbrev Rc:List Str:=["grove","field","n","box"]
abbrev Iy:List Str:=["grove","field","n"]
theorem Gb:Aq Rc Iy (Ak Id):=asI
abbrev Jc:Stmt:=top 59
abbrev SB:List Str:=["grove","field","e","reach","level"]
abbrev Jk:List Str:=["grove","field","e"]
theorem ES:Aq SB Jk (Ak Jc):=asI
abbrev Oc:Stmt:=top 61
abbrev Zo:List Str:=["grove","field","box","state","has_places","wide","solid"]
abbrev On:List Str:=["grove","field","box","state"]
theorem JF:Aq Zo On (Ak Oc):=asI
abbrev Jd:Stmt:=top 62
abbrev SC:List Str:=["box"]
theorem QH:Aq SC SC (Ak Jd):=asI
abbrev Mo:Stmt:=top 63
abbrev Wp:List Str:=["grove","field","box","reach","left","top","size"]
theorem Fb:Aq Wp Fu (Ak Mo):=asI
abbrev Nq:Stmt:=top 64
abbrev dD:List Str:=["grove","inner","outer","part","known","size","key","square"]
abbrev JL:List Str:=["grove","inner","outer","part","known"]
theorem GI:Aq dD JL (Ak Nq):=asI
abbrev CZ:Stmt:=top 65
abbrev Mv:List Str:=["grove","key","half","known","inners","outers","part","columns","rows","made","place","column","row","quarter_part"]
abbrev Dg:List Str:=["grove","key","half","known"]
theorem AO:Aq Mv Dg (Ak CZ):=asI
abbrev EH:Stmt:=top 66
abbrev MZ:List Str:=["start","stop","half"]
theorem Mi:Aq MZ MZ (Ak EH):=asI
abbrev Fj:Stmt:=top 70
theorem MW:Aq Gp Gp (Ak Fj):=asI
abbrev Jb:Stmt:=top 71
abbrev SA:List Str:=["text","rule"]
theorem LD:Aq SA Gp (Ak Jb):=asI
abbrev Lk:Stmt:=top 72
abbrev TR:List Str:=["rule","cell","around","number","clause"]
abbrev Lq:List Str:=["rule","cell","around"]
theorem IZ:Aq TR Lq (Ak Lk):=asI
abbrev Mp:Stmt:=top 73
abbrev Wq:List Str:=["rule","cell","around","number"]
theorem NV:Aq Wq Lq (Ak Mp):=asI
abbrev GZ:Stmt:=top 74
abbrev QZ:List Str:=["rule"]
theorem Pa:Aq QZ QZ (Ak GZ):=asI
abbrev Ib:Stmt:=top 77
abbrev Rb:List Str:=["grove","square","parts","a","b","c","d"]
theorem Cz:Aq Rb JK (Ak Ib):=asI
abbrev Lj:Stmt:=top 78
abbrev TQ:List Str:=["nine"]
theorem Sh:Aq TQ TQ (Ak Lj):=asI
abbrev Dl:Stmt:=top 79
abbrev JV:List Str:=["grove","four","parts"]
abbrev Cb:List Str:=["grove","four"]
theorem Ez:Aq JV Cb (Ak Dl):=asI
abbrev Mq:Stmt:=top 82
abbrev Wr:List Str:=["_law_script","_law_k"]
theorem Tw:Aq Wr Wr (Ak Mq):=asI
abbrev Ig:Stmt:=top 83
abbrev Rf:List Str:=["_law_found"]
theorem Pe:Aq Rf Rf (Ak Ig):=asI
abbrev Ll:Stmt:=top 84
abbrev TU:List Str:=["_law_cell","_law_k","_law_value"]
abbrev IC:List Str:=["_law_cell","_law_k"]
theorem Ja:Aq TU IC (Ak Ll):=asI
abbrev Ih:Stmt:=top 85
abbrev Rh:List Str:=["_law_cell","_law_k","_law_bits"]
theorem Pf:Aq Rh Rh (Ak Ih):=asI
abbrev Jf:Stmt:=top 86
abbrev SE:List Str:=["_law_cell","_law_k","_law_room"]
theorem QI:Aq SE SE (Ak Jf):=asI
abbrev Gi:Stmt:=top 87
abbrev Pr:List Str:=["_law_script","_law_first","_law_bits","_law_left","_law_top","_law_wide","_law_high"]
abbrev Ev:List Str:=["_law_script","_law_first","_law_bits"]
theorem CN:Aq Pr Ev (Ak Gi):=asI
abbrev Ii:Stmt:=top 88
abbrev Ri:List Str:=["_law_box","_law_n"]
theorem Pg:Aq Ri Ri (Ak Ii):=asI
abbrev Gf:Stmt:=top 89
theorem NW:Aq Ri Ri (Ak Gf):=asI
abbrev Gh:Stmt:=top 90
abbrev Pq:List Str:=["_law_one","_law_other","_law_left","_law_top","_law_right","_law_low"]
abbrev Gs:List Str:=["_law_one","_law_other"]
theorem CM:Aq Pq Gs (Ak Gh):=asI
abbrev Fl:Stmt:=top 91
abbrev Oy:List Str:=["_law_script","_law_n","_law_box","_law_cell","_law_left"]
abbrev FC:List Str:=["_law_script","_law_n"]
theorem Cw:Aq Oy FC (Ak Fl):=asI
abbrev Gg:Stmt:=top 92
theorem NX:Aq Ri Ri (Ak Gg):=asI
abbrev Je:Stmt:=top 93
abbrev SD:List Str:=["_law_e","_law_kinds","_law_words"]
abbrev FU:List Str:=["_law_e"]
theorem Cj:Aq SD FU (Ak Je):=asI
abbrev Fk:Stmt:=top 94
abbrev Ox:List Str:=["_law_jumps","_law_field","_law_n","_law_e"]
abbrev FB:List Str:=["_law_jumps","_law_field","_law_n"]
theorem IN:Aq Ox FB (Ak Fk):=asI
abbrev YC:Stmt:=top 95
abbrev n_law:List Str:=["_law_script","_law_state","_law_n","_law_one","_law_two","_law_grove","_law_none","_law_jumps","_law_field","_law_due","_law_found"]
abbrev p_law:List Str:=["_law_script"]
theorem BX:Aq n_law p_law (Ak YC):=asI
abbrev Fo:Stmt:=AY (top 26) 0
abbrev OA:List Str:=["self","state","numbers"]
theorem MY:Aq OA OA (Ak Fo):=asI
abbrev EI:Stmt:=AY (top 26) 1
abbrev Na:List Str:=["self","around"]
theorem Ml:Aq Na Na (Ak EI):=asI
abbrev Gj:Stmt:=AY (top 27) 0
abbrev Ps:List Str:=["self","wanted"]
theorem NY:Aq Ps Ps (Ak Gj):=asI
abbrev DR:Stmt:=AY (top 27) 1
theorem MX:Aq Na Na (Ak DR):=asI
abbrev Gn:Stmt:=AY (top 28) 0
abbrev Px:List Str:=["self","cell","conditions","makes"]
theorem Oa:Aq Px Px (Ak Gn):=asI
abbrev Es:Stmt:=AY (top 28) 1
abbrev Le:List Str:=["self","cell","around"]
theorem Ob:Aq Le Le (Ak Es):=asI
abbrev Io:Stmt:=AY (top 40) 0
abbrev Rn:List Str:=["self","state","level","bare"]
abbrev IH:List Str:=["self"]
theorem En:Aq Rn IH (Ak Io):=asI
abbrev Im:Stmt:=AY (top 40) 1
abbrev Rm:List Str:=["self","parts","level","number"]
abbrev EU:List Str:=["self","parts","level"]
theorem La:Aq Rm EU (Ak Im):=asI
abbrev Fn:Stmt:=AY (top 40) 2
abbrev Oz:List Str:=["self","parts","number"]
abbrev AS:List Str:=["self","parts"]
theorem IP:Aq Oz AS (Ak Fn):=asI
abbrev CQ:Stmt:=AY (top 40) 3
abbrev Jt:List Str:=["self","square"]
theorem IS:Aq Jt Jt (Ak CQ):=asI
abbrev Il:Stmt:=AY (top 40) 4
abbrev Rl:List Str:=["self","state"]
theorem Pj:Aq Rl Rl (Ak Il):=asI
abbrev Gm:Stmt:=AY (top 40) 6
abbrev Pu:List Str:=["self","level","state","square","below"]
abbrev Ew:List Str:=["self","level","state"]
theorem DP:Aq Pu Ew (Ak Gm):=asI
abbrev Ef:Stmt:=AY (top 40) 7
theorem LH:Aq Jt Jt (Ak Ef):=asI
abbrev Ee:Stmt:=AY (top 40) 9
theorem LG:Aq Jt Jt (Ak Ee):=asI
abbrev Ik:Stmt:=AY (top 40) 12
theorem Pi:Aq Jt Jt (Ak Ik):=asI
abbrev Er:Stmt:=AY (top 40) 13
abbrev Pw:List Str:=["self","square","box"]
theorem DQ:Aq Pw Jt (Ak Er):=asI
abbrev Db:Stmt:=AY (top 40) 14
abbrev MB:List Str:=["self","square","level","half","boxes","place","quarter","box"]
theorem Br:Aq MB Jt (Ak Db):=asI
abbrev FR:Stmt:=AY (top 69) 0
abbrev MQ:List Str:=["self","text"]
theorem QJ:Aq MQ MQ (Ak FR):=asI
abbrev Ij:Stmt:=AY (top 80) 0
abbrev Rj:List Str:=["self","grove","rule"]
theorem Ph:Aq Rj Rj (Ak Ij):=asI
abbrev DS:Stmt:=AY (top 80) 1
abbrev Js:List Str:=["self","rule","text"]
abbrev FE:List Str:=["self","rule"]
theorem IO:Aq Js FE (Ak DS):=asI
abbrev Gk:Stmt:=AY (top 80) 2
abbrev Pt:List Str:=["self","square","e"]
theorem NZ:Aq Pt Pt (Ak Gk):=asI
abbrev Dx:Stmt:=AY (top 80) 3
abbrev Lr:List Str:=["self","square","e","level"]
theorem EO:Aq Lr Pt (Ak Dx):=asI
abbrev Da:Stmt:=AY (top 80) 4
abbrev Mx:List Str:=["self","square","e","result"]
theorem DN:Aq Mx Pt (Ak Da):=asI
abbrev BY:Stmt:=AY (top 80) 5
abbrev Ex:List Str:=["self","square","e","grove","level","nine"]
theorem DO:Aq Ex Pt (Ak BY):=asI
abbrev Bj:Stmt:=AY (top 80) 6
abbrev CW:List Str:=["self","square","e","nine"]
theorem DZ:Aq CW Pt (Ak Bj):=asI
abbrev CP:Stmt:=AY (top 80) 7
abbrev Jr:List Str:=["self","square","parts","a","b","c","d"]
theorem Bf:Aq Jr Jt (Ak CP):=asI
abbrev Ck:Stmt:=AY (top 80) 8
abbrev FH:List Str:=["self","leaves","leaf","states"]
abbrev DC:List Str:=["self","leaves"]
theorem Ca:Aq FH DC (Ak Ck):=asI
structure Ad where
 c_Amounts:Addr
 c_Places:Addr
 c_Clause:Addr
 c_Grove:Addr
 c_Rule:Addr
 c_Jumps:Addr
 x_FieldError:Addr
 x_NoNumber:Addr
 x_NoRule:Addr
 x_Restless:Addr
 x_NoSquare:Addr
 x_NoLevel:Addr
 x_NoState:Addr
 x_NoBox:Addr
 x_TooFar:Addr
 x_TooMany:Addr
 x_NoSteps:Addr
 x_NoPattern:Addr
 x_NoName:Addr
 x_NoRow:Addr
structure Top(K:W.Frag)(mg:Str->Option Value)(a:Ad):Prop where
 b_all:mg "all" = none
 b_bool:mg "bool" = none
 b_enumerate:mg "enumerate" = none
 b_int:mg "int" = none
 b_isinstance:mg "isinstance" = none
 b_len:mg "len" = none
 b_max:mg "max" = none
 b_min:mg "min" = none
 b_range:mg "range" = none
 b_str:mg "str" = none
 b_tuple:mg "tuple" = none
 b_zip:mg "zip" = none
 k_STATES:∃t,mg "STATES" = some (.int 8 t)
 k_NEIGHBOURS:∃t,mg "NEIGHBOURS" = some (.int 8 t)
 k_STATE_FIGURES:∃t,mg "STATE_FIGURES" = some (.str (Str.ofString "01234567") t)
 k_AMOUNT_FIGURES:∃t,mg "AMOUNT_FIGURES" = some (.str (Str.ofString "012345678") t)
 k_ANY_SIGN:∃t,mg "ANY_SIGN" = some (.str (Str.ofString "*") t)
 k_TOP_LEVEL:∃t,mg "TOP_LEVEL" = some (.int 48 t)
 k_LIMIT:∃t,mg "LIMIT" = some (.int 1099511627776 t)
 k_LEAST_LEVEL:∃t,mg "LEAST_LEVEL" = some (.int 1 t)
 k_CLAUSE_MARK:∃t,mg "CLAUSE_MARK" = some (.str (Str.ofString "; ") t)
 k_LEAST_JUMPED:∃t,mg "LEAST_JUMPED" = some (.int 2 t)
 m_Amounts:mg "Amounts" = some (.ref a.c_Amounts)
 cl_Amounts:Cls K a.c_Amounts
 na_Amounts_state:BB K a.c_Amounts "state"
 na_Amounts_numbers:BB K a.c_Amounts "numbers"
 m_Places:mg "Places" = some (.ref a.c_Places)
 cl_Places:Cls K a.c_Places
 na_Places_wanted:BB K a.c_Places "wanted"
 m_Clause:mg "Clause" = some (.ref a.c_Clause)
 cl_Clause:Cls K a.c_Clause
 na_Clause_cell:BB K a.c_Clause "cell"
 na_Clause_conditions:BB K a.c_Clause "conditions"
 na_Clause_makes:BB K a.c_Clause "makes"
 m_Grove:mg "Grove" = some (.ref a.c_Grove)
 cl_Grove:Cls K a.c_Grove
 na_Grove_levels:BB K a.c_Grove "levels"
 na_Grove_parts:BB K a.c_Grove "parts"
 na_Grove_numbers:BB K a.c_Grove "numbers"
 na_Grove_bares:BB K a.c_Grove "bares"
 na_Grove_amounts:BB K a.c_Grove "amounts"
 na_Grove_boxes:BB K a.c_Grove "boxes"
 m_Rule:mg "Rule" = some (.ref a.c_Rule)
 cl_Rule:Cls K a.c_Rule
 na_Rule_text:BB K a.c_Rule "text"
 na_Rule_clauses:BB K a.c_Rule "clauses"
 m_Jumps:mg "Jumps" = some (.ref a.c_Jumps)
 cl_Jumps:Cls K a.c_Jumps
 na_Jumps_grove:BB K a.c_Jumps "grove"
 na_Jumps_memories:BB K a.c_Jumps "memories"
 na_Jumps_rule:BB K a.c_Jumps "rule"
 na_Jumps_known_squares:BB K a.c_Jumps "known_squares"
 na_Jumps_known_cells:BB K a.c_Jumps "known_cells"
 b_ValueError:mg "ValueError" = none
 mx_FieldError:mg "FieldError" = some (.ref a.x_FieldError)
 mx_NoNumber:mg "NoNumber" = some (.ref a.x_NoNumber)
 mx_NoRule:mg "NoRule" = some (.ref a.x_NoRule)
 mx_Restless:mg "Restless" = some (.ref a.x_Restless)
 mx_NoSquare:mg "NoSquare" = some (.ref a.x_NoSquare)
 mx_NoLevel:mg "NoLevel" = some (.ref a.x_NoLevel)
 mx_NoState:mg "NoState" = some (.ref a.x_NoState)
 mx_NoBox:mg "NoBox" = some (.ref a.x_NoBox)
 mx_TooFar:mg "TooFar" = some (.ref a.x_TooFar)
 mx_TooMany:mg "TooMany" = some (.ref a.x_TooMany)
 mx_NoSteps:mg "NoSteps" = some (.ref a.x_NoSteps)
 mx_NoPattern:mg "NoPattern" = some (.ref a.x_NoPattern)
 mx_NoName:mg "NoName" = some (.ref a.x_NoName)
 mx_NoRow:mg "NoRow" = some (.ref a.x_NoRow)
 ec_TooFar:Mb K a.x_TooFar
 ec_NoSteps:Mb K a.x_NoSteps
 ec_FieldError:Mb K a.x_FieldError
 ef_TooFar:Tm K a.x_TooFar
 mr_TooFar:mroIn K a.x_TooFar (.ref a.x_FieldError)=some true
 kv_TooFar:kitOne K (.ref a.x_TooFar) (.type "ValueError")=some true
 ki_TooFar_NoNumber:kitOne K (.ref a.x_TooFar) (.ref a.x_NoNumber)=some false
 ki_TooFar_NoRule:kitOne K (.ref a.x_TooFar) (.ref a.x_NoRule)=some false
 ki_TooFar_Restless:kitOne K (.ref a.x_TooFar) (.ref a.x_Restless)=some false
 ki_TooFar_NoSquare:kitOne K (.ref a.x_TooFar) (.ref a.x_NoSquare)=some false
 ki_TooFar_NoLevel:kitOne K (.ref a.x_TooFar) (.ref a.x_NoLevel)=some false
 ki_TooFar_NoState:kitOne K (.ref a.x_TooFar) (.ref a.x_NoState)=some false
 ki_TooFar_NoBox:kitOne K (.ref a.x_TooFar) (.ref a.x_NoBox)=some false
 ki_TooFar_TooFar:kitOne K (.ref a.x_TooFar) (.ref a.x_TooFar)=some true
 ki_TooFar_TooMany:kitOne K (.ref a.x_TooFar) (.ref a.x_TooMany)=some false
 ki_TooFar_NoSteps:kitOne K (.ref a.x_TooFar) (.ref a.x_NoSteps)=some false
 ki_TooFar_NoPattern:kitOne K (.ref a.x_TooFar) (.ref a.x_NoPattern)=some false
 ki_TooFar_NoName:kitOne K (.ref a.x_TooFar) (.ref a.x_NoName)=some false
 ki_TooFar_NoRow:kitOne K (.ref a.x_TooFar) (.ref a.x_NoRow)=some false
 ef_NoSteps:Tm K a.x_NoSteps
 mr_NoSteps:mroIn K a.x_NoSteps (.ref a.x_FieldError)=some true
 kv_NoSteps:kitOne K (.ref a.x_NoSteps) (.type "ValueError")=some true
 ki_NoSteps_NoNumber:kitOne K (.ref a.x_NoSteps) (.ref a.x_NoNumber)=some false
 ki_NoSteps_NoRule:kitOne K (.ref a.x_NoSteps) (.ref a.x_NoRule)=some false
 ki_NoSteps_Restless:kitOne K (.ref a.x_NoSteps) (.ref a.x_Restless)=some false
 ki_NoSteps_NoSquare:kitOne K (.ref a.x_NoSteps) (.ref a.x_NoSquare)=some false
 ki_NoSteps_NoLevel:kitOne K (.ref a.x_NoSteps) (.ref a.x_NoLevel)=some false
 ki_NoSteps_NoState:kitOne K (.ref a.x_NoSteps) (.ref a.x_NoState)=some false
 ki_NoSteps_NoBox:kitOne K (.ref a.x_NoSteps) (.ref a.x_NoBox)=some false
 ki_NoSteps_TooFar:kitOne K (.ref a.x_NoSteps) (.ref a.x_TooFar)=some false
 ki_NoSteps_TooMany:kitOne K (.ref a.x_NoSteps) (.ref a.x_TooMany)=some false
 ki_NoSteps_NoSteps:kitOne K (.ref a.x_NoSteps) (.ref a.x_NoSteps)=some true
 ki_NoSteps_NoPattern:kitOne K (.ref a.x_NoSteps) (.ref a.x_NoPattern)=some false
 ki_NoSteps_NoName:kitOne K (.ref a.x_NoSteps) (.ref a.x_NoName)=some false
 ki_NoSteps_NoRow:kitOne K (.ref a.x_NoSteps) (.ref a.x_NoRow)=some false
seal L2.PA L2.PE L2.PS L2.PSs L2.PT L2.PW
inductive BW where
 |am (s:Int) (ns:List Int)
 |pl (ws:List (Option Int))
structure Bm where
 cell:Option Int
 conds:List BW
 makes:Int
abbrev Az:=List Bm
def Gz:Option Int->V
 |none=>.non
 |some i=>.int i
def FX(w:Option Int)(s:Int):Bool:=match w with
 |none=>true
 |some i=>decide (i=s)
def BW.holds(ar:List Int):BW->Bool
 |.am s ns=>ns.any λn=>decide (n=((ar.countP (· == s):Nat):Int))
 |.pl ws=>(ws.zip ar).all λp=>FX p.1 p.2
def Bm.fits(cell:Int)(ar:List Int)(c:Bm):Bool:=FX c.cell cell && c.conds.all (BW.holds ar)
def Nc(r:Az)(cell:Int)(ar:List Int):Option Nat:=r.findIdx? (Bm.fits cell ar)
def CK(r:Az)(cell:Int)(ar:List Int):Int:=match r.find? (Bm.fits cell ar)with
 |none=>cell
 |some c=>c.makes
def fl1(f:Str)(a:V):List (Str×V):=AT f a []
def fl2(f g:Str)(a b:V):List (Str×V):=AT g b (AT f a [])
def fl3(f g h:Str)(a b c:V):List (Str×V):=AT h c (AT g b (AT f a []))
theorem fl1_1{f:Str}{a:V}:(fl1 f a).lookup f=some a:=by unfold fl1;rw[Am,X5 rfl]
theorem Rz{f m:Str}{a:V}(h:¬m=f):(fl1 f a).lookup m=none:=by unfold fl1;rw[Am,Z8 h];rfl
theorem ZX{f g:Str}{a b:V}(h:¬f=g):(fl2 f g a b).lookup f=some a:=by unfold fl2;rw[Am,Z8 h,Am,X5 rfl]
theorem ZW{f g:Str}{a b:V}:(fl2 f g a b).lookup g=some b:=by unfold fl2;rw[Am,X5 rfl]
theorem fl2_no{f g m:Str}{a b:V}(c:¬m=f)(d:¬m=g):(fl2 f g a b).lookup m=none:=by unfold fl2;rw[Am,Z8 d,Am,Z8 c];rfl
theorem fl3_1{f g h:Str}{a b c:V}(d:¬f=g)(e:¬f=h):(fl3 f g h a b c).lookup f=some a:=by unfold fl3;rw[Am,Z8 e,Am,Z8 d,Am,X5 rfl]
theorem fl3_2{f g h:Str}{a b c:V}(d:¬g=h):(fl3 f g h a b c).lookup g=some b:=by unfold fl3;rw[Am,Z8 d,Am,X5 rfl]
theorem fl3_3{f g h:Str}{a b c:V}:(fl3 f g h a b c).lookup h=some c:=by unfold fl3;rw[Am,X5 rfl]
theorem fl3_no{f g h m:Str}{a b c:V}(e:¬m=f)(i:¬m=g)(d:¬m=h):(fl3 f g h a b c).lookup m=none:=by unfold fl3;rw[Am,Z8 d,Am,Z8 i,Am,Z8 e];rfl
theorem Sl(f:Str)(v:V):∀l:List (Str×V),(AT f v l).length<=l.length+1
 |[]=>C5 _
 | (g,w)::r=>by
  unfold AT;split
  ·exact W6 _
  ·rw[F2,F2];exact R8 (Sl f v r)
theorem AH{H:Hp}{p:Addr}{o:HO}(h:H p=none):Ax H (upd H p o):=λb u e=>by
 rw[As (AA e h)];exact e
theorem alc{H a:Hp}{p:Addr}{o:HO}(h:H p=none)(e:upd H p o=a):Ax H a/\a p=some o:=e▸⟨AH h,Ag⟩
inductive Dm(a:Ad)(H:Hp):Addr->BW->Prop where
 |am {p t dx:Addr} {s:Int} {ns:List Int} (h:H p=some (.ins a.c_Amounts dx (fl2 "state" "numbers" (.int s) (.ref t)))) (ht:H t=some (.tup (ns.map V.int))):Dm a H p (.am s ns)
 |pl {p t dx:Addr} {ws:List (Option Int)} (h:H p=some (.ins a.c_Places dx (fl1 "wanted" (.ref t)))) (ht:H t=some (.tup (ws.map Gz))):Dm a H p (.pl ws)
structure BO(a:Ad)(H:Hp)(p:Addr)(c:Bm):Prop where
 ex:∃(dx t:Addr)(cs:List Addr),H p=some (.ins a.c_Clause dx (fl3 "cell" "conditions" "makes" (Gz c.cell) (.ref t) (.int c.makes)))/\H t=some (.tup (cs.map V.ref))/\Paired (Dm a H) cs c.conds
structure Ct(a:Ad)(H:Hp)(p:Addr)(x:Str)(r:Az):Prop where
 ex:∃(dx t:Addr)(cs:List Addr),H p=some (.ins a.c_Rule dx (fl2 "text" "clauses" (.str x) (.ref t)))/\H t=some (.tup (cs.map V.ref))/\Paired (BO a H) cs r
theorem Paired.imp{α β:Type}{F G:α->β->Prop}(h:∀x y,F x y->G x y):∀{l:List α}{m:List β},Paired F l m->Paired G l m
 |_,_,.nil=>.nil
 |_,_,.cons r t=>.cons (h _ _ r) (Paired.imp h t)
theorem Paired.get{α β:Type}{F:α->β->Prop}:∀{l:List α}{m:List β}{i:Nat}{x:α},Paired F l m->l[i]?=some x->∃y,m[i]?=some y/\F x y
 |_,_,_,_,.nil,e=>by simp at e
 |_,_,0,_,.cons r _,e=>by simp at e;subst e;exact⟨_,rfl,r⟩
 |_,_,i+1,x,.cons _ t,e=>by
  obtain⟨y,a,b⟩:=Paired.get (i:=i) (x:=x) t (by simpa using e);exact⟨y,by simpa using a,b⟩
theorem Dm.same{a:Ad}{H d:Hp}{p:Addr}{c:BW}(s:Ax H d)(h:Dm a H p c):Dm a d p c:=by
 cases h with
 |am h b=>exact .am (s _ _ h) (s _ _ b)
 |pl h b=>exact .pl (s _ _ h) (s _ _ b)
theorem BO.same{a:Ad}{H b:Hp}{p:Addr}{c:Bm}(s:Ax H b)(h:BO a H p c):BO a b p c:=by
 obtain⟨g,t,cs,e,f,d⟩:=h.ex;exact⟨g,t,cs,s _ _ e,s _ _ f,Paired.imp (λ_ _ z=>z.same s) d⟩
theorem Ct.same{a:Ad}{H b:Hp}{p:Addr}{x:Str}{r:Az}(s:Ax H b)(h:Ct a H p x r):Ct a b p x r:=by
 obtain⟨f,t,cs,d,e,c⟩:=h.ex;exact⟨f,t,cs,s _ _ d,s _ _ e,Paired.imp (λ_ _ z=>z.same s) c⟩
theorem in_ints(n:Int)(ns:List Int):inV (.int n) (ns.map V.int)=ns.any λm=>decide (m=n):=by
 unfold inV;rw[List.any_map];congr 1
theorem WH(ns:List Int):(ns.map V.int).all LX=true:=by
 rw[List.all_map];exact T9.mpr λ_ _=>rfl
theorem NF(i j:Int):decide (V.int i=V.int j)=decide (i=j):=by
 by_cases h:i=j
 ·rw[Z7 h,Z7 (by rw[h])]
 ·rw[X4 h,X4 λz=>h (by injection z)]
section
variable{P:Program}{w:World}{K:W.Frag}{mg:Str->Option Value}{base:Heap}{a:Ad}
inductive Vt(vs:List V)(H:Hp)(Q:VK):Prop
 |mk (x:Option Int) (s:Int) (_:vs=[Gz x,.int s]) (_:Q (.bl (FX x s)) H):Vt vs H Q
def Nj:Sp:=λvs H Q _=>Vt vs H Q
theorem YS(F:Fun K "takes" "takes" QK f fd):AJ P w K mg base CX0 1 f fd dC Nj:=by
  refine F.ok YB (λ_ _ _ _ h=>by rcases h;subst_vars;rfl) λc A b s H vs Q E d h=>?_
  obtain⟨x,s,rfl,k⟩:=h;refine⟨_,(Af (Ar (pe_or (CH Jp (pv 0) DA (AD _)) (Ft (CH Cy (pv 0) (pv 1) (AD _)))))),?_⟩
  try dsimp only[cxK]
  refine xq1 rfl ⟨rfl,(xq1 rfl ?_)⟩;cases x with
  |none=>exact BJ k
  |some i =>
   have e:decide (Gz (some i)=V.int s)=FX (some i) s:=NF i s;rw[<-e]at k;exact Bc (xw2 rfl rfl ⟨rfl,k⟩)
inductive Tj(a:Ad)(vs:List V)(H:Hp)(Q:VK):Prop
 |mk (p t dx:Addr) (s:Int) (_:vs=[.ref p,.int s,.ref t]) (_:H p=some (.ins a.c_Amounts dx [])) (_:Q .non (upd H p (.ins a.c_Amounts dx (fl2 "state" "numbers" (.int s) (.ref t))))):Tj a vs H Q
def NQ(a:Ad):Sp:=λvs H Q _=>Tj a vs H Q
theorem Wi(F:Fun K "__init__" "Amounts.__init__" Fo f fd)(T:Top K mg a):AJ P w K mg base CX0 1 f fd OA (NQ a):=by
  refine F.ok MY (λ_ _ _ _ h=>by rcases h;subst_vars;rfl) λd A b s H vs Q E g h=>?_
  obtain⟨p,t,c,s,rfl,e,k⟩:=h;refine⟨_,(Ae (Cm (pv 0) (pv 1) rfl) (Af (Cm (pv 0) (pv 2) rfl))),?_⟩
  try dsimp only[cxK]
  refine xw2 rfl rfl ⟨p,_,c,[],rfl,e,T.cl_Amounts,T.na_Amounts_state,B3,(xw2 rfl rfl ⟨p,_,c,(xq1 rfl ⟨Ag,T.cl_Amounts,T.na_Amounts_numbers,B4,?_⟩)⟩)⟩;rw[GV];exact k
inductive Th(a:Ad)(vs:List V)(H:Hp)(Q:VK):Prop
 |mk (p t dx:Addr) (_:vs=[.ref p,.ref t]) (_:H p=some (.ins a.c_Places dx [])) (_:Q .non (upd H p (.ins a.c_Places dx (fl1 "wanted" (.ref t))))):Th a vs H Q
def NN(a:Ad):Sp:=λvs H Q _=>Th a vs H Q
theorem Wg(F:Fun K "__init__" "Places.__init__" Gj f fd)(T:Top K mg a):AJ P w K mg base CX0 1 f fd Ps (NN a):=by
  refine F.ok NY (λ_ _ _ _ h=>by rcases h;subst_vars;rfl) λc A b s H vs Q E g h=>?_
  obtain⟨p,t,e,rfl,d,k⟩:=h;refine⟨_,(Af (Cm (pv 0) (pv 1) rfl)),?_⟩
  try dsimp only[cxK]
  exact xw2 rfl rfl ⟨p,_,e,[],rfl,d,T.cl_Places,T.na_Places_wanted,B3,k⟩
inductive Ti(a:Ad)(vs:List V)(H:Hp)(Q:VK):Prop
 |mk (p t dx:Addr) (c:Option Int) (m:Int) (_:vs=[.ref p,Gz c,.ref t,.int m]) (_:H p=some (.ins a.c_Clause dx [])) (_:Q .non (upd H p (.ins a.c_Clause dx (fl3 "cell" "conditions" "makes" (Gz c) (.ref t) (.int m))))):Ti a vs H Q
def NP(a:Ad):Sp:=λvs H Q _=>Ti a vs H Q
theorem Wh(F:Fun K "__init__" "Clause.__init__" Gn f fd)(T:Top K mg a):AJ P w K mg base CX0 1 f fd Px (NP a):=by
  refine F.ok Oa (λ_ _ _ _ h=>by rcases h;subst_vars;rfl) λe A b s H vs Q E i h=>?_
  obtain⟨p,t,d,c,m,rfl,g,k⟩:=h;refine⟨_,(Ae (Cm (pv 0) (pv 1) rfl) (Ae (Cm (pv 0) (pv 2) rfl) (Af (Cm (pv 0) (pv 3) rfl)))),?_⟩
  try dsimp only[cxK]
  refine⟨_,rfl,_,rfl,p,_,d,[],rfl,g,T.cl_Clause,T.na_Clause_cell,B3,_,rfl,_,rfl,p,_,d,_,rfl,Ag,T.cl_Clause,T.na_Clause_conditions,B4,_,rfl,_,rfl,p,_,d,_,rfl,Ag,T.cl_Clause,T.na_Clause_makes,
   M7 (Sl _ _ _) (by show 2<1000;decide),?_⟩
  rw[GV,GV];exact k
def Mh(a:Ad):Sp:=λvs H Q E=>(∃(p l t dx:Addr)(s:Int)(ns ar:List Int),vs=[.ref p,.ref l]/\H p=some (.ins a.c_Amounts dx (fl2 "state" "numbers" (.int s) (.ref t)))/\H t=some (.tup (ns.map V.int))/\H l=some (.lst (ar.map V.int))/\Q (.bl (BW.holds ar (.am s ns))) H)
theorem TF(F:Fun K "holds" "Amounts.holds" EI f fd)(T:Top K mg a):AJ P w K mg base CX0 1 f fd Na (Mh a):=by
 refine F.ok Ml (λvs H Q E h=>?_) (λg A b s H vs Q E m h=>?_)
 ·obtain⟨p,l,t,j,s,ns,c,rfl,_⟩:=h;rfl
 ·obtain⟨p,l,t,j,s,ns,c,rfl,e,i,d,k⟩:=h;refine⟨_,(Af (Ar (CH Wd (GK K6 PySem.F.slot_list_count PySem.F.type_list_count Zt (pv 1) (Aa (AC (pv 0) rfl) Ab)) (AC (pv 0) rfl) rfl))),?_⟩
  try dsimp only[cxK]
  refine xq1 rfl ⟨.inl ⟨rfl,_,SqL.of d⟩,(xwf rfl rfl e T.cl_Amounts T.na_Amounts_state (ZX A1) ⟨l,c,s,rfl,rfl,d,(xwf rfl rfl e T.cl_Amounts T.na_Amounts_numbers ZW ⟨t,(xq1 rfl ⟨.inr (SqT.of i),rfl,WH ns,?_⟩)⟩)⟩)⟩;show Q (.bl (inV _ _)) H;rw[in_ints];exact k
inductive Qo(a:Ad)(vs:List V)(H:Hp)(Q:VK):Prop
 |mk (p l t dx:Addr) (ws:List (Option Int)) (ar:List Int) (_:vs=[.ref p,.ref l]) (_:H p=some (.ins a.c_Places dx (fl1 "wanted" (.ref t)))) (_:H t=some (.tup (ws.map Gz))) (_:H l=some (.lst (ar.map V.int))) (_:ws.length<=100) (_:∀H',Ax H H'->Q (.bl (BW.holds ar (.pl ws))) H'):Qo a vs H Q
def Mg(a:Ad):Sp:=λvs H Q _=>Qo a vs H Q
theorem TD(F:Fun K "holds" "Places.holds" DR f fd)(T:Top K mg a)(D:Cal P w K mg base CX0 1 "takes" dC Nj):AJ P w K mg base CX0 2 f fd Na (Mg a):=by
  refine F.ok MX (λ_ _ _ _ h=>by rcases h;subst_vars;rfl) λO A n s H vs Q E S h=>?_
  obtain⟨p,l,t,dx,b,c,rfl,I,u,C,Y,k⟩:=h;refine⟨_,(Af (Ar (Au (Td rfl) rfl T.b_all PyProof.Rows.boot_all (Aa (Df rfl (BM.of (So:=Ak DR) (No:=Na) (N:=["one","state"]) (k:=2) (cs:=[]) rfl rfl A1) (pi_zip true false rfl T.b_zip (Aa (AC (pv 0) rfl) (Aa (pv 1) Ab))) (λ_ _ _=>(YJ (i:=0) (j:=1) rfl A1 rfl rfl rfl rfl)) (λ_ _ _=>BS) (λ_ _ _=>(Ap D (rm S) rfl Ao (Aa (pv 0) (Aa (pv 1) Ab))))) Ab)))),?_⟩
  try dsimp only[cxK]
  refine xwf rfl rfl I T.cl_Places T.na_Places_wanted fl1_1 (xq1 rfl ⟨t,l,rfl,⟨_,SqT.of u⟩,⟨_,SqL.of C⟩,?_⟩);refine blk_zip (xs:=b.map Gz) (ys:=c.map V.int) (λi d g=>Ax H g/\d=(((b.zip c).take i).map λp=>V.bl (FX p.1 p.2))) ⟨Ax.refl H,rfl⟩ (λi d g z=>⟨SqT.of (z.1 _ _ u),SqL.of (z.1 _ _ C)⟩) ?_ ?_
  ·rintro i x y d g Z v B ⟨r,rfl⟩ M;rw[C3]at v B;obtain⟨o,X,rfl⟩:=F3.mp v;obtain⟨m,R,rfl⟩:=F3.mp B;have G:(b.zip c)[i]?=some (o,m):=by rw[List.getElem?_zip_eq_some];exact⟨X,R⟩
   refine SS Ag ⟨⟨[some (Gz o),some (.int m)],rfl,rfl⟩,?_,?_⟩
   ·have:((((b.zip c).take i).map λp=>V.bl (FX p.1 p.2))).length<=b.length:=by
     rw[B8,M9,List.length_zip];omega
    exact M7 (D0 this Y) A3
   ·refine IW ?_;refine xw2 rfl rfl ⟨o,m,rfl,r.trans (AH M),?_⟩;rw[N2,G,D4];rfl
  ·rintro d g ⟨r,rfl⟩ q U;have len:min (b.map Gz).length (c.map V.int).length=(b.zip c).length:=by rw[B8,B8,List.length_zip]
   rw[len,N7];refine⟨q,(b.zip c).map (λp=>FX p.1 p.2),rfl,SqL.of (by rw[Ag,T6];rfl),?_⟩;have e:((b.zip c).map (λp=>FX p.1 p.2)).all id=BW.holds c (.pl b):=by rw[List.all_map];rfl
   rw[e];exact k _ (r.trans (AH U))
inductive SpFits(a:Ad)(vs:List V)(H:Hp)(Q:VK):Prop
 |mk (p l:Addr) (c:Bm) (cell:Int) (ar:List Int) (_:vs=[.ref p,.int cell,.ref l]) (_:BO a H p c) (_:c.conds.length<=100) (_:(∀d∈c.conds,∀ws,d=BW.pl ws->ws.length<=100)) (_:H l=some (.lst (ar.map V.int))) (_:∀H',Ax H H'->Q (.bl (c.fits cell ar)) H'):SpFits a vs H Q
def Tu(a:Ad):Sp:=λvs H Q _=>SpFits a vs H Q
theorem ok_Fits(F:Fun K "fits" "Clause.fits" Es f fd)(T:Top K mg a)(cC:Cal P w K mg base CX0 1 "takes" dC Nj)(y:BK P w K mg base CX0 1 a.c_Amounts "holds" Na (Mh a))(v:BK P w K mg base CX0 2 a.c_Places "holds" Na (Mg a)) :
  AJ P w K mg base CX0 3 f fd Le (Tu a):=by
  refine F.ok Ob (λ_ _ _ _ h=>by rcases h;subst_vars;rfl) λaa A D s H vs Q E M h=>?_
  obtain⟨p,l,c,cell,g,rfl,hC,hn,B,hl,k⟩:=h;obtain⟨dx,t,cs,U,X,u⟩:=hC.ex;refine⟨_,(Af (Ar (EJ (Ap cC (rm M) rfl Ao (Aa (AC (pv 0) rfl) (Aa (pv 1) Ab))) (Ft (Au (Td rfl) rfl T.b_all PyProof.Rows.boot_all (Aa (Df rfl (BM.of (So:=Ak Es) (No:=Le) (N:=["condition","around"]) (k:=1) (cs:=[2]) rfl rfl A1) (TB (AC (pv 0) rfl)) (λ_ _ _=>(Bz (i:=0) A1 rfl rfl)) (λ_ _ _=>BS) (λ_ _ _=>(PE.or (AF (pv 0) y (rm M) Ao (Aa (pv 1) Ab)) (AF (pv 0) v (rm M) Ao (Aa (pv 1) Ab))))) Ab)))))),?_⟩
  try dsimp only[cxK]
  refine xwf rfl rfl U T.cl_Clause T.na_Clause_cell (fl3_1 A1 A1) (xq1 rfl ⟨c.cell,cell,rfl,FX c.cell cell,rfl,?_⟩);cases R:FX c.cell cell with
  |false =>
   refine Bc ?_;have:=k H (Ax.refl H);unfold Bm.fits at this;rw[R]at this;exact this
  |true =>
   refine BJ ?_;have ln:cs.length=c.conds.length:=A0a u;refine xwf rfl rfl U T.cl_Clause T.na_Clause_conditions (fl3_2 A1) ⟨t,rfl,⟨_,SqT.of X⟩,?_⟩;refine RG (xs:=cs.map V.ref) (λi j m=>Ax H m/\j=((c.conds.take i).map λd=>V.bl (BW.holds g d))) ⟨Ax.refl H,rfl⟩ (λi j m _ z=>SqT.of (z.1 _ _ X)) ?_ ?_
   ·rintro i x j m Z ⟨n,rfl⟩;rw[C3]at Z;obtain⟨q,eq,rfl⟩:=F3.mp Z;obtain⟨d,Y,hd⟩:=Paired.get u eq;have G:=hd.same n;refine⟨⟨[some (.ref q)],rfl,rfl⟩,?_,?_⟩
    ·have:((c.conds.take i).map λd=>V.bl (BW.holds g d)).length<=c.conds.length:=by
      rw[B8,M9];omega
     exact M7 (D0 this hn) A3
    ·refine IW ?_;have S:∀o,Ax m o->Ax H o/\((c.conds.take i).map λd=>V.bl (BW.holds g d))++[V.bl (BW.holds g d)]=((c.conds.take (i+1)).map λd=>V.bl (BW.holds g d)):=λo C=>⟨n.trans C,by
      rw[N2,Y,D4];rfl⟩
     have md:d∈c.conds:=F1 Y;cases G with
     |@am I b s ns r O=>exact .inl ⟨_,rfl,q,b,_,rfl,r,fl2_no A1 A1,_,rfl,q,l,I,b,s,ns,g,rfl,r,O,n _ _ hl,S m (Ax.refl m)⟩
     |@pl I b ws r O=>exact .inr ⟨_,rfl,q,b,_,rfl,r,Rz A1,_,rfl,q,l,I,b,ws,g,rfl,r,O,n _ _ hl,B _ md ws rfl,λo C=>S o C⟩
   ·rintro j m ⟨n,rfl⟩ q nq;rw[B8,ln,N7];refine⟨q,c.conds.map (BW.holds g),rfl,SqL.of (by rw[Ag,T6];rfl),?_⟩;have e:(c.conds.map (BW.holds g)).all id=c.fits cell g:=by
     unfold Bm.fits;rw[R,List.all_map];rfl
    rw[e];exact k _ (n.trans (AH nq))
def ROk(r:Az):Prop:=r.length<=5000/\∀c∈r,c.conds.length<=100/\∀d∈c.conds,∀ws,d=BW.pl ws->ws.length<=100
def decV(o:Option Nat):V:=match o with
 |none=>.non
 |some n=>.int n
inductive SpDec(a:Ad)(vs:List V)(H:Hp)(Q:VK):Prop
 |mk (p l:Addr) (z:Str) (r:Az) (cell:Int) (ar:List Int) (_:vs=[.ref p,.int cell,.ref l]) (_:Ct a H p z r) (_:ROk r) (_:H l=some (.lst (ar.map V.int))) (_:∀H',Ax H H'->Q (decV (Nc r cell ar)) H'):SpDec a vs H Q
def Yv(a:Ad):Sp:=λvs H Q _=>SpDec a vs H Q
theorem ok_dec(F:Fun K "deciding" "deciding" Lk f fd)(T:Top K mg a)(bL:BK P w K mg base CX0 3 a.c_Clause "fits" Le (Tu a)):AJ P w K mg base CX0 4 f fd Lq (Yv a):=by
  refine F.ok IZ (λ_ _ _ _ h=>by rcases h;subst_vars;rfl) λab A D s H vs Q E hr h=>?_
  obtain⟨p,l,z,r,cell,n,rfl,hR,M,hl,k⟩:=h;obtain⟨dx,t,cs,hp,U,g⟩:=hR.ex;have ln:cs.length=r.length:=A0a g;refine⟨_,(Ae (Ir K9 rfl (Ny true rfl T.b_enumerate (Aa (AC (pv 0) rfl) Ab)) (Oh rfl (Do (CG (i:=3) IZ.nd rfl (Or.inl rfl)) (Do (CG (i:=4) IZ.nd rfl (Or.inl rfl)) LL))) (Af (AN (Cl (AF (pv 4) bL (rm hr) Ao (Aa (pv 1) (Aa (pv 2) Ab)))) (Af (Ar (pv 3))) AE))) (Af (Ar DA))),?_⟩
  try dsimp only[cxK]
  refine xwf rfl rfl hp T.cl_Rule T.na_Rule_clauses ZW ⟨t,rfl,⟨_,SqT.of U⟩,?_⟩;refine LV (b:=true) (xs:=cs.map V.ref) (λi σ y=>Ax H y/\(∃u v,σ=[some (.ref p),some (.int cell),some (.ref l),u,v])/\∀c∈r.take i,c.fits cell n=false) ⟨Ax.refl H,⟨none,none,rfl⟩,λc I=>by simp at I⟩ (λi σ y _ q=>SqT.of (q.1 _ _ U)) ?_ ?_
  ·rintro i x σ y T' X ⟨G,⟨u,v,rfl⟩,no⟩ nT;rw[C3]at X;obtain⟨q,eq,rfl⟩:=F3.mp X;obtain⟨c,B,I⟩:=Paired.get g eq;have C:=G.trans (AH (o:=.tup [.int i,.ref q]) nT);have m:=I.same C;obtain⟨ac,t2,aa,Z,_⟩:=m.ex;refine SS Ag ?_;have O:=F1 B;refine xwn rfl rfl Z (fl3_no A1 A1 A1) rfl (xq1 rfl ⟨q,l,c,cell,n,rfl,m,(M.2 c O).1,(M.2 c O).2,C _ _ hl,λY N=>(xq1 rfl ?_)⟩);cases S:c.fits cell n with
   |true =>
    refine BJ ?_;refine xq1 rfl ?_;have e:Nc r cell n=some i:=by
     unfold Nc;rw[Y7];have hi:i<r.length:=(B9.mp B).1;refine⟨hi,?_,λj hj=>?_⟩
     ·rw[(B9.mp B).2];exact S
     ·have:=no r[j] (List.mem_take_iff_getElem.mpr ⟨j,by omega,rfl⟩);rw[this];exact C7
    have:=k Y (C.trans N);rw[e]at this;exact this
   |false =>
    refine Bc ⟨C.trans N,⟨_,_,rfl⟩,λd R=>?_⟩;rw[N2,B]at R;rcases D3.mp R with z|z
    ·exact no d z
    ·have:d=c:=by simpa using z
     rw[this];exact S
  ·rintro σ y ⟨G,⟨u,v,rfl⟩,no⟩;rw[B8,ln,N7]at no;have e:Nc r cell n=none:=by
    unfold Nc;rw[List.findIdx?_eq_none_iff];exact no
   have:=k y G;rw[e]at this;exact this
inductive SpBec(a:Ad)(vs:List V)(H:Hp)(Q:VK):Prop
 |mk (p l:Addr) (z:Str) (r:Az) (cell:Int) (ar:List Int) (_:vs=[.ref p,.int cell,.ref l]) (_:Ct a H p z r) (_:ROk r) (_:H l=some (.lst (ar.map V.int))) (_:∀H',Ax H H'->Q (.int (CK r cell ar)) H'):SpBec a vs H Q
def UL(a:Ad):Sp:=λvs H Q _=>SpBec a vs H Q
theorem OU{r:Az}{cell:Int}{b:List Int}(h:Nc r cell b=none):CK r cell b=cell:=by
 unfold Nc at h;rw[List.findIdx?_eq_none_iff]at h;unfold CK;rw[List.find?_eq_none.mpr λc d=>by rw[h c d];exact C7]
theorem OT{r:Az}{cell:Int}{b:List Int}{i:Nat}(h:Nc r cell b=some i):∃c,r[i]?=some c/\CK r cell b=c.makes:=by
 unfold Nc at h;rw[Y7]at h;obtain⟨d,e,f⟩:=h;refine⟨r[i],D8 d,?_⟩;unfold CK;have:r.find? (Bm.fits cell b)=some r[i]:=by
  rw[List.find?_eq_some_iff_getElem];exact⟨e,i,d,rfl,λj g=>by simpa using f j g⟩
 rw[this]
theorem ok_bec(F:Fun K "becomes" "becomes" Mp f fd)(T:Top K mg a)(S:Cal P w K mg base CX0 4 "deciding" Lq (Yv a)):AJ P w K mg base CX0 5 f fd Lq (UL a):=by
  refine F.ok NV (λ_ _ _ _ h=>by rcases h;subst_vars;rfl) λG A j s H vs Q E M h=>?_
  obtain⟨p,l,z,r,cell,m,rfl,n,v,R,k⟩:=h;refine⟨_,(Ae (An (i:=3) NV.nd rfl (Or.inl rfl) (Ap S (rm M) rfl Ao (Aa (pv 0) (Aa (pv 1) (Aa (pv 2) Ab))))) (Ae (AN (Aw Jp (pv 3) DA (AD _)) (Af (Ar (pv 1))) AE) (Af (Ar (AC (Ai Aj (AC (pv 0) rfl) (pv 3) (λ_ _=>rfl)) rfl))))),?_⟩
  try dsimp only[cxK]
  refine xw3 rfl rfl rfl ⟨p,l,z,r,cell,m,rfl,n,v,R,λu d=>?_⟩;refine xq1 rfl ⟨rfl,(xq1 rfl ?_)⟩;cases e:Nc r cell m with
  |none =>
   refine BJ (xq1 rfl ?_);have:=k u d;rw[OU e]at this;exact this
  |some i =>
   obtain⟨c,o,I⟩:=OT e;obtain⟨X,t,cs,B,D,b⟩:=n.ex;obtain⟨q,eq⟩:∃q,cs[i]?=some q:=by
    have C:cs.length=r.length:=A0a b;have:i<cs.length:=by rw[C];exact(B9.mp o).1
    exact⟨_,D8 this⟩
   obtain⟨U,g,N⟩:=Paired.get b eq;rw[o]at g;cases g;obtain⟨O,V,y,x,_⟩:=(N.same d).ex;refine Bc (xwf rfl rfl (d _ _ B) T.cl_Rule T.na_Rule_clauses ZW (xwi rfl rfl rfl (SqT.of (d _ _ D)) (Ah (by rw[C3,eq];rfl)) (xq5 x T.cl_Clause T.na_Clause_makes fl3_3 ?_)));have:=k u d;rw[I]at this;exact this
end
def sgD(d:Int):Str:=⟨#[48+d.toNat]⟩
def wC:Option Int->Nat
 |none=>42
 |some d=>48+d.toNat
def wS(x:Option Int):Str:=⟨#[wC x]⟩
def Eb(ns:List Int):Str:=⟨(ns.map λn=>48+n.toNat).toArray⟩
def BQ:BW->Str
 |.am s ns=>sgD s++⟨#[61]⟩++Eb ns
 |.pl ws=>⟨(ws.map wC).toArray⟩
def Cc(c:Bm):Str:=Str.join ⟨#[32]⟩ (wS c.cell::(c.conds.map BQ++[sgD c.makes]))
def Vb:Str:=⟨#[59,32]⟩
def Dn(r:Az):Str:=Str.join Vb (r.map Cc)
def Mf(d:Int):Prop:=0<=d/\d<8
def wOk:Option Int->Prop
 |none=>True
 |some d=>Mf d
def BW.ok:BW->Prop
 |.am s ns=>Mf s/\ns≠[]/\(∀n∈ns,0<=n/\n<=8)/\ns.Pairwise (· < ·)
 |.pl ws=>ws.length=8/\∀w∈ws,wOk w
structure Bm.ok(c:Bm):Prop where
 cell:wOk c.cell
 makes:Mf c.makes
 few:c.conds.length<=50
 conds:∀d∈c.conds,d.ok
theorem eight{d:Int}(h:Mf d):d=0\/d=1\/d=2\/d=3\/d=4\/d=5\/d=6\/d=7:=by
 obtain⟨m,rfl⟩:=F4 h.1;have a:=h.2;exact(show ∀m:Nat,m<8->((m:Int)=0\/(m:Int)=1\/(m:Int)=2\/(m:Int)=3\/(m:Int)=4\/(m:Int)=5\/(m:Int)=6\/(m:Int)=7) by decide) m B7
abbrev figs8:Str:=Str.ofString "01234567"
abbrev figs9:Str:=Str.ofString "012345678"
theorem Yj{d:Int}(h:Mf d):PySem.intText? (sgD d)=some d/\(!(Builtin.Str.occurrences figs8 (sgD d) 0 figs8.length 1).isEmpty)=true:=by
 rcases eight h with rfl|rfl|rfl|rfl|rfl|rfl|rfl|rfl<;>exact⟨by decide +kernel,by decide +kernel⟩
theorem nine{d:Int}(a:0<=d)(b:d<=8):d=0\/d=1\/d=2\/d=3\/d=4\/d=5\/d=6\/d=7\/d=8:=by
 obtain⟨m,rfl⟩:=F4 a;exact(show ∀m:Nat,m<9->((m:Int)=0\/(m:Int)=1\/(m:Int)=2\/(m:Int)=3\/(m:Int)=4\/(m:Int)=5\/(m:Int)=6\/(m:Int)=7\/(m:Int)=8) by decide) m B7
theorem am_facts{d:Int}(a:0<=d)(b:d<=8):PySem.intText? (⟨#[48+d.toNat]⟩:Str)=some d/\(!(Builtin.Str.occurrences figs9 (⟨#[48+d.toNat]⟩:Str) 0 figs9.length 1).isEmpty)=true:=by
 rcases nine a b with rfl|rfl|rfl|rfl|rfl|rfl|rfl|rfl|rfl<;>exact⟨by decide +kernel,by decide +kernel⟩
theorem star_no{d:Int}(h:Mf d):decide (V.str (wS (some d))=V.str (Str.ofString "*"))=false:=by
 rcases eight h with rfl|rfl|rfl|rfl|rfl|rfl|rfl|rfl<;>decide +kernel
theorem Pz{x:Option Int}(h:wOk x):wC x≠61/\wC x≠32/\wC x≠59:=by
 cases x with
 |none=>exact⟨by decide,by decide,by decide⟩
 |some d =>
  have:=h.1;have:=h.2;show 48+d.toNat≠61/\48+d.toNat≠32/\48+d.toNat≠59;refine⟨?_,?_,?_⟩<;>omega
theorem Qe{d:BW}(h:d.ok):32∉(BQ d).cps.toList/\59∉(BQ d).cps.toList:=by
 cases d with
 |am s ns =>
  obtain⟨⟨g,i⟩,_,c,_⟩:=h;have e:(BQ (.am s ns)).cps.toList=(48+s.toNat)::61::ns.map λn=>48+n.toNat:=by
   show(sgD s++⟨#[61]⟩++Eb ns).cps.toList=_;rw[Tx.CI,Tx.CI];rfl
  rw[e];constructor
  ·intro z;rcases C1.mp z with z|z
   ·omega
   ·rcases C1.mp z with z|z
    ·omega
    ·obtain⟨n,a,e⟩:=D1.mp z;have:=c n a;omega
  ·intro z;rcases C1.mp z with z|z
   ·omega
   ·rcases C1.mp z with z|z
    ·omega
    ·obtain⟨n,a,e⟩:=D1.mp z;have:=c n a;omega
 |pl f =>
  have e:(BQ (.pl f)).cps.toList=f.map wC:=rfl;rw[e];constructor
  ·intro z;obtain⟨x,b,e⟩:=D1.mp z;exact(Pz (h.2 x b)).2.1 e
  ·intro z;obtain⟨x,b,e⟩:=D1.mp z;exact(Pz (h.2 x b)).2.2 e
theorem RH:∀(ns:List Int)(lo:Int),lo<=9->(∀n∈ns,lo<=n/\n<=8)->ns.Pairwise (· < ·)->(ns.length:Int)<=9-lo
 |[],lo,h,_,_=>by show(0:Int)<=9-lo;omega
 |n::r,lo,_,hn,hp=>by
  have b:=hn n C8;have c:=RH r (n+1) B7 (λm a=>⟨by have:=(List.pairwise_cons.mp hp).1 m a;omega,(hn m (C4 _ a)).2⟩) (List.pairwise_cons.mp hp).2;rw[F2];omega
theorem ON{d:BW}(h:d.ok):(BQ d).length<=11:=by
 cases d with
 |am s ns =>
  obtain⟨_,_,b,a⟩:=h;have e:=RH ns 0 A3 b a;rw[Nu.len];show(sgD s++⟨#[61]⟩++Eb ns).cps.toList.length<=11;rw[Tx.CI,Tx.CI,C6,C6];show 1+1+(ns.map λn=>48+n.toNat).length<=11;rw[B8];omega
 |pl c =>
  rw[Nu.len];show(c.map wC).length<=11;rw[B8,h.1];decide
section
variable{P:Program}{w:World}{K:W.Frag}{mg:Str->Option Value}{base:Heap}{a:Ad}
theorem UE(K:W.Frag):kitOne K (.type "str") (.type "str")=some true:=by kernel_rfl
inductive SpRS(vs:List V)(H:Hp)(Q:VK):Prop
 |mk (d:Int) (_:vs=[.str (sgD d)]) (_:Mf d) (_:Q (.int d) H):SpRS vs H Q
def Yo:Sp:=λvs H Q _=>SpRS vs H Q
theorem ok_rs(F:Fun K "read_state" "read_state" Ia f fd)(T:Top K mg a):AJ P w K mg base CX0 1 f fd Ra Yo:=by
  refine F.ok Pb (λ_ _ _ _ h=>by rcases h;subst_vars;rfl) λg A b s H vs Q E j h=>?_
  obtain⟨d,rfl,c,k⟩:=h;obtain⟨e,i⟩:=Yj c;refine⟨_,(Ae (AN (PW.pt (Fs (Aw MN (Au IK rfl T.b_len A1e (Aa (pv 0) Ab)) Ac (AD _)) (Dy (Aw LO (pv 0) (Nz rfl T.k_STATE_FIGURES) rfl)))) (Af Bk) AE) (Af (Ar (BR GD rfl T.b_int A1a (Aa (pv 0) Ab))))),?_⟩
  try dsimp only[cxK]
  refine xw2 rfl rfl ⟨(by show 1<=sizeLine;decide),rfl,(xq1 rfl ?_)⟩;refine SR rfl (xwb rfl rfl rfl (xq1 rfl ?_));rw[i];exact Bc (xq1 rfl ⟨_,d,rfl,e,(by show 1<=640;decide),k⟩)
inductive SpRW(vs:List V)(H:Hp)(Q:VK):Prop
 |mk (x:Option Int) (_:vs=[.str (wS x)]) (_:wOk x) (_:Q (Gz x) H):SpRW vs H Q
def spRW:Sp:=λvs H Q _=>SpRW vs H Q
theorem ok_rw(F:Fun K "read_wanted" "read_wanted" Gd f fd)(T:Top K mg a)(i:Cal P w K mg base CX0 1 "read_state" Ra Yo):AJ P w K mg base CX0 2 f fd Ra spRW:=by
  refine F.ok NS (λ_ _ _ _ h=>by rcases h;subst_vars;rfl) λe A b s H vs Q E g h=>?_
  obtain⟨x,rfl,c,k⟩:=h;refine⟨_,(Ae (AN (Aw Cy (pv 0) (Nz rfl T.k_ANY_SIGN) (AD _)) (Af (Ar DA)) AE) (Af (Ar (Ap i (rm g) rfl Ao (Aa (pv 0) Ab))))),?_⟩
  try dsimp only[cxK]
  refine xq1 rfl ⟨rfl,(xq1 rfl ?_)⟩;cases x with
  |none=>exact BJ k
  |some d =>
   rw[star_no c];exact Bc (xq1 rfl ⟨d,rfl,c,k⟩)
inductive SpRN(vs:List V)(H:Hp)(Q:VK):Prop
 |mk (ns:List Int) (_:vs=[.str (Eb ns)]) (_:ns≠[]) (_:ns.length<=100) (_:(∀n∈ns,0<=n/\n<=8)) (_:ns.Pairwise (· < ·)) (_:∀(t:Addr)(H':Hp),Ax H H'->H' t=some (.tup (ns.map V.int))->Q (.ref t) H'):SpRN vs H Q
def spRN:Sp:=λvs H Q _=>SpRN vs H Q
theorem ok_rn(F:Fun K "read_numbers" "read_numbers" Fd f fd)(T:Top K mg a):AJ P w K mg base CX0 1 f fd Fw spRN:=by
  refine F.ok EG (λ_ _ _ _ h=>by rcases h;subst_vars;rfl) λU A m s H vs Q E hr h=>?_
  obtain⟨ns,rfl,r,D,u,N,k⟩:=h;have M:(Eb ns).length=ns.length:=by rw[Nu.len];show(ns.map _).length=_;rw[B8]
  have B:(Eb ns).cps.toList=ns.map λn=>48+n.toNat:=rfl;have S:0<ns.length:=U1.mpr r;refine⟨_,(Ae (AN (Aw Cy (Au IK rfl T.b_len A1e (Aa (pv 0) Ab)) Ac (AD _)) (Af Bk) AE) (Ae (An (i:=1) EG.nd rfl (Or.inl rfl) (CS Ab)) (Ae (Ir K9 rfl (YI (pv 0)) (CG (i:=2) EG.nd rfl (Or.inl rfl)) (Ae (AN (Aw LO (pv 2) (Nz rfl T.k_AMOUNT_FIGURES) rfl) (Af Bk) AE) (Ae (AN (PW.pt (Lo (Aw MO (Au Dk rfl T.b_len A1e (Aa (pv 1) Ab)) Ac (AD _)) (Ip (Aw Jo (BR GD rfl T.b_int A1a (Aa (pv 2) Ab)) (Ai Av (pv 1) (IQ EE Ac) (λ_ _=>rfl)) (AD _))))) (Af Bk) AE) (Af (Co (GK K6 A0d A0e Ek (pv 1) (Aa (BR GD rfl T.b_int A1a (Aa (pv 2) Ab)) Ab))))))) (Af (Ar (BR BZ rfl T.b_tuple A0g (Aa (pv 1) Ab))))))),?_⟩
  try dsimp only[cxK]
  refine xw2 rfl rfl ⟨(by rw[M];exact D0 D A3),rfl,(xq1 rfl ?_)⟩;have X:decide (V.int ((Eb ns).length:Int)=V.int 0)=false:=X4 λz=>by
   injection z with z
   omega
  rw[X];refine Bc ⟨(by show 0<=sizeLine;decide),λl o=>?_⟩;refine xw2 rfl rfl ?_;refine for_str (λi σ c=>∃v,σ=[some (.str (Eb ns)),some (.ref l),v]/\c=upd H l (.lst ((ns.take i).map V.int))) ⟨none,rfl,rfl⟩ ?_ ?_
  ·rintro i ch σ c p ⟨v,rfl,rfl⟩;have b:(ns.map λn=>48+n.toNat)[i]?=some ch:=by rw[<-B];simpa using p
   rw[C3]at b;obtain⟨n,d,rfl⟩:=F3.mp b;have mn:=F1 d;obtain⟨G,Y⟩:=am_facts (u n mn).1 (u n mn).2;have y:i<ns.length:=(B9.mp d).1;have q:(ns.take i).length=i:=by rw[M9];omega
   refine xwb rfl rfl rfl (xq1 rfl ?_);rw[Y];refine Bc (xq1 rfl ⟨l,(xq1 rfl ⟨.inl (SqL.of Ag),(xq2 rfl rfl (xq1 rfl ?_))⟩)⟩);have nx:∃v,([some (V.str (Eb ns)),some (.ref l),some (.str ⟨#[48+n.toNat]⟩)]:St)=[some (.str (Eb ns)),some (.ref l),v]/\upd (upd H l (.lst ((ns.take i).map V.int))) l (.lst ((ns.take i).map V.int++[V.int n]))=upd H l (.lst ((ns.take (i+1)).map V.int)):=by
    refine xq1 rfl ?_;rw[GV,N2,d,D4];rfl
   have app:tDrop (tBM K "list" US (Ey 1) (CL (tCB (λxs H Q=>∃x n,xs=[.str x]/\PySem.intText? x=some n/\x.length<=640/\Q (.int n) H) (CL (Ey 2) Qt)) Qt))
     {nx:=fun σ c=>∃v,σ=[some (.str (Eb ns)),some (.ref l),v]/\c=upd H l (.lst ((ns.take (i+1)).map V.int)),rt:=Q,bk:=λ_ _=>False,ct:=fun σ c=>∃v,σ=[some (.str (Eb ns)),some (.ref l),v]/\c=upd H l (.lst ((ns.take (i+1)).map V.int))}
     [some (.str (Eb ns)),some (.ref l),some (.str ⟨#[48+n.toNat]⟩)] (upd H l (.lst ((ns.take i).map V.int))) :=
    ⟨_,rfl,.inl ⟨rfl,_,SqL.of Ag⟩,_,rfl,_,n,rfl,G,(by show 1<=640;decide),l,_,_,rfl,rfl,Ag,(by rw[B8,q];exact F6 y (D0 D A3)),nx⟩
   by_cases Z:i=0
   ·subst Z;exact Bc app
   ·have ip:0<i:=by omega
    have g:decide ((0:Int)<(((ns.take i).map V.int).length:Int))=true:=Z7 (by rw[B8,q];omega);rw[g];have C:i-1<ns.length:=by omega
    have O:ns[i-1]<n:=by
     have:=List.pairwise_iff_getElem.mp N (i-1) i C y B7;rw[(B9.mp d).2]at this;exact this
    have j:atI ((ns.take i).map V.int) (-1)=some (V.int ns[i-1]):=by
     have:((ns.take i).map V.int)[i-1]?=some (V.int ns[i-1]):=by
      rw[C3,U8 B7,D8 C];rfl
     have I:((ns.take i).map V.int).length=i:=by rw[B8,q]
     unfold atI ixN;rw[I,Z8 A3,X5 B7];show((ns.take i).map V.int)[((-1:Int)+(i:Nat)).toNat]?=_;rw[show((-1:Int)+(i:Nat)).toNat=i-1 by omega];exact this
    refine BJ (xq1 rfl ⟨_,n,rfl,G,(by show 1<=640;decide),(xw2 rfl rfl ⟨l,_,(xq2 rfl rfl ⟨SqL.of Ag,j,(xq2 rfl rfl (xq1 rfl ?_))⟩)⟩)⟩);rw[X4 (by omega:¬n<=ns[i-1])];exact Bc app
  ·rintro σ c ⟨v,rfl,rfl⟩;have e:(Eb ns).cps.size=ns.length:=by
    have:(Eb ns).cps.toList.length=ns.length:=by rw[B,B8]
    simpa using this
   rw[e,N7];refine xq1 rfl ⟨l,(xq1 rfl (.inl ⟨SqL.of Ag,λt R=>?_⟩))⟩;exact k t _ ((AH o).trans (AH R)) Ag
end
section
variable{P:Program}{w:World}{K:W.Frag}{mg:Str->Option Value}{base:Heap}{a:Ad}
theorem eq_in(x:Str):(!(Builtin.Str.occurrences x (Str.ofString "=") 0 x.length 1).isEmpty)=decide (61∈x.cps.toList):=by
 have:Str.ofString "=" = (⟨#[61]⟩:Str):=by decide +kernel
 rw[this];exact StrLaws.found_one x 61
inductive Vz(a:Ad)(vs:List V)(H:Hp)(Q:VK):Prop
 |mk (d:BW) (_:vs=[.str (BQ d)]) (_:d.ok) (_:∀(p:Addr)(H':Hp),Ax H H'->Dm a H' p d->Q (.ref p) H'):Vz a vs H Q
def Qv(a:Ad):Sp:=λvs H Q _=>Vz a vs H Q
inductive SpRAm(a:Ad)(vs:List V)(H:Hp)(Q:VK):Prop
 |mk (s:Int) (ns:List Int) (_:vs=[.str (BQ (.am s ns))]) (_:(BW.am s ns).ok) (_:∀(p:Addr)(H':Hp),Ax H H'->Dm a H' p (.am s ns)->Q (.ref p) H'):SpRAm a vs H Q
def Yq(a:Ad):Sp:=λvs H Q _=>SpRAm a vs H Q
theorem ok_ram(F:Fun K "read_amounts" "read_amounts" Fe f fd)(T:Top K mg a)(M:Cal P w K mg base CX0 1 "read_state" Ra Yo)(S:Cal P w K mg base CX0 1 "read_numbers" Fw spRN)
  (R:RP P w K mg base CX0 1 "Amounts" a.c_Amounts OA (NQ a)):AJ P w K mg base CX0 3 f fd Ra (Yq a):=by
  refine F.ok IM (λ_ _ _ _ h=>by rcases h;subst_vars;rfl) λN A l s H vs Q E o h=>?_
  obtain⟨d,ns,rfl,D,k⟩:=h;have C:=ON D;obtain⟨v,n,q,u⟩:=D;have V:=RH ns 0 A3 q u;have m:Str.ofString "=" = (⟨#[61]⟩:Str):=by decide +kernel
  have G:Txt.partition (BQ (.am d ns)) (Str.ofString "=")=(sgD d,⟨#[61]⟩,Eb ns):=by
   rw[m];refine Tx.JJ 61 (sgD d) (Eb ns) ?_;intro z;have:61=48+d.toNat:=by simpa[sgD] using z
   have:=v.2;omega
  refine⟨_,(Ae (An (i:=1) IM.nd rfl (Or.inl rfl) (GK A5e PySem.F.slot_str_partition PySem.F.type_str_partition Ro (pv 0) (Cp Ab))) (Af (Ar (JI R (rm o) rfl Ao (Aa (Ap M (rm o) rfl Ao (Aa (Ai Aj (pv 1) Ac (λ_ _=>rfl)) Ab)) (Aa (Ap S (rm o) rfl Ao (Aa (Ai Aj (pv 1) Ac (λ_ _=>rfl)) Ab)) Ab)))))),?_⟩
  try dsimp only[cxK]
  refine xq1 rfl ⟨rfl,(xq2 rfl rfl ⟨A1,B7,λt I=>?_⟩)⟩;rw[G];refine xq1 rfl ⟨t,_,0,(xq1 rfl ⟨rfl,SqT.of Ag,rfl,d,rfl,v,(xq1 rfl ⟨t,_,2,(xq1 rfl ⟨rfl,SqT.of Ag,rfl,ns,rfl,n,by omega,q,u,λy g O j=>?_⟩)⟩)⟩)⟩;intro x b r c e;have U:Ax g (upd (upd g b (.own x)) x (.ins a.c_Amounts b [])):=(AH c).trans (AH (by rw[As (K1 e)];exact r));refine⟨x,y,b,d,rfl,Ag,rfl,?_⟩;have p:(upd g b (.own x)) x=none:=by rw[As (K1 e)];exact r
  rw[GV];have B:Ax g (upd (upd g b (.own x)) x (.ins a.c_Amounts b (fl2 "state" "numbers" (.int d) (.ref y)))):=(AH c).trans (AH p);exact k x _ (((AH I).trans O).trans B) (.am Ag (B _ _ j))
inductive SpRPl(a:Ad)(vs:List V)(H:Hp)(Q:VK):Prop
 |mk (ws:List (Option Int)) (_:vs=[.str (BQ (.pl ws))]) (_:(BW.pl ws).ok) (_:∀(p:Addr)(H':Hp),Ax H H'->Dm a H' p (.pl ws)->Q (.ref p) H'):SpRPl a vs H Q
def Yp(a:Ad):Sp:=λvs H Q _=>SpRPl a vs H Q
theorem ok_rpl(F:Fun K "read_places" "read_places" Eo f fd)(T:Top K mg a)(G:Cal P w K mg base CX0 2 "read_wanted" Ra spRW)
  (C:RP P w K mg base CX0 1 "Places" a.c_Places Ps (NN a)):AJ P w K mg base CX0 3 f fd Ra (Yp a):=by
  refine F.ok NT (λ_ _ _ _ h=>by rcases h;subst_vars;rfl) λO A m s H vs Q E v h=>?_
  obtain⟨b,rfl,B,k⟩:=h;have g:=ON B;obtain⟨r,U⟩:=B;have D:(BQ (.pl b)).length=8:=by rw[Nu.len];show(b.map wC).length=8;rw[B8,r]
  have u:(BQ (.pl b)).cps.toList=b.map wC:=rfl;refine⟨_,(Ae (AN (Aw MN (Au IK rfl T.b_len A1e (Aa (pv 0) Ab)) (BL rfl T.k_NEIGHBOURS) (AD _)) (Af Bk) AE) (Af (Ar (JI C (rm v) rfl Ao (Aa (BR BZ rfl T.b_tuple A0g (Aa (Df rfl (BM.of (So:=Ak Eo) (No:=Ra) (N:=["sign"]) (k:=1) (cs:=[]) rfl rfl A1) (YI (pv 0)) (λ_ _ _=>(Bz (i:=0) A1 rfl rfl)) (λ_ _ _=>BS) (λ_ _ _=>(Ap G (rm v) rfl Ao (Aa (pv 0) Ab)))) Ab)) Ab))))),?_⟩
  try dsimp only[cxK]
  refine xw2 rfl rfl ⟨D0 g A3,rfl,(xq1 rfl ?_)⟩;rw[D];refine SR rfl (xw2 rfl rfl ?_);refine blk_str (λi d c=>c=H/\d=(b.take i).map Gz) ⟨rfl,rfl⟩ ?_ ?_
  ·rintro i ch d c e ⟨rfl,rfl⟩;rw[u,C3]at e;obtain⟨x,z,rfl⟩:=F3.mp e;refine⟨⟨[some (.str ⟨#[wC x]⟩)],rfl,rfl⟩,?_,?_⟩
   ·rw[B8,M9];exact M7 (V0 _ _) (by rw[r];decide)
   ·refine IW (xq1 rfl ⟨x,rfl,U x (F1 z),rfl,?_⟩);rw[N2,z,D4];rfl
  ·rintro d c ⟨rfl,rfl⟩ q S;rw[u,B8,N7];refine⟨q,(xq1 rfl (.inl ⟨SqL.of Ag,λt M=>?_⟩))⟩;intro x j I l n;have p:∀o,(upd (upd (upd c q (.lst (b.map Gz))) t (.tup (b.map Gz))) j o) x=none:=λo=>by rw[As (K1 n)];exact I
   refine⟨x,t,j,rfl,Ag,rfl,?_⟩;rw[GV];have R:Ax c (upd (upd c q (.lst (b.map Gz))) t (.tup (b.map Gz))):=(AH S).trans (AH M);have y:Ax (upd (upd c q (.lst (b.map Gz))) t (.tup (b.map Gz))) (upd (upd (upd (upd c q (.lst (b.map Gz))) t (.tup (b.map Gz))) j (.own x)) x (.ins a.c_Places j (fl1 "wanted" (.ref t)))):=(AH l).trans (AH (p _));exact k x _ (R.trans y) (.pl Ag (y _ _ Ag))
theorem YX(F:Fun K "read_condition" "read_condition" Ec f fd)(T:Top K mg a)(j:Cal P w K mg base CX0 3 "read_amounts" Ra (Yq a))(l:Cal P w K mg base CX0 3 "read_places" Ra (Yp a)) :
  AJ P w K mg base CX0 4 f fd Ra (Qv a):=by
  refine F.ok LE (λ_ _ _ _ h=>by rcases h;subst_vars;rfl) λn A b s H vs Q E i h=>?_
  obtain⟨d,rfl,c,k⟩:=h;refine⟨_,(Ae (AN (Aw Wc Lp (pv 0) rfl) (Af (Ar (Ap j (rm i) rfl Ao (Aa (pv 0) Ab)))) AE) (Af (Ar (Ap l (rm i) rfl Ao (Aa (pv 0) Ab))))),?_⟩
  try dsimp only[cxK]
  refine xwb rfl rfl rfl (xq1 rfl ?_);rw[eq_in];cases d with
  |am s ns =>
   have m:61∈(BQ (.am s ns)).cps.toList:=by
    show 61∈(sgD s++⟨#[61]⟩++Eb ns).cps.toList;rw[Tx.CI,Tx.CI];simp
   rw[Z7 m];exact BJ (xq1 rfl ⟨s,ns,rfl,c,k⟩)
  |pl g =>
   have m:¬61∈(BQ (.pl g)).cps.toList:=λz=>by
    obtain⟨x,o,e⟩:=D1.mp (show 61∈g.map wC from z);exact(Pz (c.2 x o)).1 e
   rw[X4 m];exact Bc (xq1 rfl ⟨g,rfl,c,k⟩)
inductive SpRC(a:Ad)(vs:List V)(H:Hp)(Q:VK):Prop
 |mk (c:Bm) (_:vs=[.str (Cc c)]) (_:c.ok) (_:∀(p:Addr)(H':Hp),Ax H H'->BO a H' p c->Q (.ref p) H'):SpRC a vs H Q
def spRC(a:Ad):Sp:=λvs H Q _=>SpRC a vs H Q
theorem OR{c:Bm}(h:c.ok):(Cc c).length<=1000:=by
 have j:=StrLaws.join_length_le ⟨#[32]⟩ (wS c.cell::(c.conds.map BQ++[sgD c.makes]));have b:∀l:List BW,(∀d∈l,d.ok)->((l.map BQ).map (·.length)).sum<=11*l.length:=by
  intro l;induction l with
  |nil=>intro _;exact M6 _
  |cons d r g =>
   intro f;have n:=ON (f d C8);have o:=g λe i=>f e (C4 _ i);simp only[F5,P2,F2];omega
 have b1:=b c.conds h.conds;have m:=h.few;simp only[F5,D4,List.map_nil,P2,List.sum_append,List.sum_nil,F2,C6,List.length_nil,B8]at j;have l1:(wS c.cell).length=1:=rfl;have l2:(sgD c.makes).length=1:=rfl;have k:(⟨#[32]⟩:Str).length=1:=rfl;rw[l1,l2,k]at j;unfold Cc;omega
theorem JS(x:Option Int)(h:wOk x):32∉(wS x).cps.toList/\59∉(wS x).cps.toList:=by
 have:=Pz h;constructor
 ·intro z;have:32=wC x:=by simpa[wS] using z
  exact(Pz h).2.1 this.symm
 ·intro z;have:59=wC x:=by simpa[wS] using z
  exact(Pz h).2.2 this.symm
theorem RE{c:Bm}(h:c.ok):Txt.split (Cc c) (Str.ofString " ")=wS c.cell::(c.conds.map BQ++[sgD c.makes]):=by
 have e:Str.ofString " " = (⟨#[32]⟩:Str):=by decide +kernel
 rw[e];refine Tx.Sa 32 _ A6 λt b=>?_;rcases C1.mp b with rfl|b
 ·exact(JS _ h.cell).1
 ·rcases D3.mp b with b|b
  ·obtain⟨d,f,rfl⟩:=D1.mp b;exact(Qe (h.conds d f)).1
  ·rw[D7.mp b];exact(JS (some c.makes) h.makes).1
theorem cut_mid(x z:V)(ys:List V):Uh (x::(ys++[z])) (some 1) (some (-1))=ys:=by
 have n:(x::(ys++[z])).length=ys.length+2:=by simp
 unfold Uh;rw[n];have b:HT.sIx (ys.length+2) 0 (some 1)=1:=by
  show(if(1:Int)<0 then((1:Int)+((ys.length+2:Nat):Int)).toNat else min (1:Int).toNat (ys.length+2))=1;rw[Z8 A3];show min 1 (ys.length+2)=1;omega
 have c:HT.sIx (ys.length+2) (ys.length+2) (some (-1))=ys.length+1:=by
  show(if(-1:Int)<0 then((-1:Int)+((ys.length+2:Nat):Int)).toNat else min (-1:Int).toNat (ys.length+2))=ys.length+1;rw[X5 A3];omega
 rw[b,c];show(ys++[z]).take (ys.length+1-1)=ys;rw[Nat.add_sub_cancel,List.take_left' rfl]
theorem at_last(x:V)(ys:List V)(z:V):atI (x::(ys++[z])) (-1)=some z:=by
 have n:(x::(ys++[z])).length=ys.length+2:=by simp
 unfold atI ixN;rw[n,Z8 A3,X5 B7];show(x::(ys++[z]))[((-1:Int)+((ys.length+2:Nat):Int)).toNat]?=some z;rw[show((-1:Int)+((ys.length+2:Nat):Int)).toNat=ys.length+1 by omega,V5,J9 (C5 _),Z1];rfl
theorem ok_rc(F:Fun K "read_clause" "read_clause" Ep f fd)(T:Top K mg a)(aJ:Cal P w K mg base CX0 1 "read_state" Ra Yo)(aQ:Cal P w K mg base CX0 2 "read_wanted" Ra spRW)
  (aZ:Cal P w K mg base CX0 4 "read_condition" Ra (Qv a)) (cQ:RP P w K mg base CX0 1 "Clause" a.c_Clause Px (NP a)):AJ P w K mg base CX0 5 f fd Gp (spRC a):=by
  refine F.ok DL (λ_ _ _ _ h=>by rcases h;subst_vars;rfl) λaf A U s H vs Q E M h=>?_
  obtain⟨c,rfl,B,k⟩:=h;have ae:=OR B;have Z:=B.few;refine⟨_,(Ae (AN (CC (Cl (Au AW rfl T.b_isinstance Z9 (Aa (pv 0) (Aa (DU (v:=.ty "str") rfl T.b_str A3d rfl) Ab))))) (Af Bk) AE) (Ae (An (i:=1) DL.nd rfl (Or.inl rfl) (GK A5e PySem.F.slot_str_split PySem.F.type_str_split SH (pv 0) (Cp Ab))) (Ae (AN (Aw EQ (Au Dk rfl T.b_len A1e (Aa (pv 1) Ab)) Ac (AD _)) (Af Bk) AE) (Ae (An (i:=2) DL.nd rfl (Or.inl rfl) (Ap aQ (rm M) rfl Ao (Aa (Ai Av (pv 1) Ac (λ_ _=>rfl)) Ab))) (Ae (An (i:=3) DL.nd rfl (Or.inl rfl) (BR BZ rfl T.b_tuple A0g (Aa (Df rfl (BM.of (So:=Ak Ep) (No:=Ld) (N:=["word"]) (k:=1) (cs:=[]) rfl rfl A1) (DT (Sn UM (pv 1) (QN Ac) (QN (IQ EE Ac)))) (λ_ _ _=>(Bz (i:=0) A1 rfl rfl)) (λ_ _ _=>BS) (λ_ _ _=>(Ap aZ (rm M) rfl Ao (Aa (pv 0) Ab)))) Ab))) (Af (Ar (JI cQ (rm M) rfl Ao (Aa (pv 2) (Aa (pv 3) (Aa (Ap aJ (rm M) rfl Ao (Aa (Ai Av (pv 1) (IQ EE Ac) (λ_ _=>rfl)) Ab)) Ab))))))))))),?_⟩
  try dsimp only[cxK]
  refine xq1 rfl ⟨_,_,_,.type "str",true,rfl,rfl,.of (.str _),UE K,true,rfl,?_⟩;refine Bc (xq1 rfl ⟨rfl,(xq2 rfl rfl ⟨A1,B7,λl hl=>?_⟩)⟩);rw[RE B];have eW:((wS c.cell::(c.conds.map BQ++[sgD c.makes])).map V.str)=V.str (wS c.cell)::((c.conds.map λd=>V.str (BQ d))++[V.str (sgD c.makes)]):=by
   rw[F5,D4,T6];rfl
  rw[eW];have hL:∀o,upd H l o l=some o:=λo=>Ag;refine xq1 rfl ⟨l,(xq1 rfl ⟨.inl (SqL.of Ag),(xq2 rfl rfl (xq1 rfl ?_))⟩)⟩;rw[X4 (by simp;omega:¬((((V.str (wS c.cell)::((c.conds.map λd=>V.str (BQ d))++[V.str (sgD c.makes)])).length:Nat):Int)<2))];refine Bc (xwi rfl rfl rfl (SqL.of Ag) (Ah (j:=0) rfl) ⟨c.cell,rfl,B.cell,?_⟩);refine xw3 rfl rfl rfl (xq1 rfl ⟨l,(xq1 rfl ⟨SqL.of Ag,λq hq=>⟨q,rfl,⟨_,SqL.of Ag⟩,?_⟩⟩)⟩);rw[cut_mid];have s0:Ax H (upd (upd H l (.lst (V.str (wS c.cell)::((c.conds.map λd=>V.str (BQ d))++[V.str (sgD c.makes)])))) q (.lst (c.conds.map λd=>V.str (BQ d)))):=(AH hl).trans (AH hq);have ab:l≠q:=λz=>by rw[<-z,Ag]at hq;cases hq
  generalize m:upd (upd H l (.lst (V.str (wS c.cell)::((c.conds.map λd=>V.str (BQ d))++[V.str (sgD c.makes)])))) q (.lst (c.conds.map λd=>V.str (BQ d)))=I;rw[m]at s0;have ad:I q=some (.lst (c.conds.map λd=>V.str (BQ d))):=by rw[<-m];exact Ag
  have Y:I l=some (.lst (V.str (wS c.cell)::((c.conds.map λd=>V.str (BQ d))++[V.str (sgD c.makes)]))):=by rw[<-m,As ab];exact Ag
  refine ED (xs:=c.conds.map λd=>V.str (BQ d)) (λi e g=>∃b:List Addr,e=b.map V.ref/\Ax I g/\Paired (Dm a g) b (c.conds.take i)) ⟨[],rfl,Ax.refl I,.nil⟩ (λi e g _ ⟨b,_,D,_⟩=>SqL.of (D _ _ ad)) ?_ ?_
  ·rintro i x e g hx ⟨b,rfl,D,C⟩;rw[C3]at hx;obtain⟨d,ed,rfl⟩:=F3.mp hx;refine⟨⟨[some (.str (BQ d))],rfl,rfl⟩,?_,?_⟩
   ·have e1:=A0a C;rw[M9]at e1;rw[B8,e1];exact M7 (V0 _ _) (M7 Z A3)
   ·refine IW (xq1 rfl ⟨d,rfl,B.conds d (F1 ed),λp u y hp=>⟨b++[p],by rw[D4];rfl,D.trans y,?_⟩⟩);rw[N2,ed];exact A2f (Paired.imp (λ_ _ z=>z.same y) C) hp
  ·rintro e g ⟨b,rfl,D,C⟩ r nr;rw[B8,N7]at C;refine⟨r,(xq1 rfl (.inl ⟨SqL.of Ag,λt ht=>?_⟩))⟩;have y:Ax I (upd (upd g r (.lst (b.map V.ref))) t (.tup (b.map V.ref))):=(D.trans (AH nr)).trans (AH ht);generalize n:upd (upd g r (.lst (b.map V.ref))) t (.tup (b.map V.ref))=u;have R:u t=some (.tup (b.map V.ref)):=by rw[<-n];exact Ag
   have X:Ax g u:=by rw[<-n];exact(AH nr).trans (AH ht)
   rw[n]at y;refine xw3 rfl rfl rfl (xq1 rfl ⟨l,_,(xq2 rfl rfl ⟨SqL.of (y _ _ Y),at_last _ _ _,c.makes,rfl,B.makes,?_⟩)⟩);intro x G nx O aa;have ac:∀o,(upd u G o) x=none:=λo=>by rw[As (K1 aa)];exact nx
   refine⟨x,t,G,c.cell,c.makes,rfl,Ag,rfl,?_⟩;rw[GV];have S:Ax u (upd (upd u G (.own x)) x (.ins a.c_Clause G (fl3 "cell" "conditions" "makes" (Gz c.cell) (.ref t) (.int c.makes)))):=(AH O).trans (AH (ac _));exact k x _ ((s0.trans y).trans S) ⟨G,t,b,Ag,S _ _ R,Paired.imp (λ_ _ z=>(z.same X).same S) C⟩
theorem SY{c:Bm}(h:c.ok):59∉(Cc c).cps.toList:=by
 intro z;unfold Cc at z;rw[PyProof.Rows.mem_join]at z;rcases z with ⟨t,b,z⟩|⟨_,z⟩
 ·rcases C1.mp b with rfl|b
  ·exact(JS _ h.cell).2 z
  ·rcases D3.mp b with b|b
   ·obtain⟨d,e,rfl⟩:=D1.mp b;exact(Qe (h.conds d e)).2 z
   ·rw[D7.mp b]at z;exact(JS (some c.makes) h.makes).2 z
 ·have:59=32:=by simpa using z
  omega
end
structure JB(r:Az):Prop where
 few:r.length<=50
 ok:∀c∈r,c.ok
theorem JB.rok{r:Az}(h:JB r):ROk r:=⟨D0 h.few A3,λc a=>⟨D0 (h.ok c a).few A3,λd b f e=>by
 subst e;rw[((h.ok c a).conds _ b).1];decide⟩⟩
theorem Sj{r:Az}(h:JB r):(Dn r).length<=60000:=by
 have j:=StrLaws.join_length_le Vb (r.map Cc);have b:∀l:List Bm,(∀c∈l,c.ok)->((l.map Cc).map (·.length)).sum<=1000*l.length:=by
  intro l;induction l with
  |nil=>intro _;exact M6 _
  |cons d r f =>
   intro a;have m:=OR (a d C8);have n:=f λe g=>a e (C4 _ g);simp only[F5,P2,F2];omega
 have b1:=b r h.ok;have k:=h.few;have i:Vb.length=2:=rfl;rw[i,B8]at j;unfold Dn;omega
theorem rule_ne{r:Az}(h:r≠[]):decide (V.str (Dn r)=V.str (Str.ofString ""))=false:=by
 refine X4 λz=>?_;injection z with z
 obtain⟨c,a⟩:=List.exists_mem_of_ne_nil r h;have f:=PySem.join_mem_le Vb (r.map Cc) (Cc c) (D1.mpr ⟨c,a,rfl⟩);have g:=PySem.join_mem_le ⟨#[32]⟩ (wS c.cell::(c.conds.map BQ++[sgD c.makes])) (wS c.cell) C8;have d:(wS c.cell).length=1:=rfl;have b:(Dn r).length=0:=by rw[z];decide +kernel
 unfold Dn at b;have e:(Cc c).length=(Str.join ⟨#[32]⟩ (wS c.cell::(c.conds.map BQ++[sgD c.makes]))).length:=rfl;omega
theorem Dm.put{a:Ad}{H:Hp}{p q:Addr}{o u:HO}{c:BW}(h:Dm a H q c)(i:H p=some u)(n:∀C d fs,u=HO.ins C d fs->fs.lookup ("state" : Str)=none/\fs.lookup ("wanted" : Str)=none/\fs.lookup ("makes" : Str)=none)(nt:∀xs,u≠.tup xs):Dm a (upd H p o) q c:=by
 have f:∀{b v},H b=some v->v≠u->upd H p o b=some v:=λ{b v} e d=>by rw[As (AG e i d)];exact e
 cases h with
 |am h g =>
  refine .am (f h λz=>?_) (f g λz=>nt _ z.symm);have:=(n _ _ _ z.symm).1;rw[ZX A1]at this;cases this
 |pl h g =>
  refine .pl (f h λz=>?_) (f g λz=>nt _ z.symm);have:=(n _ _ _ z.symm).2.1;rw[fl1_1]at this;cases this
theorem BO.put{a:Ad}{H:Hp}{p q:Addr}{o u:HO}{c:Bm}(h:BO a H q c)(g:H p=some u)(n:∀C d fs,u=HO.ins C d fs->fs.lookup ("state" : Str)=none/\fs.lookup ("wanted" : Str)=none/\fs.lookup ("makes" : Str)=none)(nt:∀xs,u≠.tup xs):BO a (upd H p o) q c:=by
 have f:∀{b v},H b=some v->v≠u->upd H p o b=some v:=λ{b v} e d=>by rw[As (AG e g d)];exact e
 obtain⟨l,t,cs,j,k,i⟩:=h.ex;refine⟨l,t,cs,f j λz=>?_,f k λz=>nt _ z.symm,Paired.imp (λ_ _ z=>z.put g n nt) i⟩;have:=(n _ _ _ z.symm).2.2;rw[fl3_3]at this;cases this
section
variable{P:Program}{w:World}{K:W.Frag}{mg:Str->Option Value}{base:Heap}{a:Ad}
inductive SpCT(vs:List V)(H:Hp)(Q:VK):Prop
 |mk (r:Az) (_:vs=[.str (Dn r)]) (_:JB r) (_:∀(l:Addr)(H':Hp),Ax H H'->H' l=some (.lst (r.map λc=>V.str (Cc c)))->Q (.ref l) H'):SpCT vs H Q
def spCT:Sp:=λvs H Q _=>SpCT vs H Q
theorem ok_ct(F:Fun K "clause_texts" "clause_texts" Fj f fd)(T:Top K mg a):AJ P w K mg base CX0 1 f fd Gp spCT:=by
  refine F.ok MW (λ_ _ _ _ h=>by rcases h;subst_vars;rfl) λm A g s H vs Q E q h=>?_
  obtain⟨r,rfl,j,k⟩:=h;have i:=Sj j;refine⟨_,(Ae (AN (Aw Cy (pv 0) Lp (AD _)) (Af (Ar (CS Ab))) AE) (Af (Ar (GK A5e PySem.F.slot_str_split PySem.F.type_str_split SH (pv 0) (Aa (Nz rfl T.k_CLAUSE_MARK) Ab))))),?_⟩
  try dsimp only[cxK]
  refine xq1 rfl ⟨rfl,(xq1 rfl ?_)⟩;by_cases b:r=[]
  ·subst b;refine BJ ⟨(by show 0<=sizeLine;decide),λl d=>?_⟩;exact k l _ (AH d) Ag
  ·rw[rule_ne b];refine Bc (xq1 rfl ⟨rfl,(xq2 rfl rfl ⟨A1,B7,λl d=>?_⟩)⟩);have n:Str.ofString "; " = (⟨#[59,32]⟩:Str):=by decide +kernel
   have e:Txt.split (Dn r) (Str.ofString "; ")=r.map Cc:=by
    rw[n];refine Tx.RZ _ (by simpa using b) λt p=>?_;obtain⟨c,o,rfl⟩:=D1.mp p;exact SY (j.ok c o)
   rw[e,T6];exact k l _ (AH d) Ag
inductive SpRI(a:Ad)(vs:List V)(H:Hp)(Q:VK):Prop
 |mk (p dx:Addr) (r:Az) (_:vs=[.ref p,.str (Dn r)]) (_:H p=some (.ins a.c_Rule dx [])) (_:JB r) (_:∀H',(∀b o,H b=some o->b≠p->H' b=some o)->Ct a H' p (Dn r) r->Q .non H'):SpRI a vs H Q
def spRI(a:Ad):Sp:=λvs H Q _=>SpRI a vs H Q
theorem ok_ri(F:Fun K "__init__" "Rule.__init__" FR f fd)(T:Top K mg a)(bF:Cal P w K mg base CX0 1 "clause_texts" Gp spCT)(bN:Cal P w K mg base CX0 5 "read_clause" Gp (spRC a)) :
  AJ P w K mg base CX0 6 f fd MQ (spRI a):=by
  refine F.ok QJ (λ_ _ _ _ h=>by rcases h;subst_vars;rfl) λab A Y s H vs Q E hr h=>?_
  obtain⟨p,B,r,rfl,hp,U,k⟩:=h;have aa:=Sj U;have Z:=U.few;refine⟨_,(Ae (Cm (pv 0) (pv 1) rfl) (Af (Cm (pv 0) (BR BZ rfl T.b_tuple A0g (Aa (Df rfl (BM.of (So:=Ak FR) (No:=MQ) (N:=["part"]) (k:=1) (cs:=[]) rfl rfl A1) (DT (Ap bF (rm hr) rfl Ao (Aa (pv 1) Ab))) (λ_ _ _=>(Bz (i:=0) A1 rfl rfl)) (λ_ _ _=>BS) (λ_ _ _=>(Ap bN (rm hr) rfl Ao (Aa (pv 0) Ab)))) Ab)) rfl))),?_⟩
  try dsimp only[cxK]
  refine xw2 rfl rfl ⟨p,_,B,[],rfl,hp,T.cl_Rule,T.na_Rule_text,B3,?_⟩;generalize G:upd H p (.ins a.c_Rule B (AT "text" (.str (Dn r)) []))=H1;have y:H1 p=some (.ins a.c_Rule B (AT "text" (.str (Dn r)) [])):=by rw[<-G];exact Ag
  have k1:∀b o,H b=some o->b≠p->H1 b=some o:=λb o e n=>by rw[<-G,As n];exact e
  refine xq1 rfl ⟨r,rfl,U,λl H2 s2 hl=>⟨l,rfl,⟨_,SqL.of hl⟩,?_⟩⟩;refine ED (xs:=r.map λc=>V.str (Cc c)) (λi m D=>∃g:List Addr,m=g.map V.ref/\Ax H2 D/\Paired (BO a D) g (r.take i)) ⟨[],rfl,Ax.refl H2,.nil⟩ (λi m D _ ⟨g,_,R,_⟩=>SqL.of (R _ _ hl)) ?_ ?_
  ·rintro i x m D hx ⟨g,rfl,R,I⟩;rw[C3]at hx;obtain⟨c,ec,rfl⟩:=F3.mp hx;refine⟨⟨[some (.str (Cc c))],rfl,rfl⟩,?_,?_⟩
   ·have e1:=A0a I;rw[M9]at e1;rw[B8,e1];exact M7 (V0 _ _) (M7 Z A3)
   ·refine IW (xq1 rfl ⟨c,rfl,U.ok c (F1 ec),λq u s4 hq=>⟨g++[q],by rw[D4];rfl,R.trans s4,?_⟩⟩);rw[N2,ec];exact A2f (Paired.imp (λ_ _ z=>z.same s4) I) hq
  ·rintro m D ⟨g,rfl,R,I⟩ q nq;rw[B8,N7]at I;refine⟨q,(xq1 rfl (.inl ⟨SqL.of Ag,λt ht=>?_⟩))⟩;generalize O:upd (upd D q (.lst (g.map V.ref))) t (.tup (g.map V.ref))=u;have M:Ax D u:=by rw[<-O];exact(AH nq).trans (AH ht)
   have v:u t=some (.tup (g.map V.ref)):=by rw[<-O];exact Ag
   have j:Ax H1 u:=(s2.trans R).trans M;have X:t≠p:=λz=>by rw[z,j _ _ y]at v;cases v
   refine xq1 rfl ⟨p,_,B,(xq1 rfl ⟨j _ _ y,T.cl_Rule,T.na_Rule_clauses,B4,?_⟩)⟩;have up:∀b o,u b=some o->b≠p->upd u p (.ins a.c_Rule B (fl2 "text" "clauses" (.str (Dn r)) (.ref t))) b=some o:=λb o e n=>by rw[As n];exact e
   have cl:∀S c,BO a u S c->BO a (upd u p (.ins a.c_Rule B (fl2 "text" "clauses" (.str (Dn r)) (.ref t)))) S c:=λS c hc=>by
    exact hc.put (j _ _ y) (λC d fs e=>by
     cases e;exact⟨Rz A1,Rz A1,Rz A1⟩) (λxs z=>by cases z)
   exact k _ (λb o e n=>up _ _ (j _ _ (k1 b o e n)) n) ⟨B,t,g,Ag,up _ _ v X,Paired.imp (λS c z=>cl S c (z.same M)) I⟩
def Cd:List Int:=[0,0,0,0,0,0,0,0]
inductive SpRR(a:Ad)(vs:List V)(H:Hp)(Q:VK):Prop
 |mk (r:Az) (_:vs=[.str (Dn r)]) (_:JB r) (_:CK r 0 Cd=0) (_:∀(p:Addr)(H':Hp),Ax H H'->Ct a H' p (Dn r) r->Q (.ref p) H'):SpRR a vs H Q
def spRR(a:Ad):Sp:=λvs H Q _=>SpRR a vs H Q
theorem ok_rr(F:Fun K "read_rule" "read_rule" Jb f fd)(T:Top K mg a)(N:RP P w K mg base CX0 6 "Rule" a.c_Rule MQ (spRI a))(B:Cal P w K mg base CX0 5 "becomes" Lq (UL a)) :
  AJ P w K mg base CX0 8 f fd Gp (spRR a):=by
  refine F.ok LD (λ_ _ _ _ h=>by rcases h;subst_vars;rfl) λC A g s H vs Q E q h=>?_
  obtain⟨r,rfl,y,R,k⟩:=h;refine⟨_,(Ae (AN (CC (Cl (Au AW rfl T.b_isinstance Z9 (Aa (pv 0) (Aa (DU (v:=.ty "str") rfl T.b_str A3d rfl) Ab))))) (Af Bk) AE) (Ae (An (i:=1) LD.nd rfl (Or.inl rfl) (JI N (rm q) rfl Ao (Aa (pv 0) Ab))) (Ae (AN (Aw MN (Ap B (rm q) rfl Ao (Aa (pv 1) (AL (AV op_rep (CS (AL Ab)) (BL rfl T.k_NEIGHBOURS) Ab)))) Ac (AD _)) (Af Bk) AE) (Af (Ar (pv 1)))))),?_⟩
  try dsimp only[cxK]
  refine xq1 rfl ⟨_,_,_,.type "str",true,rfl,rfl,.of (.str _),UE K,true,rfl,?_⟩;refine Bc (xq1 rfl ?_);intro x M n d D;refine⟨x,M,r,rfl,Ag,y,λG kp p=>⟨rfl,?_⟩⟩;have I:Ax H G:=λb o e=>kp b o (by rw[As (AA e n),As (AA e d)];exact e) (AA e n);refine xq1 rfl ⟨(by show 1<=sizeLine;decide),λl u=>?_⟩;refine⟨l,8,(xq1 rfl ⟨rfl,Ag,A3,A3,A3,λm t=>?_⟩)⟩;have O:=(I.trans (AH (o:=.lst [.int 0]) u)).trans (AH (o:=.lst (Cd.map V.int)) t);have c:=(AH (o:=.lst [.int 0]) u).trans (AH (o:=.lst (Cd.map V.int)) t);refine⟨x,m,_,r,0,Cd,rfl,p.same c,y.rok,Ag,λz j=>?_⟩;refine⟨rfl,(xq1 rfl ?_)⟩;rw[R];refine SR rfl (xq1 rfl ?_);exact k x z (O.trans j) ((p.same c).same j)
end
end J
namespace J
open PySem L2
structure Sq where
 parts:List Int
 lev:Int
abbrev Gv:=List Sq
structure GA where
 p:Addr
 dx:Addr
 lv:Addr
 pt:Addr
 nm:Addr
 br:Addr
 am:Addr
 bx:Addr
def fl6(g:GA):List (Str×V):=AT "boxes" (.ref g.bx) (AT "amounts" (.ref g.am) (AT "bares" (.ref g.br) (AT "numbers" (.ref g.nm) (AT "parts" (.ref g.pt) (AT "levels" (.ref g.lv) [])))))
theorem FJ(g:GA):(fl6 g).lookup ("levels" : Str)=some (V.ref g.lv):=by
 unfold fl6;rw[Am,Z8 A1,Am,Z8 A1,Am,Z8 A1,Am,Z8 A1,Am,Z8 A1,Am,X5 rfl]
theorem Ce(g:GA):(fl6 g).lookup ("parts" : Str)=some (V.ref g.pt):=by
 unfold fl6;rw[Am,Z8 A1,Am,Z8 A1,Am,Z8 A1,Am,Z8 A1,Am,X5 rfl]
theorem ZU(g:GA):(fl6 g).lookup ("numbers" : Str)=some (V.ref g.nm):=by
 unfold fl6;rw[Am,Z8 A1,Am,Z8 A1,Am,Z8 A1,Am,X5 rfl]
theorem Jv(g:GA):(fl6 g).lookup ("bares" : Str)=some (V.ref g.br):=by
 unfold fl6;rw[Am,Z8 A1,Am,Z8 A1,Am,X5 rfl]
theorem fl6_am(g:GA):(fl6 g).lookup ("amounts" : Str)=some (V.ref g.am):=by
 unfold fl6;rw[Am,Z8 A1,Am,X5 rfl]
theorem ZV(g:GA):(fl6 g).lookup ("boxes" : Str)=some (V.ref g.bx):=by
 unfold fl6;rw[Am,X5 rfl]
theorem GB(g:GA){m:Str}(c:¬m=("boxes" : Str))(d:¬m=("amounts" : Str))(a:¬m=("bares" : Str))(e:¬m=("numbers" : Str))(b:¬m=("parts" : Str))(f:¬m=("levels" : Str)):(fl6 g).lookup m=none:=by
 unfold fl6;rw[Am,Z8 c,Am,Z8 d,Am,Z8 a,Am,Z8 e,Am,Z8 b,Am,Z8 f];rfl
theorem QU(g:GA):(fl6 g).lookup ("kept" : Str)=none:=GB g A1 A1 A1 A1 A1 A1
theorem BI(g:GA):(fl6 g).lookup ("linked" : Str)=none:=GB g A1 A1 A1 A1 A1 A1
theorem Sx(g:GA):(fl6 g).lookup ("check_square" : Str)=none:=GB g A1 A1 A1 A1 A1 A1
theorem UW(g:GA):(fl6 g).lookup ("leaf" : Str)=none:=GB g A1 A1 A1 A1 A1 A1
theorem DD(g:GA):(fl6 g).lookup ("level_of" : Str)=none:=GB g A1 A1 A1 A1 A1 A1
theorem Su(g:GA):(fl6 g).lookup ("solid" : Str)=none:=GB g A1 A1 A1 A1 A1 A1
theorem TJ(g:GA):(fl6 g).lookup ("state_of" : Str)=none:=GB g A1 A1 A1 A1 A1 A1
def kOf(ps:List Int):List Key:=ps.map Sum.inl
theorem ZK(a:List Int):(kOf a).map kV=a.map V.int:=by unfold kOf;rw[T6];rfl
theorem Rs:∀{a qs:List Int},kOf a=kOf qs->a=qs
 |[],[],_=>rfl
 |[],_::_,h=>by cases h
 |_::_,[],h=>by cases h
 |x::r,y::t,h=>by
  have h:Sum.inl x::kOf r=(Sum.inl y:Key)::kOf t:=h;injection h with h1 h2
  injection h1 with h1
  rw[h1,Rs h2]
def Ju:Nat->Gv->List (List Key×V)
 |_,[]=>[]
 |n,q::r=>(kOf q.parts,.int (n:Int))::Ju (n+1) r
theorem SN:∀(G:Gv)(n:Nat),(Ju n G).length=G.length
 |[],_=>rfl
 |q::r,n=>by show(Ju (n+1) r).length+1=r.length+1;rw[SN r]
theorem PR(q:Sq):∀(G:Gv)(n:Nat),Ju n (G++[q])=Ju n G++[(kOf q.parts,.int ((n+G.length:Nat):Int))]
 |[],_=>rfl
 |p::r,n=>by
  show(kOf p.parts,V.int (n:Int))::Ju (n+1) (r++[q])=_;rw[PR q r (n+1)];show _=(kOf p.parts,V.int (n:Int))::(Ju (n+1) r++[(kOf q.parts,V.int ((n+(r.length+1):Nat):Int))]);rw[show n+1+r.length=n+(r.length+1) by lia]
theorem Rr(a:List Int):∀(G:Gv)(n:Nat),(∃(i:Nat)(q:Sq),G[i]?=some q/\q.parts=a/\Bq (Ju n G) (kOf a)=some (.int ((n+i:Nat):Int)))\/(Bq (Ju n G) (kOf a)=none/\∀q∈G,q.parts≠a)
 |[],n=>.inr ⟨rfl,λq b=>by simp at b⟩
 |p::r,n=>by
  by_cases e:p.parts=a
  ·exact .inl ⟨0,p,rfl,e,BE (by rw[e])⟩
  ·have c:¬(kOf p.parts,V.int (n:Int)).1=kOf a:=λz=>e (Rs z);rcases Rr a r (n+1)with ⟨i,q,h1,h2,h3⟩|⟨h1,h2⟩
   ·refine .inl ⟨i+1,q,h1,h2,?_⟩;show Bq ((kOf p.parts,V.int (n:Int))::Ju (n+1) r) (kOf a)=_;rw[Bn c,h3,show n+1+i=n+(i+1) by lia]
   ·refine .inr ⟨?_,λq b=>?_⟩
    ·show Bq ((kOf p.parts,V.int (n:Int))::Ju (n+1) r) (kOf a)=_;rw[Bn c,h1]
    ·rcases C1.mp b with rfl|b
     ·exact e
     ·exact h2 q b
def TupAt(H:Hp)(t:Addr)(q:Sq):Prop:=H t=some (.tup (q.parts.map V.int))
structure AK(a:Ad)(H:Hp)(g:GA)(G:Gv):Prop where
 hp:H g.p=some (.ins a.c_Grove g.dx (fl6 g))
 lv:H g.lv=some (.lst (G.map λq=>.int q.lev))
 pt:∃ts:List Addr,H g.pt=some (.lst (ts.map V.ref))/\Paired (TupAt H) ts G
 nm:H g.nm=some (.dT (Ju 0 G))
 ne:g.lv≠g.pt
def Fr(g:GA)(H H':Hp):Prop:=∀b o,H b=some o->b≠g.lv->b≠g.pt->b≠g.nm->H' b=some o
theorem Fr.refl(g:GA)(H:Hp):Fr g H H:=λ_ _ e _ _ _=>e
theorem Fr.trans{g:GA}{d c a:Hp}(h:Fr g d c)(k:Fr g c a):Fr g d a:=λb o e i f j=>k b o (h b o e i f j) i f j
theorem Ax.fr{g:GA}{a c:Hp}(h:Ax a c):Fr g a c:=λb o e _ _ _=>h b o e
theorem PairedM.imp{α β:Type}{F G:α->β->Prop}(h:∀x y,F x y->G x y):∀{l:List α}{m:List β},Paired F l m->Paired G l m
 |_,_,.nil=>.nil
 |_,_,.cons r t=>.cons (h _ _ r) (PairedM.imp h t)
theorem PairedM.get{α β:Type}{F:α->β->Prop}:∀{l:List α}{m:List β}{i:Nat}{y:β},Paired F l m->m[i]?=some y->∃x,l[i]?=some x/\F x y
 |_,_,_,_,.nil,e=>by simp at e
 |_,_,0,_,.cons r _,e=>by simp at e;subst e;exact⟨_,rfl,r⟩
 |_,_,i+1,y,.cons _ t,e=>by
  obtain⟨x,a,b⟩:=PairedM.get (i:=i) (y:=y) t (by simpa using e);exact⟨x,by simpa using a,b⟩
theorem AB{H:Hp}{p:Addr}{o:HO}(h:H p=none):Ax H (upd H p o):=λb u e=>by
 rw[As (AA e h)];exact e
theorem AK.same{a:Ad}{H b:Hp}{g:GA}{G:Gv}(s:Ax H b)(h:AK a H g G):AK a b g G:=by
 obtain⟨e,f,⟨i,c,j⟩,d,k⟩:=h;exact⟨s _ _ e,s _ _ f,⟨i,s _ _ c,PairedM.imp (λt q z=>s _ _ z) j⟩,s _ _ d,k⟩
theorem AK.put{a:Ad}{H:Hp}{g:GA}{G:Gv}{l:Addr}{xs:List V}{o:HO}(m:H l=some (.lst xs))(s:l≠g.lv)(p:l≠g.pt)(h:AK a H g G):AK a (upd H l o) g G:=by
 obtain⟨j,k,⟨r,f,d⟩,i,u⟩:=h;have c:∀{b v},H b=some v->v≠.lst xs->upd H l o b=some v:=λ{b v} e n=>by rw[As (AG e m n)];exact e
 exact⟨c j A4,by rw[As (K1 s)];exact k,⟨r,by rw[As (K1 p)];exact f,PairedM.imp (λt q z=>c z A4) d⟩,c i A4,u⟩
def Al(G:Gv)(x:Nat)(l:Int):Prop:=∃q,G[x]?=some q/\q.lev=l
structure GOk(G:Gv):Prop where
 leaf:∀s:Nat,s<8->G[s]?=some ⟨[(s:Int)],0⟩
 node:∀(i:Nat) q,G[i]?=some q->8<=i->∃x y z w:Nat,q.parts=[(x:Int),(y:Int),(z:Int),(w:Int)]/\(Al G x (q.lev-1)/\Al G y (q.lev-1)/\Al G z (q.lev-1)/\Al G w (q.lev-1))/\1<=q.lev/\q.lev<=48
 nd:(G.map Sq.parts).Nodup
theorem Al.lt{G:Gv}{x:Nat}{l:Int}(h:Al G x l):x<G.length:=by
 obtain⟨q,h,_⟩:=h;exact(B9.mp h).1
theorem LT{G r:Gv}{x:Nat}{q:Sq}(h:G[x]?=some q):(G++r)[x]?=some q:=by
 rw[N4 (B9.mp h).1];exact h
theorem Al.app{G r:Gv}{x:Nat}{l:Int}(h:Al G x l):Al (G++r) x l:=by
 obtain⟨q,h,e⟩:=h;exact⟨q,LT h,e⟩
theorem GOk.lev{G:Gv}(h:GOk G){i:Nat}{q:Sq}(e:G[i]?=some q):0<=q.lev/\q.lev<=48:=by
 by_cases a:i<8
 ·rw[h.leaf i a]at e;cases e;exact⟨Int.le_refl 0,by show(0:Int)<=48;decide⟩
 ·obtain⟨x,y,z,w,_,_,c,b⟩:=h.node i q e A0;exact⟨by lia,b⟩
theorem GOk.snoc{G:Gv}(h:GOk G){x y z w:Nat}{l:Int}(o:Al G x l)(B:Al G y l)(E:Al G z l)(I:Al G w l)(v:l<=47)(new:∀q∈G,q.parts≠[(x:Int),(y:Int),(z:Int),(w:Int)]):GOk (G++[⟨[(x:Int),(y:Int),(z:Int),(w:Int)],l+1⟩]) where
 leaf:=λs c=>LT (h.leaf s c)
 node:=λi q e m=>by
  by_cases C:i<G.length
  ·rw[N4 C]at e;obtain⟨x,y,z,w,d,⟨u,D,t,g⟩,k⟩:=h.node i q e m;exact⟨x,y,z,w,d,⟨u.app,D.app,t.app,g.app⟩,k⟩
  ·rw[J9 A0]at e;have:i-G.length=0:=by
    by_cases z:i-G.length=0
    ·exact z
    ·rw[W3 (by rw[R5];lia)]at e;cases e
   rw[this]at e;cases e;obtain⟨n,b,A⟩:=o;have:=(h.lev b).1;have f:l+1-1=l:=by lia
   refine⟨x,y,z,w,rfl,?_,?_,?_⟩
   ·show Al _ x (l+1-1)/\Al _ y (l+1-1)/\Al _ z (l+1-1)/\Al _ w (l+1-1);rw[f];exact⟨Al.app ⟨n,b,A⟩,B.app,E.app,I.app⟩
   ·show 1<=l+1;lia
   ·show l+1<=48;lia
 nd:=by
  rw[D4,T5];refine⟨h.nd,by simp,λp j H a=>?_⟩;obtain⟨q,r,rfl⟩:=D1.mp j;rw[show H=[(x:Int),(y:Int),(z:Int),(w:Int)] by simpa using a];exact new q r
theorem GOk.one{G:Gv}(h:GOk G){i j:Nat}{p q:Sq}(a:G[i]?=some p)(b:G[j]?=some q)(e:p.parts=q.parts):i=j:=by
 have d:=(B9.mp a).1;have c:=(B9.mp b).1;have f:(G.map Sq.parts)[i]'(by rw[B8];exact d)=(G.map Sq.parts)[j]'(by rw[B8];exact c):=by
  rw[List.getElem_map,List.getElem_map,(B9.mp a).2,(B9.mp b).2,e]
 exact(List.getElem_inj h.nd).mp f
seal L2.PA L2.PE L2.PS L2.PSs L2.PT L2.PW
theorem IR{n:Nat}(h:n<10000000):n<sizeLine:=F6 h A3
theorem kit_w(K:W.Frag):kitOne K (.type "int") (.type "int")=some true/\kitOne K (.type "int") (.type "bool")=some false:=⟨by kernel_rfl,by kernel_rfl⟩
section
variable{P:Program}{w:World}{K:W.Frag}{mg:Str->Option Value}{base:Heap}{a:Ad}
inductive SpIW(vs:List V)(H:Hp)(Q:VK):Prop
 |mk (i:Int) (_:vs=[.int i]) (_:Q (.bl true) H):SpIW vs H Q
def VR:Sp:=λvs H Q _=>SpIW vs H Q
theorem ok_iw(F:Fun K "is_whole" "is_whole" Ic f fd)(T:Top K mg a):AJ P w K mg base CX0 1 f fd TM VR:=by
  refine F.ok MK (λ_ _ _ _ h=>by rcases h;subst_vars;rfl) λc A b s H vs Q E d h=>?_
  obtain⟨i,rfl,k⟩:=h;exact⟨_,(Af (Ar (EJ (Au AW rfl T.b_isinstance Z9 (Aa (pv 0) (Aa (DU (v:=.ty "int") rfl T.b_int A1a rfl) Ab))) (Ft (QO (Au AW rfl T.b_isinstance Z9 (Aa (pv 0) (Aa (DU (v:=.ty "bool") rfl T.b_bool A3c rfl) Ab)))))))),(xq1 rfl ⟨_,_,_,.type "int",true,rfl,rfl,.of (.int i),(kit_w K).1,true,rfl,BJ (xq1 rfl ⟨_,_,_,.type "int",false,rfl,rfl,.of (.int i),(kit_w K).2,false,rfl,k⟩)⟩)⟩
inductive SpIS(vs:List V)(H:Hp)(Q:VK):Prop
 |mk (i:Int) (_:vs=[.int i]) (_:0<=i) (_:i<8) (_:Q (.bl true) H):SpIS vs H Q
def spIS:Sp:=λvs H Q _=>SpIS vs H Q
theorem ok_is(F:Fun K "is_state" "is_state" Li f fd)(T:Top K mg a)(j:Cal P w K mg base CX0 1 "is_whole" TM VR):AJ P w K mg base CX0 2 f fd TM spIS:=by
  refine F.ok Sg (λ_ _ _ _ h=>by rcases h;subst_vars;rfl) λd A b s H vs Q E g h=>?_
  obtain⟨i,rfl,c,e,k⟩:=h;refine⟨_,(Af (Ar (EJ (Ap j (rm g) rfl Ao (Aa (pv 0) Ab)) (Ft (YN Jo EQ Ac (pv 0) (BL rfl T.k_STATES)))))),?_⟩
  try dsimp only[cxK]
  refine xq1 rfl ⟨i,rfl,true,rfl,BJ (xwb rfl rfl rfl (xq1 rfl ?_))⟩;rw[Z7 c];refine BJ (xq2 rfl rfl ?_);show Q (.bl (decide (i<8))) H;rw[Z7 e];exact k
inductive SpKept(a:Ad)(vs:List V)(H:Hp)(Q:VK):Prop
 |mk (g:GA) (G:Gv) (t:Addr) (ps:List Int) (l:Int) (_:vs=[.ref g.p,.ref t,.int l]) (_:AK a H g G) (_:H t=some (.tup (ps.map V.int))) (_:(∀q∈G,q.parts≠ps)) (_:G.length<9000000) (_:∀H',Fr g H H'->AK a H' g (G++[⟨ps,l⟩])->Q (.int (G.length:Int)) H'):SpKept a vs H Q
def Qz(a:Ad):Sp:=λvs H Q _=>SpKept a vs H Q
theorem ok_kept(F:Fun K "kept" "Grove.kept" Im f fd)(T:Top K mg a):AJ P w K mg base CX0 1 f fd EU (Qz a):=by
  refine F.ok La (λ_ _ _ _ h=>by rcases h;subst_vars;rfl) λaa A U s H vs Q E hr h=>?_
  obtain⟨g,G,t,j,l,rfl,hg,ht,new,few,k⟩:=h;obtain⟨d,u,⟨R,N,h4⟩,D,X⟩:=hg;have lt:R.length=G.length:=A0a h4;refine⟨_,(Ae (An (i:=3) La.nd rfl (Or.inl rfl) (Au Dk rfl T.b_len A1e (Aa (AC (pv 0) rfl) Ab))) (Ae (JG (GO hr) (AC (pv 0) rfl) (pv 1) (pv 3) rfl) (Ae (Co (GK K6 A0d A0e Ek (AC (pv 0) rfl) (Aa (pv 2) Ab))) (Ae (Co (GK K6 A0d A0e Ek (AC (pv 0) rfl) (Aa (pv 1) Ab))) (Af (Ar (pv 3))))))),?_⟩
  try dsimp only[cxK]
  refine xwf rfl rfl d T.cl_Grove T.na_Grove_levels (FJ g) ⟨g.lv,(xq1 rfl ⟨.inl (SqL.of u),?_⟩)⟩;rw[B8];have r:g.p≠g.nm:=AG d D A4;have m:g.lv≠g.nm:=AG u D A4;have B:g.pt≠g.nm:=AG N D A4;have y:g.p≠g.lv:=AG d u A4;have Y:g.p≠g.pt:=AG d N A4;have vn:Bq (Ju 0 G) (kOf j)=none:=by
   rcases Rr j G 0 with ⟨i,q,e1,e2,_⟩|⟨e,_⟩
   ·exact absurd e2 (new q (F1 e1))
   ·exact e
  refine xw2 rfl rfl (xq5 d T.cl_Grove T.na_Grove_numbers (ZU g) (xq1 rfl ⟨g.nm,(xq1 rfl ⟨Ng.t (k:=kOf j) D (by rw[ZK];exact ht) (by rw[SN];exact IR A0),?_⟩)⟩));rw[GJ _ vn];have e5:Ju 0 G++[(kOf j,V.int (G.length:Int))]=Ju 0 (G++[⟨j,l⟩]):=by rw[PR,N9]
  rw[e5];generalize v:upd H g.nm (.dT (Ju 0 (G++[⟨j,l⟩])))=S;have k1:∀b o,H b=some o->b≠g.nm->S b=some o:=λb o e n=>by rw[<-v,As n];exact e
  have n1:S g.nm=some (.dT (Ju 0 (G++[⟨j,l⟩]))):=by rw[<-v];exact Ag
  refine xwf rfl rfl (k1 _ _ d r) T.cl_Grove T.na_Grove_levels (FJ g) ⟨.inl ⟨rfl,_,SqL.of (k1 _ _ u m)⟩,(xq1 rfl ⟨g.lv,(xq2 rfl rfl ⟨k1 _ _ u m,by rw[B8];exact IR A0,?_⟩)⟩)⟩;generalize M:upd S g.lv (.lst ((G.map λq=>V.int q.lev)++[.int l]))=O;have k2:∀b o,S b=some o->b≠g.lv->O b=some o:=λb o e n=>by rw[<-M,As n];exact e
  have n2:O g.lv=some (.lst ((G++[(⟨j,l⟩:Sq)]).map λq=>V.int q.lev)):=by rw[<-M,Ag,D4];rfl
  have x:=k2 _ _ (k1 _ _ N B) (K1 X);refine xwf rfl rfl (k2 _ _ (k1 _ _ d r) y) T.cl_Grove T.na_Grove_parts (Ce g) ⟨.inl ⟨rfl,_,SqL.of x⟩,(xq1 rfl ⟨g.pt,(xq2 rfl rfl ⟨x,by rw[B8,lt];exact IR A0,?_⟩)⟩)⟩;generalize I:upd O g.pt (.lst (R.map V.ref++[.ref t]))=C;have k3:∀b o,O b=some o->b≠g.pt->C b=some o:=λb o e n=>by rw[<-I,As n];exact e
  have n3:C g.pt=some (.lst ((R++[t]).map V.ref)):=by rw[<-I,Ag,D4];rfl
  have fr:Fr g H C:=λb o e m1 m2 m3=>k3 _ _ (k2 _ _ (k1 _ _ e m3) m1) m2;have Z:∀(c:Addr)(xs:List V),H c=some (.tup xs)->C c=some (.tup xs):=λc xs e=>fr _ _ e (AG e u A4) (AG e N A4) (AG e D A4);refine xq1 rfl (k C fr ⟨fr _ _ d y Y r,k3 _ _ n2 X,⟨R++[t],n3,A2f (PairedM.imp (λc q z=>Z c _ z) h4) (Z t _ ht)⟩,k3 _ _ (k2 _ _ n1 (K1 m)) (K1 B),X⟩)
structure AI(G G':Gv)(n:Nat):Prop where
 ok:GOk G'
 pre:∃r,G'=G++r
 few:G'.length<=G.length+n
theorem AI.refl{G:Gv}(h:GOk G):AI G G 0:=⟨h,⟨[],by simp⟩,C5 _⟩
theorem AI.trans{G d b:Gv}{n m:Nat}(h:AI G d n)(c:AI d b m):AI G b (n+m):=by
 obtain⟨r,e⟩:=h.pre;obtain⟨t,f⟩:=c.pre;have i:=h.few;have g:=c.few;exact⟨c.ok,⟨r++t,by rw[f,e,R6]⟩,by lia⟩
theorem AI.get{G b:Gv}{n x:Nat}{q:Sq}(h:AI G b n)(e:G[x]?=some q):b[x]?=some q:=by
 obtain⟨r,c⟩:=h.pre;rw[c];exact LT e
theorem AI.lev{G b:Gv}{n x:Nat}{l:Int}(h:AI G b n)(e:Al G x l):Al b x l:=by
 obtain⟨q,e,z⟩:=e;exact⟨q,h.get e,z⟩
inductive Uo(a:Ad)(vs:List V)(H:Hp)(Q:VK):Prop
 |mk (g:GA) (G:Gv) (t:Addr) (x y z w:Nat) (l:Int) (_:vs=[.ref g.p,.ref t]) (_:AK a H g G) (_:GOk G) (_:H t=some (.tup [.int x,.int y,.int z,.int w])) (_:(Al G x l/\Al G y l/\Al G z l/\Al G w l)) (_:l<=47) (_:G.length<9000000) (_:∀(n:Nat)(G':Gv)(H':Hp),Fr g H H'->AK a H' g G'->AI G G' 1->G'[n]?=some ⟨[(x:Int),(y:Int),(z:Int),(w:Int)],l+1⟩->Q (.int n) H'):Uo a vs H Q
def DJ(a:Ad):Sp:=λvs H Q _=>Uo a vs H Q
theorem ok_link(F:Fun K "linked" "Grove.linked" Fn f fd)(T:Top K mg a)(U:BK P w K mg base CX0 1 a.c_Grove "kept" EU (Qz a)):AJ P w K mg base CX0 2 f fd AS (DJ a):=by
  refine F.ok IP (λ_ _ _ _ h=>by rcases h;subst_vars;rfl) λV A o s H vs Q E D h=>?_
  obtain⟨g,G,t,x,y,z,w,l,rfl,C,ok,p,⟨r,hy,hz,hw⟩,u,few,k⟩:=h;have d:=C;obtain⟨n,h2,⟨ts,h3,h4⟩,I,h6⟩:=C;refine⟨_,(Ae (An (i:=2) IP.nd rfl (Or.inl rfl) (LN (GO D) (AC (pv 0) rfl) (pv 1) ⟨rfl,rfl,rfl,rfl⟩)) (Ae (AN (Aw Jp (pv 2) DA (AD _)) (Af (Ar (AF (pv 0) U (rm D) Ao (Aa (pv 1) (AV AQ (Ai Av (AC (pv 0) rfl) (Ai Aj (pv 1) Ac (λ_ _=>rfl)) (λ_ _=>rfl)) Ac Ab))))) AE) (Af (Ar (pv 2))))),?_⟩
  try dsimp only[cxK]
  refine xwf rfl rfl n T.cl_Grove T.na_Grove_numbers (ZU g) ⟨g.nm,rfl,.inr ⟨_,.inl I⟩,(xq1 rfl ⟨_,IU.t (k:=kOf [(x:Int),(y:Int),(z:Int),(w:Int)]) I (by rw[ZK];exact p),?_⟩)⟩;rcases Rr [(x:Int),(y:Int),(z:Int),(w:Int)] G 0 with ⟨i,q,c,b,R⟩|⟨e,new⟩
  ·rw[R];refine xq1 rfl ⟨rfl,(xq1 rfl (Bc (xq1 rfl ?_)))⟩;rw[N9];refine k i G H (Fr.refl g H) d ⟨ok,⟨[],by simp⟩,by lia⟩ ?_;have S:8<=i:=by
    refine P4 λM=>?_;rw[ok.leaf i M]at c;cases c;cases b
   obtain⟨O,y',M,w',X,⟨B,_⟩,_⟩:=ok.node i q c S;have v:O=x:=by
    rw[X]at b;injection b with b _
    exact X8 b
   rw[v]at B;obtain⟨qa,Z,a2⟩:=B;obtain⟨qb,b1,b2⟩:=r;rw[Z]at b1;cases b1;have N:q.lev=l+1:=by lia
   rw[c];cases q with
   |mk pp ll=>cases b;cases N;rfl
  ·rw[e];refine xq1 rfl ⟨rfl,(xq1 rfl (BJ ?_))⟩;obtain⟨q,c,b⟩:=id r;refine xwn rfl rfl n (QU g) rfl (xwf rfl rfl n T.cl_Grove T.na_Grove_levels (FJ g) (xwi rfl rfl rfl (SqT.of p) (Ah (j:=0) rfl) (xq4 rfl rfl (SqL.of h2) (Ah (by rw[C3,c];rfl)) (xq2 rfl rfl ?_))));refine⟨g,G,t,[(x:Int),(y:Int),(z:Int),(w:Int)],l+1,by rw[<-b];rfl,d,p,new,few,λY fr m=>?_⟩;refine k G.length _ Y fr m ⟨ok.snoc r hy hz hw u new,⟨_,rfl⟩,by rw[C6];exact C5 _⟩ ?_;rw[J9 (C5 _),Z1];rfl
inductive SpChk(a:Ad)(vs:List V)(H:Hp)(Q:VK):Prop
 |mk (g:GA) (G:Gv) (i:Nat) (_:vs=[.ref g.p,.int i]) (_:AK a H g G) (_:i<G.length) (_:Q .non H):SpChk a vs H Q
def UJ(a:Ad):Sp:=λvs H Q _=>SpChk a vs H Q
theorem ok_chk(F:Fun K "check_square" "Grove.check_square" CQ f fd)(T:Top K mg a)(j:Cal P w K mg base CX0 1 "is_whole" TM VR):AJ P w K mg base CX0 2 f fd Jt (UJ a):=by
  refine F.ok IS (λ_ _ _ _ h=>by rcases h;subst_vars;rfl) λd A b s H vs Q E e h=>?_
  obtain⟨g,G,i,rfl,c,l,k⟩:=h;refine⟨_,(Af (AN (PW.pt (Fs (CC (Cl (Ap j (rm e) rfl Ao (Aa (pv 1) Ab)))) (Dy (CC (Og Jo EQ Ac (pv 1) (Au Dk rfl T.b_len A1e (Aa (AC (pv 0) rfl) Ab))))))) (Af Bk) AE)),?_⟩
  try dsimp only[cxK]
  refine⟨_,rfl,_,rfl,true,rfl,Bc ⟨_,rfl,_,_,rfl,rfl,_,rfl,?_⟩⟩;rw[Z7 (by lia:(0:Int)<=(i:Int))];refine BJ (xwf rfl rfl c.hp T.cl_Grove T.na_Grove_levels (FJ g) ⟨g.lv,(xq1 rfl ⟨.inl (SqL.of c.lv),(xq2 rfl rfl (xq1 rfl ?_))⟩)⟩);rw[B8,Z7 (by lia:(i:Int)<(G.length:Int))];exact Bc k
inductive SpLeaf(a:Ad)(vs:List V)(H:Hp)(Q:VK):Prop
 |mk (p:Addr) (i:Int) (_:vs=[.ref p,.int i]) (_:0<=i) (_:i<8) (_:Q (.int i) H):SpLeaf a vs H Q
def Qx(a:Ad):Sp:=λvs H Q _=>SpLeaf a vs H Q
theorem ok_leaf(F:Fun K "leaf" "Grove.leaf" Il f fd)(T:Top K mg a)(l:Cal P w K mg base CX0 2 "is_state" TM spIS):AJ P w K mg base CX0 3 f fd Rl (Qx a):=by
  refine F.ok Pj (λ_ _ _ _ h=>by rcases h;subst_vars;rfl) λd A b s H vs Q E j h=>?_
  obtain⟨g,i,rfl,c,e,k⟩:=h;exact⟨_,(Ae (AN (CC (Cl (Ap l (rm j) rfl Ao (Aa (pv 1) Ab)))) (Af Bk) AE) (Af (Ar (pv 1)))),(xq1 rfl ⟨i,rfl,c,e,true,rfl,Bc (xq1 rfl k)⟩)⟩
inductive SpLev(a:Ad)(vs:List V)(H:Hp)(Q:VK):Prop
 |mk (g:GA) (G:Gv) (i:Nat) (q:Sq) (_:vs=[.ref g.p,.int i]) (_:AK a H g G) (_:G[i]?=some q) (_:Q (.int q.lev) H):SpLev a vs H Q
def LB(a:Ad):Sp:=λvs H Q _=>SpLev a vs H Q
theorem ok_lev(F:Fun K "level_of" "Grove.level_of" Ef f fd)(T:Top K mg a)(l:BK P w K mg base CX0 2 a.c_Grove "check_square" Jt (UJ a)):AJ P w K mg base CX0 3 f fd Jt (LB a):=by
  refine F.ok LH (λ_ _ _ _ h=>by rcases h;subst_vars;rfl) λe A c s H vs Q E j h=>?_
  obtain⟨g,G,i,q,rfl,b,d,k⟩:=h;refine⟨_,(Ae (Co (AF (pv 0) l (rm j) Ao (Aa (pv 1) Ab))) (Af (Ar (Ai Av (AC (pv 0) rfl) (pv 1) (λ_ _=>rfl))))),?_⟩
  try dsimp only[cxK]
  refine xwn rfl rfl b.hp (Sx g) rfl ⟨g,G,i,rfl,b,(B9.mp d).1,?_⟩;exact xwf rfl rfl b.hp T.cl_Grove T.na_Grove_levels (FJ g) (xwi rfl rfl rfl (SqL.of b.lv) (Ah (by rw[C3,d];rfl)) k)
inductive SpSta(a:Ad)(vs:List V)(H:Hp)(Q:VK):Prop
 |mk (g:GA) (G:Gv) (i:Nat) (q:Sq) (_:vs=[.ref g.p,.int i]) (_:AK a H g G) (_:G[i]?=some q) (_:q.lev=0) (_:Q (.int i) H):SpSta a vs H Q
def Yl(a:Ad):Sp:=λvs H Q _=>SpSta a vs H Q
theorem ok_sta(F:Fun K "state_of" "Grove.state_of" Ee f fd)(T:Top K mg a)(l:BK P w K mg base CX0 3 a.c_Grove "level_of" Jt (LB a)):AJ P w K mg base CX0 4 f fd Jt (Yl a):=by
  refine F.ok LG (λ_ _ _ _ h=>by rcases h;subst_vars;rfl) λe A b s H vs Q E m h=>?_
  obtain⟨g,G,i,q,rfl,c,j,d,k⟩:=h;refine⟨_,(Ae (AN (Aw MN (AF (pv 0) l (rm m) Ao (Aa (pv 1) Ab)) Ac (AD _)) (Af Bk) AE) (Af (Ar (pv 1)))),?_⟩
  try dsimp only[cxK]
  refine xwn rfl rfl c.hp (DD g) rfl ⟨g,G,i,q,rfl,c,j,rfl,(xq1 rfl ?_)⟩;rw[d];exact SR rfl (xq1 rfl k)
end
def Sol(G:Gv)(s:Nat):Nat->Nat->Prop
 |0,n=>n=s
 |l+1,n=>∃m:Nat,Sol G s l m/\G[n]?=some ⟨[(m:Int),(m:Int),(m:Int),(m:Int)],(l:Int)+1⟩
theorem Sol.lev{G:Gv}(h:GOk G){s:Nat}(a:s<8):∀{l n:Nat},Sol G s l n->Al G n l
 |0,n,e=>by
  have e:n=s:=e;subst e;exact⟨_,h.leaf n a,rfl⟩
 |l+1,n,e=>by
  obtain⟨m,_,e⟩:=e;exact⟨_,e,rfl⟩
theorem Sol.goes{G a:Gv}{k:Nat}(h:AI G a k){s:Nat}:∀{l n:Nat},Sol G s l n->Sol a s l n
 |0,n,e=>e
 |l+1,n,e=>by
  obtain⟨m,b,c⟩:=e;exact⟨m,Sol.goes h b,h.get c⟩
section
variable{P:Program}{w:World}{K:W.Frag}{mg:Str->Option Value}{base:Heap}{a:Ad}
inductive Vv(a:Ad)(vs:List V)(H:Hp)(Q:VK):Prop
 |mk (g:GA) (G:Gv) (l s:Nat) (_:vs=[.ref g.p,.int l,.int s]) (_:AK a H g G) (_:GOk G) (_:l<=48) (_:s<8) (_:G.length<8000000) (_:∀(n:Nat)(G':Gv)(H':Hp),Fr g H H'->AK a H' g G'->AI G G' l->Sol G' s l n->Q (.int n) H'):Vv a vs H Q
def Nl(a:Ad):Sp:=λvs H Q _=>Vv a vs H Q
theorem YU(F:Fun K "solid" "Grove.solid" Gm f fd)(T:Top K mg a)(S:Cal P w K mg base CX0 1 "is_whole" TM VR)(U:BK P w K mg base CX0 3 a.c_Grove "leaf" Rl (Qx a))(R:BK P w K mg base CX0 2 a.c_Grove "linked" AS (DJ a)):AJ P w K mg base CX0 4 f fd Ew (Nl a):=by
  refine F.ok DP (λ_ _ _ _ h=>by rcases h;subst_vars;rfl) λO A y s H vs Q E z h=>?_
  obtain⟨g,G,l,q,rfl,C,ok,I,N,few,k⟩:=h;refine⟨_,(Ae (AN (PW.pt (Fs (CC (Cl (Ap S (rm z) rfl Ao (Aa (pv 1) Ab)))) (Dy (CC (Og Jo Jo Ac (pv 1) (BL rfl T.k_TOP_LEVEL)))))) (Af Bk) AE) (Ae (An (i:=3) DP.nd rfl (Or.inl rfl) (AF (pv 0) U (rm z) Ao (Aa (pv 2) Ab))) (Ae (Ir K9 rfl (JH rfl T.b_range (Aa (pv 1) Ab)) (CG (i:=4) DP.nd rfl (Or.inl rfl)) (Af (An (i:=3) DP.nd rfl (Or.inl rfl) (AF (pv 0) R (rm z) Ao (Bu (Aa (pv 3) (Aa (pv 3) (Aa (pv 3) (Aa (pv 3) Ab)))) Ab))))) (Af (Ar (pv 3)))))),?_⟩
  try dsimp only[cxK]
  refine⟨_,rfl,_,rfl,true,rfl,Bc ⟨_,rfl,_,_,rfl,rfl,_,rfl,?_⟩⟩;rw[Z7 (by lia:(0:Int)<=(l:Int))];refine BJ (xq2 rfl rfl (xq1 rfl ?_));rw[Z7 (by lia:(l:Int)<=(48:Int))];refine Bc (xwn rfl rfl C.hp (UW g) rfl ⟨g.p,(q:Int),rfl,by lia,by lia,?_⟩);refine xw2 rfl rfl ⟨by lia,by lia,?_⟩;rw[M4];refine JO (n:=l) (λi σ j=>∃(c:Gv)(m:Nat)(v:Option V),σ=[some (.ref g.p),some (.int l),some (.int q),some (.int m),v]/\Fr g H j/\AK a j g c/\AI G c i/\Sol c q i m) ⟨G,q,none,rfl,Fr.refl g H,C,AI.refl ok,rfl⟩ ?_ ?_
  ·rintro i σ j Y ⟨c,m,v,rfl,fr,b,go,r⟩;have X:=go.few;have lm:=Sol.lev go.ok N r;refine xwn rfl rfl b.hp (BI g) rfl (xw3 rfl rfl rfl ⟨(by show 4<=sizeLine;decide),λt M=>?_⟩);have D:=AB (o:=.tup [.int m,.int m,.int m,.int m]) M;refine⟨g,c,t,m,m,m,m,(i:Int),rfl,b.same D,go.ok,Ag,⟨lm,lm,lm,lm⟩,by lia,by lia,λn B Z u x d e=>?_⟩;exact⟨B,n,(xq1 rfl ⟨(fr.trans (Ax.fr D)).trans u,x,go.trans d,m,Sol.goes d r,e⟩)⟩
  ·rintro σ j ⟨c,m,v,rfl,fr,b,go,r⟩;exact xq1 rfl (k m c j fr b go r)
end
end J
namespace J
open PySem L2
def bareN:Nat->Nat
 |0=>0
 |j+1=>8+j
def DF(n:Nat):Gv:=(List.range n).map λ(s:Nat)=>(⟨[(s:Int)],0⟩:Sq)
def FK(n:Nat):Gv:=(List.range n).map λ(j:Nat)=>(⟨[(bareN j:Int),(bareN j:Int),(bareN j:Int),(bareN j:Int)],(j:Int)+1⟩:Sq)
def G0:Gv:=DF 8++FK 48
theorem TY(n:Nat):DF (n+1)=DF n++[⟨[(n:Int)],0⟩]:=by unfold DF;rw[U0,D4];rfl
theorem OV(n:Nat):FK (n+1)=FK n++[⟨[(bareN n:Int),(bareN n:Int),(bareN n:Int),(bareN n:Int)],(n:Int)+1⟩]:=by unfold FK;rw[U0,D4];rfl
theorem EX(n:Nat):(DF n).length=n:=by unfold DF;rw[B8,O0]
theorem Qn(n:Nat):(FK n).length=n:=by unfold FK;rw[B8,O0]
theorem WQ{i j:Nat}(h:bareN i=bareN j):i=j:=by
 cases i<;>cases j
 ·rfl
 ·have:0=8+_:=h;lia
 ·have:8+_=0:=h;lia
 ·have:8+_=8+_:=h;lia
theorem Wz(n:Nat):∀q∈DF n,q.parts≠[(n:Int)]:=λq b z=>by
 obtain⟨s,a,rfl⟩:=D1.mp b;have:=J1.mp a;injection z with z _
 have:s=n:=X8 z;lia
theorem Qm(n:Nat):∀q∈DF 8++FK n,q.parts≠[(bareN n:Int),(bareN n:Int),(bareN n:Int),(bareN n:Int)]:=λq a z=>by
 rcases D3.mp a with a|a
 ·obtain⟨s,b,rfl⟩:=D1.mp a;cases z
 ·obtain⟨s,b,rfl⟩:=D1.mp a;have:=J1.mp b;injection z with z _
  have:=WQ (X8 z);lia
theorem Rw:G0.length=56:=by unfold G0;rw[C6,EX,Qn]
theorem NC(j:Nat)(h:j<48):G0[8+j]?=some ⟨[(bareN j:Int),(bareN j:Int),(bareN j:Int),(bareN j:Int)],(j:Int)+1⟩:=by
 unfold G0;rw[J9 (by rw[EX];lia),EX,show 8+j-8=j by lia];unfold FK;rw[C3,Q7 h];rfl
theorem Rx(s:Nat)(h:s<8):G0[s]?=some ⟨[(s:Int)],0⟩:=by
 unfold G0;rw[N4 (by rw[EX];exact h)];unfold DF;rw[C3,Q7 h];rfl
theorem ZT(j:Nat)(h:j<=48):Al G0 (bareN j) (j:Int):=by
 cases j with
 |zero=>exact⟨_,Rx 0 A3,rfl⟩
 |succ j=>exact⟨_,NC j A0,rfl⟩
theorem g0_nd:∀n,((DF 8++FK n).map Sq.parts).Nodup
 |0=>by decide
 |n+1=>by
  rw[OV,<-R6,D4,T5];refine⟨g0_nd n,by simp,λp b d a=>?_⟩;obtain⟨q,c,rfl⟩:=D1.mp b;rw[show d=[(bareN n:Int),(bareN n:Int),(bareN n:Int),(bareN n:Int)] by simpa using a];exact Qm n q c
theorem g0_ok:GOk G0 where
 leaf:=Rx
 node:=λi q e a=>by
  have b:i<56:=by rw[<-Rw];exact(B9.mp e).1
  obtain⟨j,rfl⟩:∃j,i=8+j:=⟨i-8,by lia⟩
  rw[NC j A0]at e;cases e;have:=ZT j A0;refine⟨bareN j,bareN j,bareN j,bareN j,rfl,?_,?_,?_⟩
  ·show Al G0 _ ((j:Int)+1-1)/\Al G0 _ ((j:Int)+1-1)/\Al G0 _ ((j:Int)+1-1)/\Al G0 _ ((j:Int)+1-1);rw[show(j:Int)+1-1=(j:Int) by lia];exact⟨this,this,this,this⟩
  ·show 1<=(j:Int)+1;lia
  ·show(j:Int)+1<=48;lia
 nd:=g0_nd 48
def amK(n:Nat):List (Key×V):=(List.range n).map λ(s:Nat)=>(Sum.inl (s:Int),V.int (if(1:Int)<(s:Int)then 1 else(s:Int)))
theorem Tf(n:Nat):amK (n+1)=amK n++[(Sum.inl (n:Int),V.int (if(1:Int)<(n:Int)then 1 else(n:Int)))]:=by unfold amK;rw[U0,D4];rfl
theorem amK_len(n:Nat):(amK n).length=n:=by unfold amK;rw[B8,O0]
theorem Qr{κ:Type}[DecidableEq κ]{k:κ}:∀{l m:List (κ×V)},Bq l k=none->Bq (l++m) k=Bq m k
 |[],_,_=>rfl
 |p::r,m,h=>by
  by_cases e:p.1=k
  ·rw[BE e]at h;cases h
  ·rw[Bn e]at h;show Bq (p::(r++m)) k=_;rw[Bn e];exact Qr h
theorem Tg(n:Nat):∀m,n<=m->Bq (amK n) (Sum.inl (m:Int))=none:=by
 induction n with
 |zero=>intro m _;rfl
 |succ n a =>
  intro m b;rw[Tf,Qr (a m A0),Bn (by intro z;injection z with z;have:=X8 z;lia)];rfl
def CY(n:Nat):List Int:=(List.range (n+1)).map λj=>((bareN j:Nat):Int)
theorem OX(n:Nat):CY (n+1)=CY n++[((bareN (n+1):Nat):Int)]:=by unfold CY;rw[U0,D4];rfl
theorem Um(n:Nat):(CY n).getLast?=some ((bareN n:Nat):Int):=by
 cases n with
 |zero=>rfl
 |succ n=>rw[OX,List.getLast?_append];rfl
theorem at_lastV{xs:List V}{x:V}(h:xs.getLast?=some x):atI xs (-1)=some x:=by
 obtain⟨ys,rfl⟩:=List.getLast?_eq_some_iff.mp h;unfold atI ixN;rw[Z8 A3,X5 (by rw[C6,R5];lia)];show(ys++[x])[((-1:Int)+((ys++[x]).length:Nat)).toNat]?=some x;rw[C6,R5,show((-1:Int)+((ys.length+1:Nat):Int)).toNat=ys.length by lia,J9 (C5 _),Z1];rfl
seal L2.PA L2.PE L2.PS L2.PSs L2.PT L2.PW
structure Tl(a:Ad)(H H':Hp)(g:GA)(G:Gv)(B:List Int)(am:List (Key×V)):Prop where
 kp:∀b o,H b=some o->b≠g.p->H' b=some o
 at':AK a H' g G
 br:H' g.br=some (.lst (B.map V.int))
 am:H' g.am=some (.dK am)
 bx:H' g.bx=some (.dK [])
 fresh:H g.lv=none/\H g.pt=none/\H g.nm=none/\H g.br=none/\H g.am=none/\H g.bx=none
 n1:g.br≠g.lv
 n2:g.br≠g.pt
 n3:g.am≠g.bx
section
variable{P:Program}{w:World}{K:W.Frag}{mg:Str->Option Value}{base:Heap}{a:Ad}
inductive VC(a:Ad)(vs:List V)(H:Hp)(Q:VK):Prop
 |mk (p dx:Addr) (_:vs=[.ref p]) (_:H p=some (.ins a.c_Grove dx [])) (_:∀(g:GA)(H':Hp),g.p=p->Tl a H H' g G0 (CY 48) (amK 8)->Q .non H'):VC a vs H Q
def QC(a:Ad):Sp:=λvs H Q _=>VC a vs H Q
theorem Zd(F:Fun K "__init__" "Grove.__init__" Io f fd)(T:Top K mg a)(aM:BK P w K mg base CX0 1 a.c_Grove "kept" EU (Qz a)):AJ P w K mg base CX0 2 f fd IH (QC a):=by
  refine F.ok En (λ_ _ _ _ h=>by rcases h;subst_vars;rfl) λax A av s H vs Q E hr h=>?_
  obtain⟨p,r,rfl,hp,k⟩:=h;refine⟨_,(Ae (Cm (pv 0) (CS Ab) rfl) (Ae (Cm (pv 0) (CS Ab) rfl) (Ae (Cm (pv 0) Sr rfl) (Ae (Cm (pv 0) (CS (AL Ab)) rfl) (Ae (Cm (pv 0) LM rfl) (Ae (Cm (pv 0) LM rfl) (Ae (Ir K9 rfl (JH rfl T.b_range (Aa (BL rfl T.k_STATES) Ab)) (CG (i:=1) En.nd rfl (Or.inl rfl)) (Ae (Co (AF (pv 0) aM (rm hr) Ao (Bu (Aa (pv 1) Ab) (AL Ab)))) (Af (JG (GO hr) (AC (pv 0) rfl) (pv 1) (Au (DG rfl) rfl T.b_min K8 (Aa (pv 1) (AL Ab))) rfl)))) (Af (Ir K9 rfl (VZ rfl T.b_range (AL (AV AQ (BL rfl T.k_TOP_LEVEL) Ac Ab))) (CG (i:=2) En.nd rfl (Or.inl rfl)) (Ae (An (i:=3) En.nd rfl (Or.inl rfl) (Ai Av (AC (pv 0) rfl) (IQ EE Ac) (λ_ _=>rfl))) (Af (Co (GK K6 A0d A0e Ek (AC (pv 0) rfl) (Aa (AF (pv 0) aM (rm hr) Ao (Bu (Aa (pv 3) (Aa (pv 3) (Aa (pv 3) (Aa (pv 3) Ab)))) (Aa (pv 2) Ab))) Ab)))))))))))))),?_⟩
  try dsimp only[cxK]
  have stp:∀{B:Hp}{x:Addr}{o:HO}{fs fs':List (Str×V)},B p=some (.ins a.c_Grove r fs)->B x=none->(∀b v,B b=some v->b≠p->upd (upd B x o) p (.ins a.c_Grove r fs') b=some v)/\upd (upd B x o) p (.ins a.c_Grove r fs') x=some o/\upd (upd B x o) p (.ins a.c_Grove r fs') p=some (.ins a.c_Grove r fs')/\upd B x o p=some (.ins a.c_Grove r fs):=λ{B x o fs fs'} e1 e2=>by
   have n:x≠p:=λz=>by rw[z,e1]at e2;cases e2
   exact⟨λb v e nb=>by rw[As nb,As (AA e e2)];exact e,by rw[As n];exact Ag,Ag,by rw[As (K1 n)];exact e1⟩
  refine Bv ?_;intro O R k_ m M;refine⟨(by show 0<=sizeLine;decide),λG ad=>?_⟩;obtain⟨k1,x1,p1,q1⟩:=stp (o:=.lst []) (fs':=AT "levels" (.ref G) []) hp ad;refine xq1 rfl ⟨p,_,r,[],rfl,q1,T.cl_Grove,T.na_Grove_levels,B3,?_⟩;show k_ _ _;generalize upd (upd H G _) p _=H1 at k1 x1 p1⊢;refine m ?_;refine Bv ?_;intro O R k_ m M;refine⟨(by show 0<=sizeLine;decide),λpt aa=>?_⟩;obtain⟨k2,x2,p2,q2⟩:=stp (o:=.lst []) (fs':=AT "parts" (.ref pt) (AT "levels" (.ref G) [])) p1 aa;refine xq1 rfl ⟨p,_,r,(xq1 rfl ⟨q2,T.cl_Grove,T.na_Grove_parts,B4,?_⟩)⟩;show k_ _ _;generalize upd (upd H1 pt _) p _=H2 at k2 x2 p2⊢;refine m ?_;refine Bv ?_;intro O R k_ m M;intro nm af;obtain⟨k3,x3,p3,q3⟩:=stp (o:=.dT []) (fs':=AT "numbers" (.ref nm) (AT "parts" (.ref pt) (AT "levels" (.ref G) []))) p2 af;refine xq1 rfl ⟨p,_,r,(xq1 rfl ⟨q3,T.cl_Grove,T.na_Grove_numbers,(by show 2<1000;decide),?_⟩)⟩;show k_ _ _;generalize upd (upd H2 nm _) p _=H3 at k3 x3 p3⊢;refine m ?_;refine Bv ?_;intro O R k_ m M;refine⟨(by show 1<=sizeLine;decide),λX l=>?_⟩;obtain⟨k4,x4,p4,q4⟩:=stp (o:=.lst [.int 0]) (fs':=AT "bares" (.ref X) (AT "numbers" (.ref nm) (AT "parts" (.ref pt) (AT "levels" (.ref G) [])))) p3 l;refine xq1 rfl ⟨p,_,r,(xq1 rfl ⟨q4,T.cl_Grove,T.na_Grove_bares,(by show 3<1000;decide),?_⟩)⟩;show k_ _ _;generalize upd (upd H3 X _) p _=H4 at k4 x4 p4⊢;refine m ?_;refine Bv ?_;intro O R k_ m M;intro Z I;obtain⟨k5,x5,p5,q5⟩:=stp (o:=.dK []) (fs':=AT "amounts" (.ref Z) (AT "bares" (.ref X) (AT "numbers" (.ref nm) (AT "parts" (.ref pt) (AT "levels" (.ref G) []))))) p4 I;refine xq1 rfl ⟨p,_,r,(xq1 rfl ⟨q5,T.cl_Grove,T.na_Grove_amounts,(by show 4<1000;decide),?_⟩)⟩;show k_ _ _;generalize upd (upd H4 Z _) p _=H5 at k5 x5 p5⊢;refine m ?_;refine Bv ?_;intro O R k_ m M;intro bx D;obtain⟨k6,x6,p6,q6⟩:=stp (o:=.dK []) (fs':=fl6 ⟨p,r,G,pt,nm,X,Z,bx⟩) p5 D;refine xq1 rfl ⟨p,_,r,(xq1 rfl ⟨q6,T.cl_Grove,T.na_Grove_boxes,(by show 5<1000;decide),?_⟩)⟩;show k_ _ (upd (upd H5 bx (.dK [])) p (.ins a.c_Grove r (fl6 ⟨p,r,G,pt,nm,X,Z,bx⟩)));generalize upd (upd H5 bx _) p _=H6 at k6 x6 p6⊢;refine m ?_;have ar:∀b v,H1 b=some v->b≠p->H6 b=some v:=λb v e n=>k6 _ _ (k5 _ _ (k4 _ _ (k3 _ _ (k2 _ _ e n) n) n) n) n;have an:∀b v,H2 b=some v->b≠p->H6 b=some v:=λb v e n=>k6 _ _ (k5 _ _ (k4 _ _ (k3 _ _ e n) n) n) n;have al:∀b v,H3 b=some v->b≠p->H6 b=some v:=λb v e n=>k6 _ _ (k5 _ _ (k4 _ _ e n) n) n;have ak:∀b v,H4 b=some v->b≠p->H6 b=some v:=λb v e n=>k6 _ _ (k5 _ _ e n) n;have np:∀{B:Hp}{x:Addr}{fs:List (Str×V)},B p=some (.ins a.c_Grove r fs)->B x=none->x≠p:=λ{B x fs} e1 e2 z=>by rw[z,e1]at e2;cases e2
  have no:∀{B Hm:Hp}{x y:Addr}{v:HO},B x=some v->B y=none->x≠y:=λ{B Hm x y v} e1 e2=>AA e1 e2;have ac:=np hp ad;have ae:=np p1 aa;have ai:=np p2 af;have aj:=np p3 l;have ah:=np p4 I;have as:=np p5 D;have y1:=ar _ _ x1 ac;have y2:=an _ _ x2 ae;have y3:=al _ _ x3 ai;have y4:=ak _ _ x4 aj;have y5:=k6 _ _ x5 ah;have C:∀{B:Hp}{x:Addr},(∀b v,H b=some v->b≠p->B b=some v)->x≠p->B x=none->H x=none:=λ{B x} kp n e=>by
   cases h:H x with
   |none=>rfl
   |some v=>rw[kp _ _ h n]at e;cases e
  have c2:∀b v,H b=some v->b≠p->H2 b=some v:=λb v e n=>k2 _ _ (k1 _ _ e n) n;have c3:∀b v,H b=some v->b≠p->H3 b=some v:=λb v e n=>k3 _ _ (c2 _ _ e n) n;have c4:∀b v,H b=some v->b≠p->H4 b=some v:=λb v e n=>k4 _ _ (c3 _ _ e n) n;have c5:∀b v,H b=some v->b≠p->H5 b=some v:=λb v e n=>k5 _ _ (c4 _ _ e n) n;have c6:∀b v,H b=some v->b≠p->H6 b=some v:=λb v e n=>k6 _ _ (c5 _ _ e n) n;have d1:G≠pt:=AA x1 aa;have d2:X≠G:=K1 (AA (k3 _ _ (k2 _ _ x1 ac) ac) l);have d3:X≠pt:=K1 (AA (k3 _ _ x2 ae) l);have d4:Z≠bx:=AA x5 D;have N0:Tl a H H6 ⟨p,r,G,pt,nm,X,Z,bx⟩ (DF 0) (CY 0) (amK 0):=⟨c6,⟨p6,y1,⟨[],y2,.nil⟩,y3,d1⟩,y4,y5,x6,⟨ad,C k1 ae aa,C c2 ai af,C c3 aj l,C c4 ah I,C c5 as D⟩,d2,d3,d4⟩
  have k':=k ⟨p,r,G,pt,nm,X,Z,bx⟩;have gp:(⟨p,r,G,pt,nm,X,Z,bx⟩:GA).p=p:=rfl;generalize (⟨p,r,G,pt,nm,X,Z,bx⟩:GA)=g at N0 k' gp;subst gp;clear k p6 q6 q5 q4 q3 q2 q1 y1 y2 y3 y4 y5 x6 c6 c5 c4 c3 c2 ar an al ak k1 k2 k3 k4 k5 k6 x1 x2 x3 x4 x5 p1 p2 p3 p4 p5 d1 d2 d3 d4 ac ae ai aj ah as D I l af aa ad C no np stp;refine⟨8,rfl,by decide,by decide,?_⟩;refine JO (n:=8) (λi σ H7=>∃u1:Option V,σ=[some (.ref g.p),u1,none,none]/\Tl a H H7 g (DF i) (CY 0) (amK i)) ⟨none,rfl,N0⟩ ?_ ?_
  ·rintro i σ H7 hi ⟨u1,rfl,N⟩;obtain⟨kp,at',l,I,D,fresh,n1,n2,n3⟩:=N;have cl:(i:Int)=0+(i:Int):=(Int.zero_add _).symm;refine xq1 rfl ⟨g.p,g.dx,(xq1 rfl ⟨at'.hp,QU g,(xq1 rfl ⟨(by show 1<=sizeLine;decide),λt ht=>?_⟩)⟩)⟩;have s1:=AB (o:=.tup [.int (0+(i:Int))]) ht;refine⟨g,DF i,t,[0+(i:Int)],0,rfl,at'.same s1,Ag,by rw[<-cl];exact Wz i,by rw[EX];lia,λY fr u=>?_⟩;rw[<-cl,<-TY]at u;have S:Fr g H7 Y:=(Ax.fr s1).trans fr;obtain⟨ts,h3,h4⟩:=at'.pt;have kd:∀(b:Addr)(U:List (Key×V)),H7 b=some (.dK U)->Y b=some (.dK U):=λb U e=>S _ _ e (AG e at'.lv A4) (AG e h3 A4) (AG e at'.nm A4);have ag:=kd _ _ I;refine xq1 rfl ⟨_,_,rfl,(xwf rfl rfl u.hp T.cl_Grove T.na_Grove_amounts (fl6_am g) (xq1 rfl ⟨g.am,(xq1 rfl ⟨Ng.k (k:=Sum.inl (0+(i:Int))) ag (by rw[amK_len];exact IR A0),?_⟩)⟩))⟩;rw[<-cl,GJ _ (Tg i i (C5 _)),<-Tf];have d:∀{b:Addr}{v:HO},Y b=some v->b≠g.am->upd Y g.am (.dK (amK (i+1))) b=some v:=λ{b v} e n=>by rw[As n];exact e
   have na:∀{b:Addr}{v:HO},Y b=some v->v≠.dK (amK i)->b≠g.am:=λ{b v} e n=>AG e ag n;obtain⟨aw,aq,au⟩:=u.pt;refine xq1 rfl ⟨?_,⟨d u.hp (na u.hp A4),d u.lv (na u.lv A4),⟨aw,d aq (na aq A4),PairedM.imp (λc q z=>d z (na z A4)) au⟩,d u.nm (na u.nm A4),u.ne⟩,?_,Ag,?_,fresh,n1,n2,n3⟩
   ·intro b v e nb;have e8:Y b=some v:=S _ _ (kp _ _ e nb) (AA e fresh.1) (AA e fresh.2.1) (AA e fresh.2.2.1);exact d e8 (AA e fresh.2.2.2.2.1)
   ·have e8:Y g.br=_:=S _ _ l n1 n2 (AG l at'.nm A4);exact d e8 (na e8 A4)
   ·exact d (kd _ _ D) (K1 n3)
  ·rintro σ H7 ⟨u1,rfl,N⟩;refine xq2 rfl rfl ⟨1,49,rfl,⟨by decide,by decide,by decide,by decide⟩,?_⟩;have N0:Tl a H H7 g (DF 8++FK 0) (CY 0) (amK 8):=by rw[show DF 8++FK 0=DF 8 from R0 _];exact N
   clear N;refine JO (lo:=1) (n:=48) (λj σ Y=>∃u2 u3:Option V,σ=[some (.ref g.p),u1,u2,u3]/\Tl a H Y g (DF 8++FK j) (CY j) (amK 8)) ⟨none,none,rfl,N0⟩ ?_ ?_
   ·rintro j σ Y hj ⟨u2,u3,rfl,N⟩;obtain⟨kp,at',l,I,D,fresh,n1,n2,n3⟩:=N;refine xwf rfl rfl at'.hp T.cl_Grove T.na_Grove_bares (Jv g) (xwi rfl rfl rfl (SqL.of l) (at_lastV (by rw[List.getLast?_map,Um];rfl)) ?_);refine xwf rfl rfl at'.hp T.cl_Grove T.na_Grove_bares (Jv g) ⟨.inl ⟨rfl,_,SqL.of l⟩,(xq1 rfl ⟨g.p,g.dx,(xq1 rfl ⟨at'.hp,QU g,(xw3 rfl rfl rfl (xq1 rfl ⟨(by show 4<=sizeLine;decide),λt ht=>(xq1 rfl ?_)⟩))⟩)⟩)⟩;have s1:=AB (o:=.tup [.int (bareN j:Int),.int (bareN j:Int),.int (bareN j:Int),.int (bareN j:Int)]) ht;have ln:(DF 8++FK j).length=8+j:=by rw[C6,EX,Qn]
    refine⟨g,DF 8++FK j,t,[(bareN j:Int),(bareN j:Int),(bareN j:Int),(bareN j:Int)],1+(j:Int),rfl,at'.same s1,Ag,Qm j,by rw[ln];lia,λH9 fr ao=>?_⟩;rw[show(1:Int)+(j:Int)=(j:Int)+1 by lia,R6,<-OV]at ao;have S:Fr g Y H9:=(Ax.fr s1).trans fr;obtain⟨ts,h3,h4⟩:=at'.pt;have kd:∀(b:Addr)(U:List (Key×V)),Y b=some (.dK U)->H9 b=some (.dK U):=λb U e=>S _ _ e (AG e at'.lv A4) (AG e h3 A4) (AG e at'.nm A4);have ab:H9 g.br=_:=S _ _ l n1 n2 (AG l at'.nm A4);refine⟨g.br,(xq2 rfl rfl ⟨ab,by rw[B8];unfold CY;rw[B8,O0];exact IR A0,?_⟩)⟩;have eb:(CY j).map V.int++[V.int ((DF 8++FK j).length:Int)]=(CY (j+1)).map V.int:=by rw[OX,D4,ln];rfl
    rw[eb];have d:∀{b:Addr}{v:HO},H9 b=some v->v≠.lst ((CY j).map V.int)->upd H9 g.br (.lst ((CY (j+1)).map V.int)) b=some v:=λ{b v} e n=>by rw[As (AG e ab n)];exact e
    refine⟨_,_,rfl,?_,ao.put ab n1 n2,Ag,d (kd _ _ I) A4,d (kd _ _ D) A4,fresh,n1,n2,n3⟩;intro b v e nb;rw[As (AA e fresh.2.2.2.1)];exact S _ _ (kp _ _ e nb) (AA e fresh.1) (AA e fresh.2.1) (AA e fresh.2.2.1)
   ·rintro σ Y ⟨u2,u3,rfl,N⟩;exact k' Y rfl N
end
end J
namespace J
open PySem L2
theorem Al.uniq{G:Gv}{i:Nat}{l m:Int}(h:Al G i l)(c:Al G i m):l=m:=by
 obtain⟨q,e,z⟩:=h;obtain⟨p,a,b⟩:=c;rw[e]at a;cases a;exact z.symm.trans b
theorem Ve{G:Gv}(ok:GOk G){i:Nat}(h:Al G i 0):i<8:=by
 obtain⟨q,e,z⟩:=h;refine V2 λn=>?_;obtain⟨_,_,_,_,_,_,l1,_⟩:=ok.node i q e n;lia
structure Cu(G:Gv)(n i:Nat)(q:Sq)(x y z w:Nat):Prop where
 g:G[i]?=some q
 ps:q.parts=[(x:Int),(y:Int),(z:Int),(w:Int)]
 lev:q.lev=(n:Int)+1
 hx:Al G x n
 hy:Al G y n
 hz:Al G z n
 hw:Al G w n
theorem Be{G:Gv}(ok:GOk G){n i:Nat}(h:Al G i ((n+1:Nat):Int)):∃q x y z w,Cu G n i q x y z w:=by
 obtain⟨q,e,g⟩:=h;have j:8<=i:=by
  refine P4 λl=>?_;rw[ok.leaf i l]at e;cases e;have:(0:Int)=((n+1:Nat):Int):=g;lia
 obtain⟨x,y,z,w,f,⟨b,a,c,d⟩,_,_⟩:=ok.node i q e j;have k:q.lev-1=(n:Int):=by lia
 rw[k]at b a c d;exact⟨q,x,y,z,w,e,f,by lia,b,a,c,d⟩
theorem Cu.app{G a:Gv}{k n i:Nat}{q:Sq}{x y z w:Nat}(go:AI G a k)(h:Cu G n i q x y z w):Cu a n i q x y z w:=⟨go.get h.g,h.ps,h.lev,go.lev h.hx,go.lev h.hy,go.lev h.hz,go.lev h.hw⟩
def DE(G:Gv):Nat->Nat->Int
 |0,i=>if i=0 then 0 else 1
 |n+1,i=>match G[i]? with
  |some q=>(q.parts.map λp=>DE G n p.toNat).sum
  |none=>0
theorem JQ{G:Gv}{n i:Nat}{q:Sq}{x y z w:Nat}(h:Cu G n i q x y z w):DE G (n+1) i=([x,y,z,w].map λk=>DE G n k).sum:=by
 rw[show DE G (n+1) i=(match G[i]? with|some q=>(q.parts.map λ(p:Int)=>DE G n p.toNat).sum|none=>0)from rfl,h.g];show(q.parts.map λ(p:Int)=>DE G n p.toNat).sum=_;rw[h.ps];rfl
theorem Jy{G a:Gv}{k:Nat}(ok:GOk G)(go:AI G a k):∀(n i:Nat),Al G i (n:Int)->DE a n i=DE G n i
 |0,i,_=>rfl
 |n+1,i,h=>by
  obtain⟨q,x,y,z,w,b⟩:=Be ok h;rw[JQ b,JQ (b.app go)];show DE a n x+(DE a n y+(DE a n z+(DE a n w+0)))=_;rw[Jy ok go n x b.hx,Jy ok go n y b.hy,Jy ok go n z b.hz,Jy ok go n w b.hw];rfl
theorem EW(G:Gv):∀(n i:Nat),0<=DE G n i
 |0,i=>by
  show 0<=if i=0 then(0:Int)else 1;split<;>lia
 |n+1,i=>by
  unfold DE;split
  ·rename_i q _;have:∀l:List Int,0<=(l.map λp=>DE G n p.toNat).sum:=by
    intro l;induction l with
    |nil=>exact Int.le_refl 0
    |cons p r a=>rw[F5,P2];have:=EW G n p.toNat;lia
   exact this _
  ·exact Int.le_refl 0
theorem JP:∀(n:Nat)(l:List Nat),l.Nodup->(∀x∈l,x<n)->l.length<=n
 |0,l,_,h=>by
  cases l with
  |nil=>exact C5 0
  |cons x r=>exact absurd (h x C8) (O6 _)
 |n+1,l,nd,h=>by
  by_cases b:n∈l
  ·have:=JP n (l.erase n) (nd.erase n) λx a=>by
    have c:=(nd.mem_erase_iff).mp a;have:=h x c.2;have:=c.1;lia
   rw[List.length_erase_of_mem b]at this;lia
  ·have:=JP n l nd λx a=>by
    have:=h x a;have:x≠n:=λz=>b (z▸a);lia
   lia
structure GF(G:Gv)(ks:List (Key×V)):Prop where
 nd:(ks.map Prod.fst).Nodup
 lt:∀k∈ks.map Prod.fst,∃i:Nat,i<G.length/\k=Sum.inl (i:Int)
theorem GF.len{G:Gv}{c:List (Key×V)}(h:GF G c):c.length<=G.length:=by
 let f:Key->Nat:=λk=>match k with|.inl i=>i.toNat|.inr _=>0
 have:=JP G.length ((c.map Prod.fst).map f) (by
  rw[O4,Z4];refine A4f (λ{a b} e g d z=>d ?_) (O4.mp h.nd);obtain⟨i,_,rfl⟩:=h.lt a e;obtain⟨j,_,rfl⟩:=h.lt b g;have:(i:Int).toNat=(j:Int).toNat:=z;rw[M4,M4]at this;rw[this]) (λx n=>by
  obtain⟨k,l,rfl⟩:=D1.mp n;obtain⟨i,m,rfl⟩:=h.lt k l;show(i:Int).toNat<_;rw[M4];exact m)
 rw[B8,B8]at this;exact this
theorem GF.app{G a:Gv}{b:List (Key×V)}(le:G.length<=a.length)(h:GF G b):GF a b:=⟨h.nd,λk c=>by
 obtain⟨i,d,e⟩:=h.lt k c;exact⟨i,by lia,e⟩⟩
theorem GF.put{G:Gv}{c:List (Key×V)}(h:GF G c){i:Nat}(g:i<G.length)(v:V):GF G (Dz c (Sum.inl (i:Int)) v):=by
 unfold Dz;by_cases a:(c.any λb=>decide (b.1=Sum.inl (i:Int)))=true
 ·rw[X5 a];have e:(c.map λb=>if b.1=Sum.inl (i:Int)then(b.1,v)else b).map Prod.fst=c.map Prod.fst:=by
   rw[T6];refine List.map_congr_left λb _=>?_;show(if b.1=Sum.inl (i:Int)then(b.1,v)else b).1=b.1;split<;>rfl
  exact⟨by rw[e];exact h.nd,by rw[e];exact h.lt⟩
 ·rw[Z8 a];refine⟨?_,λk d=>?_⟩
  ·rw[D4,T5];refine⟨h.nd,by simp,λk d m f z=>a ?_⟩;have:m=Sum.inl (i:Int):=by simpa using f
   subst this;subst z;obtain⟨b,j,l⟩:=D1.mp d;exact List.any_eq_true.mpr ⟨b,j,Z7 l⟩
  ·rw[D4]at d;rcases D3.mp d with z|z
   ·exact h.lt k z
   ·exact⟨i,g,by simpa using z⟩
structure AmOk(G:Gv)(ks:List (Key×V)):Prop where
 keys:GF G ks
 leaf:∀s:Nat,s<8->∃v,Bq ks (Sum.inl (s:Int))=some v
 val:∀(i:Nat) v,Bq ks (Sum.inl (i:Int))=some v->∃l:Nat,Al G i l/\v=.int (DE G l i)
theorem AmOk.app{G a:Gv}{k:Nat}{c:List (Key×V)}(ok:GOk G)(go:AI G a k)(h:AmOk G c):AmOk a c:=⟨h.keys.app (by obtain⟨r,e⟩:=go.pre;rw[e,C6];lia),h.leaf,λi v e=>by
 obtain⟨l,b,d⟩:=h.val i v e;exact⟨l,go.lev b,by rw[Jy ok go l i b];exact d⟩⟩
theorem am0:AmOk G0 (amK 8) where
 keys:=⟨by decide +kernel,λk c=>by
  obtain⟨p,d,rfl⟩:=D1.mp c;obtain⟨s,a,rfl⟩:=D1.mp d;have:=J1.mp a;exact⟨s,by rw[Rw];lia,rfl⟩⟩
 leaf:=λs a=>by
  match s,a with
  |0,_=>exact⟨_,rfl⟩
  |1,_=>exact⟨_,rfl⟩
  |2,_=>exact⟨_,rfl⟩
  |3,_=>exact⟨_,rfl⟩
  |4,_=>exact⟨_,rfl⟩
  |5,_=>exact⟨_,rfl⟩
  |6,_=>exact⟨_,rfl⟩
  |7,_=>exact⟨_,rfl⟩
 val:=λi v e=>by
  have b:i<8:=by
   refine V2 λz=>?_;rw[Tg 8 i z]at e;cases e
  refine⟨0,⟨_,Rx i b,rfl⟩,?_⟩
  match i,b with
  |0,_=>cases e;rfl
  |1,_=>cases e;rfl
  |2,_=>cases e;rfl
  |3,_=>cases e;rfl
  |4,_=>cases e;rfl
  |5,_=>cases e;rfl
  |6,_=>cases e;rfl
  |7,_=>cases e;rfl
structure Bx where
 l:Int
 t:Int
 w:Int
 h:Int
def Bx.ns(b:Bx):List Int:=[b.l,b.t,b.w,b.h]
def shB(half:Int)(k:Nat)(b:Bx):Bx:=⟨b.l+half*((k:Int)%2),b.t+half*((k:Int)/2),b.w,b.h⟩
def DI(half:Int):Nat->List (Option Bx)->List Bx
 |_,[]=>[]
 |k,none::r=>DI half (k+1) r
 |k,some b::r=>shB half k b::DI half (k+1) r
def mnL(l:List Int):Int:=l.min?.getD 0
def mxL(l:List Int):Int:=l.max?.getD 0
def OE(bs:List Bx):Bx:=⟨mnL (bs.map (·.l)),mnL (bs.map (·.t)),mxL (bs.map λb=>b.l+b.w)-mnL (bs.map (·.l)),mxL (bs.map λb=>b.t+b.h)-mnL (bs.map (·.t))⟩
def Pk(half:Int)(obs:List (Option Bx)):Option Bx:=match DI half 0 obs with
 |[]=>none
 |b::r=>some (OE (b::r))
def BN(G:Gv):Nat->Nat->Option Bx
 |0,i=>if i=0 then none else some ⟨0,0,1,1⟩
 |n+1,i=>match G[i]? with
  |some q=>Pk (2^n) (q.parts.map λ(p:Int)=>BN G n p.toNat)
  |none=>none
theorem Zu{l:List Int}{m:Int}(h:m∈l)(a:∀x∈l,m<=x):m=mnL l:=by
 unfold mnL;rw[List.min?_eq_some_iff.mpr ⟨h,a⟩];rfl
theorem Zs{l:List Int}{m:Int}(h:m∈l)(a:∀x∈l,x<=m):m=mxL l:=by
 unfold mxL;rw[List.max?_eq_some_iff.mpr ⟨h,a⟩];rfl
theorem EZ{G:Gv}{n i:Nat}{q:Sq}{x y z w:Nat}(h:Cu G n i q x y z w):BN G (n+1) i=Pk (2^n) [BN G n x,BN G n y,BN G n z,BN G n w]:=by
 rw[show BN G (n+1) i=(match G[i]? with|some q=>Pk (2^n) (q.parts.map λ(p:Int)=>BN G n p.toNat)|none=>none)from rfl,h.g];show Pk (2^n) (q.parts.map λ(p:Int)=>BN G n p.toNat)=_;rw[h.ps];rfl
theorem GQ{G b:Gv}{k:Nat}(ok:GOk G)(go:AI G b k):∀(n i:Nat),Al G i (n:Int)->BN b n i=BN G n i
 |0,i,_=>rfl
 |n+1,i,h=>by
  obtain⟨q,x,y,z,w,a⟩:=Be ok h;rw[EZ a,EZ (a.app go),GQ ok go n x a.hx,GQ ok go n y a.hy,GQ ok go n z a.hz,GQ ok go n w a.hw]
theorem PK{half:Int}:∀{a:List (Option Bx)},Pk half a=none ↔ ∀o∈a,o=none:=by
 intro a;have g:∀(a:List (Option Bx))(k:Nat),DI half k a=[] ↔ ∀o∈a,o=none:=by
  intro a;induction a with
  |nil=>intro k;exact⟨λ_ o c=>by simp at c,λ_=>rfl⟩
  |cons o r d =>
   intro k;cases o with
   |none =>
    rw[show DI half k (none::r)=DI half (k+1) r from rfl,d (k+1)];exact⟨λh o c=>by rcases C1.mp c with z|z;exact z;exact h o z,λh o c=>h o (C4 _ c)⟩
   |some b=>exact⟨λh=>(by cases h),λh=>(by cases h (some b) C8)⟩
 rw[<-g a 0];unfold Pk;constructor
 ·intro h;split at h
  ·assumption
  ·cases h
 ·intro h;rw[h]
theorem JU{G:Gv}(ok:GOk G):∀(n i:Nat),Al G i (n:Int)->(BN G n i=none↔DE G n i=0)
 |0,i,_=>by
  show(if i=0 then none else some (⟨0,0,1,1⟩:Bx))=none↔(if i=0 then(0:Int)else 1)=0;split
  ·exact⟨λ_=>rfl,λ_=>rfl⟩
  ·exact⟨λh=>(by cases h),λh=>A0⟩
 |n+1,i,h=>by
  obtain⟨q,x,y,z,w,a⟩:=Be ok h;rw[EZ a,JQ a,PK];show _↔DE G n x+(DE G n y+(DE G n z+(DE G n w+0)))=0;have c:=JU ok n x a.hx;have f:=JU ok n y a.hy;have b:=JU ok n z a.hz;have e:=JU ok n w a.hw;have k:=EW G n x;have j:=EW G n y;have g:=EW G n z;have nw:=EW G n w;constructor
  ·intro h;rw[c.mp (h _ A6),f.mp (h _ A6),b.mp (h _ A6),e.mp (h _ A6)];rfl
  ·intro h o d;simp only[C1,D6,K7]at d;rcases d with rfl|rfl|rfl|rfl
   ·exact c.mpr A0
   ·exact f.mpr A0
   ·exact b.mpr A0
   ·exact e.mpr A0
theorem Rv{G r:Gv}(e:G=G0++r)(j:Nat)(h:j<48):G[8+j]?=some ⟨[(bareN j:Int),(bareN j:Int),(bareN j:Int),(bareN j:Int)],(j:Int)+1⟩:=by
 rw[e];exact LT (NC j h)
theorem JA{G:Gv}(ok:GOk G){r:Gv}(e:G=G0++r):∀(n i:Nat),n<=48->Al G i (n:Int)->(BN G n i=none↔i=bareN n)
 |0,i,_,_=>by
  show(if i=0 then none else some (⟨0,0,1,1⟩:Bx))=none↔i=0;split
  ·rename_i z;exact⟨λ_=>z,λ_=>rfl⟩
  ·rename_i z;exact⟨λh=>(by cases h),λh=>absurd h z⟩
 |n+1,i,hn,h=>by
  obtain⟨q,x,y,z,w,a⟩:=Be ok h;rw[EZ a,PK];have f:=JA ok e n x A0 a.hx;have s:=JA ok e n y A0 a.hy;have c:=JA ok e n z A0 a.hz;have m:=JA ok e n w A0 a.hw;have b:=Rv e n A0;constructor
  ·intro h;have j:=f.mp (h _ A6);have d:=s.mp (h _ A6);have k:=c.mp (h _ A6);have t:=m.mp (h _ A6);show i=8+n;refine ok.one a.g b ?_;rw[a.ps,j,d,k,t]
  ·intro h;have h:i=8+n:=h;have g:=a.g;rw[h,b]at g;cases g;have p:=a.ps;have p:[(bareN n:Int),(bareN n:Int),(bareN n:Int),(bareN n:Int)]=[(x:Int),(y:Int),(z:Int),(w:Int)]:=p;injection p with p1 p
   injection p with p2 p
   injection p with p3 p
   injection p with p4 p
   intro o l;simp only[C1,D6,K7]at l;rcases l with rfl|rfl|rfl|rfl
   ·exact f.mpr (X8 p1).symm
   ·exact s.mpr (X8 p2).symm
   ·exact c.mpr (X8 p3).symm
   ·exact m.mpr (X8 p4).symm
structure BxOk(G:Gv)(H:Hp)(ks:List (Key×V)):Prop where
 keys:GF G ks
 val:∀(i:Nat) v,Bq ks (Sum.inl (i:Int))=some v->∃(l:Nat)(b:Bx)(t:Addr),Al G i l/\BN G l i=some b/\v=.ref t/\H t=some (.tup (b.ns.map V.int))
structure Bd(a:Ad)(H:Hp)(g:GA)(G:Gv):Prop where
 at':AK a H g G
 ok:GOk G
 g0:∃r,G=G0++r
 br:H g.br=some (.lst ((CY 48).map V.int))
 am:∃ks,H g.am=some (.dK ks)/\AmOk G ks
 bx:∃ks,H g.bx=some (.dK ks)/\BxOk G H ks
 n1:g.br≠g.lv
 n2:g.br≠g.pt
 n3:g.am≠g.bx
theorem Bd.new{a:Ad}{H b:Hp}{g:GA}(h:Tl a H b g G0 (CY 48) (amK 8)):Bd a b g G0:=⟨h.at',g0_ok,⟨[],by simp⟩,h.br,⟨_,h.am,am0⟩,⟨_,h.bx,⟨by simp,λk c=>by simp at c⟩,λi v e=>by cases e⟩,h.n1,h.n2,h.n3⟩
theorem Bd.ne_am{a:Ad}{H:Hp}{g:GA}{G:Gv}(h:Bd a H g G){b:Addr}{o:HO}(e:H b=some o)(n:∀c,o≠.dK c):b≠g.am/\b≠g.bx:=by
 obtain⟨c,f,_⟩:=h.am;obtain⟨d,i,_⟩:=h.bx;exact⟨AG e f (n _),AG e i (n _)⟩
theorem Bd.same{a:Ad}{H f:Hp}{g:GA}{G:Gv}(s:Ax H f)(h:Bd a H g G):Bd a f g G:=by
 obtain⟨at',ok,x,r,⟨m,p,q⟩,⟨c,k,d⟩,y,u,z⟩:=h;refine⟨at'.same s,ok,x,s _ _ r,⟨m,s _ _ p,q⟩,⟨c,s _ _ k,d.keys,λi v e=>?_⟩,y,u,z⟩;obtain⟨l,b,t,j,n,w,o⟩:=d.val i v e;exact⟨l,b,t,j,n,w,s _ _ o⟩
theorem AI.le{G a:Gv}{k:Nat}(go:AI G a k):G.length<=a.length:=by
 obtain⟨r,e⟩:=go.pre;rw[e,C6];lia
theorem Bd.fr{a:Ad}{H c:Hp}{g:GA}{G d:Gv}{m:Nat}(h:Bd a H g G)(f:Fr g H c)(k:AK a c g d)(go:AI G d m):Bd a c g d:=by
 obtain⟨at',ok,⟨r,C⟩,q,⟨N,y,M⟩,⟨j,D,s⟩,u,p,I⟩:=h;obtain⟨us,B,_⟩:=at'.pt;have keep:∀{b:Addr}{o:HO},H b=some o->(∀l,o≠.lst l)->(∀l,o≠.dT l)->c b=some o:=λ{b o} e w A=>f _ _ e (AG e at'.lv (w _)) (AG e B (w _)) (AG e at'.nm (A _));obtain⟨t,x⟩:=go.pre;refine⟨k,go.ok,⟨r++t,by rw[x,C,R6]⟩,f _ _ q u p (AG q at'.nm A4),⟨N,keep y (by intro l z;cases z) (by intro l z;cases z),M.app ok go⟩,⟨j,keep D (by intro l z;cases z) (by intro l z;cases z),s.keys.app go.le,λi v e=>?_⟩,u,p,I⟩;obtain⟨l,b,t,n,K,E,O⟩:=s.val i v e;exact⟨l,b,t,go.lev n,by rw[GQ ok go l i n];exact K,E,keep O (by intro l z;cases z) (by intro l z;cases z)⟩
theorem Bd.put{a:Ad}{H:Hp}{g:GA}{G:Gv}{l:Addr}{xs:List V}{o:HO}(h:Bd a H g G)(k:H l=some (.lst xs))(E:l≠g.lv)(q:l≠g.pt)(z:l≠g.br):Bd a (upd H l o) g G:=by
 obtain⟨at',ok,s,f,⟨C,p,B⟩,⟨d,u,j⟩,x,r,y⟩:=h;have c:∀{b v},H b=some v->v≠.lst xs->upd H l o b=some v:=λ{b v} e n=>by rw[As (AG e k n)];exact e
 refine⟨at'.put k E q,ok,s,by rw[As (K1 z)];exact f,⟨C,c p A4,B⟩,⟨d,c u A4,j.keys,λi v e=>?_⟩,x,r,y⟩;obtain⟨l,b,t,m,A,w,D⟩:=j.val i v e;exact⟨l,b,t,m,A,w,c D A4⟩
def FrQ(g:GA)(H H':Hp):Prop:=∀b o,H b=some o->b≠g.am->b≠g.bx->H' b=some o
theorem FrQ.refl(g:GA)(H:Hp):FrQ g H H:=λ_ _ e _ _=>e
theorem FrQ.trans{g:GA}{d c a:Hp}(h:FrQ g d c)(j:FrQ g c a):FrQ g d a:=λb o e i f=>j b o (h b o e i f) i f
theorem Ax.frq{g:GA}{a c:Hp}(h:Ax a c):FrQ g a c:=λb o e _ _=>h b o e
theorem AK.dict{a:Ad}{H:Hp}{g:GA}{G:Gv}{d:Addr}{f:List (Key×V)}{o:HO}(i:H d=some (.dK f))(h:AK a H g G):AK a (upd H d o) g G:=by
 obtain⟨l,m,⟨p,j,r⟩,k,s⟩:=h;have c:∀{b v},H b=some v->v≠.dK f->upd H d o b=some v:=λ{b v} e n=>by rw[As (AG e i n)];exact e
 exact⟨c l A4,c m A4,⟨p,c j A4,PairedM.imp (λt q z=>c z A4) r⟩,c k A4,s⟩
theorem Bd.bx_put{a:Ad}{H:Hp}{g:GA}{G:Gv}{j ks2:List (Key×V)}(h:Bd a H g G)(e:H g.bx=some (.dK j))(k:BxOk G H ks2):Bd a (upd H g.bx (.dK ks2)) g G/\FrQ g H (upd H g.bx (.dK ks2)):=by
 obtain⟨at',ok,A,w,⟨f,q,B⟩,⟨_,_,_⟩,u,x,m⟩:=h;have c:∀{b v},H b=some v->v≠.dK j->upd H g.bx (.dK ks2) b=some v:=λ{b v} d n=>by rw[As (AG d e n)];exact d
 refine⟨⟨at'.dict e,ok,A,c w A4,⟨f,by rw[As m];exact q,B⟩,⟨_,Ag,k.keys,λi v e=>?_⟩,u,x,m⟩,λb o d _ z=>by rw[As z];exact d⟩;obtain⟨l,b,t,p,r,y,s⟩:=k.val i v e;exact⟨l,b,t,p,r,y,c s A4⟩
theorem Sy(g:GA):(fl6 g).lookup ("boxed" : Str)=none:=GB g A1 A1 A1 A1 A1 A1
theorem Sw(g:GA):(fl6 g).lookup ("measured" : Str)=none:=GB g A1 A1 A1 A1 A1 A1
theorem no_span(g:GA):(fl6 g).lookup ("span" : Str)=none:=GB g A1 A1 A1 A1 A1 A1
theorem Cu.mem{G:Gv}{n i:Nat}{q:Sq}{x y z w:Nat}(h:Cu G n i q x y z w){j:Nat}{v:V}(e:(q.parts.map V.int)[j]?=some v):∃k:Nat,v=.int k/\Al G k n/\q.parts[j]?=some (k:Int):=by
 rw[C3]at e;obtain⟨p,a,rfl⟩:=F3.mp e;have b:=F1 a;rw[h.ps]at b;simp only[C1,D6,K7]at b;rcases b with rfl|rfl|rfl|rfl
 ·exact⟨x,rfl,h.hx,a⟩
 ·exact⟨y,rfl,h.hy,a⟩
 ·exact⟨z,rfl,h.hz,a⟩
 ·exact⟨w,rfl,h.hw,a⟩
section
variable{P:Program}{w:World}{K:W.Frag}{mg:Str->Option Value}{base:Heap}{a:Ad}
end
seal L2.PA L2.PE L2.PS L2.PSs L2.PT L2.PW
theorem OI(half:Int):∀(l r:List (Option Bx))(k:Nat),DI half k (l++r)=DI half k l++DI half (k+l.length) r
 |[],r,k=>rfl
 |none::l,r,k=>by
  show DI half (k+1) (l++r)=DI half (k+1) l++DI half (k+(l.length+1)) r;rw[OI half l r (k+1),show k+1+l.length=k+(l.length+1) by lia]
 |some b::l,r,k=>by
  show shB half k b::DI half (k+1) (l++r)=shB half k b::(DI half (k+1) l++DI half (k+(l.length+1)) r);rw[OI half l r (k+1),show k+1+l.length=k+(l.length+1) by lia]
theorem LU(half:Int):∀(l:List (Option Bx))(k:Nat),(DI half k l).length<=l.length
 |[],k=>C5 _
 |none::l,k=>D0 (LU half l (k+1)) (W6 _)
 |some b::l,k=>R8 (LU half l (k+1))
theorem PairedM.getL{α β:Type}{F:α->β->Prop}:∀{l:List α}{m:List β}{i:Nat}{x:α},Paired F l m->l[i]?=some x->∃y,m[i]?=some y/\F x y
 |_,_,_,_,.nil,e=>by simp at e
 |_,_,0,_,.cons r _,e=>by simp at e;subst e;exact⟨_,rfl,r⟩
 |_,_,i+1,x,.cons _ t,e=>by
  obtain⟨y,a,b⟩:=PairedM.getL (i:=i) (x:=x) t (by simpa using e);exact⟨y,by simpa using a,b⟩
def MI(H:Hp)(t:Addr)(b:Bx):Prop:=H t=some (.tup (b.ns.map V.int))
theorem NG{β:Type}{K:W.Frag}{k:Nat}{cs:List Nat}{g:TG}{tc:TT}{i:TE}{σ:St}{H:Hp}{fin:List V->Hp->Prop}{D:Addr->β->Prop}{L:Addr}{c:List Addr}{bs:List β}(col:β->Int)(n:H L=some (.lst (c.map V.ref)))(f:Paired D c bs)(few:c.length<1000)
  (l:∀t b a N,D t b->a.length<sizeLine->N (a++[.int (col b)]) H->Bt k cs g tc i σ (.ref t) a H N) (m:fin ((bs.map col).map V.int) H):FY k cs g tc i (Itl K L) σ H fin:=by
 have p:c.length=bs.length:=A0a f;refine ED (xs:=c.map V.ref) (λj a e=>H=e/\a=((bs.take j).map col).map V.int) ⟨rfl,rfl⟩ (λj a e _ z=>z.1▸SqL.of n) ?_ ?_
 ·rintro j v a e h ⟨rfl,rfl⟩;rw[C3]at h;obtain⟨t,o,rfl⟩:=F3.mp h;obtain⟨b,q,d⟩:=PairedM.getL f o;refine l t b _ _ d (by rw[B8,B8,M9];exact IR A0) ⟨rfl,?_⟩;rw[N2,q,D4,D4];rfl
 ·rintro a e ⟨rfl,rfl⟩;rw[B8,p,N7];exact m
section
variable{P:Program}{w:World}{K:W.Frag}{mg:Str->Option Value}{base:Heap}{a:Ad}
inductive Vx(vs:List V)(H:Hp)(Q:VK):Prop
 |mk (t:Addr) (b:Bx) (dx dy:Int) (_:vs=[.ref t,.int dx,.int dy]) (_:MI H t b) (_:∀t',H t'=none->Q (.ref t') (upd H t' (.tup [.int (b.l+dx),.int (b.t+dy),.int b.w,.int b.h]))):Vx vs H Q
def LA:Sp:=λvs H Q _=>Vx vs H Q
theorem YV(F:Fun K "shifted_box" "shifted_box" Gc f fd)(T:Top K mg a):AJ P w K mg base CX0 1 f fd Pl LA:=by
  refine F.ok NR (λ_ _ _ _ h=>by rcases h;subst_vars;rfl) λe A d s H vs Q E g h=>?_
  obtain⟨t,b,i,m,rfl,c,k⟩:=h;have c:H t=some (.tup [.int b.l,.int b.t,.int b.w,.int b.h]):=c;refine⟨_,(Af (Ar (CD (AV AQ (Ai Aj (pv 0) Ac (λ_ _=>rfl)) (pv 1) (AV AQ (Ai Aj (pv 0) Ac (λ_ _=>rfl)) (pv 2) (Aa (Ai Aj (pv 0) Ac (λ_ _=>rfl)) (Aa (Ai Aj (pv 0) Ac (λ_ _=>rfl)) Ab))))))),?_⟩
  try dsimp only[cxK]
  refine xwi rfl rfl rfl (SqT.of c) (Ah (j:=0) rfl) (xwb rfl rfl rfl (xwi rfl rfl rfl (SqT.of c) (Ah (j:=1) rfl) (xwb rfl rfl rfl (xwi rfl rfl rfl (SqT.of c) (Ah (j:=2) rfl) (xwi rfl rfl rfl (SqT.of c) (Ah (j:=3) rfl) ⟨(by show 4<=sizeLine;decide),λt' n=>k t' n⟩)))))
inductive VA(vs:List V)(H:Hp)(Q:VK):Prop
 |mk (L:Addr) (ts:List Addr) (bs:List Bx) (_:vs=[.ref L]) (_:H L=some (.lst (ts.map V.ref))) (_:Paired (MI H) ts bs) (_:bs≠[]) (_:ts.length<1000) (_:∀t' H',Ax H H'->MI H' t' (OE bs)->Q (.ref t') H'):VA vs H Q
def Nm:Sp:=λvs H Q _=>VA vs H Q
theorem YZ(F:Fun K "least_box" "least_box" CO f fd)(T:Top K mg a):AJ P w K mg base CX0 1 f fd FT Nm:=by
  refine F.ok DM (λ_ _ _ _ h=>by rcases h;subst_vars;rfl) λaa A D s H vs Q E hr h=>?_
  obtain⟨L,U,bs,rfl,n,u,ne,few,k⟩:=h;have c:∀col:Bx->Int,bs.map col≠[]:=λcol z=>ne (S3.mp z);refine⟨_,(Ae (An (i:=1) DM.nd rfl (Or.inl rfl) (Au (Qg rfl) rfl T.b_min K8 (Aa (Df rfl (BM.of (So:=Ak CO) (No:=EA) (N:=["box"]) (k:=1) (cs:=[]) rfl rfl A1) (DT (pv 0)) (λ_ _ _=>(Bz (i:=0) A1 rfl rfl)) (λ_ _ _=>BS) (λ_ _ _=>(Ai (JN (K:=K) rfl) (pv 0) Ac (λ_ _=>rfl)))) Ab))) (Ae (An (i:=2) DM.nd rfl (Or.inl rfl) (Au (Qg rfl) rfl T.b_min K8 (Aa (Df rfl (BM.of (So:=Ak CO) (No:=EA) (N:=["box"]) (k:=1) (cs:=[]) rfl rfl A1) (DT (pv 0)) (λ_ _ _=>(Bz (i:=0) A1 rfl rfl)) (λ_ _ _=>BS) (λ_ _ _=>(Ai (JN (K:=K) rfl) (pv 0) Ac (λ_ _=>rfl)))) Ab))) (Ae (An (i:=3) DM.nd rfl (Or.inl rfl) (Au (Qh rfl) rfl T.b_max K5 (Aa (Df rfl (BM.of (So:=Ak CO) (No:=EA) (N:=["box"]) (k:=1) (cs:=[]) rfl rfl A1) (DT (pv 0)) (λ_ _ _=>(Bz (i:=0) A1 rfl rfl)) (λ_ _ _=>BS) (λ_ _ _=>(Ay AQ (Ai (JN (K:=K) rfl) (pv 0) Ac (λ_ _=>rfl)) (Ai (JN (K:=K) rfl) (pv 0) Ac (λ_ _=>rfl))))) Ab))) (Ae (An (i:=4) DM.nd rfl (Or.inl rfl) (Au (Qh rfl) rfl T.b_max K5 (Aa (Df rfl (BM.of (So:=Ak CO) (No:=EA) (N:=["box"]) (k:=1) (cs:=[]) rfl rfl A1) (DT (pv 0)) (λ_ _ _=>(Bz (i:=0) A1 rfl rfl)) (λ_ _ _=>BS) (λ_ _ _=>(Ay AQ (Ai (JN (K:=K) rfl) (pv 0) Ac (λ_ _=>rfl)) (Ai (JN (K:=K) rfl) (pv 0) Ac (λ_ _=>rfl))))) Ab))) (Af (Ar (CD (Aa (pv 1) (Aa (pv 2) (AV Bg (pv 3) (pv 1) (AV Bg (pv 4) (pv 2) Ab))))))))))),?_⟩
  try dsimp only[cxK]
  refine xq1 rfl ⟨L,rfl,⟨_,SqL.of n⟩,NG (·.l) n u few (λt b m N d g e=>⟨⟨[some (.ref t)],rfl,rfl⟩,g,IW (xwi rfl rfl rfl (SqT.of d) (Ah (j:=0) rfl) e)⟩) λq1 h1=>?_⟩;refine⟨q1,(xq1 rfl ⟨SqL.of Ag,c _,λm1 Z O=>?_⟩)⟩;obtain rfl:=Zu Z O;have x:=AB (o:=.lst ((bs.map (·.l)).map V.int)) h1;generalize upd H q1 (.lst ((bs.map (·.l)).map V.int))=H1 at x⊢;have r:=x _ _ n;have I:Paired (MI H1) U bs:=PairedM.imp (λt b z=>x _ _ z) u;refine xq1 rfl ⟨L,rfl,⟨_,SqL.of r⟩,NG (·.t) r I few (λt b m N d g e=>⟨⟨[some (.ref t)],rfl,rfl⟩,g,IW (xwi rfl rfl rfl (SqT.of d) (Ah (j:=1) rfl) e)⟩) λq2 h2=>?_⟩;refine⟨q2,(xq1 rfl ⟨SqL.of Ag,c _,λm2 R B=>?_⟩)⟩;obtain rfl:=Zu R B;have v:=x.trans (AB (o:=.lst ((bs.map (·.t)).map V.int)) h2);generalize upd H1 q2 (.lst ((bs.map (·.t)).map V.int))=H2 at v⊢;have p:=v _ _ n;have G:Paired (MI H2) U bs:=PairedM.imp (λt b z=>v _ _ z) u;refine xq1 rfl ⟨L,rfl,⟨_,SqL.of p⟩,NG (λb=>b.l+b.w) p G few (λt b m N d g e=>⟨⟨[some (.ref t)],rfl,rfl⟩,g,IW (xwi rfl rfl rfl (SqT.of d) (Ah (j:=0) rfl) (xwi rfl rfl rfl (SqT.of d) (Ah (j:=2) rfl) (xq2 rfl rfl e)))⟩) λq3 h3=>?_⟩;refine⟨q3,(xq1 rfl ⟨SqL.of Ag,c _,λm3 X S=>?_⟩)⟩;obtain rfl:=Zs X S;have y:=v.trans (AB (o:=.lst ((bs.map λb=>b.l+b.w).map V.int)) h3);generalize upd H2 q3 (.lst ((bs.map λb=>b.l+b.w).map V.int))=H3 at y⊢;have q:=y _ _ n;have Y:Paired (MI H3) U bs:=PairedM.imp (λt b z=>y _ _ z) u;refine xq1 rfl ⟨L,rfl,⟨_,SqL.of q⟩,NG (λb=>b.t+b.h) q Y few (λt b m N d g e=>⟨⟨[some (.ref t)],rfl,rfl⟩,g,IW (xwi rfl rfl rfl (SqT.of d) (Ah (j:=1) rfl) (xwi rfl rfl rfl (SqT.of d) (Ah (j:=3) rfl) (xq2 rfl rfl e)))⟩) λq4 h4=>?_⟩;refine⟨q4,(xq1 rfl ⟨SqL.of Ag,c _,λm4 M C=>?_⟩)⟩;obtain rfl:=Zs M C;have s4:=y.trans (AB (o:=.lst ((bs.map λb=>b.t+b.h).map V.int)) h4);generalize upd H3 q4 (.lst ((bs.map λb=>b.t+b.h).map V.int))=H4 at s4⊢;exact xw3 rfl rfl rfl (xwb rfl rfl rfl (xw2 rfl rfl (xq2 rfl rfl ⟨(by show 4<=sizeLine;decide),λt5 h5=>k t5 _ (s4.trans (AB h5)) Ag⟩)))
inductive SpBox(a:Ad)(n:Nat)(vs:List V)(H:Hp)(Q:VK):Prop
 |mk (g:GA) (G:Gv) (i l:Nat) (_:vs=[.ref g.p,.int i]) (_:Bd a H g G) (_:Al G i l) (_:l<n) (_:G.length<9000000) (_:(BN G l i=none->∀H',FrQ g H H'->Bd a H' g G->Q .non H')) (_:∀b,BN G l i=some b->∀t H',FrQ g H H'->Bd a H' g G->MI H' t b->Q (.ref t) H'):SpBox a n vs H Q
def Se(a:Ad)(n:Nat):Sp:=λvs H Q _=>SpBox a n vs H Q
inductive SpMea(a:Ad)(n:Nat)(vs:List V)(H:Hp)(Q:VK):Prop
 |mk (g:GA) (G:Gv) (i l:Nat) (b:Bx) (_:vs=[.ref g.p,.int i]) (_:Bd a H g G) (_:Al G i l) (_:l<n) (_:G.length<9000000) (_:BN G l i=some b) (_:∀t H',FrQ g H H'->Bd a H' g G->MI H' t b->Q (.ref t) H'):SpMea a n vs H Q
def spMea(a:Ad)(n:Nat):Sp:=λvs H Q _=>SpMea a n vs H Q
theorem Uv(m:Nat){l:Int}(e:l=(m:Int)+1):(1:Int)*2^(l-1).toNat=2^m:=by
 rw[e,Int.one_mul,show((m:Int)+1-1).toNat=m by lia]
theorem ok_mea{n d:Nat}(F:Fun K "measured" "Grove.measured" Db f fd)(T:Top K mg a)(hd:1<=d)(aG:Cal P w K mg base CX0 1 "shifted_box" Pl LA)(aW:Cal P w K mg base CX0 1 "least_box" FT Nm)(aS:BK P w K mg base CX0 d a.c_Grove "boxed" Jt (Se a n)):AJ P w K mg base CX0 (d+1) f fd Jt (spMea a (n+1)):=by
 refine F.ok Br (λvs H Q E h=>?_) (λao A am s H vs Q E hr h=>?_)
 ·obtain⟨g,G,i,l,b,rfl,_⟩:=h;rfl
 ·obtain⟨g,G,i,l,b,rfl,N,hl,ln,few,eb,k⟩:=h;obtain⟨q0,e0,l0⟩:=id hl;refine⟨_,(Ae (An (i:=2) Br.nd rfl (Or.inl rfl) (Ai Av (AC (pv 0) rfl) (pv 1) (λ_ _=>rfl))) (Ae (AN (Aw Cy (pv 2) Ac (AD _)) (Af (Ar (CD (AL (AL (AL (AL Ab))))))) AE) (Ae (An (i:=3) Br.nd rfl (Or.inl rfl) (Ay CU Ac (Ay Bg (pv 2) Ac))) (Ae (An (i:=4) Br.nd rfl (Or.inl rfl) (CS Ab)) (Ae (Ir K9 rfl (Ny true rfl T.b_enumerate (Aa (Ai Av (AC (pv 0) rfl) (pv 1) (λ_ _=>rfl)) Ab)) (Oh rfl (Do (CG (i:=5) Br.nd rfl (Or.inl rfl)) (Do (CG (i:=6) Br.nd rfl (Or.inl rfl)) LL))) (Ae (An (i:=7) Br.nd rfl (Or.inl rfl) (AF (pv 0) aS (rm hr) Ao (Aa (pv 6) Ab))) (Af (AN (Aw QS (pv 7) DA (AD _)) (Af (Co (GK K6 A0d A0e Ek (pv 4) (Aa (Ap aG (rm hr) rfl Ao (Aa (pv 7) (AV CV (pv 3) (Ay BG (pv 5) Ac) (AV CV (pv 3) (Ay Du (pv 5) Ac) Ab)))) Ab)))) AE)))) (Af (Ar (Ap aW (rm hr) rfl Ao (Aa (pv 4) Ab))))))))),?_⟩
  try dsimp only[cxK]
  refine⟨_,rfl,g.p,_,g.dx,_,_,rfl,N.at'.hp,T.cl_Grove,T.na_Grove_levels,FJ g,_,rfl,g.lv,_,(i:Int),.int q0.lev,rfl,rfl,SqL.of N.at'.lv,Ah (by rw[C3,e0];rfl),?_⟩;cases l with
  |zero =>
   rw[l0];refine xq1 rfl ⟨rfl,(xq1 rfl (BJ ⟨(by show 4<=sizeLine;decide),λt U=>?_⟩))⟩;have e:b=⟨0,0,1,1⟩:=by
    have eb:(if i=0 then none else some (⟨0,0,1,1⟩:Bx))=some b:=eb;split at eb
    ·cases eb
    ·cases eb;rfl
   subst e;have sm:=AB (o:=.tup [.int 0,.int 0,.int 1,.int 1]) U;exact k t _ (Ax.frq sm) (N.same sm) Ag
  |succ m =>
   have ak:q0.lev=(m:Int)+1:=by rw[l0];lia
   refine xq1 rfl ⟨rfl,(xq1 rfl ?_)⟩;rw[X4 (by intro z;injection z with z;lia)];obtain⟨q,x,y,z,w,M⟩:=Be N.ok hl;obtain⟨ts,h3,h4⟩:=N.at'.pt;obtain⟨t,et,U⟩:=PairedM.get h4 M.g;have U:H t=some (.tup (q.parts.map V.int)):=U;have nt:=N.ne_am U (by intro l z;cases z);refine Bc (xwb rfl rfl rfl (xq2 rfl rfl ⟨⟨by lia,by have:=(N.ok.lev e0).2;lia,by decide⟩,?_⟩));rw[show(λ(i j:Int)=>V.int (i*2^j.toNat)) 1 (q0.lev-1)=V.int (2^m)from K3 V.int (Uv m ak)];refine⟨(by show 0<=sizeLine;decide),λL hL=>?_⟩;have m1:L≠g.lv:=K1 (AA N.at'.lv hL);have m2:L≠g.pt:=K1 (AA h3 hL);have m3:L≠g.br:=K1 (AA N.br hL);have s1:=AB (o:=.lst []) hL;have af:upd H L (.lst []) L=some (.lst []):=Ag;generalize upd H L (.lst [])=H1 at s1 af⊢;have ad:=N.same s1;have al:=s1 _ _ h3;have an:=s1 _ _ U;generalize I:[BN G m x,BN G m y,BN G m z,BN G m w]=r;have B:r.length=4:=by rw[<-I];rfl
   have ac:BN G (m+1) i=Pk (2^m) r:=by rw[EZ M,I]
   have ag:∀(j k:Nat),q.parts[j]?=some (k:Int)->r[j]?=some (BN G m k):=by
    intro j k e;rw[M.ps]at e;rw[<-I]
    match j,e with
    |0,e=>have e:some (x:Int)=some (k:Int):=e;rw[show x=k from X8 (K0 e)];rfl
    |1,e=>have e:some (y:Int)=some (k:Int):=e;rw[show y=k from X8 (K0 e)];rfl
    |2,e=>have e:some (z:Int)=some (k:Int):=e;rw[show z=k from X8 (K0 e)];rfl
    |3,e=>have e:some (w:Int)=some (k:Int):=e;rw[show w=k from X8 (K0 e)];rfl
    |j+4,e=>simp at e
   refine xwf rfl rfl ad.at'.hp T.cl_Grove T.na_Grove_parts (Ce g) (xwi rfl rfl rfl (SqL.of al) (Ah (by rw[C3,et];rfl)) ⟨t,rfl,⟨_,SqT.of an⟩,?_⟩);refine LV (b:=true) (xs:=q.parts.map V.int) (λj σ S=>∃(us:List Addr)(u5 u6 u7:Option V),σ=[some (.ref g.p),some (.int i),some (.int q0.lev),some (.int (2^m)),some (.ref L),u5,u6,u7]/\FrQ g H S/\Bd a S g G/\S L=some (.lst (us.map V.ref))/\Paired (MI S) us (DI (2^m) 0 (r.take j))) ⟨[],none,none,none,rfl,Ax.frq s1,ad,af,.nil⟩ (λj σ S _ ⟨_,_,_,_,_,fr,_⟩=>SqT.of (fr _ _ U nt.1 nt.2)) ?_ ?_
   ·rintro j v σ S T' ev ⟨us,u5,u6,u7,rfl,fr,aa,Z,pr⟩ nT;obtain⟨k',rfl,hk,ek⟩:=M.mem ev;have eo:=ag j k' ek;have hj:j<4:=by rw[<-B];exact(B9.mp eo).1
    have lu:us.length<=4:=by
     rw[A0a pr];have:=LU (2^m) (r.take j) 0;rw[M9]at this;lia
    have s2:=AB (o:=.tup [.int j,.int k']) nT;refine SS Ag ?_;generalize upd S T' (.tup [.int j,.int k'])=H3 at s2⊢;have O:=aa.same s2;have ge:DI (2^m) 0 (r.take (j+1))=DI (2^m) 0 (r.take j)++DI (2^m) j [BN G m k']:=by
     rw[N2,eo,U3,OI,M9,B,N9,Nat.min_eq_left A0]
    have nL:∀{C:Hp},FrQ g H3 C->C L=some (.lst (us.map V.ref)):=λ{C} f4=>by
     have:=s2 _ _ Z;have n:=O.ne_am this (by intro l z;cases z);exact f4 _ _ this n.1 n.2
    have nP:∀{C:Hp},FrQ g H3 C->Paired (MI C) us (DI (2^m) 0 (r.take j)):=λ{C} f4=>PairedM.imp (λt b z=>by
     have:=s2 _ _ z;have n:=O.ne_am this (by intro l z;cases z);exact f4 _ _ this n.1 n.2) pr
    refine xq1 rfl ⟨g.p,g.dx,(xq1 rfl ⟨O.at'.hp,Sy g,(xq1 rfl ⟨g,G,k',m,rfl,O,hk,by lia,few,λen C f4 Y=>?_,λu ah t4 C f4 Y aj=>?_⟩)⟩)⟩
    ·refine xq1 rfl ⟨rfl,(xq1 rfl (Bc ⟨us,_,_,_,rfl,(fr.trans (Ax.frq s2)).trans f4,Y,nL f4,?_⟩))⟩;rw[ge,en];show Paired _ us (_++[]);rw[R0];exact nP f4
    ·refine xq1 rfl ⟨rfl,(xq1 rfl (BJ ?_))⟩;refine xq1 rfl ⟨.inl ⟨rfl,_,SqL.of (nL f4)⟩,(xw3 rfl rfl rfl (xq2 rfl rfl ⟨B1,(xq2 rfl rfl ⟨.inr ⟨by lia,by lia⟩,(xw2 rfl rfl (xq2 rfl rfl ⟨⟨by decide,by decide⟩,(xq2 rfl rfl ⟨.inr ⟨by lia,by lia⟩,?_⟩)⟩))⟩)⟩))⟩;refine⟨t4,u,_,_,rfl,aj,λt5 h5=>?_⟩;have s5:=AB (o:=.tup [.int (u.l+2^m*((j:Int)%2)),.int (u.t+2^m*((j:Int)/2)),.int u.w,.int u.h]) h5;have ae:MI (upd C t5 (.tup [.int (u.l+2^m*((j:Int)%2)),.int (u.t+2^m*((j:Int)/2)),.int u.w,.int u.h])) t5 (shB (2^m) j u):=Ag;generalize upd C t5 (.tup [.int (u.l+2^m*((j:Int)%2)),.int (u.t+2^m*((j:Int)/2)),.int u.w,.int u.h])=H5 at s5 ae⊢;have X:=s5 _ _ (nL f4);have ai:=Y.same s5;refine⟨L,(xq2 rfl rfl ⟨X,by rw[B8];exact IR A0,?_⟩)⟩;have D:∀{c:Addr}{l:List V},H5 c=some (.tup l)->upd H5 L (.lst (us.map V.ref++[.ref t5])) c=some (.tup l):=λ{c l} e=>by rw[As (AG e X A4)];exact e
     refine⟨us++[t5],_,_,_,rfl,?_,ai.put X m1 m2 m3,by rw[Ag,D4];rfl,?_⟩
     ·intro c o e n1 n2;have e5:=s5 _ _ (((fr.trans (Ax.frq s2)).trans f4) _ _ e n1 n2);rw[As (AA e hL)];exact e5
     ·rw[ge,ah];exact A2f (PairedM.imp (λc b z=>D (s5 _ _ z)) (nP f4)) (D ae)
   ·rintro σ S ⟨us,u5,u6,u7,rfl,fr,aa,Z,pr⟩;rw[B8,show q.parts.length=r.length by rw[M.ps,B];rfl,N7]at pr;have R:Pk (2^m) r=some b:=by rw[<-ac];exact eb
    have lu:us.length<=4:=by
     rw[A0a pr];have:=LU (2^m) r 0;lia
    have e3:DI (2^m) 0 r≠[]/\OE (DI (2^m) 0 r)=b:=by
     unfold Pk at R;split at R
     ·cases R
     ·rename_i b1 r1 eg;rw[eg];exact⟨A4,K0 R⟩
    refine xq1 rfl ⟨L,us,_,rfl,Z,pr,e3.1,by lia,λt' H' s' ab=>?_⟩;rw[e3.2]at ab;exact k t' H' (fr.trans (Ax.frq s')) (aa.same s') ab
theorem bareL_at{l:Nat}(h:l<=48):((CY 48).map V.int)[l]?=some (.int (bareN l:Int)):=by
 unfold CY;rw[C3,C3,Q7 A0];rfl
theorem ok_boxS{n d:Nat}(F:Fun K "boxed" "Grove.boxed" Er f fd)(T:Top K mg a)(cG:BK P w K mg base CX0 d a.c_Grove "measured" Jt (spMea a n)):AJ P w K mg base CX0 (d+1) f fd Jt (Se a n):=by
  refine F.ok DQ (λ_ _ _ _ h=>by rcases h;subst_vars;rfl) λaa A O s H vs Q E S h=>?_
  obtain⟨g,G,i,l,rfl,c,x,ln,few,k1,k2⟩:=h;obtain⟨q0,X,l0⟩:=id x;have y:l<=48:=by have:=(c.ok.lev X).2;lia
  obtain⟨ks,I,B⟩:=c.bx;have lk:=B.keys.len;obtain⟨r,eg⟩:=c.g0;have V:=JA c.ok eg l i y x;refine⟨_,(Ae (AN (Aw Cy (pv 1) (Ai Av (AC (pv 0) rfl) (Ai Av (AC (pv 0) rfl) (pv 1) (λ_ _=>rfl)) (λ_ _=>rfl)) (AD _)) (Af (Ar DA)) AE) (Ae (An (i:=2) DQ.nd rfl (Or.inl rfl) (LN (GO S) (AC (pv 0) rfl) (pv 1) ⟨rfl,rfl,rfl,rfl⟩)) (Ae (AN (Aw Jp (pv 2) DA (AD _)) (Ae (An (i:=2) DQ.nd rfl (Or.inl rfl) (AF (pv 0) cG (rm S) Ao (Aa (pv 1) Ab))) (Af (JG (GO S) (AC (pv 0) rfl) (pv 1) (pv 2) rfl))) AE) (Af (Ar (pv 2)))))),?_⟩
  try dsimp only[cxK]
  refine xw2 rfl rfl (xq5 c.at'.hp T.cl_Grove T.na_Grove_bares (Jv g) (xwf rfl rfl c.at'.hp T.cl_Grove T.na_Grove_levels (FJ g) (xwi rfl rfl rfl (SqL.of c.at'.lv) (Ah (by rw[C3,X];rfl)) (xq4 rfl rfl (SqL.of c.br) (by rw[l0];exact Ah (bareL_at y)) ⟨rfl,(xq1 rfl ?_)⟩))));refine EC (λU=>?_) (λU=>?_)
  ·have ei:i=bareN l:=by
    have:=K2 U;injection this with this
    exact X8 this
   exact k1 (V.mpr ei) H (FrQ.refl g H) c
  ·have ne:¬i=bareN l:=λz=>U (by rw[z];exact Z7 rfl);obtain⟨b,C⟩:∃b,BN G l i=some b:=by
    cases e:BN G l i with
    |none=>exact absurd (V.mp e) ne
    |some b=>exact⟨b,rfl⟩
   refine xwf rfl rfl c.at'.hp T.cl_Grove T.na_Grove_boxes (ZV g) ⟨g.bx,rfl,.inl ⟨_,.inl I⟩,(xq1 rfl ⟨_,IU.k (k:=Sum.inl (i:Int)) I,?_⟩)⟩;cases e:Bq ks (Sum.inl (i:Int))with
   |some v =>
    obtain⟨l',b',t,R,D,rfl,ht⟩:=B.val i v e;have el:l'=l:=X8 (R.uniq x);subst el;rw[C]at D;cases D;exact xq1 rfl ⟨rfl,(xq1 rfl (Bc (xq1 rfl (k2 b C t H (FrQ.refl g H) c ht))))⟩
   |none =>
    refine xq1 rfl ⟨rfl,(xq1 rfl (BJ (xq1 rfl ⟨g.p,g.dx,(xq1 rfl ⟨c.at'.hp,Sw g,(xq1 rfl ⟨g,G,i,l,b,rfl,c,x,ln,few,C,λt H2 f2 o u=>?_⟩)⟩)⟩)))⟩;obtain⟨ks2,q,m⟩:=o.bx;have Z:=m.keys.len;obtain⟨N,Y⟩:=o.bx_put q (ks2:=Dz ks2 (Sum.inl (i:Int)) (.ref t)) ⟨m.keys.put x.lt _,λj v M=>by
     rw[IV]at M;split at M
     ·rename_i z;injection z with z
      have:j=i:=X8 z;subst this;cases M;exact⟨l,b,t,x,C,rfl,u⟩
     ·exact m.val j v M⟩
    have nt:=o.ne_am u (by intro l z;cases z);exact xw2 rfl rfl (xq5 o.at'.hp T.cl_Grove T.na_Grove_boxes (ZV g) (xq1 rfl ⟨g.bx,(xq1 rfl ⟨Ng.k (k:=Sum.inl (i:Int)) q (IR A0),(xq1 rfl (k2 b C t _ (f2.trans Y) N (Y _ _ u nt.1 nt.2)))⟩)⟩))
theorem Zg{f:Addr}{j:FuncData}{o:Addr}{b:FuncData}(F:Fun K "boxed" "Grove.boxed" Er f j)(r:Fun K "measured" "Grove.measured" Db o b)(T:Top K mg a)(t:Py K a.c_Grove "boxed" f)(u:Ch K j Jt [])(e:Py K a.c_Grove "measured" o)(c:Ch K b Jt [])
  (p:Cal P w K mg base CX0 1 "shifted_box" Pl LA) (q:Cal P w K mg base CX0 1 "least_box" FT Nm):∀n,AJ P w K mg base CX0 (2*n+2) f j Jt (Se a n)
 |0=>by
  refine F.ok DQ (λvs H Q E h=>?_) (λv A m s H vs Q E x h=>?_)
  ·obtain⟨g,G,i,l,rfl,_,_,k,_⟩:=h;exact absurd k (O6 _)
  ·obtain⟨g,G,i,l,rfl,_,_,k,_⟩:=h;exact absurd k (O6 _)
 |n+1=>ok_boxS F T ⟨⟨o,b,ok_mea (d:=2*n+2) r T A0 p q ⟨⟨f,j,Zg F r T t u e c p q n,t,u⟩,T.cl_Grove⟩,e,c⟩,T.cl_Grove⟩
inductive SpSpan(a:Ad)(vs:List V)(H:Hp)(Q:VK):Prop
 |mk (g:GA) (G:Gv) (i l:Nat) (_:vs=[.ref g.p,.int i]) (_:Bd a H g G) (_:Al G i l) (_:G.length<9000000) (_:(BN G l i=none->∀H',FrQ g H H'->Bd a H' g G->Q .non H')) (_:∀b,BN G l i=some b->∀t H',FrQ g H H'->Bd a H' g G->MI H' t b->Q (.ref t) H'):SpSpan a vs H Q
def Tq(a:Ad):Sp:=λvs H Q _=>SpSpan a vs H Q
theorem ok_span(F:Fun K "span" "Grove.span" Ik f fd)(T:Top K mg a)(o:BK P w K mg base CX0 2 a.c_Grove "check_square" Jt (UJ a))(n:BK P w K mg base CX0 100 a.c_Grove "boxed" Jt (Se a 49)):AJ P w K mg base CX0 101 f fd Jt (Tq a):=by
  refine F.ok Pi (λ_ _ _ _ h=>by rcases h;subst_vars;rfl) λm A j s H vs Q E k h=>?_
  obtain⟨g,G,i,l,rfl,b,d,few,k0,k1⟩:=h;refine⟨_,(Ae (Co (AF (pv 0) o (rm k) Ao (Aa (pv 1) Ab))) (Af (Ar (AF (pv 0) n (rm k) Ao (Aa (pv 1) Ab))))),?_⟩
  try dsimp only[cxK]
  have c:l<49:=by
   obtain⟨q,e,r⟩:=id d;have:=(b.ok.lev e).2;lia
  refine xq1 rfl ⟨g.p,g.dx,(xq1 rfl ⟨b.at'.hp,Sx g,(xq1 rfl ⟨g,G,i,rfl,b.at',d.lt,?_⟩)⟩)⟩;exact xq1 rfl ⟨g.p,g.dx,(xq1 rfl ⟨b.at'.hp,Sy g,(xq1 rfl ⟨g,G,i,l,rfl,b,d,c,few,k0,k1⟩)⟩)⟩
end
def atN(ns:List Int)(k:Int):Int:=ns.getD k.toNat 0
theorem ZI(K:W.Frag):kitOne K (.type "int") (.type "int")=some true/\kitOne K (.type "int") (.type "bool")=some false:=⟨by kernel_rfl,by kernel_rfl⟩
theorem kit_ni(K:W.Frag):kitOne K (.type "NoneType") (.type "int")=some false:=by kernel_rfl
section
variable{P:Program}{w:World}{K:W.Frag}{mg:Str->Option Value}{base:Heap}{a:Ad}
inductive SpAt(K:W.Frag)(vs:List V)(H:Hp)(Q:VK):Prop
 |mk (l:Addr) (ns:List Int) (k:Int) (_:vs=[.ref l,.int k]) (_:SqL K H l (ns.map V.int)) (_:0<=k) (_:Q (.int (atN ns k)) H):SpAt K vs H Q
def Yz(K:W.Frag):Sp:=λvs H Q _=>SpAt K vs H Q
theorem ok_at(F:Fun K "_law_at" "_law_at" Mq f fd)(T:Top K mg a):AJ P w K mg base CX0 1 f fd Wr (Yz K):=by
  refine F.ok Tw (λ_ _ _ _ h=>by rcases h;subst_vars;rfl) λj A d s H vs Q E m h=>?_
  obtain⟨l,ns,k,rfl,g,i,q⟩:=h;refine⟨_,(Ae (AN (Aw EQ (pv 1) (Au Dk rfl T.b_len A1e (Aa (pv 0) Ab)) (AD _)) (Af (Ar (Ai Av (pv 0) (pv 1) (λ_ _=>rfl)))) AE) (Af (Ar Ac))),?_⟩
  try dsimp only[cxK]
  refine⟨_,rfl,_,rfl,l,_,rfl,.inl g,_,_,rfl,rfl,_,rfl,?_⟩;obtain⟨n,rfl⟩:=F4 i;refine EC (λc=>?_) (λc=>?_)
  ·have b:n<ns.length:=by
    have:=K2 c;rw[B8]at this;lia
   refine⟨_,rfl,_,rfl,l,_,n,.int ns[n],rfl,rfl,g,Ah (by rw[C3,D8 b];rfl),?_⟩;have e:atN ns (n:Int)=ns[n]:=by
    unfold atN;rw[M4,F0,D8 b];rfl
   rw[e]at q;exact q
  ·have b:ns.length<=n:=by
    have:¬(n:Int)<((ns.map V.int).length:Int):=λz=>c (Z7 z);rw[B8]at this;lia
   have e:atN ns (n:Int)=0:=by
    unfold atN;rw[M4,F0,W3 b];rfl
   rw[e]at q;exact q
end
inductive SpLaw(K:W.Frag)(vs:List V)(H:Hp)(Q:VK):Prop
 |mk (a:Addr) (ns:List Int) (_:vs=[.ref a]) (_:SqL K H a (ns.map V.int)) (_:ns.length<=63) (_:∀H',Q (.bl true) H'):SpLaw K vs H Q
def UH(K:W.Frag):Sp:=λvs H Q _=>SpLaw K vs H Q
end J
namespace J
open PySem L2
theorem Fr.tup{a:Ad}{g:GA}{G:Gv}{H b:Hp}{x:Addr}{l:List V}(f:Fr g H b)(h:AK a H g G)(e:H x=some (.tup l)):b x=some (.tup l):=by
 obtain⟨us,c,_⟩:=h.pt;exact f _ _ e (AG e h.lv A4) (AG e c A4) (AG e h.nm A4)
theorem AI.mono{G a:Gv}{n m:Nat}(h:AI G a n)(e:n<=m):AI G a m:=⟨h.ok,h.pre,D0 h.few A0⟩
theorem Iu(l:Nat):(0:Int)<2^l:=Int.pow_pos A3
section
variable{P:Program}{w:World}{K:W.Frag}{mg:Str->Option Value}{base:Heap}{a:Ad}
end
seal L2.PA L2.PE L2.PS L2.PSs L2.PT L2.PW
section
variable{P:Program}{w:World}{K:W.Frag}{mg:Str->Option Value}{base:Heap}{a:Ad}
def spWh:Sp:=λvs H Q _=>(∃i:Int,vs=[.int i]/\Q (.bl true) H)\/(vs=[.non]/\Q (.bl false) H)
theorem ok_wh(F:Fun K "_law_whole" "_law_whole" Ig f fd)(T:Top K mg a):AJ P w K mg base CX0 1 f fd Rf spWh:=by
 refine F.ok Pe (λvs H Q E h=>?_) (λc A b s H vs Q E d h=>?_)
 ·rcases h with ⟨i,rfl,_⟩|⟨rfl,_⟩<;>rfl
 ·refine⟨_,(Af (Ar (EJ (Au AW rfl T.b_isinstance Z9 (Aa (pv 0) (Aa (DU (v:=.ty "int") rfl T.b_int A1a rfl) Ab))) (Ft (QO (Au AW rfl T.b_isinstance Z9 (Aa (pv 0) (Aa (DU (v:=.ty "bool") rfl T.b_bool A3c rfl) Ab)))))))),?_⟩;rcases h with ⟨i,rfl,k⟩|⟨rfl,k⟩
  ·exact⟨_,rfl,_,_,_,.type "int",true,rfl,rfl,.of (.int i),(ZI K).1,true,rfl,BJ ⟨_,rfl,_,_,_,.type "int",false,rfl,rfl,.of (.int i),(ZI K).2,false,rfl,k⟩⟩
  ·exact⟨_,rfl,_,_,_,.type "NoneType",false,rfl,rfl,.of .non,kit_ni K,false,rfl,Bc k⟩
end
theorem Vr(c:Bm)(cell:Int)(a:List Int):CK [c] cell a=if c.fits cell a=true then c.makes else cell:=by
 unfold CK;rw[O9];cases c.fits cell a<;>rfl
theorem VT{d:Int}(a:0<=d)(b:d<=9):d.natAbs.log2<1920:=by
 obtain⟨m,rfl⟩:=F4 a;exact(show ∀m:Nat,m<10->(m:Int).natAbs.log2<1920 by decide +kernel) m B7
theorem Vf{n:Nat}(h:n<=100000):n<=sizeLine:=D0 h A3
theorem Ax.noneN{H a:Hp}(s:Ax H a){x:Addr}(n:a x=none):H x=none:=by
 cases e:H x with
 |none=>rfl
 |some o=>rw[s _ _ e]at n;cases n
theorem OD{T:St->Hp->Prop}{C:Prop}(P:St->Hp->Prop)(h:(∀σ H,P σ H->T σ H)->C)(k:∀σ H,P σ H->T σ H):C:=h k
structure MA where
 tp:Addr
 l:Addr
 kc:Addr
 ds:List Addr
def jf2(gp mem:Addr):List (Str×V):=AT "memories" (.ref mem) (AT "grove" (.ref gp) [])
def jf5(gp mem pr l kc:Addr):List (Str×V):=AT "known_cells" (.ref kc) (AT "known_squares" (.ref l) (AT "rule" (.ref pr) (jf2 gp mem)))
theorem jf2_mem(a mem:Addr):(jf2 a mem).lookup ("memories" : Str)=some (V.ref mem):=by
 unfold jf2;rw[Am,X5 rfl]
theorem ZN(b mem:Addr){m:Str}(a:¬m=("memories" : Str))(c:¬m=("grove" : Str)):(jf2 b mem).lookup m=none:=by
 unfold jf2;rw[Am,Z8 a,Am,Z8 c];rfl
section
variable(gp mem pr l kc:Addr)
theorem ZM:(jf5 gp mem pr l kc).lookup ("known_cells" : Str)=some (V.ref kc):=by
 unfold jf5;rw[Am,X5 rfl]
theorem ZL:(jf5 gp mem pr l kc).lookup ("known_squares" : Str)=some (V.ref l):=by
 unfold jf5;rw[Am,Z8 A1,Am,X5 rfl]
theorem jf5_ru:(jf5 gp mem pr l kc).lookup ("rule" : Str)=some (V.ref pr):=by
 unfold jf5;rw[Am,Z8 A1,Am,Z8 A1,Am,X5 rfl]
theorem DX:(jf5 gp mem pr l kc).lookup ("grove" : Str)=some (V.ref gp):=by
 unfold jf5 jf2;rw[Am,Z8 A1,Am,Z8 A1,Am,Z8 A1,Am,Z8 A1,Am,X5 rfl]
theorem Lx{m:Str}(c:¬m=("known_cells" : Str))(d:¬m=("known_squares" : Str))(a:¬m=("rule" : Str))(e:¬m=("memories" : Str))(b:¬m=("grove" : Str)):(jf5 gp mem pr l kc).lookup m=none:=by
 unfold jf5;rw[Am,Z8 c,Am,Z8 d,Am,Z8 a,ZN _ _ e b]
theorem Wl:(jf5 gp mem pr l kc).lookup ("after" : Str)=none:=Lx _ _ _ _ _ A1 A1 A1 A1 A1
theorem Wk:(jf5 gp mem pr l kc).lookup ("check_jump" : Str)=none:=Lx _ _ _ _ _ A1 A1 A1 A1 A1
theorem LP:(jf5 gp mem pr l kc).lookup ("reckoned" : Str)=none:=Lx _ _ _ _ _ A1 A1 A1 A1 A1
theorem Wj:(jf5 gp mem pr l kc).lookup ("fresh" : Str)=none:=Lx _ _ _ _ _ A1 A1 A1 A1 A1
theorem Zj:(jf5 gp mem pr l kc).lookup ("four_halfway" : Str)=none:=Lx _ _ _ _ _ A1 A1 A1 A1 A1
theorem noJ_mid:(jf5 gp mem pr l kc).lookup ("middle_after" : Str)=none:=Lx _ _ _ _ _ A1 A1 A1 A1 A1
theorem Zk:(jf5 gp mem pr l kc).lookup ("cell_after" : Str)=none:=Lx _ _ _ _ _ A1 A1 A1 A1 A1
end
inductive Nv:HO->Prop
 |tup {xs:List V}:Nv (.tup xs)
 |ins {C dx:Addr} {fs:List (Str×V)} (h1:1<=fs.length) (h2:fs.length<=3):Nv (.ins C dx fs)
theorem Nt(f:Str)(v:V):∀fs:List (Str×V),1<=(AT f v fs).length
 |[]=>C5 1
 | (g,x)::r=>by
  unfold AT;split
  ·rw[F2];lia
  ·rw[F2];lia
theorem Dm.kp{a:Ad}{H e:Hp}{p:Addr}{c:BW}(k:∀b o,H b=some o->Nv o->e b=some o)(h:Dm a H p c):Dm a e p c:=by
 cases h with
 |am h d=>exact .am (k _ _ h (.ins (Nt _ _ _) (D0 (Bw _ _ _) (R8 (D0 (Bw _ _ _) (by show 0+1<=2;decide)))))) (k _ _ d .tup)
 |pl h d=>exact .pl (k _ _ h (.ins (Nt _ _ _) (D0 (Bw _ _ _) (by show 0+1<=3;decide)))) (k _ _ d .tup)
theorem BO.kp{a:Ad}{H d:Hp}{p:Addr}{c:Bm}(k:∀b o,H b=some o->Nv o->d b=some o)(h:BO a H p c):BO a d p c:=by
 obtain⟨i,t,cs,f,g,e⟩:=h.ex;exact⟨i,t,cs,k _ _ f (.ins (Nt _ _ _) (D0 (Bw _ _ _) (R8 (D0 (Bw _ _ _) (R8 (D0 (Bw _ _ _) (by show 0+1<=1;decide))))))),k _ _ g .tup,Paired.imp (λ_ _ z=>z.kp k) e⟩
theorem Ct.kp{a:Ad}{H c:Hp}{p:Addr}{x:Str}{r:Az}(k:∀b o,H b=some o->Nv o->c b=some o)(h:Ct a H p x r):Ct a c p x r:=by
 obtain⟨g,t,cs,e,f,d⟩:=h.ex;exact⟨g,t,cs,k _ _ e (.ins (Nt _ _ _) (D0 (Bw _ _ _) (R8 (D0 (Bw _ _ _) (by show 0+1<=2;decide))))),k _ _ f .tup,Paired.imp (λ_ _ z=>z.kp k) d⟩
def mK(ms:List (Str×MA)):List (Key×V):=ms.map λe=>(Sum.inr e.1,V.ref e.2.tp)
theorem Va(t:Str):∀a:List (Str×MA),(∃m,(t,m)∈a/\Bq (mK a) (Sum.inr t)=some (.ref m.tp))\/(Bq (mK a) (Sum.inr t)=none/\∀e∈a,e.1≠t)
 |[]=>.inr ⟨rfl,λe d=>nomatch d⟩
 |e::r=>by
  by_cases h:e.1=t
  ·refine .inl ⟨e.2,?_,?_⟩
   ·rw[<-h];exact C8
   ·exact BE (p:=(Sum.inr e.1,V.ref e.2.tp)) (r:=mK r) (by rw[h])
  ·have n:Bq (mK (e::r)) (Sum.inr t)=Bq (mK r) (Sum.inr t):=Bn (p:=(Sum.inr e.1,V.ref e.2.tp)) (r:=mK r) λz=>h (Sum.inr.inj z);rcases Va t r with ⟨m,b,c⟩|⟨b,c⟩
   ·exact .inl ⟨m,C4 _ b,n.trans c⟩
   ·refine .inr ⟨n.trans b,λx f=>?_⟩;rcases C1.mp f with z|z
    ·rw[z];exact h
    ·exact c x z
inductive ChgR(H H':Hp)(t:Str)(ms ms':List (Str×MA))(m:MA):Prop
 |old (_:(t,m)∈ms) (_:ms'=ms):ChgR H H' t ms ms' m
 |new (_:ms'=ms++[(t,m)]) (_:∀e∈ms,e.1≠t) (_:H m.tp=none/\H m.l=none/\H m.kc=none/\∀d∈m.ds,H d=none) (_:H' m.tp=some (.tup [.ref m.l,.ref m.kc])) (_:H' m.l=some (.lst (m.ds.map V.ref))) (_:H' m.kc=some (.dT [])) (_:∀d∈m.ds,H' d=some (.dK [])) (_:m.ds.length=47) (_:m.ds.Nodup):ChgR H H' t ms ms' m
section
variable{P:Program}{w:World}{K:W.Frag}{mg:Str->Option Value}{base:Heap}{a:Ad}
inductive SpShow(a:Ad)(vs:List V)(H:Hp)(Q:VK):Prop
 |mk (p:Addr) (t:Str) (r:Az) (_:vs=[.ref p]) (_:Ct a H p t r) (_:Q (.str t) H):SpShow a vs H Q
def Tr(a:Ad):Sp:=λvs H Q _=>SpShow a vs H Q
theorem ok_show(F:Fun K "shown_rule" "shown_rule" GZ f fd)(T:Top K mg a):AJ P w K mg base CX0 1 f fd QZ (Tr a):=by
  refine F.ok Pa (λ_ _ _ _ h=>by rcases h;subst_vars;rfl) λc A b s H vs Q E i h=>?_
  obtain⟨p,t,r,rfl,e,k⟩:=h;obtain⟨m,l,cs,d,j,g⟩:=e.ex;refine⟨_,(Af (Ar (AC (pv 0) rfl))),?_⟩
  try dsimp only[cxK]
  exact xwf rfl rfl d T.cl_Rule T.na_Rule_text (ZX A1) k
inductive SpChg(a:Ad)(vs:List V)(H:Hp)(Q:VK):Prop
 |mk (p dx mem pr:Addr) (fs:List (Str×V)) (t:Str) (r:Az) (ms:List (Str×MA)) (_:vs=[.ref p,.ref pr]) (_:H p=some (.ins a.c_Jumps dx fs)) (_:fs.lookup ("memories" : Str)=some (.ref mem)) (_:fs.length<=10) (_:H mem=some (.dK (mK ms))) (_:ms.length<=1000) (_:∀e∈ms,H e.2.tp=some (.tup [.ref e.2.l,.ref e.2.kc])) (_:Ct a H pr t r) (_:∀(H':Hp)(m:MA)(ms':List (Str×MA)),(∀b o,H b=some o->b≠p->b≠mem->H' b=some o)->H' p=some (.ins a.c_Jumps dx (AT "known_cells" (.ref m.kc) (AT "known_squares" (.ref m.l) (AT "rule" (.ref pr) fs))))->H' mem=some (.dK (mK ms'))->ChgR H H' t ms ms' m->Q .non H'):SpChg a vs H Q
def Yw(a:Ad):Sp:=λvs H Q _=>SpChg a vs H Q
theorem ok_chg(F:Fun K "change" "Jumps.change" DS f fd)(T:Top K mg a)(bT:Cal P w K mg base CX0 1 "shown_rule" QZ (Tr a)):AJ P w K mg base CX0 2 f fd FE (Yw a):=by
  refine F.ok IO (λ_ _ _ _ h=>by rcases h;subst_vars;rfl) λa0 A ax s H vs Q E hr h=>?_
  obtain⟨p,O,mem,C,fs,t,r,M,rfl,hp,D,az,hm,few,Z,hR,k⟩:=h;refine⟨_,(Ae (An (i:=2) IO.nd rfl (Or.inl rfl) (Ap bT (rm hr) rfl Ao (Aa (pv 1) Ab))) (Ae (AN (pt_cmp (Wa (GO hr) (pv 2) (AC (pv 0) rfl))) (Af (JG (GO hr) (AC (pv 0) rfl) (pv 2) (CD (Aa (Df rfl (BM.of (So:=Ak DS) (No:=Js) (N:=["e"]) (k:=1) (cs:=[]) rfl rfl A1) (JH rfl T.b_range (AV Bg (BL rfl T.k_TOP_LEVEL) Ac Ab)) (λ_ _ _=>(Bz (i:=0) A1 rfl rfl)) (λ_ _ _=>BS) (λ_ _ _=>LM)) (Aa Sr Ab))) rfl)) AE) (Ae (Cm (pv 0) (pv 1) rfl) (Ae (Cm (pv 0) (Ai Aj (UU (GO hr) (AC (pv 0) rfl) (pv 2) (λ_ _=>rfl)) Ac (λ_ _=>rfl)) rfl) (Af (Cm (pv 0) (Ai Aj (UU (GO hr) (AC (pv 0) rfl) (pv 2) (λ_ _=>rfl)) Ac (λ_ _=>rfl)) rfl)))))),?_⟩
  try dsimp only[cxK]
  have U:p≠mem:=AG hp hm A4;refine xq1 rfl ⟨C,t,r,rfl,hR,?_⟩;apply OD (fun σ H1=>σ=[some (.ref p),some (.ref C),some (.str t)]/\∃(m:MA)(G:List (Str×MA)),(∀b o,H b=some o->b≠mem->H1 b=some o)/\H1 mem=some (.dK (mK G))/\Bq (mK G) (Sum.inr t)=some (.ref m.tp)/\H1 m.tp=some (.tup [.ref m.l,.ref m.kc])/\ChgR H H1 t M G m/\m.tp≠p/\(H m.tp=none->m.l≠p/\m.kc≠p/\∀d∈m.ds,d≠p))
  ·intro X;refine xw2 rfl rfl (xq5 hp T.cl_Jumps T.na_Jumps_memories D ⟨mem,(xq1 rfl ⟨IU.k (k:=Sum.inr t) hm,(xq1 rfl ?_)⟩)⟩);rcases Va t M with ⟨m,m1,m2⟩|⟨no,nk⟩
   ·rw[m2];refine Bc (X _ _ ⟨rfl,m,M,λb o e _=>e,hm,m2,Z _ m1,.old m1 rfl,AG (Z _ m1) hp A4,λz=>?_⟩);rw[Z _ m1]at z;cases z
   ·rw[no];refine BJ ?_;refine xq2 rfl rfl (xq1 rfl ⟨by decide,by decide,?_⟩);refine WO (n:=47) (λi ac H2=>Ax H H2/\∃q:List Addr,ac=q.map V.ref/\q.length=i/\(∀d∈q,H2 d=some (.dK []))/\(∀d∈q,H d=none)/\q.Nodup) ⟨Ax.refl H,[],rfl,rfl,λd c=>(nomatch c),λd c=>(nomatch c),.nil⟩ ?_ ?_
    ·rintro i ac H2 hi ⟨sm,q,rfl,ln,c1,c2,nd⟩;refine⟨⟨[some (.int (0+(i:Int)))],rfl,rfl⟩,?_,IW λd c=>⟨sm.trans (AH c),q++[d],by rw[D4];rfl,by rw[C6,ln];rfl,λx hx=>?_,λx hx=>?_,?_⟩⟩
     ·rw[B8,ln];exact F6 hi A3
     ·rcases D3.mp hx with z|z
      ·exact AH c _ _ (c1 x z)
      ·rw[D7.mp z];exact Ag
     ·rcases D3.mp hx with z|z
      ·exact c2 x z
      ·rw[D7.mp z];exact Ax.noneN sm c
     ·rw[T5];refine⟨nd,by simp,λx hx y hy z=>?_⟩;rw[D7.mp hy]at z;rw[<-z,c1 x hx]at c;cases c
    ·rintro ac H2 ⟨sm,q,rfl,ln,c1,c2,nd⟩ l hl;generalize ae:upd H2 l _=H3;obtain⟨s3,ar⟩:=alc hl ae;intro B ai;generalize ad:upd H3 B _=H4;obtain⟨s4,ao⟩:=alc ai ad;refine⟨(by show 2<=sizeLine;decide),λg af=>?_⟩;show ∃_,_;generalize dB:upd H4 g _=H5;obtain⟨s5,al⟩:=alc af dB;have n1:H l=none:=Ax.noneN sm hl;have n2:H B=none:=Ax.noneN (sm.trans s3) ai;have n3:H g=none:=Ax.noneN ((sm.trans s3).trans s4) af;have aa:=((sm.trans s3).trans s4).trans s5;have aw:=aa _ _ hm;refine xwf rfl rfl (aa _ _ hp) T.cl_Jumps T.na_Jumps_memories D (xq1 rfl ⟨mem,(xq1 rfl ⟨Ng.k (k:=Sum.inr t) aw ?_,?_⟩)⟩)
     ·unfold mK;rw[B8];exact M7 few A3
     ·rw[GJ _ no];have e6:mK M++[(Sum.inr t,V.ref g)]=mK (M++[(t,⟨g,l,B,q⟩)]):=by unfold mK;rw[D4];rfl
      rw[e6];have k6:∀b o,H5 b=some o->b≠mem->upd H5 mem (.dK (mK (M++[(t,⟨g,l,B,q⟩)]))) b=some o:=λb o e n=>by rw[As n];exact e
      have am:upd H5 mem (.dK (mK (M++[(t,⟨g,l,B,q⟩)]))) mem=some (.dK (mK (M++[(t,⟨g,l,B,q⟩)]))):=Ag;generalize upd H5 mem (.dK (mK (M++[(t,⟨g,l,B,q⟩)])))=H6 at k6 am⊢;have nm:∀{x:Addr},H x=none->x≠mem:=λz y=>by rw[y,hm]at z;cases z
      have np:∀{x:Addr},H x=none->x≠p:=λz y=>by rw[y,hp]at z;cases z
      refine X _ _ ⟨rfl,⟨g,l,B,q⟩,M++[(t,⟨g,l,B,q⟩)],λb o e n=>k6 _ _ (aa _ _ e) n,am,?_,k6 _ _ al (nm n3),.new rfl nk ⟨n3,n1,n2,c2⟩ (k6 _ _ al (nm n3)) (k6 _ _ (s5 _ _ (s4 _ _ ar)) (nm n1)) (k6 _ _ (s5 _ _ ao) (nm n2)) (λd c=>k6 _ _ (s5 _ _ (s4 _ _ (s3 _ _ (c1 d c)))) (nm (c2 d c))) ln nd,np n3,λ_=>⟨np n1,np n2,λd c=>np (c2 d c)⟩⟩;rw[<-e6];rw[Qr no];exact BE rfl
  rintro σ H1 ⟨rfl,m,G,k1,an,vv,ay,au,Y,aj⟩;have ah:=k1 _ _ hp U;have lf:fs.length<1000:=by lia
  have put:∀{Hk:Hp}{fs':List (Str×V)}(u:List (Str×V)),Hk p=some (.ins a.c_Jumps O fs')->(∀b o,Hk b=some o->b≠p->upd Hk p (.ins a.c_Jumps O u) b=some o)/\upd Hk p (.ins a.c_Jumps O u) p=some (.ins a.c_Jumps O u):=λ{Hk fs'} u e=>⟨λb o e n=>by rw[As n];exact e,Ag⟩
  refine xw2 rfl rfl ⟨p,_,O,fs,rfl,ah,T.cl_Jumps,T.na_Jumps_rule,lf,?_⟩;obtain⟨k2,S⟩:=put (AT "rule" (.ref C) fs) ah;generalize upd H1 p (.ins a.c_Jumps O (AT "rule" (.ref C) fs))=H2 at k2 S⊢;have l2:=Bw ("rule" : Str) (.ref C) fs;have I:(AT "rule" (.ref C) fs).lookup ("memories" : Str)=some (.ref mem):=by rw[Am,Z8 A1];exact D
  have ak:=k2 _ _ an (K1 U);have ag:=k2 _ _ ay Y;refine xwf rfl rfl S T.cl_Jumps T.na_Jumps_memories I (xq1 rfl ⟨mem,.ref m.tp,rfl,vv▸IU.k (k:=Sum.inr t) ak,(xq4 rfl rfl (SqT.of ag) (Ah (j:=0) rfl) (xq1 rfl ⟨p,_,O,(xq1 rfl ⟨S,T.cl_Jumps,T.na_Jumps_known_squares,by lia,?_⟩)⟩))⟩);obtain⟨k3,R⟩:=put (AT "known_squares" (.ref m.l) (AT "rule" (.ref C) fs)) S;generalize upd H2 p (.ins a.c_Jumps O (AT "known_squares" (.ref m.l) (AT "rule" (.ref C) fs)))=H3 at k3 R⊢;have l3:=Bw ("known_squares" : Str) (.ref m.l) (AT "rule" (.ref C) fs);have ab:(AT "known_squares" (.ref m.l) (AT "rule" (.ref C) fs)).lookup ("memories" : Str)=some (.ref mem):=by rw[Am,Z8 A1];exact I
  have as:=k3 _ _ ak (K1 U);have aq:=k3 _ _ ag Y;refine xwf rfl rfl R T.cl_Jumps T.na_Jumps_memories ab (xq1 rfl ⟨mem,.ref m.tp,rfl,vv▸IU.k (k:=Sum.inr t) as,(xq4 rfl rfl (SqT.of aq) (Ah (j:=1) rfl) (xq1 rfl ⟨p,_,O,(xq1 rfl ⟨R,T.cl_Jumps,T.na_Jumps_known_cells,by lia,?_⟩)⟩))⟩);obtain⟨k4,av⟩:=put (AT "known_cells" (.ref m.kc) (AT "known_squares" (.ref m.l) (AT "rule" (.ref C) fs))) R;have v:∀b o,H1 b=some o->b≠p->upd H3 p (.ins a.c_Jumps O (AT "known_cells" (.ref m.kc) (AT "known_squares" (.ref m.l) (AT "rule" (.ref C) fs)))) b=some o:=λb o e n=>k4 _ _ (k3 _ _ (k2 _ _ e n) n) n;refine k _ m G (λb o e n1 n2=>v _ _ (k1 _ _ e n2) n1) av (v _ _ an (K1 U)) ?_;cases au with
  |old h1 h2=>exact .old h1 h2
  |new h1 h2 h3 h4 h5 h6 h7 h8 h9 =>
   obtain⟨y1,y2,y3⟩:=aj h3.1;exact .new h1 h2 h3 (v _ _ h4 Y) (v _ _ h5 y1) (v _ _ h6 y2) (λd c=>v _ _ (h7 d c) (y3 d c)) h8 h9
inductive RN(a:Ad)(vs:List V)(H:Hp)(Q:VK):Prop
 |mk (p dx gp pr:Addr) (t:Str) (r:Az) (_:vs=[.ref p,.ref gp,.ref pr]) (_:H p=some (.ins a.c_Jumps dx [])) (_:Ct a H pr t r) (_:∀(H':Hp)(mem:Addr)(m:MA),(∀b o,H b=some o->b≠p->H' b=some o)->H mem=none->H' p=some (.ins a.c_Jumps dx (jf5 gp mem pr m.l m.kc))->H' mem=some (.dK (mK [(t,m)]))->(H m.tp=none/\H m.l=none/\H m.kc=none/\∀d∈m.ds,H d=none)->H' m.tp=some (.tup [.ref m.l,.ref m.kc])->H' m.l=some (.lst (m.ds.map V.ref))->H' m.kc=some (.dT [])->(∀d∈m.ds,H' d=some (.dK []))->m.ds.length=47->m.ds.Nodup->(∀d∈m.ds,d≠mem)->Q .non H'):RN a vs H Q
def QA(a:Ad):Sp:=λvs H Q _=>RN a vs H Q
theorem Zb(F:Fun K "__init__" "Jumps.__init__" Ij f fd)(T:Top K mg a)(bB:BK P w K mg base CX0 2 a.c_Jumps "change" FE (Yw a)):AJ P w K mg base CX0 3 f fd Rj (QA a):=by
  refine F.ok Ph (λ_ _ _ _ h=>by rcases h;subst_vars;rfl) λab A G s H vs Q E hr h=>?_
  obtain⟨p,i,g,X,t,r,rfl,Y,hR,k⟩:=h;refine⟨_,(Ae (Cm (pv 0) (pv 1) rfl) (Ae (Cm (pv 0) LM rfl) (Af (Co (AF (pv 0) bB (rm hr) Ao (Aa (pv 2) Ab)))))),?_⟩
  try dsimp only[cxK]
  refine xw2 rfl rfl ⟨p,_,i,[],rfl,Y,T.cl_Jumps,T.na_Jumps_grove,B3,?_⟩;have k1:∀b o,H b=some o->b≠p->upd H p (.ins a.c_Jumps i (AT "grove" (.ref g) [])) b=some o:=λb o e n=>by rw[As n];exact e
  have q:upd H p (.ins a.c_Jumps i (AT "grove" (.ref g) [])) p=some (.ins a.c_Jumps i (AT "grove" (.ref g) [])):=Ag;have D:∀b,upd H p (.ins a.c_Jumps i (AT "grove" (.ref g) [])) b=none->H b=none:=λb e=>by
   by_cases z:b=p
   ·rw[z,q]at e;cases e
   ·rw[As z]at e;exact e
  generalize upd H p (.ins a.c_Jumps i (AT "grove" (.ref g) []))=H1 at k1 q D⊢;intro mem c;generalize dH:upd H1 mem _=B;obtain⟨R,N⟩:=alc c dH;have U:mem≠p:=λz=>by rw[z,q]at c;cases c
  refine xq1 rfl ⟨p,_,i,(xq1 rfl ⟨R _ _ q,T.cl_Jumps,T.na_Jumps_memories,B4,?_⟩)⟩;have k3:∀b o,B b=some o->b≠p->upd B p (.ins a.c_Jumps i (jf2 g mem)) b=some o:=λb o e n=>by rw[As n];exact e
  have l:upd B p (.ins a.c_Jumps i (jf2 g mem)) p=some (.ins a.c_Jumps i (jf2 g mem)):=Ag;have j:∀b,upd B p (.ins a.c_Jumps i (jf2 g mem)) b=none->H b=none:=λb e=>by
   by_cases z:b=p
   ·rw[z,l]at e;cases e
   ·rw[As z]at e;exact D _ (Ax.noneN R e)
  rw[show AT ("memories" : Str) (V.ref mem) (AT ("grove" : Str) (V.ref g) [])=jf2 g mem from rfl];generalize upd B p (.ins a.c_Jumps i (jf2 g mem))=Z at k3 l j⊢;have y:∀b o,H b=some o->b≠p->Z b=some o:=λb o e n=>k3 _ _ (R _ _ (k1 _ _ e n)) n;have C:=k3 _ _ N U;have M:Ct a Z X t r:=by
   refine hR.kp λb o e n=>y _ _ e λz=>?_;rw[z,Y]at e;cases e;cases n with
   |ins v _=>cases v
  refine xwn rfl rfl l (ZN _ _ A1 A1) rfl ⟨p,i,mem,X,jf2 g mem,t,r,[],rfl,l,jf2_mem _ _,by rw[show(jf2 g mem).length=2 from rfl];decide,C,M6 _,λe he=>(nomatch he),M,λH' m aa fr S u O=>?_⟩;cases O with
  |old v _=>cases v
  |new v h2 x h4 h5 h6 h7 h8 h9 =>
   rw[v]at u;refine k H' mem m (λb o e n=>fr _ _ (y _ _ e n) n ?_) (D _ c) S u ⟨j _ x.1,j _ x.2.1,j _ x.2.2.1,λd I=>j _ (x.2.2.2 d I)⟩ h4 h5 h6 h7 h8 h9 λd I z=>?_
   ·intro z;rw[z]at e;rw[D _ c]at e;cases e
   ·have:=x.2.2.2 d I;rw[z,C]at this;cases this
end
def qO(G:Gv)(n k:Nat):Nat:=match G[n]? with
 |some q=>(q.parts.getD k 0).toNat
 |none=>0
def cel(G:Gv):Nat->Nat->Nat->Nat->Nat
 |0,n,_,_=>n
 |l+1,n,x,y=>cel G l (qO G n ((x/2^l)%2+2*((y/2^l)%2))) x y
def stp(r:Az)(c:Nat->Nat->Int):Nat->Nat->Int:=λx y=>CK r (c x y) [c (x-1) (y-1),c x (y-1),c (x+1) (y-1),c (x-1) y,c (x+1) y,c (x-1) (y+1),c x (y+1),c (x+1) (y+1)]
def Bh(r:Az):Nat->(Nat->Nat->Int)->Nat->Nat->Int
 |0,c=>c
 |n+1,c=>stp r (Bh r n c)
def Cf(G:Gv)(l n:Nat):Nat->Nat->Int:=λx y=>(cel G l n x y:Int)
def JR(r:Az)(G:Gv)(e n m:Nat):Prop:=∃l:Nat,Al G n ((l+2:Nat):Int)/\e<=l/\Al G m ((l+1:Nat):Int)/\∀x y,x<2^(l+1)->y<2^(l+1)->Cf G (l+1) m x y=Bh r (2^e) (Cf G (l+2) n) (x+2^l) (y+2^l)
theorem GOk.four{G:Gv}(ok:GOk G){n l:Nat}(h:Al G n ((l+1:Nat):Int)):∃x y z w:Nat,G[n]?=some ⟨[(x:Int),(y:Int),(z:Int),(w:Int)],((l+1:Nat):Int)⟩/\Al G x (l:Int)/\Al G y (l:Int)/\Al G z (l:Int)/\Al G w (l:Int):=by
 obtain⟨q,e,a⟩:=h;have f:8<=n:=by
  refine P4 λz=>?_;rw[ok.leaf n z]at e;cases e;have:(0:Int)=((l+1:Nat):Int):=a;lia
 obtain⟨x,y,z,w,p,⟨l1,l2,c,b⟩,_⟩:=ok.node n q e f;have d:q.lev-1=(l:Int):=by lia
 rw[d]at l1 l2 c b;refine⟨x,y,z,w,?_,l1,l2,c,b⟩;rw[e];cases q with
 |mk g i=>cases p;cases a;rfl
theorem GOk.cell{G:Gv}(ok:GOk G){n:Nat}(h:Al G n 0):n<8:=by
 obtain⟨q,e,a⟩:=h;refine V2 λz=>?_;obtain⟨_,_,_,_,_,_,b,_⟩:=ok.node n q e z;lia
theorem Ea{G:Gv}{n x y z w:Nat}{l:Int}(e:G[n]?=some ⟨[(x:Int),(y:Int),(z:Int),(w:Int)],l⟩):qO G n 0=x/\qO G n 1=y/\qO G n 2=z/\qO G n 3=w:=by
 unfold qO;rw[e];exact⟨rfl,rfl,rfl,rfl⟩
theorem Lm{G:Gv}(ok:GOk G){n l:Nat}(h:Al G n ((l+1:Nat):Int)){k:Nat}(b:k<4):Al G (qO G n k) (l:Int):=by
 obtain⟨x,y,z,w,e,f,i,c,m⟩:=ok.four h;obtain⟨j,d,g,a⟩:=Ea e
 match k,b with
 |0,_=>rw[j];exact f
 |1,_=>rw[d];exact i
 |2,_=>rw[g];exact c
 |3,_=>rw[a];exact m
theorem Tc{G a:Gv}{i:Nat}(ok:GOk G)(go:AI G a i):∀(l n:Nat),Al G n (l:Int)->∀x y,cel a l n x y=cel G l n x y
 |0,n,_,x,y=>rfl
 |l+1,n,h,x,y=>by
  have e:∀k,qO a n k=qO G n k:=λk=>by
   obtain⟨q,e,_⟩:=h;unfold qO;rw[go.get e,e]
  show cel a l (qO a n _) x y=cel G l (qO G n _) x y;rw[e];exact Tc ok go l _ (Lm ok h A0) x y
theorem CB{G a:Gv}{i:Nat}(ok:GOk G)(go:AI G a i){l n:Nat}(h:Al G n (l:Int)):Cf a l n=Cf G l n:=by
 funext x y
 unfold Cf;rw[Tc ok go l n h]
theorem JR.goes{r:Az}{G c:Gv}{i e n m:Nat}(ok:GOk G)(go:AI G c i)(h:JR r G e n m):JR r c e n m:=by
 obtain⟨l,b,f,a,j⟩:=h;refine⟨l,go.lev b,f,go.lev a,λx y g d=>?_⟩;rw[CB ok go b,CB ok go a];exact j x y g d
def Bs(G:Gv):Prop:=∀j:Nat,j<48->G[8+j]?=some ⟨[(bareN j:Int),(bareN j:Int),(bareN j:Int),(bareN j:Int)],(j:Int)+1⟩
theorem Bs.goes{G a:Gv}{i:Nat}(h:Bs G)(go:AI G a i):Bs a:=λj b=>go.get (h j b)
theorem Bs.zero{G:Gv}(h:Bs G):∀(l:Nat),l<=48->∀x y,cel G l (bareN l) x y=0
 |0,_,x,y=>rfl
 |l+1,hl,x,y=>by
  obtain⟨f,c,d,a⟩:=Ea (h l A0);have e:∀k,k<4->qO G (8+l) k=bareN l:=λk b=>by
   match k,b with
   |0,_=>exact f
   |1,_=>exact c
   |2,_=>exact d
   |3,_=>exact a
  show cel G l (qO G (8+l) _) x y=0;rw[e _ A0];exact h.zero l A0 x y
theorem RW{r:Az}(h:CK r 0 Cd=0):∀k,Bh r k (λ_ _=>0)=λ_ _=>0
 |0=>rfl
 |k+1=>by
  show stp r (Bh r k _)=_;rw[RW h k]
  funext x y
  exact h
theorem Bs.lev{G:Gv}(ok:GOk G)(h:Bs G):∀l:Nat,l<=48->Al G (bareN l) (l:Int)
 |0,_=>⟨_,ok.leaf 0 A3,rfl⟩
 |l+1,hl=>⟨_,h l A0,by show(l:Int)+1=((l+1:Nat):Int);lia⟩
theorem JR.bare{r:Az}{G:Gv}(ok:GOk G)(h:Bs G)(re:CK r 0 Cd=0){l e:Nat}(a:l+2<=48)(c:e<=l):JR r G e (bareN (l+2)) (bareN (l+1)):=by
 refine⟨l,h.lev ok _ a,c,h.lev ok _ A0,λx y _ _=>?_⟩;have z:∀k,k<=48->Cf G k (bareN k)=λ_ _=>0:=λk b=>by
  funext x y
  unfold Cf;rw[h.zero k b x y];rfl
 rw[z _ a,z _ A0,RW re]
theorem bec_st{r:Az}(h:JB r){cell:Int}(d:Mf cell)(a:List Int):Mf (CK r cell a):=by
 cases e:Nc r cell a with
 |none=>rw[OU e];exact d
 |some i =>
  obtain⟨c,b,f⟩:=OT e;rw[f];exact(h.ok c (F1 b)).makes
theorem eight_of:∀xs:List Int,xs.length=8->∃a b c d e f g h,xs=[a,b,c,d,e,f,g,h]
 |[a,b,c,d,e,f,g,h],_=>⟨a,b,c,d,e,f,g,h,rfl⟩
structure JC(H:Hp)(g:GA)(G:Gv)(N M:Nat)(r:Az)(m:MA):Prop where
 tp:H m.tp=some (.tup [.ref m.l,.ref m.kc])
 l:H m.l=some (.lst (m.ds.map V.ref))
 ap:m.l≠g.lv/\m.l≠g.pt/\m.kc≠g.nm
 len:m.ds.length=47
 nd:m.ds.Nodup
 sq:∀(e:Nat) d,m.ds[e]?=some d->∃kv,H d=some (.dK kv)/\kv.length<=N/\(∀p∈kv,∃i,p.1=Sum.inl i)/\∀(n:Nat) v,Bq kv (Sum.inl (n:Int))=some v->∃k:Nat,v=.int (k:Int)/\JR r G e n k
 ce:∃kc,H m.kc=some (.dT kc)/\kc.length<=M/\∀(ks:List Int) v,Bq kc (kOf ks)=some v->∃c ar,ks=c::ar/\v=.int (CK r c ar)
theorem JC.mono{H:Hp}{g:GA}{G:Gv}{N M f i:Nat}{r:Az}{m:MA}(h:JC H g G N M r m)(j:N<=f)(k:M<=i):JC H g G f i r m:=by
 refine⟨h.tp,h.l,h.ap,h.len,h.nd,λe d n=>?_,?_⟩
 ·obtain⟨q,b,c,a,p⟩:=h.sq e d n;exact⟨q,b,D0 c j,a,p⟩
 ·obtain⟨o,b,c,a⟩:=h.ce;exact⟨o,b,D0 c k,a⟩
theorem JC.kp{H j:Hp}{g:GA}{G s:Gv}{N M i:Nat}{r:Az}{m:MA}(h:JC H g G N M r m)(ok:GOk G)(go:AI G s i)(k:∀b o,H b=some o->b=m.tp\/b=m.l\/b∈m.ds\/b=m.kc->j b=some o):JC j g s N M r m:=by
 refine⟨k _ _ h.tp (.inl rfl),k _ _ h.l (.inr (.inl rfl)),h.ap,h.len,h.nd,λe d p=>?_,?_⟩
 ·obtain⟨z,c,f,a,y⟩:=h.sq e d p;refine⟨z,k _ _ c (.inr (.inr (.inl (F1 p)))),f,a,λn v w=>?_⟩;obtain⟨x,t,u⟩:=y n v w;exact⟨x,t,u.goes ok go⟩
 ·obtain⟨q,c,f,a⟩:=h.ce;exact⟨q,k _ _ c (.inr (.inr (.inr rfl))),f,a⟩
structure JW(a:Ad)(H:Hp)(g:GA)(G:Gv)(N M:Nat)(p dx mem pr:Addr)(r:Az)(m:MA):Prop where
 gr:AK a H g G
 ok:GOk G
 bs:Bs G
 br:H g.br=some (.lst ((CY 48).map V.int))
 nbr:g.br≠g.lv/\g.br≠g.pt
 hp:H p=some (.ins a.c_Jumps dx (jf5 g.p mem pr m.l m.kc))
 ru:Ct a H pr (Dn r) r
 rok:JB r
 rest:CK r 0 Cd=0
 me:JC H g G N M r m
theorem JW.same{a:Ad}{H f:Hp}{g:GA}{G:Gv}{N M:Nat}{p d mem c:Addr}{r:Az}{m:MA}(s:Ax H f)(h:JW a H g G N M p d mem c r m):JW a f g G N M p d mem c r m :=
 ⟨h.gr.same s,h.ok,h.bs,s _ _ h.br,h.nbr,s _ _ h.hp,h.ru.same s,h.rok,h.rest,h.me.kp h.ok (AI.refl h.ok) λb o e _=>s _ _ e⟩
theorem JW.mono{a:Ad}{H:Hp}{g:GA}{G:Gv}{N M b d:Nat}{p e mem c:Addr}{r:Az}{m:MA}(h:JW a H g G N M p e mem c r m)(f:N<=b)(i:M<=d):JW a H g G b d p e mem c r m :=
 ⟨h.gr,h.ok,h.bs,h.br,h.nbr,h.hp,h.ru,h.rok,h.rest,h.me.mono f i⟩
theorem JC.fr{a:Ad}{H n:Hp}{g:GA}{G p:Gv}{N M i:Nat}{r:Az}{m:MA}(h:JC H g G N M r m)(d:AK a H g G)(ok:GOk G)(f:Fr g H n)(go:AI G p i):JC n g p N M r m:=by
 obtain⟨t,k,_⟩:=d.pt;refine h.kp ok go λb o e w=>?_;rcases w with z|z|z|z
 ·have c:=h.tp;rw[<-z,e]at c;cases c;exact f _ _ e (AG e d.lv A4) (AG e k A4) (AG e d.nm A4)
 ·have c:=h.l;rw[z]at e⊢;rw[e]at c;cases c;exact f _ _ e h.ap.1 h.ap.2.1 (AG e d.nm A4)
 ·obtain⟨j,q⟩:=M0 z;obtain⟨u,c,_⟩:=h.sq j b q;rw[e]at c;cases c;exact f _ _ e (AG e d.lv A4) (AG e k A4) (AG e d.nm A4)
 ·obtain⟨s,c,_⟩:=h.ce;rw[z]at e⊢;rw[e]at c;cases c;exact f _ _ e (AG e d.lv A4) (AG e k A4) h.ap.2.2
theorem Ct.fr{a:Ad}{H d:Hp}{g:GA}{G:Gv}{p:Addr}{x:Str}{r:Az}(h:Ct a H p x r)(c:AK a H g G)(f:Fr g H d):Ct a d p x r:=by
 obtain⟨j,i,_⟩:=c.pt;exact h.kp λb o e n=>f _ _ e (AG e c.lv (by intro z;rw[z]at n;cases n)) (AG e i (by intro z;rw[z]at n;cases n)) (AG e c.nm (by intro z;rw[z]at n;cases n))
theorem JW.fr{a:Ad}{H c:Hp}{g:GA}{G d:Gv}{N M i:Nat}{p j mem e:Addr}{r:Az}{m:MA}(h:JW a H g G N M p j mem e r m)(f:Fr g H c)(b:AK a c g d)(go:AI G d i):JW a c g d N M p j mem e r m:=by
 obtain⟨l,k,_⟩:=h.gr.pt;refine⟨b,go.ok,h.bs.goes go,f _ _ h.br h.nbr.1 h.nbr.2 (AG h.br h.gr.nm A4),h.nbr,f _ _ h.hp (AG h.hp h.gr.lv A4) (AG h.hp k A4) (AG h.hp h.gr.nm A4),h.ru.fr h.gr f,h.rok,h.rest,h.me.fr h.gr h.ok f go⟩
def FrJ(g:GA)(m:MA)(H H':Hp):Prop:=∀b o,H b=some o->b≠g.lv->b≠g.pt->b≠g.nm->b≠m.kc->b∉m.ds->H' b=some o
theorem FrJ.trans{g:GA}{m:MA}{f d a:Hp}(h:FrJ g m f d)(k:FrJ g m d a):FrJ g m f a:=λb o e j i l c n=>k _ _ (h _ _ e j i l c n) j i l c n
theorem Fr.j{g:GA}{m:MA}{c a:Hp}(h:Fr g c a):FrJ g m c a:=λb o e f d i _ _=>h _ _ e f d i
theorem Ax.j{g:GA}{m:MA}{a c:Hp}(h:Ax a c):FrJ g m a c:=λb o e _ _ _ _ _=>h _ _ e
theorem JW.putC{a:Ad}{H:Hp}{g:GA}{G:Gv}{N M:Nat}{p w mem k:Addr}{r:Az}{m:MA}{i:List (List Key×V)}(h:JW a H g G N M p w mem k r m)(len:i.length<=M+1)(j:∀(x:List Int) v,Bq i (kOf x)=some v->∃c u,x=c::u/\v=.int (CK r c u)):JW a (upd H m.kc (.dT i)) g G N (M+1) p w mem k r m:=by
 obtain⟨K,y,_⟩:=h.me.ce;have f:∀{b v},H b=some v->(∀s,v≠.dT s)->upd H m.kc (.dT i) b=some v:=λ{b v} e n=>by rw[As (AG e y (n _))];exact e
 obtain⟨O,A,E⟩:=h.gr.pt;refine⟨⟨f h.gr.hp B0,f h.gr.lv B0,⟨O,f A B0,PairedM.imp (λt q z=>f z B0) E⟩,by rw[As (K1 h.me.ap.2.2)];exact h.gr.nm,h.gr.ne⟩,h.ok,h.bs,f h.br B0,h.nbr,f h.hp B0,h.ru.kp λb o e n=>f e λs z=>(by rw[z]at n;cases n),h.rok,h.rest,⟨f h.me.tp B0,f h.me.l B0,h.me.ap,h.me.len,h.me.nd,λe d D=>?_,⟨i,Ag,len,j⟩⟩⟩;obtain⟨P,Q,B,C,I⟩:=h.me.sq e d D;exact⟨P,f Q B0,B,C,I⟩
theorem JW.putS{a:Ad}{H:Hp}{g:GA}{G:Gv}{N M:Nat}{p Q mem C:Addr}{r:Az}{m:MA}{e:Nat}{d:Addr}{x:List (Key×V)}{n k:Nat}(h:JW a H g G N M p Q mem C r m)(O:m.ds[e]?=some d)(I:H d=some (.dK x))(jr:JR r G e n k):JW a (upd H d (.dK (Dz x (Sum.inl (n:Int)) (.int (k:Int))))) g G (N+1) M p Q mem C r m:=by
 have c:∀{b v},H b=some v->(∀E,v≠.dK E)->upd H d (.dK (Dz x (Sum.inl (n:Int)) (.int (k:Int)))) b=some v:=λ{b v} e n=>by rw[As (AG e I (n _))];exact e
 obtain⟨ts,T,X⟩:=h.gr.pt;obtain⟨Z,S,c2,Y⟩:=h.me.ce;refine⟨⟨c h.gr.hp B0,c h.gr.lv B0,⟨ts,c T B0,PairedM.imp (λt q z=>c z B0) X⟩,c h.gr.nm B0,h.gr.ne⟩,h.ok,h.bs,c h.br B0,h.nbr,c h.hp B0,h.ru.kp λb o e n=>c e λE z=>(by rw[z]at n;cases n),h.rok,h.rest,⟨c h.me.tp B0,c h.me.l B0,h.me.ap,h.me.len,h.me.nd,λR d' f=>?_,⟨Z,c S B0,c2,Y⟩⟩⟩;obtain⟨w,A,U,j,P⟩:=h.me.sq R d' f;by_cases z:R=e
 ·rw[z,O]at f;cases f;rw[I]at A;cases A;subst z;refine⟨_,Ag,D0 (EB _ _ _) A0,λq s=>?_,λD v i=>?_⟩
  ·unfold Dz at s;split at s
   ·obtain⟨K,B,rfl⟩:=D1.mp s;split
    ·exact j K B
    ·exact j K B
   ·rcases D3.mp s with y|y
    ·exact j q y
    ·rw[D7.mp y];exact⟨_,rfl⟩
  ·rw[IV]at i;split at i
   ·rename_i y;have:D=n:=by have:=Sum.inl.inj y;lia
    rw[this];cases i;exact⟨k,rfl,jr⟩
   ·exact P D v i
 ·have u:d'≠d:=λy=>z (by
   rw[y]at f;exact(List.getElem?_inj (B9.mp f).1 h.me.nd).mp (f.trans O.symm))
  exact⟨w,by rw[As u];exact A,D0 U A0,j,P⟩
section
variable{P:Program}{w:World}{K:W.Frag}{mg:Str->Option Value}{base:Heap}{a:Ad}
inductive SpCel(a:Ad)(vs:List V)(H:Hp)(Q:VK):Prop
 |mk (p dx mem pr t:Addr) (g:GA) (G:Gv) (N M:Nat) (r:Az) (m:MA) (c:Int) (ar:List Int) (_:vs=[.ref p,.ref t]) (_:JW a H g G N M p dx mem pr r m) (_:H t=some (.tup ((c::ar).map V.int))) (_:ar.length=8) (_:∀x∈c::ar,Mf x) (_:M<9000000) (_:∀H',(∀b o,H b=some o->b≠m.kc->H' b=some o)->JW a H' g G N (M+1) p dx mem pr r m->Q (.int (CK r c ar)) H'):SpCel a vs H Q
def UK(a:Ad):Sp:=λvs H Q _=>SpCel a vs H Q
theorem ok_cel(F:Fun K "cell_after" "Jumps.cell_after" Ck f fd)(T:Top K mg a)(aY:BK P w K mg base CX0 4 a.c_Grove "state_of" Jt (Yl a))(aR:BK P w K mg base CX0 3 a.c_Grove "leaf" Rl (Qx a))(bA:Cal P w K mg base CX0 5 "becomes" Lq (UL a)):AJ P w K mg base CX0 6 f fd DC (UK a):=by
  refine F.ok Ca (λ_ _ _ _ h=>by rcases h;subst_vars;rfl) λae A ad s H vs Q E Y h=>?_
  obtain⟨p,dx,mem,pr,t,g,G,N,M,r,m,c,d,rfl,u,ht,h8,Z,few,k⟩:=h;obtain⟨kc,c1,c2,c3⟩:=u.me.ce;have D:H t=some (.tup ((kOf (c::d)).map kV)):=by rw[ZK];exact ht
  refine⟨_,(Ae (An (i:=2) Ca.nd rfl (Or.inl rfl) (LN (GO Y) (AC (pv 0) rfl) (pv 1) ⟨rfl,rfl,rfl,rfl⟩)) (Ae (AN (Aw Jp (pv 2) DA (AD _)) (Ae (Iq (i:=3) rfl Ca.nd rfl rfl (BM.of (So:=Ak Ck) (No:=FH) (N:=["one","self"]) (k:=1) (cs:=[0]) rfl rfl A1) (TB (pv 1)) (λ_ _ _=>(Bz (i:=0) A1 rfl rfl)) (λ_ _ _=>BS) (λ_ _ _=>(AF (QQ (K:=K) rfl (pv 1) rfl) aY (rm Y) Ao (Aa (pv 0) Ab)))) (Ae (An (i:=2) Ca.nd rfl (Or.inl rfl) (AF (AC (pv 0) rfl) aR (rm Y) Ao (Aa (Ap bA (rm Y) rfl Ao (Aa (AC (pv 0) rfl) (Aa (Ai Av (pv 3) Ac (λ_ _=>rfl)) (Aa (Sn UM (pv 3) (QN Ac) po_none) Ab)))) Ab))) (Af (JG (GO Y) (AC (pv 0) rfl) (pv 1) (pv 2) rfl)))) AE) (Af (Ar (pv 2))))),?_⟩
  try dsimp only[cxK]
  refine xwf rfl rfl u.hp T.cl_Jumps T.na_Jumps_known_cells (ZM _ _ _ _ _) ⟨m.kc,rfl,.inr ⟨_,.inl c1⟩,(xq1 rfl ⟨_,IU.t (k:=kOf (c::d)) c1 D,?_⟩)⟩;cases ev:Bq kc (kOf (c::d))with
  |some v =>
   obtain⟨c',af,e1,e2⟩:=c3 _ v ev;cases e1;rw[e2];exact xq1 rfl ⟨rfl,(xq1 rfl (Bc (xq1 rfl (k H (λb o e _=>e) (u.mono (C5 _) (W6 _))))))⟩
  |none =>
   refine xq1 rfl ⟨rfl,(xq1 rfl (BJ ?_))⟩;refine xq1 rfl ⟨t,rfl,⟨_,SqT.of ht⟩,?_⟩;refine RG (xs:=(c::d).map V.int) (λi q U=>H=U/\q=((c::d).take i).map V.int) ⟨rfl,rfl⟩ (λi q U _ z=>z.1▸SqT.of ht) ?_ ?_
   ·rintro i v q U S ⟨rfl,rfl⟩;rw[C3]at S;obtain⟨x,ex,rfl⟩:=F3.mp S;obtain⟨x0,x8⟩:=Z x (F1 ex);obtain⟨n,rfl⟩:=F4 x0;refine⟨⟨[some (.int (n:Int))],rfl,rfl⟩,?_,IW (xq1 rfl (xq5 u.hp T.cl_Jumps T.na_Jumps_grove (DX _ _ _ _ _) (xq3 rfl u.gr.hp (TJ g) (xq1 rfl ⟨g,G,n,_,rfl,u.gr,u.ok.leaf n A0,rfl,rfl,?_⟩))))⟩
    ·rw[B8,M9];exact M7 (V0 _ _) (by rw[F2,h8];decide)
    ·rw[N2,ex,U3,D4];rfl
   ·rintro q U ⟨rfl,rfl⟩ L hL;rw[B8,N7];generalize O:upd H L _=H1;obtain⟨s1,aa⟩:=alc hL O;have l:=u.same s1;refine xwf rfl rfl l.hp T.cl_Jumps T.na_Jumps_grove (DX _ _ _ _ _) (xq3 rfl l.gr.hp (UW g) (xwf rfl rfl l.hp T.cl_Jumps T.na_Jumps_rule (jf5_ru _ _ _ _ _) (xwi rfl rfl rfl (SqL.of aa) (Ah (j:=0) rfl) ?_)));refine xq1 rfl ⟨1,rfl,L,(xq1 rfl ⟨SqL.of aa,λSL ac=>?_⟩)⟩;have I:Uh ((c::d).map V.int) (some 1) none=d.map V.int:=by
     obtain⟨x1,x2,x3,x4,x5,x6,x7,x8,rfl⟩:=eight_of d h8;rfl
    rw[I];generalize dH:upd H1 SL _=U;obtain⟨s2,ab⟩:=alc ac dH;have C:=l.same s2;refine⟨pr,SL,_,r,c,d,rfl,C.ru,C.rok.rok,ab,λH3 s3=>?_⟩;have X:=C.same s3;have B:=(s1.trans s2).trans s3;have R:=bec_st u.rok (Z c C8) d;refine⟨g.p,_,rfl,R.1,R.2,?_⟩;refine xq1 rfl (xq1 rfl (xq5 X.hp T.cl_Jumps T.na_Jumps_known_cells (ZM _ _ _ _ _) (xq1 rfl ⟨m.kc,(xq1 rfl ⟨Ng.t (k:=kOf (c::d)) (B _ _ c1) (B _ _ D) (M7 (show kc.length<=9000000 by lia) A3),?_⟩)⟩)));refine xq1 rfl (k _ (λb o e n=>by rw[As n];exact B _ _ e) (X.putC (D0 (EB _ _ _) A0) λks v hv=>?_));rw[IV]at hv;split at hv
    ·rename_i y;rw[Rs y];cases hv;exact⟨c,d,rfl,rfl⟩
    ·exact c3 ks v hv
end
def FrC(g:GA)(m:MA)(H H':Hp):Prop:=∀b o,H b=some o->b≠g.lv->b≠g.pt->b≠g.nm->b≠m.kc->H' b=some o
theorem FrC.trans{g:GA}{m:MA}{f d a:Hp}(h:FrC g m f d)(k:FrC g m d a):FrC g m f a:=λb o e j i l c=>k _ _ (h _ _ e j i l c) j i l c
theorem FrC.j{g:GA}{m:MA}{c a:Hp}(h:FrC g m c a):FrJ g m c a:=λb o e i f k d _=>h _ _ e i f k d
theorem Fr.c{g:GA}{m:MA}{d a:Hp}(h:Fr g d a):FrC g m d a:=λb o e i f j _=>h _ _ e i f j
def spNo:Sp:=λ_ _ _ _=>False
theorem AJ.no{P:Program}{w:World}{K:W.Frag}{mg:Str->Option Value}{base:Heap}{CX:CXT}{k:Nat}{f:Addr}{a:FuncData}{b:List Str}:AJ P w K mg base CX k f a b spNo :=
 ⟨λ_ _ _ _ h=>h.elim,λ_ _ _ _ _ _ _ _ _ _ _ _ _ h=>h.elim⟩
theorem bareJ{l:Nat}(h:l<=48):((CY 48).map V.int)[l]?=some (.int (bareN l:Int)):=by
 unfold CY;rw[C3,C3,Q7 A0];rfl
section
variable{P:Program}{w:World}{K:W.Frag}{mg:Str->Option Value}{base:Heap}{a:Ad}
theorem tretl {c:TA} {D:MH} {σ:St} {H:Hp} (h:c σ H λxs b=>xs.length<=sizeLine/\∀p,b p=none->D.rt (.ref p) (upd b p (.lst xs))):tRet (tLst c) D σ H:=h
theorem FP {c:TE} {b:TA} {σ:St} {H:Hp} {Q:List V->Hp->Prop} (h:c σ H λx d=>b σ d λxs e=>Q (x::xs) e):CL c b σ H Q:=h
theorem ixt{K:W.Frag}{σ:St}{i:Nat}{H:Hp}{t:Addr}{xs:List V}{j:Int}{v:V}{Q:VK}(r:σ[i]?=some (some (.ref t)))(h:H t=some (.tup xs))(e:atI xs j=some v)(k:Q v H):tOp (FM K) (Ey i) (tC (V.int j)) σ H Q:=⟨_,r,t,xs,j,v,rfl,rfl,SqT.of h,e,k⟩
theorem ixp{K:W.Frag}{H:Hp}{p t:Addr}{b:List Addr}{n:Nat}{Q:VK}(h:H p=some (.lst (b.map V.ref)))(e:b[n]?=some t)(k:Q (.ref t) H):rIxL K (.ref p) (.int n) H Q:=⟨p,_,n,_,rfl,rfl,SqL.of h,Ah (by rw[C3,e];rfl),k⟩
structure Ln(a:Ad)(g:GA)(H0:Hp)(G0:Gv)(j:Nat)(H:Hp)(G:Gv):Prop where
 fr:Fr g H0 H
 kt:∀{b:Addr}{xs:List V},H0 b=some (.tup xs)->H b=some (.tup xs)
 gr:AK a H g G
 go:AI G0 G j
theorem lnk{a:Ad}{r H:Hp}{g:GA}{G0 G:Gv}{j:Nat}{u:Addr}{x y z w:Nat}{l:Int}{Q:VK}(s:Ln a g r G0 j H G)(t:H u=none)(c:Al G0 x l/\Al G0 y l/\Al G0 z l/\Al G0 w l)(o:l<=47)(few:G0.length+j<9000000)
  (k:∀(n:Nat)(d:Gv)(i:Hp),Ln a g r G0 (j+1) i d->AI G d 1->d[n]?=some ⟨[(x:Int),(y:Int),(z:Int),(w:Int)],l+1⟩->Q (.int n) i):Uo a [.ref g.p,.ref u] (upd H u (.tup [.int x,.int y,.int z,.int w])) Q:=by
 generalize m:upd H u _=D;obtain⟨q,v⟩:=alc t m;have f:=s.gr.same q;have C:=s.go.few;refine⟨g,G,u,x,y,z,w,l,rfl,f,s.go.ok,v,⟨s.go.lev c.1,s.go.lev c.2.1,s.go.lev c.2.2.1,s.go.lev c.2.2.2⟩,o,by lia,λn d i fr B go e=>k n d i ⟨s.fr.trans ((Ax.fr q).trans fr),λ{b xs} e=>?_,B,s.go.trans go⟩ go e⟩;obtain⟨us,A,_⟩:=f.pt;have h:=q _ _ (s.kt e);exact fr _ _ h (AG h f.lv A4) (AG h A A4) (AG h f.nm A4)
theorem ttup {c:TA} {σ:St} {H:Hp} {Q:VK} (h:c σ H λxs b=>xs.length<=sizeLine/\∀p,b p=none->Q (.ref p) (upd b p (.tup xs))):Ye c σ H Q:=h
theorem al9{P:Int->Prop}{a b c d e f g h i:Int}(k:P a)(o:P b)(p:P c)(l:P d)(q:P e)(m:P f)(s:P g)(r:P h)(n:P i):∀x∈[a,b,c,d,e,f,g,h,i],P x:=by
 intro x j;simp only[C1,D6,K7]at j;rcases j with rfl|rfl|rfl|rfl|rfl|rfl|rfl|rfl|rfl<;>assumption
structure Lc(g:GA)(m:MA)(H0 H:Hp):Prop where
 fr:FrC g m H0 H
 kt:∀{b:Addr}{xs:List V},H0 b=some (.tup xs)->H b=some (.tup xs)
theorem celT{a:Ad}{v H:Hp}{g:GA}{G:Gv}{N M:Nat}{p q mem j u:Addr}{r:Az}{m:MA}{c:Int}{d:List Int}{Q:VK}(y:JW a H g G N M p q mem j r m)(t:Lc g m v H)(A:H u=none)(f:∀x∈c::d,Mf x)(I:d.length=8)(C:M<9000000)
  (h:∀(k:Nat)(Y:Hp),CK r c d=k->k<8->Lc g m v Y->JW a Y g G N (M+1) p q mem j r m->Q (.int k) Y):SpCel a [.ref p,.ref u] (upd H u (.tup ((c::d).map V.int))) Q:=by
 generalize n:upd H u _=X;obtain⟨s,D⟩:=alc A n;have i:=y.same s;refine⟨p,q,mem,j,u,g,G,N,M,r,m,c,d,rfl,i,D,I,f,C,λY fr l=>?_⟩;obtain⟨E,O⟩:=bec_st y.rok (f c (.head ..)) d;obtain⟨k,e⟩:=F4 E;rw[e];refine h k Y e A0 ⟨t.fr.trans λb o e _ _ _ z=>fr _ _ (s _ _ e) z,λ{b xs} e=>?_⟩ l;obtain⟨R,B,_⟩:=i.me.ce;have e:=s _ _ (t.kt e);exact fr _ _ e (AG e B A4)
theorem cel9{K:W.Frag}{a:Ad}{b H:Hp}{g:GA}{G:Gv}{N M:Nat}{p dx mem I:Addr}{r:Az}{m:MA}{σ:St}{Q:VK}{i1 Z i3 i4 T i6 O i8 R:Nat}{U t2 t3 t4 S E t7 X t9:Addr}{i d j n l q o f s:List V}{j1 j2 j3 j4 j5 j6 j7 j8 j9 A c2 t B v y u D C:Int}(hj:JW a H g G N M p dx mem I r m)(c:Lc g m b H)(h1:b U=some (.tup i))(h2:b t2=some (.tup d))(h3:b t3=some (.tup j))(h4:b t4=some (.tup n))(h5:b S=some (.tup l))(h6:b E=some (.tup q))(h7:b t7=some (.tup o))(h8:b X=some (.tup f))(h9:b t9=some (.tup s))(z:∀x∈[A,c2,t,B,v,y,u,D,C],Mf x)(hM:M<9000000)
  (k:∀(k:Nat)(Y:Hp),CK r A [c2,t,B,v,y,u,D,C]=k->k<8->Lc g m b Y->JW a Y g G N (M+1) p dx mem I r m->Q (.int k) Y) (e:σ[0]?=some (some (.ref p))/\(σ[i1]?=some (some (.ref U))/\atI i j1=some (.int A))/\(σ[Z]?=some (some (.ref t2))/\atI d j2=some (.int c2))/\(σ[i3]?=some (some (.ref t3))/\atI j j3=some (.int t))/\(σ[i4]?=some (some (.ref t4))/\atI n j4=some (.int B))/\(σ[T]?=some (some (.ref S))/\atI l j5=some (.int v))/\(σ[i6]?=some (some (.ref E))/\atI q j6=some (.int y))/\(σ[O]?=some (some (.ref t7))/\atI o j7=some (.int u))/\(σ[i8]?=some (some (.ref X))/\atI f j8=some (.int D))/\(σ[R]?=some (some (.ref t9))/\atI s j9=some (.int C)):=by exact⟨rfl,⟨rfl,rfl⟩,⟨rfl,rfl⟩,⟨rfl,rfl⟩,⟨rfl,rfl⟩,⟨rfl,rfl⟩,⟨rfl,rfl⟩,⟨rfl,rfl⟩,⟨rfl,rfl⟩,⟨rfl,rfl⟩⟩) :
  Uz a.c_Jumps "cell_after" (UK a) [] E0 (Ey 0) (CL (Ye (CL (tOp (FM K) (Ey i1) (tC (V.int j1))) (CL (tOp (FM K) (Ey Z) (tC (V.int j2))) (CL (tOp (FM K) (Ey i3) (tC (V.int j3))) (CL (tOp (FM K) (Ey i4) (tC (V.int j4))) (CL (tOp (FM K) (Ey T) (tC (V.int j5))) (CL (tOp (FM K) (Ey i6) (tC (V.int j6))) (CL (tOp (FM K) (Ey O) (tC (V.int j7))) (CL (tOp (FM K) (Ey i8) (tC (V.int j8))) (CL (tOp (FM K) (Ey R) (tC (V.int j9))) Qt)))))))))) Qt) σ H Q:=by
 apply AM;intro G_ h;obtain⟨r0,⟨r1,e1⟩,⟨r2,e2⟩,⟨r3,e3⟩,⟨r4,e4⟩,⟨r5,e5⟩,⟨r6,e6⟩,⟨r7,e7⟩,⟨r8,e8⟩,⟨r9,e9⟩⟩:=e;apply h;clear h G_;exact⟨_,r0,(xq3 rfl hj.hp (Zk _ _ _ _ _) (ixt r1 (c.kt h1) e1 (ixt r2 (c.kt h2) e2 (ixt r3 (c.kt h3) e3 (ixt r4 (c.kt h4) e4 (ixt r5 (c.kt h5) e5 (ixt r6 (c.kt h6) e6 (ixt r7 (c.kt h7) e7 (ixt r8 (c.kt h8) e8 (ixt r9 (c.kt h9) e9 ⟨(by show 9<=sizeLine;decide),λ_ hu=>celT hj c hu z rfl hM k⟩))))))))))⟩
inductive SpMid2(a:Ad)(vs:List V)(H:Hp)(Q:VK):Prop
 |mk (p dx mem pr:Addr) (g:GA) (G:Gv) (N M:Nat) (r:Az) (m:MA) (n:Nat) (_:vs=[.ref p,.int n]) (_:JW a H g G N M p dx mem pr r m) (_:Al G n ((1+1:Nat):Int)) (_:M<8500000) (_:G.length<8000000) (_:∀(k:Nat)(G':Gv)(H':Hp),FrC g m H H'->JW a H' g G' N (M+4) p dx mem pr r m->AI G G' 1->JR r G' 0 n k->Q (.int k) H'):SpMid2 a vs H Q
def Qw(a:Ad):Sp:=λvs H Q _=>SpMid2 a vs H Q
theorem ok_mid2(F:Fun K "middle_after" "Jumps.middle_after" CP f fd)(T:Top K mg a)(a6:BK P w K mg base CX0 2 a.c_Grove "linked" AS (DJ a))(aF:BK P w K mg base CX0 6 a.c_Jumps "cell_after" DC (UK a)):AJ P w K mg base CX0 7 f fd Jt (Qw a):=by
 refine F.ok Bf (λvs H Q E h=>?_) (λbi A an s H vs Q E hr h=>?_)
 ·apply AM;intro X y;obtain⟨p,dx,mem,pr,g,G,N,M,r,m,n,rfl,_⟩:=h;apply y;clear y X;rfl
 ·apply AM;intro X y;obtain⟨p,dx,mem,pr,g,G,N,M,r,m,n,rfl,d,hl,aw,few,k⟩:=h;obtain⟨qa,qb,qc,qd,en,la,lb,lc,ld⟩:=d.ok.four hl;obtain⟨a0,a1,a2,a3,ea,aj,V,aa,I⟩:=d.ok.four (l:=0) la;obtain⟨b0,b1,b2,b3,eb,Y,ak,D,R⟩:=d.ok.four (l:=0) lb;obtain⟨c0,c1,c2,c3,ec,O,z,ai,Z⟩:=d.ok.four (l:=0) lc;obtain⟨d0,d1,d2,d3,ed,C,ab,ac,ar⟩:=d.ok.four (l:=0) ld;obtain⟨ts,S,U⟩:=d.gr.pt;obtain⟨t,et,ht⟩:=PairedM.get U en;obtain⟨ta,av,j⟩:=PairedM.get U ea;obtain⟨tb,al,o⟩:=PairedM.get U eb;obtain⟨tc,au,q⟩:=PairedM.get U ec;obtain⟨td,ah,v⟩:=PairedM.get U ed;apply y;clear y X;refine⟨_,(Ae (An (i:=2) Bf.nd rfl (Or.inl rfl) (Ai Av (AC (AC (pv 0) rfl) rfl) (pv 1) (λ_ _=>rfl))) (Ae (An (i:=3) Bf.nd rfl (Or.inl rfl) (Ai Av (AC (AC (pv 0) rfl) rfl) (Ai Aj (pv 2) Ac (λ_ _=>rfl)) (λ_ _=>rfl))) (Ae (An (i:=4) Bf.nd rfl (Or.inl rfl) (Ai Av (AC (AC (pv 0) rfl) rfl) (Ai Aj (pv 2) Ac (λ_ _=>rfl)) (λ_ _=>rfl))) (Ae (An (i:=5) Bf.nd rfl (Or.inl rfl) (Ai Av (AC (AC (pv 0) rfl) rfl) (Ai Aj (pv 2) Ac (λ_ _=>rfl)) (λ_ _=>rfl))) (Ae (An (i:=6) Bf.nd rfl (Or.inl rfl) (Ai Av (AC (AC (pv 0) rfl) rfl) (Ai Aj (pv 2) Ac (λ_ _=>rfl)) (λ_ _=>rfl))) (Af (Ar (AF (AC (pv 0) rfl) a6 (rm hr) Ao (Bu (Aa (AF (pv 0) aF (rm hr) Ao (Bu (Aa (Ai Aj (pv 3) Ac (λ_ _=>rfl)) (Aa (Ai Aj (pv 3) Ac (λ_ _=>rfl)) (Aa (Ai Aj (pv 3) Ac (λ_ _=>rfl)) (Aa (Ai Aj (pv 4) Ac (λ_ _=>rfl)) (Aa (Ai Aj (pv 3) Ac (λ_ _=>rfl)) (Aa (Ai Aj (pv 4) Ac (λ_ _=>rfl)) (Aa (Ai Aj (pv 5) Ac (λ_ _=>rfl)) (Aa (Ai Aj (pv 5) Ac (λ_ _=>rfl)) (Aa (Ai Aj (pv 6) Ac (λ_ _=>rfl)) Ab))))))))) Ab)) (Aa (AF (pv 0) aF (rm hr) Ao (Bu (Aa (Ai Aj (pv 4) Ac (λ_ _=>rfl)) (Aa (Ai Aj (pv 3) Ac (λ_ _=>rfl)) (Aa (Ai Aj (pv 4) Ac (λ_ _=>rfl)) (Aa (Ai Aj (pv 4) Ac (λ_ _=>rfl)) (Aa (Ai Aj (pv 3) Ac (λ_ _=>rfl)) (Aa (Ai Aj (pv 4) Ac (λ_ _=>rfl)) (Aa (Ai Aj (pv 5) Ac (λ_ _=>rfl)) (Aa (Ai Aj (pv 6) Ac (λ_ _=>rfl)) (Aa (Ai Aj (pv 6) Ac (λ_ _=>rfl)) Ab))))))))) Ab)) (Aa (AF (pv 0) aF (rm hr) Ao (Bu (Aa (Ai Aj (pv 5) Ac (λ_ _=>rfl)) (Aa (Ai Aj (pv 3) Ac (λ_ _=>rfl)) (Aa (Ai Aj (pv 3) Ac (λ_ _=>rfl)) (Aa (Ai Aj (pv 4) Ac (λ_ _=>rfl)) (Aa (Ai Aj (pv 5) Ac (λ_ _=>rfl)) (Aa (Ai Aj (pv 6) Ac (λ_ _=>rfl)) (Aa (Ai Aj (pv 5) Ac (λ_ _=>rfl)) (Aa (Ai Aj (pv 5) Ac (λ_ _=>rfl)) (Aa (Ai Aj (pv 6) Ac (λ_ _=>rfl)) Ab))))))))) Ab)) (Aa (AF (pv 0) aF (rm hr) Ao (Bu (Aa (Ai Aj (pv 6) Ac (λ_ _=>rfl)) (Aa (Ai Aj (pv 3) Ac (λ_ _=>rfl)) (Aa (Ai Aj (pv 4) Ac (λ_ _=>rfl)) (Aa (Ai Aj (pv 4) Ac (λ_ _=>rfl)) (Aa (Ai Aj (pv 5) Ac (λ_ _=>rfl)) (Aa (Ai Aj (pv 6) Ac (λ_ _=>rfl)) (Aa (Ai Aj (pv 5) Ac (λ_ _=>rfl)) (Aa (Ai Aj (pv 6) Ac (λ_ _=>rfl)) (Aa (Ai Aj (pv 6) Ac (λ_ _=>rfl)) Ab))))))))) Ab)) Ab)))) Ab))))))))),?_⟩
  try dsimp only[cxK]
  refine Bv ?_;intro a5 ay k0 B ax;refine xwf rfl rfl d.hp T.cl_Jumps T.na_Jumps_grove (DX _ _ _ _ _) (xq5 d.gr.hp T.cl_Grove T.na_Grove_parts (Ce g) (xq1 rfl (ixp S et ?_)));refine B ?_;refine Bv ?_;intro a8 bf k1 B bg;refine xwf rfl rfl d.hp T.cl_Jumps T.na_Jumps_grove (DX _ _ _ _ _) (xq5 d.gr.hp T.cl_Grove T.na_Grove_parts (Ce g) (ixt rfl ht rfl (ixp S av ?_)));refine B ?_;refine Bv ?_;intro a7 ba k2 B a4;refine xwf rfl rfl d.hp T.cl_Jumps T.na_Jumps_grove (DX _ _ _ _ _) (xq5 d.gr.hp T.cl_Grove T.na_Grove_parts (Ce g) (ixt rfl ht rfl (ixp S al ?_)));refine B ?_;refine Bv ?_;intro bb bh k3 B bc;refine xwf rfl rfl d.hp T.cl_Jumps T.na_Jumps_grove (DX _ _ _ _ _) (xq5 d.gr.hp T.cl_Grove T.na_Grove_parts (Ce g) (ixt rfl ht rfl (ixp S au ?_)));refine B ?_;refine Bv ?_;intro a9 az k4 B bd;refine xwf rfl rfl d.hp T.cl_Jumps T.na_Jumps_grove (DX _ _ _ _ _) (xq5 d.gr.hp T.cl_Grove T.na_Grove_parts (Ce g) (ixt rfl ht rfl (ixp S ah ?_)));refine B ?_;have b:∀{x:Nat},Al G x ((0:Nat):Int)->Mf (x:Int):=λ{x} h=>by
   have:=d.ok.cell h;exact⟨by lia,by lia⟩
  have c_:Lc g m H H:=⟨λ_ _ e _ _ _ _=>e,λe=>e⟩
  refine xwf rfl rfl d.hp T.cl_Jumps T.na_Jumps_grove (DX _ _ _ _ _) (xq3 rfl d.gr.hp (BI g) ?_);refine FP (ttup (FP (cel9 d c_ j j j o j o q q v (al9 (b I) (b aj) (b V) (b Y) (b aa) (b D) (b O) (b z) (b C)) A0 λk0 Y0 ae aq x0 j0=>?_)));refine FP (cel9 j0 x0 o j o o j o q v v (al9 (b D) (b V) (b Y) (b ak) (b I) (b R) (b z) (b C) (b ab)) A0 λk1 Y1 ao am x1 j1=>?_);refine FP (cel9 j1 x1 q j j o q v q q v (al9 (b z) (b aa) (b I) (b D) (b O) (b C) (b ai) (b Z) (b ac)) A0 λk2 Y2 ad as x2 j2=>?_);refine FP (cel9 j2 x2 v j o o q v q v v (al9 (b C) (b I) (b D) (b R) (b z) (b ab) (b Z) (b ac) (b ar)) A0 λk3 Y3 ag af x3 j3=>?_);have lf:∀{k:Nat},k<8->Al G k ((0:Nat):Int):=λ{k} h=>⟨_,d.ok.leaf k h,rfl⟩
  refine⟨(by show 4<=sizeLine;decide),λu hu=>lnk (⟨.refl _ _,λe=>e,j3.gr,.refl d.ok⟩:Ln a g Y3 G 0 Y3 G) hu ⟨lf aq,lf am,lf as,lf af⟩ A3 A0 λx G' H' s go e=>?_⟩;refine k x G' H' (x3.fr.trans (Fr.c s.fr)) (j3.fr s.fr s.gr go) go ⟨0,go.lev hl,C5 0,⟨_,e,rfl⟩,?_⟩;apply AM;intro X y;obtain⟨rfl,rfl,rfl,rfl⟩:=Ea (go.get ea);obtain⟨rfl,rfl,rfl,rfl⟩:=Ea (go.get eb);obtain⟨rfl,rfl,rfl,rfl⟩:=Ea (go.get ec);obtain⟨rfl,rfl,rfl,rfl⟩:=Ea (go.get ed);obtain⟨rfl,rfl,rfl,rfl⟩:=Ea (go.get en);obtain⟨rfl,rfl,rfl,rfl⟩:=Ea e;apply y;clear y X;intro x' y' hx hy
  match x',hx,y',hy with
  |0,_,0,_=>exact ae.symm
  |1,_,0,_=>exact ao.symm
  |0,_,1,_=>exact ad.symm
  |1,_,1,_=>exact ag.symm
inductive SpCj(a:Ad)(vs:List V)(H:Hp)(Q:VK):Prop
 |mk (p dx gp mem pr l kc:Addr) (g:GA) (G:Gv) (n e:Nat) (q:Sq) (_:vs=[.ref p,.int n,.int e]) (_:H p=some (.ins a.c_Jumps dx (jf5 g.p mem pr l kc))) (_:AK a H g G) (_:G[n]?=some q) (_:2+(e:Int)<=q.lev) (_:Q .non H):SpCj a vs H Q
def spCj(a:Ad):Sp:=λvs H Q _=>SpCj a vs H Q
theorem ok_cj(F:Fun K "check_jump" "Jumps.check_jump" Dx f fd)(T:Top K mg a)(u:BK P w K mg base CX0 3 a.c_Grove "level_of" Jt (LB a))(v:Cal P w K mg base CX0 1 "is_whole" TM VR):AJ P w K mg base CX0 4 f fd Pt (spCj a):=by
 refine F.ok EO (λvs H Q E h=>?_) (λt A c s H vs Q E j h=>?_)
 ·apply AM;intro d b;obtain⟨p,y,z,mem,r,l,x,g,G,n,e,q,rfl,_⟩:=h;apply b;clear b d;rfl
 ·apply AM;intro d b;obtain⟨p,y,z,mem,r,l,x,g,G,n,e,q,rfl,m,o,eq,B,k⟩:=h;apply b;clear b d;refine⟨_,(Ae (An (i:=3) EO.nd rfl (Or.inl rfl) (AF (AC (pv 0) rfl) u (rm j) Ao (Aa (pv 1) Ab))) (Ae (AN (Aw EQ (pv 3) (BL rfl T.k_LEAST_JUMPED) (AD _)) (Af Bk) AE) (Af (AN (PW.pt (Fs (CC (Cl (Ap v (rm j) rfl Ao (Aa (pv 2) Ab)))) (Dy (CC (Og Jo Jo Ac (pv 2) (Ay Bg (pv 3) (BL rfl T.k_LEAST_JUMPED))))))) (Af Bk) AE)))),?_⟩
  try dsimp only[cxK]
  refine xwf rfl rfl m T.cl_Jumps T.na_Jumps_grove (DX _ _ _ _ _) (xq3 rfl o.hp (DD g) (xq1 rfl ⟨g,G,n,q,rfl,o,eq,?_⟩));refine xwb rfl rfl rfl (xq1 rfl ?_);rw[X4 (by lia:¬q.lev<2)];refine Bc ?_;refine⟨_,rfl,_,rfl,true,rfl,Bc ⟨_,rfl,_,_,rfl,rfl,_,rfl,?_⟩⟩;rw[Z7 (by lia:(0:Int)<=(e:Int))];refine BJ (xwb rfl rfl rfl (xq2 rfl rfl (xq1 rfl ?_)));rw[Z7 (by lia:(e:Int)<=q.lev-2)];exact Bc k
end
end J
namespace J
open PySem L2
theorem RF(G:Gv):∀(l n x y i j:Nat),cel G l n (x+2^l*i) (y+2^l*j)=cel G l n x y
 |0,n,x,y,i,j=>rfl
 |l+1,n,x,y,i,j=>by
  show cel G l (qO G n (((x+2^(l+1)*i)/2^l)%2+2*(((y+2^(l+1)*j)/2^l)%2))) (x+2^(l+1)*i) (y+2^(l+1)*j)=cel G l (qO G n ((x/2^l)%2+2*((y/2^l)%2))) x y;have p:0<2^l:=Nat.pow_pos A3;have e:∀i:Nat,2^(l+1)*i=2^l*(2*i):=λi=>by rw[D9,Nat.mul_assoc]
  rw[e i,e j,N8 _ _ p,N8 _ _ p,Q0,Q0];exact RF G l _ x y (2*i) (2*j)
theorem OS(G:Gv)(l n:Nat){x y i j:Nat}(b:x<2^l)(a:y<2^l)(c:i<2)(d:j<2):Cf G (l+1) n (x+2^l*i) (y+2^l*j)=Cf G l (qO G n (i+2*j)) x y:=by
 unfold Cf;show((cel G l (qO G n (((x+2^l*i)/2^l)%2+2*(((y+2^l*j)/2^l)%2))) (x+2^l*i) (y+2^l*j):Nat):Int)=_;have p:0<2^l:=Nat.pow_pos A3;rw[N8 _ _ p,N8 _ _ p,N6 b,N6 a,N9,N9,P3 c,P3 d,RF]
theorem RY(r:Az)(c:Nat->Nat->Int)(n:Nat):∀m,Bh r (m+n) c=Bh r m (Bh r n c)
 |0=>by rw[N9];rfl
 |m+1=>by
  rw[show m+1+n=(m+n)+1 by lia];show stp r (Bh r (m+n) c)=stp r (Bh r m (Bh r n c));rw[RY r c n m]
theorem RX(r:Az){c d:Nat->Nat->Int}{X Y:Nat}:∀(k x y:Nat),k<=x->k<=y->(∀u v,x-k<=u->u<=x+k->y-k<=v->v<=y+k->c u v=d (u+X) (v+Y))->Bh r k c x y=Bh r k d (x+X) (y+Y)
 |0,x,y,_,_,h=>h x y A0 A0 A0 A0
 |k+1,x,y,hx,hy,h=>by
  have e:∀u v,x-1<=u->u<=x+1->y-1<=v->v<=y+1->Bh r k c u v=Bh r k d (u+X) (v+Y):=λu v j m g o=>RX r k u v A0 A0 λa b n i l f=>h a b A0 A0 A0 A0;show CK r (Bh r k c x y) [Bh r k c (x-1) (y-1),Bh r k c x (y-1),Bh r k c (x+1) (y-1),Bh r k c (x-1) y,Bh r k c (x+1) y,Bh r k c (x-1) (y+1),Bh r k c x (y+1),Bh r k c (x+1) (y+1)]=CK r (Bh r k d (x+X) (y+Y)) [Bh r k d (x+X-1) (y+Y-1),Bh r k d (x+X) (y+Y-1),Bh r k d (x+X+1) (y+Y-1),Bh r k d (x+X-1) (y+Y),Bh r k d (x+X+1) (y+Y),Bh r k d (x+X-1) (y+Y+1),Bh r k d (x+X) (y+Y+1),Bh r k d (x+X+1) (y+Y+1)];rw[e x y A0 A0 A0 A0,e (x-1) (y-1) A0 A0 A0 A0,e x (y-1) A0 A0 A0 A0,e (x+1) (y-1) A0 A0 A0 A0,e (x-1) y A0 A0 A0 A0,e (x+1) y A0 A0 A0 A0,e (x-1) (y+1) A0 A0 A0 A0,e x (y+1) A0 A0 A0 A0,e (x+1) (y+1) A0 A0 A0 A0];rw[show x-1+X=x+X-1 by lia,show y-1+Y=y+Y-1 by lia,show x+1+X=x+X+1 by lia,show y+1+Y=y+Y+1 by lia]
def Vw(G:Gv)(c:Nat->Nat->Int)(l m X Y:Nat):Prop:=∀x y,x<2^l->y<2^l->Cf G l m x y=c (x+X) (y+Y)
theorem Vw.q{G:Gv}{c:Nat->Nat->Int}{l m X Y i j:Nat}(h:Vw G c (l+1) m X Y)(d:i<2)(e:j<2):Vw G c l (qO G m (i+2*j)) (X+2^l*i) (Y+2^l*j):=λx y b a=>by
 rw[<-OS G l m b a d e,h _ _ ?_ ?_]
 ·rw[show x+2^l*i+X=x+(X+2^l*i) by lia,show y+2^l*j+Y=y+(Y+2^l*j) by lia]
 ·rw[D9];have:2^l*i<=2^l*1:=L7 _ A0;lia
 ·rw[D9];have:2^l*j<=2^l*1:=L7 _ A0;lia
theorem Vw.of{G:Gv}{c:Nat->Nat->Int}{l m X Y:Nat}(d:Vw G c l (qO G m 0) X Y)(g:Vw G c l (qO G m 1) (X+2^l) Y)(h:Vw G c l (qO G m 2) X (Y+2^l))(e:Vw G c l (qO G m 3) (X+2^l) (Y+2^l)):Vw G c (l+1) m X Y:=λx y k f=>by
 rw[D9]at k f;by_cases b:x<2^l
 ·by_cases a:y<2^l
  ·have:=OS G l m b a (i:=0) (j:=0) A3 A3;rw[show x+2^l*0=x by lia,show y+2^l*0=y by lia]at this;rw[this];exact d x y b a
  ·have:=OS G l m b (y:=y-2^l) A0 (i:=0) (j:=1) A3 A3;rw[show x+2^l*0=x by lia,show y-2^l+2^l*1=y by lia]at this;rw[this,h x (y-2^l) b A0,show y-2^l+(Y+2^l)=y+Y by lia]
 ·by_cases a:y<2^l
  ·have:=OS G l m (x:=x-2^l) A0 a (i:=1) (j:=0) A3 A3;rw[show y+2^l*0=y by lia,show x-2^l+2^l*1=x by lia]at this;rw[this,g (x-2^l) y A0 a,show x-2^l+(X+2^l)=x+X by lia]
  ·have:=OS G l m (x:=x-2^l) (y:=y-2^l) A0 A0 (i:=1) (j:=1) A3 A3;rw[show x-2^l+2^l*1=x by lia,show y-2^l+2^l*1=y by lia]at this;rw[this,e (x-2^l) (y-2^l) A0 A0,show x-2^l+(X+2^l)=x+X by lia,show y-2^l+(Y+2^l)=y+Y by lia]
theorem Vw.jump{G:Gv}{r:Az}{c:Nat->Nat->Int}{l e m k X Y:Nat}(h:Vw G c (l+2) m X Y)(b:e<=l)(j:∀x y,x<2^(l+1)->y<2^(l+1)->Cf G (l+1) k x y=Bh r (2^e) (Cf G (l+2) m) (x+2^l) (y+2^l)):Vw G (Bh r (2^e) c) (l+1) k (X+2^l) (Y+2^l):=λx y d a=>by
 have p:2^e<=2^l:=O3 A3 b;have g:2^(l+1)=2^l*2:=D9 ..;have o:2^(l+2)=2^l*2*2:=by rw[D9,D9]
 rw[j x y d a,RX r (X:=X) (Y:=Y) (2^e) (x+2^l) (y+2^l) A0 A0 λu v i n f q=>h u v A0 A0];rw[show x+2^l+X=x+(X+2^l) by lia,show y+2^l+Y=y+(Y+2^l) by lia]
seal L2.PA L2.PE L2.PS L2.PSs L2.PT L2.PW
theorem Vw.at'{G:Gv}{c:Nat->Nat->Int}{l m X Y X' Y':Nat}(h:Vw G c l m X Y)(a:X=X')(b:Y=Y'):Vw G c l m X' Y':=by
 subst a;subst b;exact h
theorem Vw.goes{G a:Gv}{c:Nat->Nat->Int}{l m X Y i:Nat}(h:Vw G c l m X Y)(ok:GOk G)(go:AI G a i)(e:Al G m (l:Int)):Vw a c l m X Y:=λx y d b=>by
 rw[CB ok go e];exact h x y d b
section
variable{P:Program}{w:World}{K:W.Frag}{mg:Str->Option Value}{base:Heap}{a:Ad}
inductive SpNine(a:Ad)(vs:List V)(H:Hp)(Q:VK):Prop
 |mk (g:GA) (G:Gv) (n l:Nat) (_:vs=[.ref g.p,.int n]) (_:AK a H g G) (_:GOk G) (_:Al G n ((l+1+1:Nat):Int)) (_:l<=46) (_:G.length<8000000) (_:∀(L:Addr)(ks:List Nat)(G':Gv)(H':Hp),Fr g H H'->AK a H' g G'->AI G G' 5->H' L=some (.lst (ks.map λ(k:Nat)=>V.int (k:Int)))->ks.length=9->(∀i j,i<3->j<3->∃k,ks[i+3*j]?=some k/\Al G' k ((l+1:Nat):Int)/\Vw G' (Cf G (l+2) n) (l+1) k (2^l*i) (2^l*j))->Q (.ref L) H'):SpNine a vs H Q
def NO(a:Ad):Sp:=λvs H Q _=>SpNine a vs H Q
theorem ZB{K:W.Frag}{a:Ad}{b H:Hp}{g:GA}{G0 G:Gv}{j:Nat}{σ:St}{u q o E:Nat}{I v D N:Addr}{i d f c:List V}{A t M B:Int}{x y z w:Nat}{l:Int}{Q:VK}(s:Ln a g b G0 j H G)(S:b I=some (.tup i))(h2:b v=some (.tup d))(U:b D=some (.tup f))(Z:b N=some (.tup c))(lv:Al G0 x l/\Al G0 y l/\Al G0 z l/\Al G0 w l)(few:l<=47/\G0.length+j<9000000)
  (k:∀(n:Nat)(m:Gv)(C:Hp),Ln a g b G0 (j+1) C m->AI G m 1->m[n]?=some ⟨[(x:Int),(y:Int),(z:Int),(w:Int)],l+1⟩->Q (.int n) C) (e:(σ[0]?=some (some (.ref g.p))/\σ[u]?=some (some (.ref I))/\σ[q]?=some (some (.ref v))/\σ[o]?=some (some (.ref D))/\σ[E]?=some (some (.ref N)))/\atI i A=some (.int x)/\atI d t=some (.int y)/\atI f M=some (.int z)/\atI c B=some (.int w):=by exact⟨⟨rfl,rfl,rfl,rfl,rfl⟩,rfl,rfl,rfl,rfl⟩):Uz a.c_Grove "linked" (DJ a) [] E0 (Ey 0) (CL (Ye (CL (tOp (FM K) (Ey u) (tC (V.int A))) (CL (tOp (FM K) (Ey q) (tC (V.int t))) (CL (tOp (FM K) (Ey o) (tC (V.int M))) (CL (tOp (FM K) (Ey E) (tC (V.int B))) Qt))))) Qt) σ H Q:=by
 apply AM;intro G_ h;obtain⟨⟨r,X,T,R,r4⟩,O,e2,Y,e4⟩:=e;apply h;clear h G_;exact⟨_,r,(xq3 rfl s.gr.hp (BI g) (ixt X (s.kt S) O (ixt T (s.kt h2) e2 (ixt R (s.kt U) Y (ixt r4 (s.kt Z) e4 ⟨(by show 4<=sizeLine;decide),λ_ hu=>lnk s hu lv few.1 few.2 k⟩)))))⟩
theorem vw4{G:Gv}{c:Nat->Nat->Int}{l m x y z w X Y:Nat}{j:Int}(e:G[m]?=some ⟨[(x:Int),(y:Int),(z:Int),(w:Int)],j⟩)(d:Vw G c l x (2^l*X) (2^l*Y))(g:Vw G c l y (2^l*(X+1)) (2^l*Y))(h:Vw G c l z (2^l*X) (2^l*(Y+1)))(f:Vw G c l w (2^l*(X+1)) (2^l*(Y+1))):Vw G c (l+1) m (2^l*X) (2^l*Y):=by
 apply AM;intro i b;obtain⟨rfl,rfl,rfl,rfl⟩:=Ea e;apply b;clear b i;exact .of d g h f
theorem vwQ{G:Gv}{c:Nat->Nat->Int}{l m x y z w X Y:Nat}{f:Int}(e:G[m]?=some ⟨[(x:Int),(y:Int),(z:Int),(w:Int)],f⟩)(v:Vw G c (l+1) m (2^l*X) (2^l*Y)):Vw G c l x (2^l*X) (2^l*Y)/\Vw G c l y (2^l*(X+1)) (2^l*Y)/\Vw G c l z (2^l*X) (2^l*(Y+1))/\Vw G c l w (2^l*(X+1)) (2^l*(Y+1)):=by
 apply AM;intro d b;obtain⟨rfl,rfl,rfl,rfl⟩:=Ea e;apply b;clear b d;exact⟨v.q (i:=0) (j:=0) A3 A3,(v.q (i:=1) (j:=0) A3 A3).at' A0 rfl,(v.q (i:=0) (j:=1) A3 A3).at' rfl A0,(v.q (i:=1) (j:=1) A3 A3).at' A0 A0⟩
theorem ok_nine(F:Fun K "nine_parts" "nine_parts" Ib f fd)(T:Top K mg a)(Z:BK P w K mg base CX0 2 a.c_Grove "linked" AS (DJ a)):AJ P w K mg base CX0 3 f fd JK (NO a):=by
 refine F.ok Cz (λvs H Q E h=>?_) (λbv A aq s H vs Q E hr h=>?_)
 ·apply AM;intro M b;obtain⟨g,G,n,l,rfl,_⟩:=h;apply b;clear b M;rfl
 ·apply AM;intro M b;obtain⟨g,G,n,l,rfl,O,ok,hl,bo,few,k⟩:=h;obtain⟨qa,qb,qc,qd,en,la,lb,lc,ld⟩:=ok.four hl;obtain⟨a0,a1,a2,a3,ea,bq,al,au,S⟩:=ok.four la;obtain⟨b0,b1,b2,b3,eb,ao,br,R,ad⟩:=ok.four lb;obtain⟨c0,c1,c2,c3,ec,ab,B,bp,ar⟩:=ok.four lc;obtain⟨d0,d1,d2,d3,ed,N,aw,ay,bw⟩:=ok.four ld;obtain⟨ts,X,Y⟩:=O.pt;obtain⟨t,et,v⟩:=PairedM.get Y en;obtain⟨ta,ax,d⟩:=PairedM.get Y ea;obtain⟨tb,an,m⟩:=PairedM.get Y eb;obtain⟨tc,av,p⟩:=PairedM.get Y ec;obtain⟨td,af,q⟩:=PairedM.get Y ed;apply b;clear b M;have s0:Ln a g H G 0 H G:=⟨.refl _ _,λe=>e,O,.refl ok⟩
  refine⟨_,(Ae (An (i:=2) Cz.nd rfl (Or.inl rfl) (Ai Av (AC (pv 0) rfl) (pv 1) (λ_ _=>rfl))) (Ae (An (i:=3) Cz.nd rfl (Or.inl rfl) (Ai Av (AC (pv 0) rfl) (Ai Aj (pv 2) Ac (λ_ _=>rfl)) (λ_ _=>rfl))) (Ae (An (i:=4) Cz.nd rfl (Or.inl rfl) (Ai Av (AC (pv 0) rfl) (Ai Aj (pv 2) Ac (λ_ _=>rfl)) (λ_ _=>rfl))) (Ae (An (i:=5) Cz.nd rfl (Or.inl rfl) (Ai Av (AC (pv 0) rfl) (Ai Aj (pv 2) Ac (λ_ _=>rfl)) (λ_ _=>rfl))) (Ae (An (i:=6) Cz.nd rfl (Or.inl rfl) (Ai Av (AC (pv 0) rfl) (Ai Aj (pv 2) Ac (λ_ _=>rfl)) (λ_ _=>rfl))) (Af (Ar (CS (Aa (Ai Aj (pv 2) Ac (λ_ _=>rfl)) (Aa (AF (pv 0) Z (rm hr) Ao (Bu (Aa (Ai Aj (pv 3) Ac (λ_ _=>rfl)) (Aa (Ai Aj (pv 4) Ac (λ_ _=>rfl)) (Aa (Ai Aj (pv 3) Ac (λ_ _=>rfl)) (Aa (Ai Aj (pv 4) Ac (λ_ _=>rfl)) Ab)))) Ab)) (Aa (Ai Aj (pv 2) Ac (λ_ _=>rfl)) (Aa (AF (pv 0) Z (rm hr) Ao (Bu (Aa (Ai Aj (pv 3) Ac (λ_ _=>rfl)) (Aa (Ai Aj (pv 3) Ac (λ_ _=>rfl)) (Aa (Ai Aj (pv 5) Ac (λ_ _=>rfl)) (Aa (Ai Aj (pv 5) Ac (λ_ _=>rfl)) Ab)))) Ab)) (Aa (AF (pv 0) Z (rm hr) Ao (Bu (Aa (Ai Aj (pv 3) Ac (λ_ _=>rfl)) (Aa (Ai Aj (pv 4) Ac (λ_ _=>rfl)) (Aa (Ai Aj (pv 5) Ac (λ_ _=>rfl)) (Aa (Ai Aj (pv 6) Ac (λ_ _=>rfl)) Ab)))) Ab)) (Aa (AF (pv 0) Z (rm hr) Ao (Bu (Aa (Ai Aj (pv 4) Ac (λ_ _=>rfl)) (Aa (Ai Aj (pv 4) Ac (λ_ _=>rfl)) (Aa (Ai Aj (pv 6) Ac (λ_ _=>rfl)) (Aa (Ai Aj (pv 6) Ac (λ_ _=>rfl)) Ab)))) Ab)) (Aa (Ai Aj (pv 2) Ac (λ_ _=>rfl)) (Aa (AF (pv 0) Z (rm hr) Ao (Bu (Aa (Ai Aj (pv 5) Ac (λ_ _=>rfl)) (Aa (Ai Aj (pv 6) Ac (λ_ _=>rfl)) (Aa (Ai Aj (pv 5) Ac (λ_ _=>rfl)) (Aa (Ai Aj (pv 6) Ac (λ_ _=>rfl)) Ab)))) Ab)) (Aa (Ai Aj (pv 2) Ac (λ_ _=>rfl)) Ab))))))))))))))))),?_⟩
  try dsimp only[cxK]
  refine Bv ?_;intro a8 a4 k0 r az;refine xwf rfl rfl O.hp T.cl_Grove T.na_Grove_parts (Ce g) (xq1 rfl (ixp X et ?_));refine r ?_;refine Bv ?_;intro ba bh k1 r bi;refine xwf rfl rfl O.hp T.cl_Grove T.na_Grove_parts (Ce g) (ixt rfl v rfl (ixp X ax ?_));refine r ?_;refine Bv ?_;intro a9 bc k2 r a7;refine xwf rfl rfl O.hp T.cl_Grove T.na_Grove_parts (Ce g) (ixt rfl v rfl (ixp X an ?_));refine r ?_;refine Bv ?_;intro bd bj k3 r bf;refine xwf rfl rfl O.hp T.cl_Grove T.na_Grove_parts (Ce g) (ixt rfl v rfl (ixp X av ?_));refine r ?_;refine Bv ?_;intro bb a5 k4 r bg;refine xwf rfl rfl O.hp T.cl_Grove T.na_Grove_parts (Ce g) (ixt rfl v rfl (ixp X af ?_));refine r ?_;refine tretl (FP (ixt rfl (s0.kt v) rfl (FP (ZB s0 d m d m ⟨al,ao,S,R⟩ ⟨by lia,by lia⟩ λm1 G1 H1 s1 bm e1=>?_))));refine FP (ixt rfl (s1.kt v) rfl (FP (ZB s1 d d p p ⟨au,S,ab,B⟩ ⟨by lia,by lia⟩ λm3 G3 H3 s3 aj e3=>?_)));refine FP (ZB s3 d m p q ⟨S,R,B,N⟩ ⟨by lia,by lia⟩ λm4 G4 H4 s4 aa e4=>?_);refine FP (ZB s4 m m q q ⟨R,ad,N,aw⟩ ⟨by lia,by lia⟩ λm5 G5 H5 s5 C e5=>?_);refine FP (ixt rfl (s5.kt v) rfl (FP (ZB s5 p q p q ⟨B,N,ar,ay⟩ ⟨by lia,by lia⟩ λm7 G7 H7 s7 u e7=>?_)));refine FP (ixt rfl (s7.kt v) rfl ⟨(by show 9<=sizeLine;decide),λL hL=>?_⟩);have c:=s7.go;have sL:=AH (o:=.lst (([qa,m1,qb,m3,m4,m5,qc,m7,qd]:List Nat).map λ(k:Nat)=>V.int (k:Int))) hL;refine k L [qa,m1,qb,m3,m4,m5,qc,m7,qd] G7 _ (s7.fr.trans (Ax.fr sL)) (s7.gr.same sL) c Ag rfl ?_;have v0:Vw G (Cf G (l+2) n) (l+1+1) n (2^(l+1)*0) (2^(l+1)*0):=λx y _ _=>rfl;have p1:2^(l+1)=2^l*2:=D9 ..;apply AM;intro M b;obtain⟨va,vb,vc,vd⟩:=vwQ (c.get en) (v0.goes ok c hl);apply b;clear b M;have va:=va.at' (X':=2^l*0) (Y':=2^l*0) A0 A0;have vb:=vb.at' (X':=2^l*2) (Y':=2^l*0) A0 A0;have vc:=vc.at' (X':=2^l*0) (Y':=2^l*2) A0 A0;have vd:=vd.at' (X':=2^l*2) (Y':=2^l*2) A0 A0;apply AM;intro M b;obtain⟨bn,ah,ak,D⟩:=vwQ (c.get ea) va;obtain⟨ai,bu,I,am⟩:=vwQ (c.get eb) vb;obtain⟨as,z,bt,ag⟩:=vwQ (c.get ec) vc;obtain⟨U,ac,ae,bl⟩:=vwQ (c.get ed) vd;apply b;clear b M;have g5:=u.get e5;have g4:=u.get (C.get e4);have g3:=u.get (C.get (aa.get e3));have g1:=u.get (C.get (aa.get (aj.get e1)));intro i j hi hj
  match i,hi,j,hj with
  |0,_,0,_=>exact⟨qa,rfl,c.lev la,va⟩
  |1,_,0,_=>exact⟨m1,rfl,⟨_,g1,rfl⟩,vw4 g1 ah ai D I⟩
  |2,_,0,_=>exact⟨qb,rfl,c.lev lb,vb⟩
  |0,_,1,_=>exact⟨m3,rfl,⟨_,g3,rfl⟩,vw4 g3 ak D as z⟩
  |1,_,1,_=>exact⟨m4,rfl,⟨_,g4,rfl⟩,vw4 g4 D I z U⟩
  |2,_,1,_=>exact⟨m5,rfl,⟨_,g5,rfl⟩,vw4 g5 I am U ac⟩
  |0,_,2,_=>exact⟨qc,rfl,c.lev lc,vc⟩
  |1,_,2,_=>exact⟨m7,rfl,⟨_,e7,rfl⟩,vw4 e7 z U ag ae⟩
  |2,_,2,_=>exact⟨qd,rfl,c.lev ld,vd⟩
inductive VD(vs:List V)(H:Hp)(Q:VK):Prop
 |mk (L:Addr) (k0 k1 k2 k3 k4 k5 k6 k7 k8:Nat) (_:vs=[.ref L]) (_:H L=some (.lst [.int k0,.int k1,.int k2,.int k3,.int k4,.int k5,.int k6,.int k7,.int k8])) (_:∀(M t0 t1 t2 t3:Addr)(H':Hp),Ax H H'->H' M=some (.lst [.ref t0,.ref t1,.ref t2,.ref t3])->H' t0=some (.tup [.int k0,.int k1,.int k3,.int k4])->H' t1=some (.tup [.int k1,.int k2,.int k4,.int k5])->H' t2=some (.tup [.int k3,.int k4,.int k6,.int k7])->H' t3=some (.tup [.int k4,.int k5,.int k7,.int k8])->Q (.ref M) H'):VD vs H Q
def LC:Sp:=λvs H Q _=>VD vs H Q
theorem Ze(F:Fun K "fours_of" "fours_of" Lj f fd)(T:Top K mg a):AJ P w K mg base CX0 1 f fd TQ LC:=by
 refine F.ok Sh (λvs H Q E h=>?_) (λab A N s H vs Q E hr h=>?_)
 ·apply AM;intro S d;obtain⟨L,k0,k1,k2,k3,b,k5,y,i,C,rfl,_⟩:=h;apply d;clear d S;rfl
 ·apply AM;intro S d;obtain⟨L,k0,k1,k2,k3,b,k5,y,i,C,rfl,p,k⟩:=h;apply d;clear d S;refine⟨_,(Af (Ar (CS (Bu (Aa (Ai Av (pv 0) Ac (λ_ _=>rfl)) (Aa (Ai Av (pv 0) Ac (λ_ _=>rfl)) (Aa (Ai Av (pv 0) Ac (λ_ _=>rfl)) (Aa (Ai Av (pv 0) Ac (λ_ _=>rfl)) Ab)))) (Bu (Aa (Ai Av (pv 0) Ac (λ_ _=>rfl)) (Aa (Ai Av (pv 0) Ac (λ_ _=>rfl)) (Aa (Ai Av (pv 0) Ac (λ_ _=>rfl)) (Aa (Ai Av (pv 0) Ac (λ_ _=>rfl)) Ab)))) (Bu (Aa (Ai Av (pv 0) Ac (λ_ _=>rfl)) (Aa (Ai Av (pv 0) Ac (λ_ _=>rfl)) (Aa (Ai Av (pv 0) Ac (λ_ _=>rfl)) (Aa (Ai Av (pv 0) Ac (λ_ _=>rfl)) Ab)))) (Bu (Aa (Ai Av (pv 0) Ac (λ_ _=>rfl)) (Aa (Ai Av (pv 0) Ac (λ_ _=>rfl)) (Aa (Ai Av (pv 0) Ac (λ_ _=>rfl)) (Aa (Ai Av (pv 0) Ac (λ_ _=>rfl)) Ab)))) Ab))))))),?_⟩
  try dsimp only[cxK]
  refine xwi rfl rfl rfl (SqL.of p) (Ah (j:=0) rfl) (xwi rfl rfl rfl (SqL.of p) (Ah (j:=1) rfl) (xwi rfl rfl rfl (SqL.of p) (Ah (j:=3) rfl) (xwi rfl rfl rfl (SqL.of p) (Ah (j:=4) rfl) ⟨(by show 4<=sizeLine;decide),λu R=>?_⟩)));have U:=AH (o:=.tup [.int (k0:Int),.int (k1:Int),.int (k3:Int),.int (b:Int)]) R;have V:upd H u (.tup [.int (k0:Int),.int (k1:Int),.int (k3:Int),.int (b:Int)]) u=some (.tup [.int (k0:Int),.int (k1:Int),.int (k3:Int),.int (b:Int)]):=Ag;generalize r:upd H u (.tup [.int (k0:Int),.int (k1:Int),.int (k3:Int),.int (b:Int)])=X0 at U V;have g:=U _ _ p
  first|rw[r]|(show ∃_,_;rw[r])|skip
  refine xwi rfl rfl rfl (SqL.of g) (Ah (j:=1) rfl) (xwi rfl rfl rfl (SqL.of g) (Ah (j:=2) rfl) (xwi rfl rfl rfl (SqL.of g) (Ah (j:=4) rfl) (xwi rfl rfl rfl (SqL.of g) (Ah (j:=5) rfl) ⟨(by show 4<=sizeLine;decide),λB O=>?_⟩)));have D:=AH (o:=.tup [.int (k1:Int),.int (k2:Int),.int (b:Int),.int (k5:Int)]) O;have X:upd X0 B (.tup [.int (k1:Int),.int (k2:Int),.int (b:Int),.int (k5:Int)]) B=some (.tup [.int (k1:Int),.int (k2:Int),.int (b:Int),.int (k5:Int)]):=Ag;generalize v:upd X0 B (.tup [.int (k1:Int),.int (k2:Int),.int (b:Int),.int (k5:Int)])=Z at D X;have e:=D _ _ g
  first|rw[v]|(show ∃_,_;rw[v])|skip
  refine xwi rfl rfl rfl (SqL.of e) (Ah (j:=3) rfl) (xwi rfl rfl rfl (SqL.of e) (Ah (j:=4) rfl) (xwi rfl rfl rfl (SqL.of e) (Ah (j:=6) rfl) (xwi rfl rfl rfl (SqL.of e) (Ah (j:=7) rfl) ⟨(by show 4<=sizeLine;decide),λt G=>?_⟩)));have x:=AH (o:=.tup [.int (k3:Int),.int (b:Int),.int (y:Int),.int (i:Int)]) G;have h2:upd Z t (.tup [.int (k3:Int),.int (b:Int),.int (y:Int),.int (i:Int)]) t=some (.tup [.int (k3:Int),.int (b:Int),.int (y:Int),.int (i:Int)]):=Ag;generalize q:upd Z t (.tup [.int (k3:Int),.int (b:Int),.int (y:Int),.int (i:Int)])=X2 at x h2;have c:=x _ _ e
  first|rw[q]|(show ∃_,_;rw[q])|skip
  refine xwi rfl rfl rfl (SqL.of c) (Ah (j:=4) rfl) (xwi rfl rfl rfl (SqL.of c) (Ah (j:=5) rfl) (xwi rfl rfl rfl (SqL.of c) (Ah (j:=7) rfl) (xwi rfl rfl rfl (SqL.of c) (Ah (j:=8) rfl) ⟨(by show 4<=sizeLine;decide),λz I=>?_⟩)));have l:=AH (o:=.tup [.int (b:Int),.int (k5:Int),.int (i:Int),.int (C:Int)]) I;have Y:upd X2 z (.tup [.int (b:Int),.int (k5:Int),.int (i:Int),.int (C:Int)]) z=some (.tup [.int (b:Int),.int (k5:Int),.int (i:Int),.int (C:Int)]):=Ag;generalize n:upd X2 z (.tup [.int (b:Int),.int (k5:Int),.int (i:Int),.int (C:Int)])=X3 at l Y;have aa:=l _ _ c
  first|rw[n]|(show ∃_,_;rw[n])|skip
  refine⟨(by show 4<=sizeLine;decide),λM hM=>?_⟩;have m:=AH (o:=.lst [.ref u,.ref B,.ref t,.ref z]) hM;exact k M u B t z _ ((((U.trans D).trans x).trans l).trans m) Ag (m _ _ (l _ _ (x _ _ (D _ _ V)))) (m _ _ (l _ _ (x _ _ X))) (m _ _ (l _ _ h2)) (m _ _ Y)
inductive SpMet(a:Ad)(vs:List V)(H:Hp)(Q:VK):Prop
 |mk (g:GA) (G:Gv) (t:Addr) (f0 f1 f2 f3 l:Nat) (_:vs=[.ref g.p,.ref t]) (_:AK a H g G) (_:GOk G) (_:H t=some (.tup [.int f0,.int f1,.int f2,.int f3])) (_:Al G f0 ((l+1:Nat):Int)/\Al G f1 ((l+1:Nat):Int)/\Al G f2 ((l+1:Nat):Int)/\Al G f3 ((l+1:Nat):Int)) (_:l<=47) (_:G.length<9000000) (_:∀(k:Nat)(G':Gv)(H':Hp),Fr g H H'->AK a H' g G'->AI G G' 1->G'[k]?=some ⟨[((qO G f0 3:Nat):Int),((qO G f1 2:Nat):Int),((qO G f2 1:Nat):Int),((qO G f3 0:Nat):Int)],(l:Int)+1⟩->Q (.int k) H'):SpMet a vs H Q
def UG(a:Ad):Sp:=λvs H Q _=>SpMet a vs H Q
theorem ok_met(F:Fun K "met_in_the_middle" "met_in_the_middle" Dl f fd)(T:Top K mg a)(a6:BK P w K mg base CX0 2 a.c_Grove "linked" AS (DJ a)):AJ P w K mg base CX0 3 f fd Cb (UG a):=by
 refine F.ok Ez (λvs H Q E h=>?_) (λbd A aa s H vs Q E hr h=>?_)
 ·apply AM;intro Y b;obtain⟨g,G,t,f0,f1,f2,f3,l,rfl,_⟩:=h;apply b;clear b Y;rfl
 ·apply AM;intro Y b;obtain⟨g,G,t,f0,f1,f2,f3,l,rfl,x,ok,q,⟨l0,l1,l2,l3⟩,bf,few,k⟩:=h;obtain⟨ts,r,v⟩:=x.pt;obtain⟨ai,ag,ao,d,e0,ax,ad,ba,C⟩:=ok.four l0;obtain⟨u0,R,M⟩:=PairedM.get v e0;obtain⟨a3,aq,af,S⟩:=Ea e0;obtain⟨bb,a4,c,ah,e1,a8,au,z,as⟩:=ok.four l1;obtain⟨u1,O,D⟩:=PairedM.get v e1;obtain⟨az,bg,y,ay⟩:=Ea e1;obtain⟨an,p,aw,ar,e2,al,ac,a0,a9⟩:=ok.four l2;obtain⟨u2,I,B⟩:=PairedM.get v e2;obtain⟨av,X,am,a2⟩:=Ea e2;obtain⟨m,ae,a7,bi,e3,N,a5,aj,bh⟩:=ok.four l3;obtain⟨u3,U,V⟩:=PairedM.get v e3;obtain⟨ab,ak,bc,a1⟩:=Ea e3;apply b;clear b Y;rw[S,y,X,ab]at k;refine⟨_,(Ae (An (i:=2) Ez.nd rfl (Or.inl rfl) (AC (pv 0) rfl)) (Af (Ar (AF (pv 0) a6 (rm hr) Ao (Bu (Aa (Ai Aj (Ai Av (pv 2) (Ai Aj (pv 1) Ac (λ_ _=>rfl)) (λ_ _=>rfl)) Ac (λ_ _=>rfl)) (Aa (Ai Aj (Ai Av (pv 2) (Ai Aj (pv 1) Ac (λ_ _=>rfl)) (λ_ _=>rfl)) Ac (λ_ _=>rfl)) (Aa (Ai Aj (Ai Av (pv 2) (Ai Aj (pv 1) Ac (λ_ _=>rfl)) (λ_ _=>rfl)) Ac (λ_ _=>rfl)) (Aa (Ai Aj (Ai Av (pv 2) (Ai Aj (pv 1) Ac (λ_ _=>rfl)) (λ_ _=>rfl)) Ac (λ_ _=>rfl)) Ab)))) Ab))))),?_⟩
  try dsimp only[cxK]
  refine xwf rfl rfl x.hp T.cl_Grove T.na_Grove_parts (Ce g) ?_;refine xwn rfl rfl x.hp (BI g) rfl (xwi rfl rfl rfl (SqT.of q) (Ah (j:=0) rfl) (xq4 rfl rfl (SqL.of r) (Ah (by rw[C3,R];rfl)) (xq4 rfl rfl (SqT.of M) (Ah (j:=3) rfl) (xwj rfl rfl rfl rfl (SqT.of q) (Ah (j:=1) rfl) (xq4 rfl rfl (SqL.of r) (Ah (by rw[C3,O];rfl)) (xq4 rfl rfl (SqT.of D) (Ah (j:=2) rfl) (xwj rfl rfl rfl rfl (SqT.of q) (Ah (j:=2) rfl) (xq4 rfl rfl (SqL.of r) (Ah (by rw[C3,I];rfl)) (xq4 rfl rfl (SqT.of B) (Ah (j:=1) rfl) (xwj rfl rfl rfl rfl (SqT.of q) (Ah (j:=3) rfl) (xq4 rfl rfl (SqL.of r) (Ah (by rw[C3,U];rfl)) (xq4 rfl rfl (SqT.of V) (Ah (j:=0) rfl) ⟨(by show 4<=sizeLine;decide),λu hu=>?_⟩))))))))))));have s1:=AH (o:=.tup [.int (d:Int),.int (c:Int),.int (p:Int),.int (m:Int)]) hu;exact⟨g,G,u,d,c,p,m,(l:Int),rfl,x.same s1,ok,Ag,⟨C,z,ac,N⟩,by lia,few,λn G' H' fr Z go e=>k n G' H' ((Ax.fr s1).trans fr) Z go e⟩
end
end J
namespace J
open PySem L2
def Sv(o:HO):Prop:=Nv o\/∃xs:List V,o=.lst xs/\xs.length<=50
def KpS(H H':Hp):Prop:=∀b o,H b=some o->Sv o->H' b=some o
theorem Sv.lst{xs:List V}(h:xs.length<=50):Sv (.lst xs):=.inr ⟨xs,rfl,h⟩
theorem Bs.long{G:Gv}(h:Bs G):56<=G.length:=(B9.mp (h 47 A3)).1
theorem Sv.nl{b x:Addr}{H:Hp}{o:HO}{xs:List V}(s:Sv o)(e:H b=some o)(a:H x=some (.lst xs))(f:50<xs.length):b≠x:=λz=>by
 rw[z,a]at e;cases e;rcases s with s|⟨ys,c,d⟩
 ·cases s
 ·cases c;lia
theorem Sv.nt{b x:Addr}{H:Hp}{o:HO}{k:List (List Key×V)}(s:Sv o)(e:H b=some o)(a:H x=some (.dT k)):b≠x:=λz=>by
 rw[z,a]at e;cases e;rcases s with s|⟨ys,c,d⟩
 ·cases s
 ·cases c
theorem Sv.nk{b x:Addr}{H:Hp}{o:HO}{k:List (Key×V)}(s:Sv o)(e:H b=some o)(a:H x=some (.dK k)):b≠x:=λz=>by
 rw[z,a]at e;cases e;rcases s with s|⟨ys,c,d⟩
 ·cases s
 ·cases c
theorem Fr.kps{a:Ad}{H d:Hp}{g:GA}{G:Gv}(f:Fr g H d)(c:AK a H g G)(k:56<=G.length):KpS H d:=by
 intro b o e s;obtain⟨j,i,h⟩:=c.pt;have lt:j.length=G.length:=A0a h;exact f _ _ e (s.nl e c.lv (by rw[B8];lia)) (s.nl e i (by rw[B8];lia)) (s.nt e c.nm)
theorem FrJ.kps{a:Ad}{H h:Hp}{g:GA}{G:Gv}{N M:Nat}{r:Az}{m:MA}(f:FrJ g m H h)(c:AK a H g G)(t:56<=G.length)(d:JC H g G N M r m):KpS H h:=by
 intro b o e s;obtain⟨q,k,i⟩:=c.pt;obtain⟨u,p,_⟩:=d.ce;have lt:q.length=G.length:=A0a i;refine f _ _ e (s.nl e c.lv (by rw[B8];lia)) (s.nl e k (by rw[B8];lia)) (s.nt e c.nm) (s.nt e p) λz=>?_;obtain⟨j,n⟩:=M0 z;obtain⟨v,l,_⟩:=d.sq j b n;exact s.nk e l rfl
theorem Vq{G:Gv}(ok:GOk G):∀(l:Nat){n m:Nat},Al G n (l:Int)->Al G m (l:Int)->(∀x y,x<2^l->y<2^l->Cf G l n x y=Cf G l m x y)->n=m
 |0,n,m,_,_,h=>X8 (h 0 0 A3 A3)
 |l+1,n,m,hn,hm,h=>by
  have part:∀i j,i<2->j<2->qO G n (i+2*j)=qO G m (i+2*j):=λi j f p=>by
   refine Vq ok l (Lm ok hn A0) (Lm ok hm A0) λx y g o=>?_;rw[<-OS G l n g o f p,<-OS G l m g o f p];have E:2^l*i<=2^l*1:=L7 _ A0;have H:2^l*j<=2^l*1:=L7 _ A0;exact h _ _ (by rw[D9];lia) (by rw[D9];lia)
  obtain⟨x,y,z,w,e,_⟩:=ok.four hn;obtain⟨t,u,D,q,k,_⟩:=ok.four hm;obtain⟨r,A,C,v⟩:=Ea e;obtain⟨s,b1,b2,B⟩:=Ea k;have a:=part 0 0 A3 A3;have b:=part 1 0 A3 A3;have c:=part 0 1 A3 A3;have d:=part 1 1 A3 A3;have a:x=t:=r.symm.trans (a.trans s);have b:y=u:=A.symm.trans (b.trans b1);have c:z=D:=C.symm.trans (c.trans b2);have d:w=q:=v.symm.trans (d.trans B);refine ok.one e k ?_;rw[a,b,c,d]
abbrev Sht:=Nat->Nat->Int
abbrev KTy:=Nat->Nat->Sht->Prop
def RO(l:Nat)(φ ψ:Sht):Prop:=∀x y,x<2^(l+2)->y<2^(l+2)->φ x y=ψ x y
def s47(f:Nat->Nat):Nat:=((List.range 47).map f).sum
theorem UC(f:Nat->Nat)(e:Nat):∀l:List Nat,l.Nodup->(l.map λi=>if i=e then f i+1 else f i).sum=(l.map f).sum+if e∈l then 1 else 0
 |[],_=>by simp
 |a::l,h=>by
  rw[N5]at h;rw[F5,F5,P2,P2,UC f e l h.2];by_cases z:a=e
  ·subst z;rw[X5 rfl,Z8 h.1,X5 C8];lia
  ·rw[Z8 z];by_cases y:e∈l
   ·rw[X5 y,X5 (C4 _ y)];lia
   ·rw[Z8 y,Z8 (λq=>by rcases C1.mp q with rfl|q;exact z rfl;exact y q)];lia
theorem UQ(f:Nat->Nat){e:Nat}(h:e<47):s47 (λi=>if i=e then f i+1 else f i)=s47 f+1:=by
 unfold s47;rw[UC f e _ List.nodup_range,X5 (J1.mpr h)]
theorem Vg{α β:Type}(R:α->β->Prop)(inj:∀x f y,R x y->R f y->x=f):∀(l:List β)(a:List α),a.Nodup->(∀k∈a,∃y∈l,R k y)->a.length<=l.length
 |[],a,_,h=>by
  cases a with
  |nil=>exact C5 _
  |cons k a=>obtain⟨y,i,_⟩:=h k C8;cases i
 |y::l,a,nd,h=>by
  classical
  have m:=Vg R inj l (a.filter λk=>decide (¬R k y)) (nd.sublist List.filter_sublist) λk d=>by
   rw[S7,decide_eq_true_iff]at d;obtain⟨z,e,g⟩:=h k d.1;rcases C1.mp e with rfl|e
   ·exact absurd g d.2
   ·exact⟨z,e,g⟩
  have few:∀a:List α,a.Nodup->a.length<=(a.filter λk=>decide (¬R k y)).length+1:=by
   intro a;induction a with
   |nil=>intro _;exact M6 _
   |cons k a c =>
    intro b;rw[N5]at b;by_cases z:R k y
    ·have:a.filter (λk=>decide (¬R k y))=a:=List.filter_eq_self.mpr λx j=>Z7 λq=>b.1 (by rw[inj k x y z q];exact j);rw[List.filter_cons_of_neg (by simp[z]),this,F2];exact C5 _
    ·rw[List.filter_cons_of_pos (by simp[z]),F2,F2];have:=c b.2;lia
  have:=few a nd;rw[F2];lia
structure JY(Κ:KTy)(N:Nat):Prop where
 ls:∃M:Nat->Nat,s47 M<=N/\∀e,∃Ls:List (Nat×Sht),Ls.length<=M e/\∀l φ,Κ l e φ->∃ψ,(l,ψ)∈Ls/\RO l φ ψ
 ext:∀{l e φ ψ},Κ l e φ->RO l φ ψ->Κ l e ψ
theorem UD(f:Nat->Nat):∀(l:List Nat){e:Nat},e∈l->f e<=(l.map f).sum
 |a::l,e,h=>by
  rw[F5,P2];rcases C1.mp h with rfl|h
  ·exact V3 _ _
  ·exact D0 (UD f l h) (Nat.le_add_left _ _)
theorem RV{f g:Nat->Nat}:∀{l:List Nat},(∀e∈l,f e<=g e)->(l.map f).sum<=(l.map g).sum
 |[],_=>C5 _
 |a::l,h=>by
  have:=RV (l:=l) λe b=>h e (C4 _ b);have:=h a C8;rw[F5,P2,F5,P2];lia
structure Cn(H:Hp)(G:Gv)(m:MA)(Κ:KTy)(b:Nat)(f:Nat->Nat):Prop where
 sq:∀(e:Nat) d,m.ds[e]?=some d->∃kv,H d=some (.dK kv)/\kv.length=f e/\(kv.map (·.1)).Nodup/\∀k∈kv.map (·.1),∃n l:Nat,k=Sum.inl (n:Int)/\Al G n ((l+2:Nat):Int)/\Κ l e (Cf G (l+2) n)
 gl:G.length<=b+10*s47 f
 ce:∃kc,H m.kc=some (.dT kc)/\kc.length<=b+10*s47 f
theorem Cn.few'{H:Hp}{G:Gv}{m:MA}{Κ:KTy}{b:Nat}{f M:Nat->Nat}(h:Cn H G m Κ b f)(ok:GOk G)(fin:∀e,∃a:List (Nat×Sht),a.length<=M e/\∀l φ,Κ l e φ->∃ψ,(l,ψ)∈a/\RO l φ ψ)(len:m.ds.length=47){e:Nat}(s:e<47):f e<=M e:=by
 have g:e<m.ds.length:=by rw[len];exact s
 obtain⟨w,_,t,p,v⟩:=h.sq e (m.ds[e]'g) (D8 _);obtain⟨a,l1,l2⟩:=fin e;refine D0 ?_ l1;rw[<-t,<-B8 (f:=(·.1)) (as:=w)];refine Vg (λ(k:Key)(q:Nat×Sht)=>∃n:Nat,k=Sum.inl (n:Int)/\Al G n ((q.1+2:Nat):Int)/\RO q.1 (Cf G (q.1+2) n) q.2) ?_ a _ p λk o=>?_
 ·rintro x A ⟨l,ψ⟩ ⟨n,rfl,c,d⟩ ⟨z,rfl,b1,b2⟩;rw[Vq ok _ c b1 λx y j i=>(d x y j i).trans (b2 x y j i).symm]
 ·obtain⟨n,l,rfl,c,d⟩:=v k o;obtain⟨ψ,u,r⟩:=l2 l _ d;exact⟨_,u,n,rfl,c,r⟩
theorem Cn.sum{H:Hp}{G:Gv}{m:MA}{Κ:KTy}{b N:Nat}{f:Nat->Nat}(h:Cn H G m Κ b f)(ok:GOk G)(fin:JY Κ N)(len:m.ds.length=47):s47 f<=N:=by
 obtain⟨M,c,d⟩:=fin.ls;exact D0 (RV λe a=>h.few' ok d len (J1.mp a)) c
theorem Cn.few{H:Hp}{G:Gv}{m:MA}{Κ:KTy}{b N:Nat}{f:Nat->Nat}(h:Cn H G m Κ b f)(ok:GOk G)(fin:JY Κ N)(len:m.ds.length=47){e:Nat}(a:e<47):f e<=N:=D0 (UD f _ (J1.mpr a)) (h.sum ok fin len)
theorem Cn.mono{H:Hp}{G:Gv}{m:MA}{Κ:KTy}{b a:Nat}{f:Nat->Nat}(h:Cn H G m Κ b f)(e:b<=a):Cn H G m Κ a f:=by
 obtain⟨c,d,g⟩:=h.ce;have:=h.gl;exact⟨h.sq,by lia,c,d,by lia⟩
theorem Cn.kp{H j:Hp}{G t:Gv}{m:MA}{Κ:KTy}{b i:Nat}{f:Nat->Nat}(h:Cn H G m Κ b f)(ok:GOk G)(go:AI G t i)(k1:∀d∈m.ds,∀o,H d=some o->j d=some o)(k2:∀c,H m.kc=some (.dT c)->∃a,j m.kc=some (.dT a)/\a.length<=c.length+i):Cn j t m Κ (b+i) f:=by
 refine⟨λe d s=>?_,?_,?_⟩
 ·obtain⟨y,p,r,g,u⟩:=h.sq e d s;refine⟨y,k1 d (F1 s) _ p,r,g,λk v=>?_⟩;obtain⟨n,l,w,q,x⟩:=u k v;exact⟨n,l,w,go.lev q,by rw[CB ok go q];exact x⟩
 ·have:=h.gl;have:=go.few;lia
 ·obtain⟨c,p,r⟩:=h.ce;obtain⟨a,g,u⟩:=k2 c p;exact⟨a,g,by lia⟩
structure JZ(a:Ad)(H:Hp)(g:GA)(G:Gv)(Κ:KTy)(N b:Nat)(p dx mem pr:Addr)(r:Az)(m:MA):Prop where
 jw:JW a H g G N (b+10*N) p dx mem pr r m
 cn:∃f,Cn H G m Κ b f
section
variable{a:Ad}{H H':Hp}{g:GA}{G G':Gv}{Κ:KTy}{N b i:Nat}{p dx mem pr:Addr}{r:Az}{m:MA}
theorem JZ.sz(h:JZ a H g G Κ N b p dx mem pr r m)(fin:JY Κ N):G.length<=b+10*N:=by
 obtain⟨f,c⟩:=h.cn;have:=c.gl;have:=c.sum h.jw.ok fin h.jw.me.len;lia
theorem JZ.mono{d:Nat}(h:JZ a H g G Κ N b p dx mem pr r m)(e:b<=d):JZ a H g G Κ N d p dx mem pr r m:=by
 obtain⟨f,c⟩:=h.cn;exact⟨h.jw.mono (C5 _) A0,f,c.mono e⟩
theorem JZ.same(h:JZ a H g G Κ N b p dx mem pr r m)(s:Ax H H'):JZ a H' g G Κ N b p dx mem pr r m:=by
 obtain⟨f,c⟩:=h.cn;exact⟨JW.same s h.jw,f,c.kp (i:=0) h.jw.ok (AI.refl h.jw.ok) (λd _ o e=>s _ _ e) λj e=>⟨j,s _ _ e,C5 _⟩⟩
theorem JZ.fr(h:JZ a H g G Κ N b p dx mem pr r m)(f:Fr g H H')(k:AK a H' g G')(go:AI G G' i):JZ a H' g G' Κ N (b+i) p dx mem pr r m:=by
 obtain⟨u,c⟩:=h.cn;obtain⟨v,l,_⟩:=h.jw.gr.pt;refine⟨(h.jw.fr f k go).mono (C5 _) A0,u,c.kp h.jw.ok go (λd q o e=>?_) λt e=>⟨t,?_,by lia⟩⟩
 ·obtain⟨j,s⟩:=M0 q;obtain⟨w,n,_⟩:=c.sq j d s;rw[e]at n;cases n;exact f _ _ e (AG e h.jw.gr.lv A4) (AG e l A4) (AG e h.jw.gr.nm A4)
 ·exact f _ _ e (AG e h.jw.gr.lv A4) (AG e l A4) h.jw.me.ap.2.2
def No(H:Hp)(m:MA)(e n:Nat):Prop:=∀d kv,m.ds[e]?=some d->H d=some (.dK kv)->Bq kv (Sum.inl (n:Int))=none
def Up(l:Nat)(G:Gv)(H H':Hp)(m:MA):Prop:=∀e n l':Nat,Al G n ((l'+2:Nat):Int)->l<=l'->No H m e n->No H' m e n
theorem Up.refl(l:Nat)(G:Gv)(H:Hp)(m:MA):Up l G H H m:=λ_ _ _ _ _ h=>h
theorem Up.trans{l:Nat}{q f d:Hp}(h:Up l G q f m)(k:Up l G' f d m)(go:AI G G' i):Up l G q d m:=λe n c j o s=>k e n c (go.lev j) o (h e n c j o s)
theorem Up.mono{l l2:Nat}(h:Up l G H H' m)(e:l<=l2):Up l2 G H H' m:=λd n c j k f=>h d n c j (D0 e k) f
theorem Up.of(l:Nat){N M:Nat}(j:JC H g G N M r m)(k:∀d∈m.ds,∀o,H d=some o->H' d=some o):Up l G H H' m:=λe n t _ _ h d u c q=>by
 obtain⟨s,f,_⟩:=j.sq e d c;have:=k d (F1 c) _ f;rw[q]at this;cases this;exact h d _ c f
theorem JZ.upS(l:Nat)(h:JZ a H g G Κ N b p dx mem pr r m)(s:Ax H H'):Up l G H H' m:=Up.of l h.jw.me λd _ o e=>s _ _ e
theorem JZ.upF(l:Nat)(h:JZ a H g G Κ N b p dx mem pr r m)(f:Fr g H H'):Up l G H H' m:=Up.of l h.jw.me λd k o e=>by
 obtain⟨t,n,_⟩:=h.jw.gr.pt;obtain⟨j,q⟩:=M0 k;obtain⟨s,c,_⟩:=h.jw.me.sq j d q;rw[e]at c;cases c;exact f _ _ e (AG e h.jw.gr.lv A4) (AG e n A4) (AG e h.jw.gr.nm A4)
theorem JW.tc{M:Nat}{c:List (List Key×V)}(h:JW a H g G N M p dx mem pr r m)(d:H m.kc=some (.dT c)):JW a H g G N c.length p dx mem pr r m:=by
 obtain⟨j,e,_,f⟩:=h.me.ce;rw[d]at e;cases e;exact⟨h.gr,h.ok,h.bs,h.br,h.nbr,h.hp,h.ru,h.rok,h.rest,⟨h.me.tp,h.me.l,h.me.ap,h.me.len,h.me.nd,h.me.sq,_,d,C5 _,f⟩⟩
theorem JZ.mid{f:Nat->Nat}{t:List (List Key×V)}(h:JZ a H g G Κ N b p dx mem pr r m)(c:Cn H G m Κ b f)(s:H m.kc=some (.dT t))(fr:FrC g m H H')(k:JW a H' g G' N (t.length+4) p dx mem pr r m)(go:AI G G' 1):JZ a H' g G' Κ N (b+4) p dx mem pr r m/\∀l,Up l G H H' m:=by
 obtain⟨D,B,_⟩:=h.jw.gr.pt;have w:∀d∈m.ds,∀o,H d=some o->H' d=some o:=λd z o e=>by
  obtain⟨j,k⟩:=M0 z;obtain⟨E,v,_⟩:=h.jw.me.sq j d k;rw[e]at v;cases v;exact fr _ _ e (AG e h.jw.gr.lv A4) (AG e B A4) (AG e h.jw.gr.nm A4) (AG e s A4)
 obtain⟨q,x,c2,A⟩:=k.me.ce;obtain⟨u,y,C,_⟩:=h.jw.me.ce;rw[s]at y;cases y;have n:=k.me;refine⟨⟨⟨k.gr,k.ok,k.bs,k.br,k.nbr,k.hp,k.ru,k.rok,k.rest,⟨n.tp,n.l,n.ap,n.len,n.nd,n.sq,q,x,by lia,A⟩⟩,f,c.kp (i:=4) h.jw.ok (go.mono A3) w λu e=>⟨q,x,by rw[s]at e;cases e;exact c2⟩⟩,λl=>Up.of l h.jw.me w⟩
theorem JZ.put{e n k l:Nat}{d:Addr}{t:List (Key×V)}(h:JZ a H g G Κ N (b+10) p dx mem pr r m)(fin:JY Κ N)(B:m.ds[e]?=some d)(K:H d=some (.dK t))(no:Bq t (Sum.inl (n:Int))=none)(lv:Al G n ((l+2:Nat):Int))(hk:Κ l e (Cf G (l+2) n))(jr:JR r G e n k):JZ a (upd H d (.dK (Dz t (Sum.inl (n:Int)) (.int (k:Int))))) g G Κ N b p dx mem pr r m/\Up (l+1) G H (upd H d (.dK (Dz t (Sum.inl (n:Int)) (.int (k:Int))))) m:=by
 obtain⟨f,c⟩:=h.cn;have I:e<47:=by rw[<-h.jw.me.len];exact(B9.mp B).1
 have o:=h.jw.putS B K jr;obtain⟨ab,q1,q2,q3,q4⟩:=c.sq e d B;rw[K]at q1;cases q1;have T:=GJ (.int (k:Int)) no;rw[T]at o⊢;have nn:(Sum.inl (n:Int):Key)∉t.map (·.1):=λz=>by
  obtain⟨q,hq,eq⟩:=D1.mp z;have:(t.find? λt=>decide (t.1=(Sum.inl (n:Int):Key)))=none:=by
   unfold Bq at no;cases y:t.find? λt=>decide (t.1=(Sum.inl (n:Int):Key))with
   |none=>rfl
   |some w=>rw[y]at no;cases no
  have:=List.find?_eq_none.mp this q hq;exact this (Z7 eq)
 obtain⟨kc,S,c2⟩:=c.ce;have gl:=c.gl;have D:∀{d':Addr}{s:Nat},m.ds[s]?=some d'->s≠e->d'≠d:=λ{d' s} j z y=>z (by
  rw[y]at j;exact(List.getElem?_inj (B9.mp j).1 h.jw.me.nd).mp (j.trans B.symm))
 have v:Cn (upd H d (.dK (t++[(Sum.inl (n:Int),.int (k:Int))]))) G m Κ b (λi=>if i=e then f i+1 else f i):=by
  refine⟨λs d' j=>?_,by rw[UQ f I];lia,kc,?_,by rw[UQ f I];lia⟩
  ·by_cases z:s=e
   ·subst z;rw[B]at j;cases j;refine⟨_,Ag,by rw[X5 rfl,C6,q2];rfl,?_,λk' E=>?_⟩
    ·rw[D4,T5];refine⟨q3,by simp,λx hx y hy=>?_⟩;rw[D7.mp hy];exact λz=>nn ((show x=Sum.inl (n:Int)from z)▸hx)
    ·rw[D4]at E;rcases D3.mp E with y|y
     ·exact q4 k' y
     ·rw[D7.mp y];exact⟨n,l,rfl,lv,hk⟩
   ·obtain⟨C,P,R,M,Q⟩:=c.sq s d' j;exact⟨C,by rw[As (D j z)];exact P,by rw[Z8 z];exact R,M,Q⟩
  ·rw[As (AG S K A4)];exact S
 refine⟨⟨?_,_,v⟩,λs n' l' a1 a2 Y d' C j A=>?_⟩
 ·have fw:∀{s:Nat},s<47->(if s=e then f s+1 else f s)<=N:=λ{s} he=>v.few h.jw.ok fin h.jw.me.len he;have sm:=v.sum h.jw.ok fin h.jw.me.len;obtain⟨O,Z,d2⟩:=v.ce;have u:=o.me;obtain⟨aa,X,r2,r3⟩:=u.ce;rw[Z]at X;cases X;refine⟨o.gr,o.ok,o.bs,o.br,o.nbr,o.hp,o.ru,o.rok,o.rest,⟨u.tp,u.l,u.ap,u.len,u.nd,λs d' j=>?_,O,Z,by lia,r3⟩⟩;obtain⟨kw,u1,u2,u3,u4⟩:=u.sq s d' j;obtain⟨ac,U,v2,_⟩:=v.sq s d' j;rw[u1]at U;cases U;exact⟨kw,u1,by rw[v2];exact fw (by rw[<-h.jw.me.len];exact(B9.mp j).1),u3,u4⟩
 ·by_cases z:s=e
  ·subst z;rw[B]at j;cases j;rw[Ag]at A;cases A;rw[<-T,IV];have ne:n'≠n:=λy=>by
    subst y;have:((l'+2:Nat):Int)=((l+2:Nat):Int):=by
     obtain⟨q,P,R⟩:=a1;obtain⟨q',M,Q⟩:=lv;rw[P]at M;cases M;exact R.symm.trans Q
    lia
   rw[Z8 (λy=>ne (by have:=Sum.inl.inj y;lia))];exact Y d t B K
  ·rw[As (D j z)]at A;exact Y d' C j A
end
seal L2.PA L2.PE L2.PS L2.PSs L2.PT L2.PW
structure ClK(r:Az)(Κ:KTy):Prop where
 nine1:∀{l e φ},Κ (l+1) e φ->e<=l->∀i j,i<3->j<3->Κ l e λx y=>φ (x+2^(l+1)*i) (y+2^(l+1)*j)
 nine2:∀{l φ},Κ (l+1) (l+1) φ->∀i j,i<3->j<3->Κ l l λx y=>φ (x+2^(l+1)*i) (y+2^(l+1)*j)
 four:∀{l φ},Κ (l+1) (l+1) φ->∀i j,i<2->j<2->Κ l l λx y=>Bh r (2^l) φ (x+(2^(l+1)*i+2^l)) (y+(2^(l+1)*j+2^l))
theorem Al.one{G:Gv}{n:Nat}{i j:Int}(h:Al G n i)(k:Al G n j):i=j:=by
 obtain⟨q,b,d⟩:=h;obtain⟨p,a,c⟩:=k;rw[b]at a;cases a;exact d.symm.trans c
theorem JR.view{r:Az}{G:Gv}{c:Nat->Nat->Int}{e n m l X Y:Nat}(h:JR r G e n m)(k:Al G n ((l+2:Nat):Int))(v:Vw G c (l+2) n X Y):Al G m ((l+1:Nat):Int)/\e<=l/\Vw G (Bh r (2^e) c) (l+1) m (X+2^l) (Y+2^l):=by
 apply AM;intro j a;obtain⟨d,i,b,f,o⟩:=h;apply a;clear a j;have g:d=l:=by
  have:=i.one k;lia
 subst g;exact⟨f,b,v.jump b o⟩
theorem Vw.jr{r:Az}{G:Gv}{e n m l:Nat}(a:Al G n ((l+1+2:Nat):Int))(b:e<=l+1)(lm:Al G m ((l+1+1:Nat):Int))(v:Vw G (Bh r (2^e) (Cf G (l+1+2) n)) (l+1+1) m (2^(l+1)) (2^(l+1))):JR r G e n m:=⟨l+1,a,b,lm,v⟩
theorem Zx{G d:Gv}{c:Nat->Nat->Int}{l b h g f z X Y i:Nat}(ok:GOk G)(go:AI G d i)(t:Al G b ((l+1:Nat):Int))(l1:Al G h ((l+1:Nat):Int))(l2:Al G g ((l+1:Nat):Int))(n:Al G f ((l+1:Nat):Int))(p:Vw G c (l+1) b X Y)(m:Vw G c (l+1) h (X+2^(l+1)) Y)(x:Vw G c (l+1) g X (Y+2^(l+1)))(o:Vw G c (l+1) f (X+2^(l+1)) (Y+2^(l+1)))(e:d[z]?=some ⟨[((qO G b 3:Nat):Int),((qO G h 2:Nat):Int),((qO G g 1:Nat):Int),((qO G f 0:Nat):Int)],(l:Int)+1⟩):Vw d c (l+1) z (X+2^l) (Y+2^l):=by
 have C:2^(l+1)=2^l*2:=D9 ..;apply AM;intro B a;obtain⟨k,r,y,u⟩:=Ea e;apply a;clear a B;have s:=(p.q (i:=1) (j:=1) A3 A3).goes ok go (Lm ok t A3);have A:=(m.q (i:=0) (j:=1) A3 A3).goes ok go (Lm ok l1 A3);have v:=(x.q (i:=1) (j:=0) A3 A3).goes ok go (Lm ok l2 A3);have w:=(o.q (i:=0) (j:=0) A3 A3).goes ok go (Lm ok n A3);refine Vw.of ?_ ?_ ?_ ?_
 ·rw[k];exact s.at' A0 A0
 ·rw[r];exact A.at' A0 A0
 ·rw[y];exact v.at' A0 A0
 ·rw[u];exact w.at' A0 A0
theorem ME{G g:Gv}{c:Nat->Nat->Int}{l f h d b z X Y i:Nat}{L:Int}(ok:GOk G)(go:AI G g i)(u:Al G f (l:Int))(l1:Al G h (l:Int))(l2:Al G d (l:Int))(s:Al G b (l:Int))(q:Vw G c l f X Y)(r:Vw G c l h (X+2^l) Y)(k:Vw G c l d X (Y+2^l))(t:Vw G c l b (X+2^l) (Y+2^l))(e:g[z]?=some ⟨[(f:Int),(h:Int),(d:Int),(b:Int)],L⟩):Vw g c (l+1) z X Y:=by
 apply AM;intro p a;obtain⟨m,n,o,j⟩:=Ea e;apply a;clear a p;refine Vw.of ?_ ?_ ?_ ?_
 ·rw[m];exact q.goes ok go u
 ·rw[n];exact r.goes ok go l1
 ·rw[o];exact k.goes ok go l2
 ·rw[j];exact t.goes ok go s
theorem UX:∀xs:List Nat,xs.length=9->∃a b c d e f g h i,xs=[a,b,c,d,e,f,g,h,i]
 |[a,b,c,d,e,f,g,h,i],_=>⟨a,b,c,d,e,f,g,h,i,rfl⟩
theorem OK:∀xs:List Nat,xs.length=4->∃a b c d,xs=[a,b,c,d]
 |[a,b,c,d],_=>⟨a,b,c,d,rfl⟩
def toV(k:Nat):V:=.int (k:Int)
def Nine(G:Gv)(c:Nat->Nat->Int)(l X:Nat)(ys:List Nat):Prop:=∀i j,i<3->j<3->∃y,ys[i+3*j]?=some y/\Al G y (l:Int)/\Vw G c l y (2^l*i+X) (2^l*j+X)
theorem PM {r:Az} {b d:Gv} {c:Nat->Nat->Int} {l e x:Nat} {f ys:List Nat} (ok:GOk b) (go:AI b d x) (h:∀i j,i<3->j<3->∃k,f[i+3*j]?=some k/\Al b k ((l+1+1:Nat):Int)/\Vw b c (l+1+1) k (2^(l+1)*i) (2^(l+1)*j)) (n:Paired (λk y=>JR r d e k y) f ys):Nine d (Bh r (2^e) c) (l+1) (2^l) ys:=λi j p w=>by
 apply AM;intro u a;obtain⟨k,q,g,m⟩:=h i j p w;obtain⟨y,v,o⟩:=Paired.get n q;obtain⟨t,_,s⟩:=o.view (go.lev g) (m.goes ok go g);apply a;clear a u;exact⟨y,v,t,s⟩
theorem Os{G:Gv}{c:Nat->Nat->Int}{l X:Nat}{H:Hp}{s p r n d q y o A:Nat}{v z u x:Addr}(i:Nine G c l X [s,p,r,n,d,q,y,o,A])(B:H v=some (.tup [.int s,.int p,.int n,.int d]))(C:H z=some (.tup [.int p,.int r,.int d,.int q]))(N:H u=some (.tup [.int n,.int d,.int y,.int o]))(K:H x=some (.tup [.int d,.int q,.int o,.int A]))(t:Nat)(w:Addr)(a:[v,z,u,x][t]?=some w) :
  ∃e b g f:Nat,H w=some (.tup [.int e,.int b,.int g,.int f])/\(Al G e (l:Int)/\Al G b (l:Int)/\Al G g (l:Int)/\Al G f (l:Int))/\Vw G c l e (2^l*(t%2)+X) (2^l*(t/2)+X)/\Vw G c l b (2^l*(t%2)+X+2^l) (2^l*(t/2)+X)/\Vw G c l g (2^l*(t%2)+X) (2^l*(t/2)+X+2^l)/\Vw G c l f (2^l*(t%2)+X+2^l) (2^l*(t/2)+X+2^l):=by
 have Q:t<4:=(B9.mp a).1;have mx:=Nat.mul_succ (2^l) (t%2);have R:=Nat.mul_succ (2^l) (t/2);obtain⟨e,j,O,M⟩:=i (t%2) (t/2) A0 A0;obtain⟨b,h,l1,D⟩:=i (t%2+1) (t/2) A0 A0;obtain⟨g,m,l2,P⟩:=i (t%2) (t/2+1) A0 A0;obtain⟨f,k,E,I⟩:=i (t%2+1) (t/2+1) A0 A0;refine⟨e,b,g,f,?_,⟨O,l1,l2,E⟩,M,D.at' A0 rfl,P.at' rfl A0,I.at' A0 A0⟩
 match t,Q,a with
 |0,_,a=>cases j;cases h;cases m;cases k;cases a;exact B
 |1,_,a=>cases j;cases h;cases m;cases k;cases a;exact C
 |2,_,a=>cases j;cases h;cases m;cases k;cases a;exact N
 |3,_,a=>cases j;cases h;cases m;cases k;cases a;exact K
theorem RJ{α:Type}{P:Nat->α->Prop}{b:List α}{z:α}{i:Nat}(c:b.length=i)(h:∀t a,b[t]?=some a->P t a)(d:P i z):∀t a,(b++[z])[t]?=some a->P t a:=λt a e=>by
 by_cases f:t<i
 ·rw[N4 A0]at e;exact h t a e
 ·have:t=i:=by
   have:=(B9.mp e).1;rw[C6,c]at this;have:t<i+1:=this;lia
  subst this;rw[J9 A0,c,Z1]at e;cases e;exact d
section
variable{P:Program}{w:World}{K:W.Frag}{mg:Str->Option Value}{base:Heap}{a:Ad}
inductive SpRecA(a:Ad)(L:Nat)(vs:List V)(H:Hp)(Q:VK):Prop
 |mk (p dx mem pr:Addr) (g:GA) (G:Gv) (Κ:KTy) (N b:Nat) (r:Az) (m:MA) (n l e:Nat) (_:vs=[.ref p,.int n,.int e]) (_:JZ a H g G Κ N b p dx mem pr r m) (_:JY Κ N) (_:ClK r Κ) (_:Al G n ((l+2:Nat):Int)) (_:l<L) (_:e<=l) (_:Κ l e (Cf G (l+2) n)) (_:b+10*N+10*(l+1)<8000000) (_:∀(k:Nat)(G':Gv)(H':Hp)(i:Nat),FrJ g m H H'->JZ a H' g G' Κ N b p dx mem pr r m->AI G G' i->JR r G' e n k->Up (l+1) G H H' m->Q (.int k) H'):SpRecA a L vs H Q
def FZ(a:Ad)(L:Nat):Sp:=λvs H Q _=>SpRecA a L vs H Q
inductive SpFreA(a:Ad)(L:Nat)(vs:List V)(H:Hp)(Q:VK):Prop
 |mk (p dx mem pr:Addr) (g:GA) (G:Gv) (Κ:KTy) (N b:Nat) (r:Az) (m:MA) (n l e:Nat) (_:vs=[.ref p,.int n,.int e]) (_:JZ a H g G Κ N b p dx mem pr r m) (_:JY Κ N) (_:ClK r Κ) (_:Al G n ((l+2:Nat):Int)) (_:l<L) (_:e<=l) (_:Κ l e (Cf G (l+2) n)) (_:b+10*N+10*(l+1)<8000000) (_:∀(k:Nat)(G':Gv)(H':Hp)(i:Nat),FrJ g m H H'->JZ a H' g G' Κ N (b+10) p dx mem pr r m->AI G G' i->JR r G' e n k->Up l G H H' m->Q (.int k) H'):SpFreA a L vs H Q
def Tt(a:Ad)(L:Nat):Sp:=λvs H Q _=>SpFreA a L vs H Q
inductive VB(a:Ad)(L:Nat)(vs:List V)(H:Hp)(Q:VK):Prop
 |mk (p dx mem pr:Addr) (g:GA) (G:Gv) (Κ:KTy) (N b:Nat) (r:Az) (m:MA) (n l:Nat) (_:vs=[.ref p,.int n,.int ((l+1:Nat):Int)]) (_:JZ a H g G Κ N b p dx mem pr r m) (_:JY Κ N) (_:ClK r Κ) (_:Al G n ((l+1+2:Nat):Int)) (_:l<L) (_:Κ (l+1) (l+1) (Cf G (l+1+2) n)) (_:b+10*N+10*(l+2)<8000000) (_:∀(A:Addr)(f0 f1 f2 f3:Nat)(G':Gv)(H':Hp)(i:Nat),FrJ g m H H'->JZ a H' g G' Κ N (b+9) p dx mem pr r m->AI G G' i->Up (l+1) G H H' m->H' A=some (.lst [toV f0,toV f1,toV f2,toV f3])->(Al G' f0 ((l+2:Nat):Int)/\Al G' f1 ((l+2:Nat):Int)/\Al G' f2 ((l+2:Nat):Int)/\Al G' f3 ((l+2:Nat):Int))->(Vw G' (Bh r (2^l) (Cf G (l+1+2) n)) (l+2) f0 (2^l) (2^l)/\Vw G' (Bh r (2^l) (Cf G (l+1+2) n)) (l+2) f1 (2^l+2^(l+1)) (2^l)/\Vw G' (Bh r (2^l) (Cf G (l+1+2) n)) (l+2) f2 (2^l) (2^l+2^(l+1))/\Vw G' (Bh r (2^l) (Cf G (l+1+2) n)) (l+2) f3 (2^l+2^(l+1)) (2^l+2^(l+1)))->Q (.ref A) H'):VB a L vs H Q
def QB(a:Ad)(L:Nat):Sp:=λvs H Q _=>VB a L vs H Q
theorem Zc{L d:Nat}(F:Fun K "four_halfway" "Jumps.four_halfway" Bj f fd)(T:Top K mg a)(d3:3<=d)(aK:Cal P w K mg base CX0 3 "nine_parts" JK (NO a))(aN:Cal P w K mg base CX0 1 "fours_of" TQ LC)(a6:BK P w K mg base CX0 2 a.c_Grove "linked" AS (DJ a))(aA:BK P w K mg base CX0 d a.c_Jumps "reckoned" Pt (FZ a L)):AJ P w K mg base CX0 (d+1) f fd Pt (QB a L):=by
 refine F.ok DZ (λvs H Q E h=>?_) (λbg A a7 s H vs Q E hr h=>?_)
 ·apply AM;intro C c;obtain⟨p,dx,mem,pr,g,G,Κ,N,b,r,m,n,l,rfl,_⟩:=h;apply c;clear c C;rfl
 ·apply AM;intro C c;obtain⟨p,dx,mem,pr,g,G,Κ,N,b,r,m,n,l,rfl,hz,fin,cl,hl,hL,av,few,k⟩:=h;have hj:=hz.jw;have sz:=hz.sz fin;apply c;clear c C;refine⟨_,(Ae (Iq (i:=3) rfl DZ.nd rfl rfl (BM.of (So:=Ak Bj) (No:=CW) (N:=["part","self","e"]) (k:=1) (cs:=[0,2]) rfl rfl A1) (DT (Ap aK (rm hr) rfl Ao (Aa (AC (pv 0) rfl) (Aa (pv 1) Ab)))) (λ_ _ _=>(Bz (i:=0) A1 rfl rfl)) (λ_ _ _=>BS) (λ_ _ _=>(AF (pv 1) aA (rm hr) Ao (Aa (pv 0) (AV Bg (pv 2) Ac Ab))))) (Af (Ar (Df rfl (BM.of (So:=Ak Bj) (No:=CW) (N:=["four","self"]) (k:=1) (cs:=[0]) rfl rfl A1) (DT (Ap aN (rm hr) rfl Ao (Aa (pv 3) Ab))) (λ_ _ _=>(Bz (i:=0) A1 rfl rfl)) (λ_ _ _=>BS) (λ_ _ _=>(AF (QQ (K:=K) rfl (pv 1) rfl) a6 (rm hr) Ao (Aa (pv 0) Ab))))))),?_⟩
  try dsimp only[cxK]
  obtain⟨q9,ay,bd⟩:=id hl;have bc:l<=45:=by have:=(hj.ok.lev ay).2;lia
  refine xwf rfl rfl hj.hp T.cl_Jumps T.na_Jumps_grove (DX _ _ _ _ _) (xq1 rfl ⟨g,G,n,l+1,rfl,hj.gr,hj.ok,hl,by lia,by lia,λA9 ks G3 H3 ae as R ao l9 nine=>?_⟩);have ai:=hz.fr ae as R;have M:=ai.jw;have bf:=ai.sz fin
  skip
  have ak:∀(t k:Nat),ks[t]?=some k->Al G3 k ((l+2:Nat):Int):=λt k e=>by
   have ht:=(B9.mp e).1;obtain⟨k',e1,e2,_⟩:=nine (t%3) (t/3) A0 A0;rw[show t%3+3*(t/3)=t by lia,e]at e1;cases e1;exact e2
  have au:∀(t k:Nat),ks[t]?=some k->Κ l l (Cf G3 (l+2) k):=λt k e=>by
   have ht:=(B9.mp e).1;obtain⟨k',e1,_,v⟩:=nine (t%3) (t/3) A0 A0;rw[show t%3+3*(t/3)=t by lia,e]at e1;cases e1;exact fin.ext (cl.nine2 av (t%3) (t/3) A0 A0) λx y hx hy=>(v x y hx hy).symm
  refine⟨A9,rfl,⟨_,SqL.of ao⟩,?_⟩;refine ED (xs:=ks.map λ(k:Nat)=>V.int (k:Int)) (λi B H5=>∃(Z:Gv)(ys:List Nat)(c5:Nat),B=ys.map toV/\ys.length=i/\FrJ g m H3 H5/\JZ a H5 g Z Κ N (b+5) p dx mem pr r m/\AI G3 Z c5/\Up (l+1) G3 H3 H5 m/\Paired (λk y=>JR r Z l k y) (ks.take i) ys) ⟨G3,[],0,rfl,rfl,λb o e _ _ _ _ _=>e,ai,AI.refl M.ok,Up.refl _ _ _ _,.nil⟩ (λi B H5 _ z=>by obtain⟨_,_,_,_,_,fr,_⟩:=z;exact SqL.of ((fr.kps M.gr M.bs.long M.me) _ _ ao (.lst (by rw[B8];lia)))) ?_ ?_
  ·rintro i v B H5 ev ac;apply AM;intro C c;obtain⟨Z,ys,c5,rfl,ly,af,O,q,ah,aa⟩:=ac;apply c;clear c C;rw[C3]at ev;obtain⟨k5,ek,rfl⟩:=F3.mp ev;have i9:i<9:=by have:=(B9.mp ek).1;lia
   have ad:=O.jw
   skip
   refine⟨⟨[some (.int (k5:Int))],rfl,rfl⟩,by rw[B8,ly];exact S9 i9 A3,IW (xwn rfl rfl ad.hp (LP _ _ _ _ _) rfl (xwb rfl rfl rfl ⟨p,dx,mem,pr,g,Z,Κ,N,b+5,r,m,k5,l,l,(show [V.ref p,V.int (k5:Int),V.int (((l+1:Nat):Int)-1)]=[V.ref p,V.int (k5:Int),V.int (l:Int)] by rw[show((l+1:Nat):Int)-1=(l:Int) by lia]),O,fin,cl,q.lev (ak i k5 ek),hL,C5 l,(by rw[CB M.ok q (ak i k5 ek)];exact au i k5 ek),by lia,λy G6 H6 c6 aw S an a2 a3=>⟨G6,ys++[y],_,by rw[D4];rfl,by rw[C6,ly];rfl,af.trans aw,S,q.trans an,ah.trans a3 q,?_⟩⟩))⟩;rw[N2,ek,U3];exact A2f (Paired.imp (λk y z=>z.goes ad.ok an) aa) a2
  rintro B H5 aj A5 a1;apply AM;intro C c;obtain⟨Z,ys,c5,rfl,ly,af,O,q,ah,aa⟩:=aj;have ad:=O.jw;apply c;clear c C;rw[B8,l9]at ly;rw[B8,N7]at aa;have nj:=PM M.ok q nine aa;apply AM;intro C c;obtain⟨y0,y1,y2,y3,y4,y5,y6,y7,y8,rfl⟩:=UX ys ly;apply c;clear c C
  skip
  generalize dB:upd H5 A5 _=H6;obtain⟨s5,al⟩:=alc a1 dB;have S:=O.same s5;have bb:=S.jw;have az:FrJ g m H H6:=(Fr.j ae).trans (af.trans (Ax.j s5));refine xq1 rfl ⟨A5,y0,y1,y2,y3,y4,y5,y6,y7,y8,rfl,al,λMM t0 t1 t2 t3 H7 s7 hM ba a9 ax aq=>?_⟩;have ag:=S.same s7;have X:=ag.jw;refine⟨MM,rfl,⟨_,SqL.of hM⟩,?_⟩;have p1:2^(l+1)=2^l*2:=D9 ..;have four:=Os nj ba a9 ax aq;have ab:=X.ok;refine ED (xs:=[t0,t1,t2,t3].map V.ref) (λi B H8=>∃(G8:Gv)(zs:List Nat),B=zs.map toV/\zs.length=i/\Fr g H7 H8/\JZ a H8 g G8 Κ N (b+5+i) p dx mem pr r m/\AI Z G8 i/\∀(t z:Nat),zs[t]?=some z->Al G8 z ((l+2:Nat):Int)/\Vw G8 (Bh r (2^l) (Cf G (l+1+2) n)) (l+1+1) z (2^(l+1)*(t%2)+2^l) (2^(l+1)*(t/2)+2^l)) ⟨Z,[],rfl,rfl,Fr.refl g H7,ag,AI.refl ab,λt z e=>(nomatch e)⟩ (λi B H8 _ z=>by obtain⟨_,_,_,_,fr,_⟩:=z;exact SqL.of ((fr.kps X.gr X.bs.long) _ _ hM (.lst (by show 4<=50;decide)))) ?_ ?_
  ·rintro i v B H8 ev ac;apply AM;intro C c;obtain⟨G8,zs,rfl,lz,U,D,u,vz⟩:=ac;have I:=D.jw;have a4:=D.sz fin;apply c;clear c C;rw[C3]at ev;obtain⟨tt,et,rfl⟩:=F3.mp ev;have i4:i<4:=(B9.mp et).1;apply AM;intro C c;obtain⟨f0,f1,f2,f3,a8,⟨m0,m1,m2,m3⟩,w0,w1,w2,w3⟩:=four i tt et;apply c;clear c C
   skip
   refine⟨⟨[some (.ref tt)],rfl,rfl⟩,by rw[B8,lz];exact S9 i4 A3,IW (xwf rfl rfl I.hp T.cl_Jumps T.na_Jumps_grove (DX _ _ _ _ _) (xq3 rfl I.gr.hp (BI g) (xq1 rfl ⟨g,G8,tt,f0,f1,f2,f3,((l+1:Nat):Int),rfl,I.gr,I.ok,(U.kps X.gr X.bs.long) _ _ a8 (.inl .tup),⟨u.lev m0,u.lev m1,u.lev m2,u.lev m3⟩,by lia,by lia,λz G9 H9 am a5 Y e9=>⟨G9,zs++[z],by rw[D4];rfl,by rw[C6,lz];rfl,U.trans am,D.fr am a5 Y,u.trans Y,?_⟩⟩)))⟩;refine RJ lz (λt z' e=>?_) ?_
   ·obtain⟨q1,q2⟩:=vz t z' e;exact⟨Y.lev q1,q2.goes I.ok Y q1⟩
   ·exact⟨⟨_,e9,by show((l+1:Nat):Int)+1=((l+2:Nat):Int);lia⟩,ME ab (u.trans Y) m0 m1 m2 m3 w0 w1 w2 w3 e9⟩
  rintro B H8 aj A8 ar;apply AM;intro C c;obtain⟨G8,zs,rfl,lz,U,D,u,vz⟩:=aj;have I:=D.jw;have a4:=D.sz fin;apply c;clear c C;apply AM;intro C c;obtain⟨z0,z1,z2,z3,rfl⟩:=OK zs lz;apply c;clear c C;have s8:Ax H8 (upd H8 A8 (.lst ([z0,z1,z2,z3].map toV))):=AH ar;have a0:AI Z G8 4:=u;obtain⟨q0,x0⟩:=vz 0 z0 rfl;obtain⟨q1,x1⟩:=vz 1 z1 rfl;obtain⟨q2,x2⟩:=vz 2 z2 rfl;obtain⟨q3,x3⟩:=vz 3 z3 rfl;refine k A8 z0 z1 z2 z3 G8 _ _ (az.trans ((Ax.j s7).trans ((Fr.j U).trans (Ax.j s8)))) (D.same s8) ((R.trans q).trans a0) (((((hz.upF (l+1) ae).trans ah R).trans (O.upS _ s5) (R.trans q)).trans (S.upS _ s7) (R.trans q)).trans ((ag.upF _ U).trans (D.upS _ s8) u) (R.trans q)) Ag ⟨q0,q1,q2,q3⟩ ⟨x0.at' A0 A0,x1.at' A0 A0,x2.at' A0 A0,x3.at' A0 A0⟩
theorem ok_freA{L d:Nat}(F:Fun K "fresh" "Jumps.fresh" BY f fd)(T:Top K mg a)(d7:7<=d)(aB:BK P w K mg base CX0 7 a.c_Jumps "middle_after" Jt (Qw a))(a6:BK P w K mg base CX0 2 a.c_Grove "linked" AS (DJ a))(aK:Cal P w K mg base CX0 3 "nine_parts" JK (NO a))(aN:Cal P w K mg base CX0 1 "fours_of" TQ LC)(aE:Cal P w K mg base CX0 3 "met_in_the_middle" Cb (UG a))(aA:BK P w K mg base CX0 d a.c_Jumps "reckoned" Pt (FZ a L))(bX:BK P w K mg base CX0 (d+1) a.c_Jumps "four_halfway" Pt (QB a L)):AJ P w K mg base CX0 (d+2) f fd Pt (Tt a (L+1)):=by
 refine F.ok DO (λvs H Q E h=>?_) (λcd A b4 s H vs Q E hr h=>?_)
 ·apply AM;intro R c;obtain⟨p,dx,mem,pr,g,G,Κ,N,b,r,m,n,l,e,rfl,_⟩:=h;apply c;clear c R;rfl
 ·apply AM;intro R c;obtain⟨p,dx,mem,pr,g,G,Κ,N,b,r,m,n,l,e,rfl,hz,fin,cl,hl,hL,he,ay,few,k⟩:=h;have U:=hz.jw;have sz:=hz.sz fin;obtain⟨q,eq,el⟩:=id hl;apply c;clear c R;have ca:=(U.ok.lev eq).2;have bp:l<=46:=by lia
  refine⟨_,(Ae (An (i:=3) DO.nd rfl (Or.inr rfl) (AC (pv 0) rfl)) (Ae (An (i:=4) DO.nd rfl (Or.inl rfl) (Ai Av (AC (pv 3) rfl) (pv 1) (λ_ _=>rfl))) (Ae (AN (Aw Cy (pv 1) (Ai Av (AC (pv 3) rfl) (pv 4) (λ_ _=>rfl)) (AD _)) (Af (Ar (Ai Av (AC (pv 3) rfl) (Ay Bg (pv 4) Ac) (λ_ _=>rfl)))) AE) (Ae (AN (Aw Cy (pv 4) (BL rfl T.k_LEAST_JUMPED) (AD _)) (Af (Ar (AF (pv 0) aB (rm hr) Ao (Aa (pv 1) Ab)))) AE) (Ae (AN (Aw EQ (pv 2) (Ay Bg (pv 4) (BL rfl T.k_LEAST_JUMPED)) (AD _)) (Ae (Iq (i:=5) rfl DO.nd rfl rfl (BM.of (So:=Ak BY) (No:=Ex) (N:=["part","self","e"]) (k:=1) (cs:=[0,2]) rfl rfl A1) (DT (Ap aK (rm hr) rfl Ao (Aa (pv 3) (Aa (pv 1) Ab)))) (λ_ _ _=>(Bz (i:=0) A1 rfl rfl)) (λ_ _ _=>BS) (λ_ _ _=>(AF (pv 1) aA (rm hr) Ao (Aa (pv 0) (Aa (pv 2) Ab))))) (Af (Ar (AF (pv 3) a6 (rm hr) Ao (Aa (BR BZ rfl T.b_tuple A0g (Aa (Df rfl (BM.of (So:=Ak BY) (No:=Ex) (N:=["four","grove"]) (k:=1) (cs:=[3]) rfl rfl A1) (DT (Ap aN (rm hr) rfl Ao (Aa (pv 5) Ab))) (λ_ _ _=>(Bz (i:=0) A1 rfl rfl)) (λ_ _ _=>BS) (λ_ _ _=>(Ap aE (rm hr) rfl Ao (Aa (pv 1) (Aa (pv 0) Ab))))) Ab)) Ab))))) AE) (Af (Ar (AF (pv 3) a6 (rm hr) Ao (Aa (BR BZ rfl T.b_tuple A0g (Aa (Df rfl (BM.of (So:=Ak BY) (No:=Ex) (N:=["four","self","e"]) (k:=1) (cs:=[0,2]) rfl rfl A1) (DT (AF (pv 0) bX (rm hr) Ao (Aa (pv 1) (Aa (pv 2) Ab)))) (λ_ _ _=>(Bz (i:=0) A1 rfl rfl)) (λ_ _ _=>BS) (λ_ _ _=>(AF (pv 1) aA (rm hr) Ao (Aa (pv 0) (AV Bg (pv 2) Ac Ab))))) Ab)) Ab))))))))),?_⟩
  try dsimp only[cxK]
  refine xwf rfl rfl U.hp T.cl_Jumps T.na_Jumps_grove (DX _ _ _ _ _) ?_;refine xq1 rfl ⟨g.p,_,g.dx,_,_,rfl,U.gr.hp,T.cl_Grove,T.na_Grove_levels,FJ g,_,rfl,g.lv,_,(n:Int),.int ((l+2:Nat):Int),rfl,rfl,SqL.of U.gr.lv,Ah (by rw[C3,eq,<-el];rfl),?_⟩;refine xq1 rfl (xq1 rfl ⟨g.p,_,g.dx,_,_,rfl,U.gr.hp,T.cl_Grove,T.na_Grove_bares,Jv g,_,rfl,g.br,_,((l+2:Nat):Int),.int (bareN (l+2):Int),rfl,rfl,SqL.of U.br,Ah (bareJ A0),rfl,_,rfl,?_⟩);refine EC (λhc=>?_) (λhc=>?_)
  ·have ei:n=bareN (l+2):=by
    have:=K2 hc;injection this with this
    exact X8 this
   refine xwf rfl rfl U.gr.hp T.cl_Grove T.na_Grove_bares (Jv g) (xwb rfl rfl rfl (xq4 rfl rfl (SqL.of U.br) (by rw[show((l+2:Nat):Int)-1=((l+1:Nat):Int) by lia];exact Ah (bareJ A0)) ?_));refine k (bareN (l+1)) G H 0 (λb o e _ _ _ _ _=>e) (hz.mono A0) (AI.refl U.ok) ?_ (Up.refl _ _ _ _);rw[ei];exact JR.bare U.ok U.bs U.rest A0 he
  refine xq1 rfl ⟨rfl,(xq1 rfl ?_)⟩;cases l with
  |zero =>
   refine(show ∀{b:Bool}{A B:Prop},b=true->A->(if b=true then A else B)from λh x=>by rw[h];exact BJ x) (Z7 rfl) ?_;have e0:e=0:=by lia
   subst e0;obtain⟨ff,cn⟩:=hz.cn;obtain⟨kc,c1,c2⟩:=cn.ce;have sm:=cn.sum U.ok fin U.me.len;refine xwn rfl rfl U.hp (noJ_mid _ _ _ _ _) rfl ⟨p,dx,mem,pr,g,G,N,kc.length,r,m,n,rfl,U.tc c1,hl,by lia,by lia,λk' G' H' fr bd go jr=>?_⟩;obtain⟨z1,z2⟩:=hz.mid cn c1 fr bd go;exact k k' G' H' 1 fr.j (z1.mono A0) go jr (z2 _)
  |succ l =>
   refine(show ∀{b:Bool}{A B:Prop},b=false->B->(if b=true then A else B)from λh x=>by rw[h];exact Bc x) (X4 (by intro z;injection z with z;have z:((l+1+2:Nat):Int)=2:=z;lia)) ?_;have hL:l<L:=by lia
   have p1:2^(l+1)=2^l*2:=D9 ..;refine xw2 rfl rfl (xq2 rfl rfl (xq2 rfl rfl (xq1 rfl ?_)));refine EC (λhc=>?_) (λhc=>?_)
   ·have au:e<=l:=by
     have hc:=K2 hc;have hc:(e:Int)<((l+1+2:Nat):Int)-2:=hc;lia
    obtain⟨q9,bu,cb⟩:=id hl;have bp:l<=45:=by have:=(U.ok.lev bu).2;lia
    refine xw2 rfl rfl ⟨g,G,n,l+1,rfl,U.gr,U.ok,hl,by lia,by lia,λA9 ks G3 H3 a2 bg ai bc l9 nine=>?_⟩;have a7:=hz.fr a2 bg ai;have ag:=a7.jw;have cc:=a7.sz fin
    skip
    have a8:∀(t k:Nat),ks[t]?=some k->Al G3 k ((l+2:Nat):Int):=λt k e=>by
     have ht:=(B9.mp e).1;obtain⟨k',e1,e2,_⟩:=nine (t%3) (t/3) A0 A0;rw[show t%3+3*(t/3)=t by lia,e]at e1;cases e1;exact e2
    have bj:∀(t k:Nat),ks[t]?=some k->Κ l e (Cf G3 (l+2) k):=λt k e=>by
     have ht:=(B9.mp e).1;obtain⟨k',e1,_,v⟩:=nine (t%3) (t/3) A0 A0;rw[show t%3+3*(t/3)=t by lia,e]at e1;cases e1;exact fin.ext (cl.nine1 ay au (t%3) (t/3) A0 A0) λx y hx hy=>(v x y hx hy).symm
    refine⟨A9,rfl,⟨_,SqL.of bc⟩,?_⟩;refine ED (xs:=ks.map λ(k:Nat)=>V.int (k:Int)) (λi M H5=>∃(G5:Gv)(ys:List Nat)(c5:Nat),M=ys.map toV/\ys.length=i/\FrJ g m H3 H5/\JZ a H5 g G5 Κ N (b+5) p dx mem pr r m/\AI G3 G5 c5/\Up (l+1) G3 H3 H5 m/\Paired (λk y=>JR r G5 e k y) (ks.take i) ys) ⟨G3,[],0,rfl,rfl,λb o e _ _ _ _ _=>e,a7,AI.refl ag.ok,Up.refl _ _ _ _,.nil⟩ (λi M H5 _ z=>by obtain⟨_,_,_,_,_,fr,_⟩:=z;exact SqL.of ((fr.kps ag.gr ag.bs.long ag.me) _ _ bc (.lst (by rw[B8];lia)))) ?_ ?_
    ·rintro i v M H5 ev al;apply AM;intro R c;obtain⟨G5,ys,c5,rfl,ly,a3,ah,O,a5,as⟩:=al;apply c;clear c R;rw[C3]at ev;obtain⟨k5,ek,rfl⟩:=F3.mp ev;have i9:i<9:=by have:=(B9.mp ek).1;lia
     have a0:=ah.jw
     skip
     refine⟨⟨[some (.int (k5:Int))],rfl,rfl⟩,by rw[B8,ly];exact S9 i9 A3,IW (xwn rfl rfl a0.hp (LP _ _ _ _ _) rfl (xq1 rfl ⟨p,dx,mem,pr,g,G5,Κ,N,b+5,r,m,k5,l,e,rfl,ah,fin,cl,O.lev (a8 i k5 ek),hL,au,(by rw[CB ag.ok O (a8 i k5 ek)];exact bj i k5 ek),by lia,λy G6 H6 c6 bn ak ba bz b0=>⟨G6,ys++[y],_,by rw[D4];rfl,by rw[C6,ly];rfl,a3.trans bn,ak,O.trans ba,a5.trans b0 O,?_⟩⟩))⟩;rw[N2,ek,U3];exact A2f (Paired.imp (λk y z=>z.goes a0.ok ba) as) bz
    rintro M H5 aq A5 bx;apply AM;intro R c;obtain⟨G5,ys,c5,rfl,ly,a3,ah,O,a5,as⟩:=aq;have a0:=ah.jw;apply c;clear c R;rw[B8,l9]at ly;rw[B8,N7]at as;have nj:=PM ag.ok O nine as;apply AM;intro R c;obtain⟨y0,y1,y2,y3,y4,y5,y6,y7,y8,rfl⟩:=UX ys ly;apply c;clear c R
    skip
    generalize dB:upd H5 A5 _=H6;obtain⟨s5,a9⟩:=alc bx dB;have ak:=ah.same s5;have bi:=ak.jw;have bv:FrJ g m H H6:=(Fr.j a2).trans (a3.trans (Ax.j s5));refine xwm rfl rfl bi.gr.hp (BI g) ?_;refine xq1 rfl ⟨A5,y0,y1,y2,y3,y4,y5,y6,y7,y8,rfl,a9,λMM t0 t1 t2 t3 H7 s7 hM b9 b8 bo bf=>?_⟩;have aj:=ak.same s7;have Y:=aj.jw;refine⟨MM,rfl,⟨_,SqL.of hM⟩,?_⟩;have four:=Os nj b9 b8 bo bf;have Z:=Y.ok;refine ED (xs:=[t0,t1,t2,t3].map V.ref) (λi M H8=>∃(X:Gv)(zs:List Nat),M=zs.map toV/\zs.length=i/\Fr g H7 H8/\JZ a H8 g X Κ N (b+5+i) p dx mem pr r m/\AI G5 X i/\∀(t z:Nat),zs[t]?=some z->Al X z ((l+1:Nat):Int)/\Vw X (Bh r (2^e) (Cf G (l+1+2) n)) (l+1) z (2^(l+1)*(t%2)+2^(l+1)) (2^(l+1)*(t/2)+2^(l+1))) ⟨G5,[],rfl,rfl,Fr.refl g H7,aj,AI.refl Z,λt z e=>(nomatch e)⟩ (λi M H8 _ z=>by obtain⟨_,_,_,_,fr,_⟩:=z;exact SqL.of ((fr.kps Y.gr Y.bs.long) _ _ hM (.lst (by show 4<=50;decide)))) ?_ ?_
    ·rintro i v M H8 ev al;apply AM;intro R c;obtain⟨X,zs,rfl,lz,ac,D,C,vz⟩:=al;have ab:=D.jw;have av:=D.sz fin;apply c;clear c R;rw[C3]at ev;obtain⟨tt,et,rfl⟩:=F3.mp ev;have i4:i<4:=(B9.mp et).1;apply AM;intro R c;obtain⟨f0,f1,f2,f3,b5,⟨m0,m1,m2,m3⟩,w0,w1,w2,w3⟩:=four i tt et;apply c;clear c R
     skip
     have qg:∀{f:Nat}(j:Nat),Al G5 f ((l+1:Nat):Int)->qO X f j=qO G5 f j:=λ{f} j h=>by
      obtain⟨q,e,_⟩:=h;unfold qO;rw[C.get e,e]
     refine⟨⟨[some (.ref tt)],rfl,rfl⟩,by rw[B8,lz];exact S9 i4 A3,IW (xw2 rfl rfl ⟨g,X,tt,f0,f1,f2,f3,l,rfl,ab.gr,ab.ok,(ac.kps Y.gr Y.bs.long) _ _ b5 (.inl .tup),⟨C.lev m0,C.lev m1,C.lev m2,C.lev m3⟩,by lia,by lia,λz G9 H9 ar b3 S e9=>⟨G9,zs++[z],by rw[D4];rfl,by rw[C6,lz];rfl,ac.trans ar,D.fr ar b3 S,C.trans S,?_⟩⟩)⟩;rw[qg 3 m0,qg 2 m1,qg 1 m2,qg 0 m3]at e9;refine RJ lz (λt z' e=>?_) ?_
     ·obtain⟨q1,q2⟩:=vz t z' e;exact⟨S.lev q1,q2.goes ab.ok S q1⟩
     ·exact⟨⟨_,e9,by show(l:Int)+1=((l+1:Nat):Int);lia⟩,(Zx Z (C.trans S) m0 m1 m2 m3 w0 w1 w2 w3 e9).at' A0 A0⟩
    rintro M H8 aq A8 aw;apply AM;intro R c;obtain⟨X,zs,rfl,lz,ac,D,C,vz⟩:=aq;have ab:=D.jw;have av:=D.sz fin;apply c;clear c R;apply AM;intro R c;obtain⟨z0,z1,z2,z3,rfl⟩:=OK zs lz;apply c;clear c R;have bw:AI G5 X 4:=C;have D:JZ a H8 g X Κ N (b+5+4) p dx mem pr r m:=D;have av:=D.sz fin;have aa:=(ai.trans O).trans bw;have a4:FrJ g m H H8:=bv.trans ((Ax.j s7).trans (Fr.j ac));generalize dG:upd H8 A8 _=H9;obtain⟨s8,an⟩:=alc aw dG;refine⟨A8,(xq1 rfl (.inl ⟨SqL.of an,λu hu=>?_⟩))⟩;have ad:=D.same s8;have af:=ad.jw;obtain⟨q0,x0⟩:=vz 0 z0 rfl;obtain⟨q1,x1⟩:=vz 1 z1 rfl;obtain⟨q2,x2⟩:=vz 2 z2 rfl;obtain⟨q3,x3⟩:=vz 3 z3 rfl
    skip
    refine lnk (⟨.refl _ _,λe=>e,af.gr,.refl af.ok⟩:Ln a g H9 X 0 H9 X) hu ⟨q0,q1,q2,q3⟩ A0 A0 λz az ax ae I ao=>?_;refine k z az ax _ (a4.trans ((Ax.j s8).trans (Fr.j ae.fr))) ((ad.fr ae.fr ae.gr I).mono A0) (aa.trans I) ?_ (((((hz.upF (l+1) a2).trans a5 ai).trans (ah.upS _ s5) (ai.trans O)).trans (ak.upS _ s7) (ai.trans O)).trans (((aj.upF _ ac).trans (D.upS _ s8) C).trans (ad.upF _ ae.fr) C) (ai.trans O));have am:=aa.trans I;refine Vw.jr (am.lev hl) he ⟨_,ao,by show((l+1:Nat):Int)+1=((l+1+1:Nat):Int);lia⟩ ?_;rw[CB U.ok am hl];exact ME af.ok I q0 q1 q2 q3 (x0.at' A0 A0) (x1.at' A0 A0) (x2.at' A0 A0) (x3.at' A0 A0) ao
   ·have au:e=l+1:=by
     have hc:¬(e:Int)<((l+1+2:Nat):Int)-2:=λz=>hc (Z7 z);lia
    subst au;refine xwm rfl rfl U.gr.hp (BI g) ?_;refine xwn rfl rfl U.hp (Zj _ _ _ _ _) rfl (xq1 rfl ⟨p,dx,mem,pr,g,G,Κ,N,b,r,m,n,l,rfl,hz,fin,cl,hl,hL,ay,by lia,λA7 f0 f1 f2 f3 G5 H7 i5 b6 aj O bh bb bq bt=>?_⟩);apply AM;intro R c;obtain⟨m0,m1,m2,m3⟩:=bq;obtain⟨w0,w1,w2,w3⟩:=bt;apply c;clear c R
    skip
    refine⟨A7,rfl,⟨_,SqL.of bb⟩,?_⟩;have Y:=aj.jw;have Z:=Y.ok;have four:∀(t f:Nat),[f0,f1,f2,f3][t]?=some f->Al G5 f ((l+2:Nat):Int)/\Vw G5 (Bh r (2^l) (Cf G (l+1+2) n)) (l+2) f (2^(l+1)*(t%2)+2^l) (2^(l+1)*(t/2)+2^l):=λt f et=>by
     match t,et with
     |0,et=>cases et;exact⟨m0,w0.at' A0 A0⟩
     |1,et=>cases et;exact⟨m1,w1.at' A0 A0⟩
     |2,et=>cases et;exact⟨m2,w2.at' A0 A0⟩
     |3,et=>cases et;exact⟨m3,w3.at' A0 A0⟩
     |j+4,et=>cases et
    have bm:Bh r (2^l) (Bh r (2^l) (Cf G (l+1+2) n))=Bh r (2^(l+1)) (Cf G (l+1+2) n):=by
     rw[<-RY,p1,Nat.mul_two]
    refine ED (xs:=[f0,f1,f2,f3].map toV) (λi M H8=>∃(X:Gv)(zs:List Nat)(c8:Nat),M=zs.map toV/\zs.length=i/\FrJ g m H7 H8/\JZ a H8 g X Κ N (b+9) p dx mem pr r m/\AI G5 X c8/\Up (l+1) G5 H7 H8 m/\∀(t z:Nat),zs[t]?=some z->Al X z ((l+1:Nat):Int)/\Vw X (Bh r (2^(l+1)) (Cf G (l+1+2) n)) (l+1) z (2^(l+1)*(t%2)+2^(l+1)) (2^(l+1)*(t/2)+2^(l+1))) ⟨G5,[],0,rfl,rfl,λb o e _ _ _ _ _=>e,aj,AI.refl Z,Up.refl _ _ _ _,λt z e=>(nomatch e)⟩ (λi M H8 _ z=>by obtain⟨_,_,_,_,_,fr,_⟩:=z;exact SqL.of ((fr.kps Y.gr Y.bs.long Y.me) _ _ bb (.lst (by show 4<=50;decide)))) ?_ ?_
    ·rintro i v M H8 ev al;apply AM;intro R c;obtain⟨X,zs,c8,rfl,lz,ac,D,C,a1,vz⟩:=al;have ab:=D.jw;have av:=D.sz fin;apply c;clear c R;rw[C3]at ev;obtain⟨ff,et,rfl⟩:=F3.mp ev;have i4:i<4:=(B9.mp et).1;obtain⟨mf,wf⟩:=four i ff et
     skip
     refine⟨⟨[some (toV ff)],rfl,rfl⟩,by rw[B8,lz];exact S9 i4 A3,IW (xwn rfl rfl ab.hp (LP _ _ _ _ _) rfl (xwb rfl rfl rfl ⟨p,dx,mem,pr,g,X,Κ,N,b+9,r,m,ff,l,l,(show [V.ref p,V.int (ff:Int),V.int (((l+1:Nat):Int)-1)]=[V.ref p,V.int (ff:Int),V.int (l:Int)] by rw[show((l+1:Nat):Int)-1=(l:Int) by lia]),D,fin,cl,C.lev mf,hL,C5 l,(by rw[CB Z C mf];exact fin.ext (cl.four ay (i%2) (i/2) A0 A0) λx y hx hy=>(wf x y hx hy).symm),by lia,λz G9 H9 c9 ar ad S b7 bl=>⟨G9,zs++[z],_,by rw[D4];rfl,by rw[C6,lz];rfl,ac.trans ar,ad,C.trans S,a1.trans bl C,?_⟩⟩))⟩;refine RJ lz (λt z' e=>?_) ?_
     ·obtain⟨q1,q2⟩:=vz t z' e;exact⟨S.lev q1,q2.goes ab.ok S q1⟩
     ·obtain⟨r1,_,r3⟩:=b7.view ((C.trans S).lev mf) (wf.goes Z (C.trans S) mf);rw[bm]at r3;exact⟨r1,r3.at' A0 A0⟩
    rintro M H8 aq A8 aw;apply AM;intro R c;obtain⟨X,zs,c8,rfl,lz,ac,D,C,a1,vz⟩:=aq;have ab:=D.jw;have av:=D.sz fin;apply c;clear c R;apply AM;intro R c;obtain⟨z0,z1,z2,z3,rfl⟩:=OK zs lz;apply c;clear c R;have aa:=O.trans C;have a4:FrJ g m H H8:=b6.trans ac;generalize dG:upd H8 A8 _=H9;obtain⟨s8,an⟩:=alc aw dG;refine⟨A8,(xq1 rfl (.inl ⟨SqL.of an,λu hu=>?_⟩))⟩;have ad:=D.same s8;have af:=ad.jw;obtain⟨q0,x0⟩:=vz 0 z0 rfl;obtain⟨q1,x1⟩:=vz 1 z1 rfl;obtain⟨q2,x2⟩:=vz 2 z2 rfl;obtain⟨q3,x3⟩:=vz 3 z3 rfl
    skip
    refine lnk (⟨.refl _ _,λe=>e,af.gr,.refl af.ok⟩:Ln a g H9 X 0 H9 X) hu ⟨q0,q1,q2,q3⟩ A0 A0 λz az ax ae I ao=>?_;refine k z az ax _ (a4.trans ((Ax.j s8).trans (Fr.j ae.fr))) ((ad.fr ae.fr ae.gr I).mono A0) (aa.trans I) ?_ ((bh.trans a1 O).trans ((D.upS _ s8).trans (ad.upF _ ae.fr) (AI.refl ab.ok)) aa);have am:=aa.trans I;refine Vw.jr (am.lev hl) he ⟨_,ao,by show((l+1:Nat):Int)+1=((l+1+1:Nat):Int);lia⟩ ?_;rw[CB U.ok am hl];exact ME af.ok I q0 q1 q2 q3 (x0.at' A0 A0) (x1.at' A0 A0) (x2.at' A0 A0) (x3.at' A0 A0) ao
theorem ok_recB{L d:Nat}(F:Fun K "reckoned" "Jumps.reckoned" Da f fd)(T:Top K mg a)(cR:BK P w K mg base CX0 d a.c_Jumps "fresh" Pt (Tt a L)):AJ P w K mg base CX0 (d+1) f fd Pt (FZ a L):=by
 refine F.ok DN (λvs H Q E h=>?_) (λah A ab s H vs Q E hr h=>?_)
 ·apply AM;intro j c;obtain⟨p,dx,mem,pr,g,G,Κ,N,b,r,m,n,l,e,rfl,_⟩:=h;apply c;clear c j;rfl
 ·apply AM;intro j c;obtain⟨p,dx,mem,pr,g,G,Κ,N,b,r,m,n,l,e,rfl,hz,fin,cl,U,hL,he,X,few,k⟩:=h;have y:=hz.jw;have sz:=hz.sz fin;apply c;clear c j;obtain⟨q,eq,el⟩:=id U;have af:=(y.ok.lev eq).2;have ad:e<m.ds.length:=by rw[y.me.len];lia
  obtain⟨d,C⟩:∃d,m.ds[e]?=some d:=⟨m.ds[e]'ad,D8 _⟩
  apply AM;intro j c;obtain⟨kv,hd,dl,dk,dv⟩:=y.me.sq e d C;apply c;clear c j;refine⟨_,(Ae (An (i:=3) DN.nd rfl (Or.inl rfl) (LN (GO hr) (Ai Av (AC (pv 0) rfl) (pv 2) (λ_ _=>rfl)) (pv 1) ⟨rfl,rfl,rfl,rfl⟩)) (Ae (AN (Aw Jp (pv 3) DA (AD _)) (Ae (An (i:=3) DN.nd rfl (Or.inl rfl) (AF (pv 0) cR (rm hr) Ao (Aa (pv 1) (Aa (pv 2) Ab)))) (Af (JG (GO hr) (Ai Av (AC (pv 0) rfl) (pv 2) (λ_ _=>rfl)) (pv 1) (pv 3) rfl))) AE) (Af (Ar (pv 3))))),?_⟩
  try dsimp only[cxK]
  have S:atI (m.ds.map V.ref) (e:Int)=some (.ref d):=Ah (by rw[C3,C];rfl);refine xwf rfl rfl y.hp T.cl_Jumps T.na_Jumps_known_squares (ZL _ _ _ _ _) (xwi rfl rfl rfl (SqL.of y.me.l) S ⟨d,rfl,.inl ⟨_,.inl hd⟩,(xq1 rfl ⟨_,IU.k (k:=Sum.inl (n:Int)) hd,?_⟩)⟩);apply OD (fun σ Y=>∃(x:Nat)(D:Gv),σ=[some (.ref p),some (.int (n:Int)),some (.int (e:Int)),some (.int (x:Int))]/\FrJ g m H Y/\JZ a Y g D Κ N b p dx mem pr r m/\(∃i,AI G D i)/\JR r D e n x/\Up (l+1) G H Y m)
  ·intro u;refine xq1 rfl ⟨rfl,(xq1 rfl ?_)⟩;cases ev:Bq kv (Sum.inl (n:Int))with
   |some v =>
    obtain⟨x,rfl,jr⟩:=dv n v ev;exact Bc (u _ _ ⟨x,G,rfl,λb o e _ _ _ _ _=>e,hz,⟨0,AI.refl y.ok⟩,jr,Up.refl _ _ _ _⟩)
   |none =>
    refine BJ ?_;refine xwn rfl rfl y.hp (Wj _ _ _ _ _) rfl (xq1 rfl ⟨p,dx,mem,pr,g,G,Κ,N,b,r,m,n,l,e,rfl,hz,fin,cl,U,hL,he,X,few,λx D H' i' fr t go jr Z=>?_⟩);apply AM;intro j c;have B:=t.jw;obtain⟨O,I,aj,ae,ai⟩:=B.me.sq e d C;apply c;clear c j;refine xw2 rfl rfl (xq5 B.hp T.cl_Jumps T.na_Jumps_known_squares (ZL _ _ _ _ _) (xwi rfl rfl rfl (SqL.of B.me.l) S (xq1 rfl ⟨d,(xq1 rfl ⟨Ng.k (k:=Sum.inl (n:Int)) I (M7 (show O.length<=9000000 by lia) A3),?_⟩)⟩)));have aa:=Z e n l U (C5 l) (λd2 ag R M=>by rw[C]at R;cases R;rw[hd]at M;cases M;exact ev) d O C I;obtain⟨z1,z2⟩:=t.put fin C I aa (go.lev U) (by rw[CB y.ok go U];exact X) jr;exact u _ _ ⟨x,D,rfl,λb o e n1 n2 n3 n4 n5=>by rw[As (λz=>n5 (by rw[z];exact F1 C))];exact fr _ _ e n1 n2 n3 n4 n5,z1,⟨i',go⟩,jr,(Z.mono (W6 l)).trans z2 go⟩
  rintro σ Y ac;apply AM;intro j c;obtain⟨x,D,rfl,fr,t,⟨i',go⟩,jr,Z⟩:=ac;apply c;clear c j;exact xq1 rfl (k x D Y i' fr t go jr Z)
theorem UV{f D I:Addr}{t c i:FuncData}(F:Fun K "reckoned" "Jumps.reckoned" Da f t)(z:Fun K "four_halfway" "Jumps.four_halfway" Bj D c)(M:Fun K "fresh" "Jumps.fresh" BY I i)(T:Top K mg a)(B:Py K a.c_Jumps "reckoned" f)(A:Ch K t Pt [])(q:Py K a.c_Jumps "four_halfway" D)(o:Ch K c Pt [])(s:Py K a.c_Jumps "fresh" I)(d:Ch K i Pt [])(y:BK P w K mg base CX0 7 a.c_Jumps "middle_after" Jt (Qw a))(x:BK P w K mg base CX0 2 a.c_Grove "linked" AS (DJ a))(u:Cal P w K mg base CX0 3 "nine_parts" JK (NO a))(v:Cal P w K mg base CX0 1 "fours_of" TQ LC)(C:Cal P w K mg base CX0 3 "met_in_the_middle" Cb (UG a)):∀L,AJ P w K mg base CX0 (10+3*L) f t Pt (FZ a L)
 |0=>(AJ.no (k:=10)).imp λvs H Q E h=>by
  apply AM;intro Y j;obtain⟨p,dx,mem,Z,g,G,Κ,N,b,r,m,n,l,e,_,_,_,_,_,R,_⟩:=h;apply j;clear j Y;exact absurd R (O6 l)
 |L+1=>by
  have V:=UV F z M T B A q o s d y x u v C L;have M1:BK P w K mg base CX0 (10+3*L) a.c_Jumps "reckoned" Pt (FZ a L):=⟨⟨_,_,V,B,A⟩,T.cl_Jumps⟩
  have U:=Zc z T A0 u v x M1;have S:BK P w K mg base CX0 (10+3*L+1) a.c_Jumps "four_halfway" Pt (QB a L):=⟨⟨_,_,U,q,o⟩,T.cl_Jumps⟩
  have O:=ok_freA M T A0 y x u v C M1 S;have X:BK P w K mg base CX0 (10+3*L+2) a.c_Jumps "fresh" Pt (Tt a (L+1)):=⟨⟨_,_,O,s,d⟩,T.cl_Jumps⟩
  exact ok_recB F T X
theorem Wf{L d:Nat}(F:Fun K "after" "Jumps.after" Gk f fd)(T:Top K mg a)(S:4<=d)(R:BK P w K mg base CX0 4 a.c_Jumps "check_jump" Pt (spCj a))(M:BK P w K mg base CX0 d a.c_Jumps "reckoned" Pt (FZ a L)):AJ P w K mg base CX0 (d+1) f fd Pt (FZ a L):=by
 refine F.ok NZ (λvs H Q E h=>?_) (λD A t s H vs Q E y h=>?_)
 ·apply AM;intro v c;obtain⟨p,x,mem,j,g,G,Κ,N,b,r,m,n,l,e,rfl,_⟩:=h;apply c;clear c v;rfl
 ·apply AM;intro v c;obtain⟨p,x,mem,j,g,G,Κ,N,b,r,m,n,l,e,rfl,u,fin,B,z,C,I,o,few,k⟩:=h;have i:=u.jw;have sz:=u.sz fin;obtain⟨q,eq,O⟩:=id z;apply c;clear c v;refine⟨_,(Ae (Co (AF (pv 0) R (rm y) Ao (Aa (pv 1) (Aa (pv 2) Ab)))) (Af (Ar (AF (pv 0) M (rm y) Ao (Aa (pv 1) (Aa (pv 2) Ab)))))),?_⟩
  try dsimp only[cxK]
  refine xwn rfl rfl i.hp (Wk _ _ _ _ _) rfl (xq1 rfl ⟨p,x,g.p,mem,j,m.l,m.kc,g,G,n,e,q,rfl,i.hp,i.gr,eq,by rw[O];lia,?_⟩);exact xwn rfl rfl i.hp (LP _ _ _ _ _) rfl (xq1 rfl ⟨p,x,mem,j,g,G,Κ,N,b,r,m,n,l,e,rfl,u,fin,B,z,C,I,o,few,k⟩)
end
theorem Dd(l:Nat):(2:Int)^(l+1)=2^l+2^l:=by rw[Q8];lia
def BP(x y w h r:Int):Prop:=-r<=x/\-r<=y/\x+w<=r/\y+h<=r
instance(x y w h r:Int):Decidable (BP x y w h r):=by unfold BP;infer_instance
theorem lies_b(x y w h r:Int):(decide (-r<=x) && (decide (-r<=y) && (decide (x+w<=r) && decide (y+h<=r))))=decide (BP x y w h r):=by
 rw[R1];simp only[O8,A6g];exact Iff.rfl
structure Wid(G:Gv)(n f w:Nat):Prop where
 ex:∃(q:Sq)(x y z v a b c d:Nat),Cu G n f q x y z v/\G[a]?=some ⟨[(bareN n:Int),(bareN n:Int),(bareN n:Int),(x:Int)],(n:Int)+1⟩/\G[b]?=some ⟨[(bareN n:Int),(bareN n:Int),(y:Int),(bareN n:Int)],(n:Int)+1⟩ /\
  G[c]?=some ⟨[(bareN n:Int),(z:Int),(bareN n:Int),(bareN n:Int)],(n:Int)+1⟩/\G[d]?=some ⟨[(v:Int),(bareN n:Int),(bareN n:Int),(bareN n:Int)],(n:Int)+1⟩/\G[w]?=some ⟨[(a:Int),(b:Int),(c:Int),(d:Int)],(n:Int)+2⟩
theorem Wid.lev{G:Gv}{n f w:Nat}(h:Wid G n f w):Al G w ((n+2:Nat):Int):=by
 obtain⟨q,x,y,z,v,a,b,c,d,i,k,l,g,j,e⟩:=h.ex;exact⟨_,e,by show(n:Int)+2=_;lia⟩
theorem Wid.app{G e:Gv}{k n f w:Nat}(go:AI G e k)(h:Wid G n f w):Wid e n f w:=by
 obtain⟨q,x,y,z,v,a,b,c,d,i,l,o,g,j,m⟩:=h.ex;exact⟨q,x,y,z,v,a,b,c,d,i.app go,go.get l,go.get o,go.get g,go.get j,go.get m⟩
theorem Ds{G r:Gv}(e:G=G0++r){n:Nat}(h:n<=48):Al G (bareN n) (n:Int):=by
 rw[e];exact(ZT n h).app
theorem bareL_at'{l:Nat}(h:l<=48):((CY 48).map V.int)[l]?=some (.int (bareN l:Int)):=by
 unfold CY;rw[C3,C3,Q7 A0];rfl
section
variable{P:Program}{w:World}{K:W.Frag}{mg:Str->Option Value}{base:Heap}{a:Ad}
inductive SpLie(vs:List V)(H:Hp)(Q:VK):Prop
 |mk (t:Addr) (x y w h r:Int) (_:vs=[.ref t,.int r]) (_:H t=some (.tup [.int x,.int y,.int w,.int h])) (_:Q (.bl (decide (BP x y w h r))) H):SpLie vs H Q
def Sd:Sp:=λvs H Q _=>SpLie vs H Q
theorem ok_lie(F:Fun K "lies_within" "lies_within" Ge f fd)(T:Top K mg a):AJ P w K mg base CX0 1 f fd Pn Sd:=by
  refine F.ok NU (λ_ _ _ _ h=>by rcases h;subst_vars;rfl) λd A c s H vs Q E n h=>?_
  obtain⟨t,x,y,l,o,r,rfl,b,k⟩:=h;rw[<-lies_b]at k;refine⟨_,(Af (Ar (EJ (CH Jo (IQ EE (pv 1)) (Ai Aj (pv 0) Ac (λ_ _=>rfl)) (AD _)) (EJ (CH Jo (IQ EE (pv 1)) (Ai Aj (pv 0) Ac (λ_ _=>rfl)) (AD _)) (EJ (CH Jo (Ay AQ (Ai Aj (pv 0) Ac (λ_ _=>rfl)) (Ai Aj (pv 0) Ac (λ_ _=>rfl))) (pv 1) (AD _)) (Ft (CH Jo (Ay AQ (Ai Aj (pv 0) Ac (λ_ _=>rfl)) (Ai Aj (pv 0) Ac (λ_ _=>rfl))) (pv 1) (AD _)))))))),?_⟩
  try dsimp only[cxK]
  refine xw3 rfl rfl rfl (xq4 rfl rfl (SqT.of b) (Ah (j:=0) rfl) (xq2 rfl rfl (RL (λ_ p i=>?_) k)));refine xw3 rfl rfl rfl (xq4 rfl rfl (SqT.of b) (Ah (j:=1) rfl) (xq2 rfl rfl (RL (λ_ q e=>?_) i)));refine xwi rfl rfl rfl (SqT.of b) (Ah (j:=0) rfl) (xwi rfl rfl rfl (SqT.of b) (Ah (j:=2) rfl) (xq2 rfl rfl (xwb rfl rfl rfl (RL (λ_ m g=>?_) e))));exact xwi rfl rfl rfl (SqT.of b) (Ah (j:=1) rfl) (xwi rfl rfl rfl (SqT.of b) (Ah (j:=3) rfl) (xq2 rfl rfl (xwb rfl rfl rfl g)))
inductive Vy(a:Ad)(vs:List V)(H:Hp)(Q:VK):Prop
 |mk (g:GA) (G:Gv) (i n:Nat) (_:vs=[.ref g.p,.int i]) (_:AK a H g G) (_:Al G i ((n+1:Nat):Int)) (_:n<48) (_:Q (.int (2^n)) H):Vy a vs H Q
def JD(a:Ad):Sp:=λvs H Q _=>Vy a vs H Q
theorem YW(F:Fun K "reach_of" "reach_of" Lh f fd)(T:Top K mg a)(l:BK P w K mg base CX0 3 a.c_Grove "level_of" Jt (LB a)):AJ P w K mg base CX0 4 f fd TL (JD a):=by
  refine F.ok Sf (λ_ _ _ _ h=>by rcases h;subst_vars;rfl) λj A b s H vs Q E m h=>?_
  obtain⟨g,G,i,n,rfl,c,⟨q,e,o⟩,d,k⟩:=h;refine⟨_,(Af (Ar (Ay CU Ac (Ay Bg (AF (pv 0) l (rm m) Ao (Aa (pv 1) Ab)) Ac)))),?_⟩
  try dsimp only[cxK]
  have p:q.lev=(n:Int)+1:=by rw[o];lia
  refine xwn rfl rfl c.hp (DD g) rfl ⟨g,G,i,q,rfl,c,e,(xq2 rfl rfl (xq2 rfl rfl ⟨⟨by lia,by lia,by decide⟩,?_⟩))⟩;show Q (.int (1*2^(q.lev-1).toNat)) H;rw[Uv n p];exact k
inductive VG(a:Ad)(vs:List V)(H:Hp)(Q:VK):Prop
 |mk (g:GA) (G:Gv) (_:vs=[.ref g.p]) (_:Bd a H g G) (_:Q (.int (bareN 1:Int)) H):VG a vs H Q
def QF(a:Ad):Sp:=λvs H Q _=>VG a vs H Q
theorem Zh(F:Fun K "bare_field" "bare_field" Ie f fd)(T:Top K mg a):AJ P w K mg base CX0 1 f fd Re (QF a):=by
  refine F.ok Pc (λ_ _ _ _ h=>by rcases h;subst_vars;rfl) λd A b s H vs Q E e h=>?_
  obtain⟨g,G,rfl,c,k⟩:=h;exact⟨_,(Af (Ar (Ai Av (AC (pv 0) rfl) (BL rfl T.k_LEAST_LEVEL) (λ_ _=>rfl)))),(xwf rfl rfl c.at'.hp T.cl_Grove T.na_Grove_bares (Jv g) (xq4 rfl rfl (SqL.of c.br) (Ah (j:=1) (bareL_at' A0)) k))⟩
inductive SpWid(a:Ad)(vs:List V)(H:Hp)(Q:VK):Prop
 |mk (g:GA) (G:Gv) (f n:Nat) (_:vs=[.ref g.p,.int f]) (_:Bd a H g G) (_:Al G f ((n+1:Nat):Int)) (_:n<47) (_:G.length<8900000) (_:∀(w:Nat)(G':Gv)(H':Hp),Fr g H H'->AK a H' g G'->AI G G' 5->Wid G' n f w->Q (.int w) H'):SpWid a vs H Q
def UF(a:Ad):Sp:=λvs H Q _=>SpWid a vs H Q
theorem ok_wid(F:Fun K "widened" "widened" Mm f fd)(T:Top K mg a)(a7:BK P w K mg base CX0 3 a.c_Grove "level_of" Jt (LB a))(R:BK P w K mg base CX0 2 a.c_Grove "linked" AS (DJ a)):AJ P w K mg base CX0 4 f fd JK (UF a):=by
  refine F.ok GX (λ_ _ _ _ h=>by rcases h;subst_vars;rfl) λar A aj s H vs Q E N h=>?_
  obtain⟨g,G,f',n,rfl,e,hl,aq,few,k⟩:=h;obtain⟨q,x,y,z,v,u⟩:=Be e.ok hl;have lq:=u.lev;obtain⟨ts,h3,h4⟩:=e.at'.pt;obtain⟨t,et,D⟩:=PairedM.get h4 u.g;have D:H t=some (.tup [.int x,.int y,.int z,.int v]):=by
   have D:H t=some (.tup (q.parts.map V.int)):=D;rw[u.ps]at D;exact D
  obtain⟨r,e0⟩:=e.g0;have m:=Ds e0 (n:=n) A0;refine⟨_,(Ae (An (i:=2) GX.nd rfl (Or.inl rfl) (AF (pv 0) a7 (rm N) Ao (Aa (pv 1) Ab))) (Ae (AN (PW.pt (Fs (Aw EQ (pv 2) (BL rfl T.k_LEAST_LEVEL) (AD _)) (Dy (Aw Cy (pv 2) (BL rfl T.k_TOP_LEVEL) (AD _))))) (Af Bk) AE) (Ae (An (i:=3) GX.nd rfl (Or.inl rfl) (Ai Av (AC (pv 0) rfl) (pv 1) (λ_ _=>rfl))) (Ae (An (i:=4) GX.nd rfl (Or.inl rfl) (Ai Av (AC (pv 0) rfl) (Ay Bg (pv 2) Ac) (λ_ _=>rfl))) (Af (Ar (AF (pv 0) R (rm N) Ao (Bu (Aa (AF (pv 0) R (rm N) Ao (Bu (Aa (pv 4) (Aa (pv 4) (Aa (pv 4) (Aa (Ai Aj (pv 3) Ac (λ_ _=>rfl)) Ab)))) Ab)) (Aa (AF (pv 0) R (rm N) Ao (Bu (Aa (pv 4) (Aa (pv 4) (Aa (Ai Aj (pv 3) Ac (λ_ _=>rfl)) (Aa (pv 4) Ab)))) Ab)) (Aa (AF (pv 0) R (rm N) Ao (Bu (Aa (pv 4) (Aa (Ai Aj (pv 3) Ac (λ_ _=>rfl)) (Aa (pv 4) (Aa (pv 4) Ab)))) Ab)) (Aa (AF (pv 0) R (rm N) Ao (Bu (Aa (Ai Aj (pv 3) Ac (λ_ _=>rfl)) (Aa (pv 4) (Aa (pv 4) (Aa (pv 4) Ab)))) Ab)) Ab)))) Ab)))))))),?_⟩
  try dsimp only[cxK]
  refine xq1 rfl ⟨g.p,g.dx,(xq1 rfl ⟨e.at'.hp,DD g,(xq1 rfl ⟨g,G,f',q,rfl,e.at',u.g,?_⟩)⟩)⟩;refine xwb rfl rfl rfl (xq1 rfl ?_);rw[X4 (by lia:¬q.lev<1)];refine Bc (xq1 rfl ⟨rfl,(xq1 rfl ?_)⟩);rw[X4 (by intro z;injection z with z;lia)];refine Bc (xwf rfl rfl e.at'.hp T.cl_Grove T.na_Grove_parts (Ce g) (xwi rfl rfl rfl (SqL.of h3) (Ah (by rw[C3,et];rfl)) ?_));refine xwf rfl rfl e.at'.hp T.cl_Grove T.na_Grove_bares (Jv g) (xwb rfl rfl rfl (xq4 rfl rfl (SqL.of e.br) (by rw[show q.lev-1=(n:Int) by lia];exact Ah (bareL_at' A0)) ?_));refine xq1 rfl ⟨g.p,g.dx,(xq1 rfl ⟨e.at'.hp,BI g,?_⟩)⟩;refine xq1 rfl ⟨g.p,g.dx,(xq1 rfl ⟨e.at'.hp,BI g,(xw3 rfl rfl rfl (xwi rfl rfl rfl (SqT.of D) (Ah (j:=0) rfl) ⟨(by show 4<=sizeLine;decide),λt1 am=>?_⟩))⟩)⟩;have s1:=AB (o:=.tup [.int (bareN n:Int),.int (bareN n:Int),.int (bareN n:Int),.int x]) am;refine⟨g,G,t1,bareN n,bareN n,bareN n,x,(n:Int),rfl,e.at'.same s1,e.ok,Ag,⟨m,m,m,u.hx⟩,by lia,by lia,λa1 G1 H1 ai U d e1=>?_⟩;have f1:=(Ax.fr s1).trans ai;have ag:=f1.tup e.at' D;have n1:=d.few;refine xwn rfl rfl U.hp (BI g) rfl (xwj rfl rfl rfl rfl (SqT.of ag) (Ah (j:=1) rfl) (xq1 rfl ⟨(by show 4<=sizeLine;decide),λt2 ab=>?_⟩));have s2:=AB (o:=.tup [.int (bareN n:Int),.int (bareN n:Int),.int y,.int (bareN n:Int)]) ab;refine⟨g,G1,t2,bareN n,bareN n,y,bareN n,(n:Int),rfl,U.same s2,d.ok,Ag,⟨d.lev m,d.lev m,d.lev u.hy,d.lev m⟩,by lia,by lia,λa2 G2 H2 ak S I e2=>?_⟩;have f2:=f1.trans ((Ax.fr s2).trans ak);have an:=f2.tup e.at' D;have n2:=I.few;have b:=d.trans I;refine xwn rfl rfl S.hp (BI g) rfl (xwi rfl rfl rfl (SqT.of an) (Ah (j:=2) rfl) (xw2 rfl rfl ⟨(by show 4<=sizeLine;decide),λt3 Y=>?_⟩));have s3:=AB (o:=.tup [.int (bareN n:Int),.int z,.int (bareN n:Int),.int (bareN n:Int)]) Y;refine⟨g,G2,t3,bareN n,z,bareN n,bareN n,(n:Int),rfl,S.same s3,I.ok,Ag,⟨b.lev m,b.lev u.hz,b.lev m,b.lev m⟩,by lia,by lia,λa3 G3 H3 ad O C e3=>?_⟩;have f3:=f2.trans ((Ax.fr s3).trans ad);have al:=f3.tup e.at' D;have n3:=C.few;have c:=b.trans C;refine xwn rfl rfl O.hp (BI g) rfl (xq4 rfl rfl (SqT.of al) (Ah (j:=3) rfl) (xw3 rfl rfl rfl ⟨(by show 4<=sizeLine;decide),λt4 ac=>?_⟩));have s4:=AB (o:=.tup [.int v,.int (bareN n:Int),.int (bareN n:Int),.int (bareN n:Int)]) ac;refine⟨g,G3,t4,v,bareN n,bareN n,bareN n,(n:Int),rfl,O.same s4,C.ok,Ag,⟨c.lev u.hw,c.lev m,c.lev m,c.lev m⟩,by lia,by lia,λZ G4 H4 ah aa l e4=>?_⟩;have f4:=f3.trans ((Ax.fr s4).trans ah);have n4:=l.few;have X:=c.trans l;refine⟨(by show 4<=sizeLine;decide),λt5 ao=>?_⟩;have s5:=AB (o:=.tup [.int a1,.int a2,.int a3,.int Z]) ao;have E1:=(I.trans (C.trans l)).get e1;have E2:=(C.trans l).get e2;have E3:=l.get e3;refine⟨g,G4,t5,a1,a2,a3,Z,(n:Int)+1,rfl,aa.same s5,l.ok,Ag,⟨⟨_,E1,rfl⟩,⟨_,E2,rfl⟩,⟨_,E3,rfl⟩,⟨_,e4,rfl⟩⟩,by lia,by lia,λw' G5 H5 af ae B e5=>?_⟩;have M:=X.trans B;exact k w' G5 H5 (f4.trans ((Ax.fr s5).trans af)) ae M ⟨q,x,y,z,v,a1,a2,a3,Z,u.app M,B.get E1,B.get E2,B.get E3,B.get e4,by rw[e5,show(n:Int)+1+1=(n:Int)+2 by lia]⟩
end
structure Nf(G:Gv)(n i:Nat)(qs:Nat->Nat)(ps:Nat->Nat->Nat):Prop where
 node:∃q,Cu G (n+1) i q (qs 0) (qs 1) (qs 2) (qs 3)
 sub:∀k,k<4->∃q,Cu G n (qs k) q (ps k 0) (ps k 1) (ps k 2) (ps k 3)
theorem Nf.app{G b:Gv}{k n i:Nat}{qs:Nat->Nat}{c:Nat->Nat->Nat}(go:AI G b k)(h:Nf G n i qs c):Nf b n i qs c:=by
 obtain⟨q,a⟩:=h.node;exact⟨⟨q,a.app go⟩,λk d=>by obtain⟨q,a⟩:=h.sub k d;exact⟨q,a.app go⟩⟩
def f4(x y z w:Nat)(k:Nat):Nat:=match k with|0=>x|1=>y|2=>z|_=>w
theorem deep_of{G:Gv}(ok:GOk G){n i:Nat}(h:Al G i ((n+2:Nat):Int)):∃qs E,Nf G n i qs E:=by
 obtain⟨q,x,y,z,w,a⟩:=Be ok (n:=n+1) h;obtain⟨_,b,B,A,m,l⟩:=Be ok a.hx;obtain⟨_,o,t,g,c,p⟩:=Be ok a.hy;obtain⟨_,r,v,j,f,s⟩:=Be ok a.hz;obtain⟨_,e,u,D,C,nw⟩:=Be ok a.hw;refine⟨f4 x y z w,λk=>match k with|0=>f4 b B A m|1=>f4 o t g c|2=>f4 r v j f|_=>f4 e u D C,⟨q,a⟩,λk d=>?_⟩
 match k,d with
 |0,_=>exact⟨_,l⟩
 |1,_=>exact⟨_,p⟩
 |2,_=>exact⟨_,s⟩
 |3,_=>exact⟨_,nw⟩
theorem Cu.nat{G:Gv}{n i:Nat}{q:Sq}{x y z w:Nat}(h:Cu G n i q x y z w){j:Nat}(a:j<4):q.parts[j]?=some ((f4 x y z w j:Nat):Int)/\Al G (f4 x y z w j) n:=by
 rw[h.ps]
 match j,a with
 |0,_=>exact⟨rfl,h.hx⟩
 |1,_=>exact⟨rfl,h.hy⟩
 |2,_=>exact⟨rfl,h.hz⟩
 |3,_=>exact⟨rfl,h.hw⟩
theorem RA(p:Nat->Nat){j:Nat}(a:j<4):f4 (p 0) (p 1) (p 2) (p 3) j=p j:=by
 match j,a with
 |0,_=>rfl
 |1,_=>rfl
 |2,_=>rfl
 |3,_=>rfl
def BA(n:Nat)(ps:Nat->Nat->Nat):Prop:=∀k j,k<4->j<4->j+k≠3->ps k j=bareN n
def MU(G:Gv):Nat->Nat->Nat->Prop
 |0,_,_=>False
 |1,f,r=>r=f
 |n+2,f,r=>∃qs ps,Nf G n f qs ps/\((¬BA n ps/\r=f)\/(BA n ps/\∃m,G[m]?=some ⟨[(ps 0 3:Int),(ps 1 2:Int),(ps 2 1:Int),(ps 3 0:Int)],(n:Int)+1⟩/\MU G (n+1) m r))
section
variable{P:Program}{w:World}{K:W.Frag}{mg:Str->Option Value}{base:Heap}{a:Ad}
theorem JJ{H:Hp}{g:GA}{G:Gv}(h:AK a H g G){n i:Nat}{q:Sq}{x y z w:Nat}(d:Cu G n i q x y z w):∃(c:List Addr)(t:Addr),H g.pt=some (.lst (c.map V.ref))/\(c.map V.ref)[i]?=some (.ref t)/\H t=some (.tup [.int x,.int y,.int z,.int w]):=by
 obtain⟨c,e,j⟩:=h.pt;obtain⟨t,f,b⟩:=PairedM.get j d.g;refine⟨c,t,e,by rw[C3,f];rfl,?_⟩;have b:H t=some (.tup (q.parts.map V.int)):=b;rw[d.ps]at b;exact b
inductive SpMid(a:Ad)(vs:List V)(H:Hp)(Q:VK):Prop
 |mk (g:GA) (G:Gv) (i n:Nat) (qs:Nat->Nat) (ps:Nat->Nat->Nat) (_:vs=[.ref g.p,.int i]) (_:AK a H g G) (_:GOk G) (_:Nf G n i qs ps) (_:n<47) (_:G.length<8900000) (_:∀(m:Nat)(G':Gv)(H':Hp),Fr g H H'->AK a H' g G'->AI G G' 1->G'[m]?=some ⟨[(ps 0 3:Int),(ps 1 2:Int),(ps 2 1:Int),(ps 3 0:Int)],(n:Int)+1⟩->Q (.int m) H'):SpMid a vs H Q
def Yr(a:Ad):Sp:=λvs H Q _=>SpMid a vs H Q
theorem ok_mid(F:Fun K "middle_of" "middle_of" FQ f fd)(T:Top K mg a)(a6:BK P w K mg base CX0 2 a.c_Grove "linked" AS (DJ a)):AJ P w K mg base CX0 3 f fd JK (Yr a):=by
  refine F.ok LF (λ_ _ _ _ h=>by rcases h;subst_vars;rfl) λac A S s H vs Q E hr h=>?_
  obtain⟨g,G,i,n,qs,c,rfl,I,ok,C,ab,few,k⟩:=h;obtain⟨q,nd⟩:=C.node;obtain⟨ts,t,U,et,ht⟩:=JJ I nd;refine⟨_,(Ae (Iq (i:=2) rfl LF.nd rfl rfl (BM.of (So:=Ak FQ) (No:=MP) (N:=["quarter","grove"]) (k:=1) (cs:=[0]) rfl rfl A1) (TB (Ai Av (AC (pv 0) rfl) (pv 1) (λ_ _=>rfl))) (λ_ _ _=>(Bz (i:=0) A1 rfl rfl)) (λ_ _ _=>BS) (λ_ _ _=>(Ai (ZO (K:=K) rfl) (QQ (K:=K) rfl (pv 1) rfl) (pv 0) (λ_ _=>rfl)))) (Af (Ar (AF (pv 0) a6 (rm hr) Ao (Bu (Aa (Ai Aj (Ai Av (pv 2) Ac (λ_ _=>rfl)) Ac (λ_ _=>rfl)) (Aa (Ai Aj (Ai Av (pv 2) Ac (λ_ _=>rfl)) Ac (λ_ _=>rfl)) (Aa (Ai Aj (Ai Av (pv 2) Ac (λ_ _=>rfl)) Ac (λ_ _=>rfl)) (Aa (Ai Aj (Ai Av (pv 2) Ac (λ_ _=>rfl)) Ac (λ_ _=>rfl)) Ab)))) Ab))))),?_⟩
  try dsimp only[cxK]
  refine xwf rfl rfl I.hp T.cl_Grove T.na_Grove_parts (Ce g) (xwi rfl rfl rfl (SqL.of U) (Ah et) ⟨t,rfl,⟨_,SqT.of ht⟩,?_⟩);have sub:∀k,k<4->∃tk,(ts.map V.ref)[qs k]?=some (.ref tk)/\H tk=some (.tup [.int (c k 0),.int (c k 1),.int (c k 2),.int (c k 3)]):=λk hk=>by
   obtain⟨qk,Z⟩:=C.sub k hk;obtain⟨aa,tk,l,Y,X⟩:=JJ I Z;rw[U]at l;have l:=HO.lst.inj (K0 l);exact⟨tk,by rw[l];exact Y,X⟩
  obtain⟨r,e0,p0⟩:=sub 0 A3;obtain⟨x,e1,p1⟩:=sub 1 A3;obtain⟨p,e2,p2⟩:=sub 2 A3;obtain⟨u,e3,p3⟩:=sub 3 A3;have all:∀(j:Nat)(v:V),[V.int (qs 0:Int),V.int (qs 1:Int),V.int (qs 2:Int),V.int (qs 3:Int)][j]?=some v->∃(k:Nat)(tk:Addr),v=.int (k:Int)/\(ts.map V.ref)[k]?=some (.ref tk)/\[V.ref r,V.ref x,V.ref p,V.ref u][j]?=some (.ref tk):=λj v b=>by
   match j,b with
   |0,b=>cases b;exact⟨qs 0,r,rfl,e0,rfl⟩
   |1,b=>cases b;exact⟨qs 1,x,rfl,e1,rfl⟩
   |2,b=>cases b;exact⟨qs 2,p,rfl,e2,rfl⟩
   |3,b=>cases b;exact⟨qs 3,u,rfl,e3,rfl⟩
   |j+4,b=>simp at b
  refine RG (xs:=[.int (qs 0:Int),.int (qs 1:Int),.int (qs 2:Int),.int (qs 3:Int)]) (λj y M=>H=M/\y=[V.ref r,V.ref x,V.ref p,V.ref u].take j) ⟨rfl,rfl⟩ (λj y M _ z=>z.1▸SqT.of ht) ?_ ?_
  ·rintro j v y M b ⟨rfl,rfl⟩;obtain⟨k',tk,rfl,ek,el⟩:=all j v b;refine⟨⟨[some (.int k')],rfl,rfl⟩,by rw[M9];exact IR (by show min j 4<10000000;lia),IW (xwf rfl rfl I.hp T.cl_Grove T.na_Grove_parts (Ce g) (xwi rfl rfl rfl (SqL.of U) (Ah ek) ⟨rfl,?_⟩))⟩;rw[N2,el];rfl
  ·rintro y M ⟨rfl,rfl⟩ L hL;have B:=AB (o:=.lst [V.ref r,V.ref x,V.ref p,V.ref u]) hL;have d:upd H L (.lst [V.ref r,V.ref x,V.ref p,V.ref u]) L=some (.lst [V.ref r,V.ref x,V.ref p,V.ref u]):=Ag;rw[show(List.take [V.int (qs 0:Int),V.int (qs 1:Int),V.int (qs 2:Int),V.int (qs 3:Int)].length [V.ref r,V.ref x,V.ref p,V.ref u])=[V.ref r,V.ref x,V.ref p,V.ref u]from rfl];generalize upd H L (.lst [V.ref r,V.ref x,V.ref p,V.ref u])=H1 at B d⊢;have D:=I.same B;refine xwn rfl rfl D.hp (BI g) rfl (xq4 rfl rfl (SqL.of d) (Ah (j:=0) rfl) (xq4 rfl rfl (SqT.of (B _ _ p0)) (Ah (j:=3) rfl) (xwi rfl rfl rfl (SqL.of d) (Ah (j:=1) rfl) (xq4 rfl rfl (SqT.of (B _ _ p1)) (Ah (j:=2) rfl) ?_))));refine xwi rfl rfl rfl (SqL.of d) (Ah (j:=2) rfl) (xq4 rfl rfl (SqT.of (B _ _ p2)) (Ah (j:=1) rfl) (xwi rfl rfl rfl (SqL.of d) (Ah (j:=3) rfl) (xq4 rfl rfl (SqT.of (B _ _ p3)) (Ah (j:=0) rfl) ⟨(by show 4<=sizeLine;decide),λt4 R=>?_⟩)));have s2:=AB (o:=.tup [.int (c 0 3),.int (c 1 2),.int (c 2 1),.int (c 3 0)]) R;obtain⟨_,n0⟩:=C.sub 0 A3;obtain⟨_,n1⟩:=C.sub 1 A3;obtain⟨_,n2⟩:=C.sub 2 A3;obtain⟨_,n3⟩:=C.sub 3 A3;exact⟨g,G,t4,c 0 3,c 1 2,c 2 1,c 3 0,(n:Int),rfl,D.same s2,ok,Ag,⟨n0.hw,n1.hz,n2.hy,n3.hx⟩,by lia,by lia,λm G' H' fr O go e=>k m G' H' ((Ax.fr B).trans ((Ax.fr s2).trans fr)) O go e⟩
inductive SpBA(a:Ad)(vs:List V)(H:Hp)(Q:VK):Prop
 |mk (g:GA) (G:Gv) (i n:Nat) (qs:Nat->Nat) (ps:Nat->Nat->Nat) (_:vs=[.ref g.p,.int i]) (_:Bd a H g G) (_:Nf G n i qs ps) (_:n<47) (_:(BA n ps->∀H',Ax H H'->Q (.bl true) H')) (_:(¬BA n ps->∀H',Ax H H'->Q (.bl false) H')):SpBA a vs H Q
def spBA(a:Ad):Sp:=λvs H Q _=>SpBA a vs H Q
theorem ok_ba(F:Fun K "is_bare_around" "is_bare_around" Ed f fd)(T:Top K mg a):AJ P w K mg base CX0 1 f fd JK (spBA a):=by
  refine F.ok BH (λ_ _ _ _ h=>by rcases h;subst_vars;rfl) λag A aa s H vs Q E hr h=>?_
  obtain⟨g,G,i,n,qs,l,rfl,u,dp,af,k1,k2⟩:=h;obtain⟨q,r⟩:=dp.node;have lq:=r.lev;obtain⟨ts,t,h3,et,ht⟩:=JJ u.at' r;refine⟨_,(Ae (An (i:=2) BH.nd rfl (Or.inl rfl) (Ai Av (AC (pv 0) rfl) (Ay Bg (Ai Av (AC (pv 0) rfl) (pv 1) (λ_ _=>rfl)) Ac) (λ_ _=>rfl))) (Ae (Ir K9 rfl (Ny true rfl T.b_enumerate (Aa (Ai Av (AC (pv 0) rfl) (pv 1) (λ_ _=>rfl)) Ab)) (Oh rfl (Do (CG (i:=3) BH.nd rfl (Or.inl rfl)) (Do (CG (i:=4) BH.nd rfl (Or.inl rfl)) LL))) (Af (Ir K9 rfl (Ny true rfl T.b_enumerate (Aa (Ai Av (AC (pv 0) rfl) (pv 4) (λ_ _=>rfl)) Ab)) (Oh rfl (Do (CG (i:=5) BH.nd rfl (Or.inl rfl)) (Do (CG (i:=6) BH.nd rfl (Or.inl rfl)) LL))) (Af (AN (PW.pt (Lo (Aw MN (pv 6) (pv 2) (AD _)) (Ip (Aw MN (pv 5) (Ay Bg Ac (pv 3)) (AD _))))) (Af (Ar Ol)) AE))))) (Af (Ar Ol)))),?_⟩
  try dsimp only[cxK]
  refine xwf rfl rfl u.at'.hp T.cl_Grove T.na_Grove_bares (Jv g) (xwf rfl rfl u.at'.hp T.cl_Grove T.na_Grove_levels (FJ g) (xwi rfl rfl rfl (SqL.of u.at'.lv) (Ah (by rw[C3,r.g];rfl)) (xq2 rfl rfl (xq4 rfl rfl (SqL.of u.br) (by rw[show q.lev-2=(n:Int) by lia];exact Ah (bareL_at' A0)) ?_))));refine xwf rfl rfl u.at'.hp T.cl_Grove T.na_Grove_parts (Ce g) (xwi rfl rfl rfl (SqL.of h3) (Ah et) ⟨t,rfl,⟨_,SqT.of ht⟩,?_⟩);refine LV (b:=true) (xs:=[.int (qs 0:Int),.int (qs 1:Int),.int (qs 2:Int),.int (qs 3:Int)]) (λj σ M=>Ax H M/\(∃u3 Y x C:Option V,σ=[some (.ref g.p),some (.int i),some (.int (bareN n:Int)),u3,Y,x,C])/\∀m d,m<j->m<4->d<4->d+m≠3->l m d=bareN n) ⟨Ax.refl H,⟨none,none,none,none,rfl⟩,λm d h=>absurd h (O6 _)⟩ (λj σ M _ z=>SqT.of (z.1 _ _ ht)) ?_ ?_
  ·rintro j v σ M T' c ⟨sm,⟨u3,Y,x,C,rfl⟩,al⟩ nT;have hj:j<4:=(B9.mp c).1;have y:v=.int (qs j:Int):=by
    match j,hj,c with
    |0,_,c=>cases c;rfl
    |1,_,c=>cases c;rfl
    |2,_,c=>cases c;rfl
    |3,_,c=>cases c;rfl
   subst y;obtain⟨qk,ac⟩:=dp.sub j hj;have S:=sm.trans (AB (o:=.tup [.int j,.int (qs j)]) nT);refine SS Ag ?_;generalize upd M T' (.tup [.int j,.int (qs j)])=H3 at S⊢;obtain⟨ah,t3,ab,ad,O⟩:=JJ (u.at'.same S) ac;refine xwf rfl rfl ((u.at'.same S).hp) T.cl_Grove T.na_Grove_parts (Ce g) (xwi rfl rfl rfl (SqL.of ab) (Ah ad) ⟨t3,rfl,⟨_,SqT.of O⟩,?_⟩);refine LV (b:=true) (xs:=[.int (l j 0:Int),.int (l j 1:Int),.int (l j 2:Int),.int (l j 3:Int)]) (λk σ N=>Ax H3 N/\(∃x C:Option V,σ=[some (.ref g.p),some (.int i),some (.int (bareN n:Int)),some (.int j),some (.int (qs j)),x,C])/\∀d,d<k->d<4->d+j≠3->l j d=bareN n) ⟨Ax.refl H3,⟨_,_,rfl⟩,λd h=>absurd h (O6 _)⟩ (λk σ N _ z=>SqT.of (z.1 _ _ O)) ?_ ?_
   ·rintro k v σ N T2 c ⟨B,⟨x,C,rfl⟩,D⟩ ae;have R:k<4:=(B9.mp c).1;have y:v=.int (l j k:Int):=by
     match k,R,c with
     |0,_,c=>cases c;rfl
     |1,_,c=>cases c;rfl
     |2,_,c=>cases c;rfl
     |3,_,c=>cases c;rfl
    subst y;have Z:=B.trans (AB (o:=.tup [.int k,.int (l j k)]) ae);refine SS Ag ?_;generalize upd N T2 (.tup [.int k,.int (l j k)])=H5 at Z⊢;refine xw2 rfl rfl ⟨rfl,(xq1 rfl ?_)⟩;refine Yd (b2:=!decide (V.int (k:Int)=V.int (3-(j:Int)))) (λ_ Q' q=>(xw2 rfl rfl (xq2 rfl rfl ⟨rfl,(xq1 rfl q)⟩))) ?_;refine EC (λX=>?_) (λX=>?_)
    ·refine k2 (λba=>?_) H5 (S.trans Z);rw[O8]at X;have c2:¬k+j=3:=λz=>by
      have:=X.2;rw[Z7 (show V.int (k:Int)=V.int (3-(j:Int)) by congr 1;lia)]at this;cases this
     have c1:=X.1;rw[ba j k hj R c2,Z7 rfl]at c1;cases c1
    ·refine⟨Z,⟨_,_,rfl⟩,λd I U e=>?_⟩;rcases U7.mp I with h|h
     ·exact D d h U e
     ·subst h;refine X9 λz=>X ?_;rw[X4 (show ¬V.int (l j d:Int)=V.int (bareN n:Int) by intro q;injection q with q;exact z (X8 q)),X4 (show ¬V.int (d:Int)=V.int (3-(j:Int)) by intro q;injection q with q;lia)];rfl
   ·rintro σ N ⟨B,⟨x,C,rfl⟩,D⟩;refine⟨S.trans B,⟨_,_,_,_,rfl⟩,λm d I U e h4=>?_⟩;rcases U7.mp I with h|h
    ·exact al m d h U e h4
    ·subst h;exact D d e e h4
  ·rintro σ M ⟨sm,⟨u3,Y,x,C,rfl⟩,al⟩;exact k1 (λm d I U e=>al m d I I U e) M sm
end
section
variable{P:Program}{w:World}{K:W.Frag}{mg:Str->Option Value}{base:Heap}{a:Ad}
inductive SpTrim(a:Ad)(vs:List V)(H:Hp)(Q:VK):Prop
 |mk (g:GA) (G:Gv) (f n:Nat) (_:vs=[.ref g.p,.int f]) (_:Bd a H g G) (_:Al G f ((n+1:Nat):Int)) (_:G.length<8800000) (_:∀(r:Nat)(G':Gv)(H':Hp),Fr g H H'->Bd a H' g G'->AI G G' 48->MU G' (n+1) f r->Q (.int r) H'):SpTrim a vs H Q
def NM(a:Ad):Sp:=λvs H Q _=>SpTrim a vs H Q
theorem ok_trim(F:Fun K "trimmed" "trimmed" Mn f fd)(T:Top K mg a)(a7:BK P w K mg base CX0 3 a.c_Grove "level_of" Jt (LB a))(b7:Cal P w K mg base CX0 1 "is_bare_around" JK (spBA a))(bZ:Cal P w K mg base CX0 3 "middle_of" JK (Yr a)):AJ P w K mg base CX0 4 f fd JK (NM a):=by
 refine F.ok Lg (λvs H Q E h=>?_) (λac A N s H vs Q E S h=>?_)
 ·apply AM;intro B e;obtain⟨g,G,t,n,rfl,_⟩:=h;apply e;clear e B;rfl
 ·apply AM;intro B e;obtain⟨g,G,t,n,rfl,x,hl,few,k⟩:=h;obtain⟨q,eq,lq⟩:=id hl;apply e;clear e B;have aa:n+1<=48:=by have:=(x.ok.lev eq).2;lia
  refine⟨_,(Ae (AN (Aw EQ (AF (pv 0) a7 (rm S) Ao (Aa (pv 1) Ab)) (BL rfl T.k_LEAST_LEVEL) (AD _)) (Af Bk) AE) (Ae (An (i:=2) Lg.nd rfl (Or.inl rfl) (pv 1)) (Ae (Jg K9 (PW.pt (Lo (Aw MO (Ai Av (AC (pv 0) rfl) (pv 2) (λ_ _=>rfl)) (BL rfl T.k_LEAST_LEVEL) (AD _)) (Ip (Cl (Ap b7 (rm S) rfl Ao (Aa (pv 0) (Aa (pv 2) Ab))))))) (Af (An (i:=2) Lg.nd rfl (Or.inl rfl) (Ap bZ (rm S) rfl Ao (Aa (pv 0) (Aa (pv 2) Ab)))))) (Af (Ar (pv 2)))))),?_⟩
  try dsimp only[cxK]
  refine xq1 rfl ⟨g.p,g.dx,(xq1 rfl ⟨x.at'.hp,DD g,(xq1 rfl ⟨g,G,t,q,rfl,x.at',eq,(xq2 rfl rfl (xq1 rfl ?_))⟩)⟩)⟩;rw[X4 (by lia:¬q.lev<1)];refine Bc (xq1 rfl ?_);refine⟨λm σ D=>∃(j:Gv)(c:Nat),σ=[some (.ref g.p),some (.int t),some (.int c)]/\Fr g H D/\Bd a D g j/\AI G j (n-m)/\m<=n/\Al j c ((m+1:Nat):Int)/\∀(r:Nat)(d:Gv)(k:Nat),AI j d k->MU d (m+1) c r->MU d (n+1) t r,⟨n,G,t,rfl,Fr.refl g H,x,(AI.refl x.ok).mono A0,C5 _,hl,λ_ _ _ _ h=>h⟩,?_⟩;rintro m σ D U;apply AM;intro B e;obtain⟨j,c,rfl,fr,b,go,mn,Y,M⟩:=U;apply e;clear e B;have gf:=go.few;obtain⟨Z,ec,ab⟩:=id Y;refine xwf rfl rfl b.at'.hp T.cl_Grove T.na_Grove_levels (FJ g) (xwi rfl rfl rfl (SqL.of b.at'.lv) (Ah (by rw[C3,ec];rfl)) (xq2 rfl rfl (xq1 rfl ?_)));cases m with
  |zero =>
   rw[X4 (by lia:¬(1:Int)<Z.lev)];exact Bc (Bc (xq1 rfl (k c j D fr b (go.mono A0) (M c j 0 (AI.refl b.ok) rfl))))
  |succ m =>
   rw[Z7 (by lia:(1:Int)<Z.lev)];obtain⟨qs,I,C⟩:=deep_of b.ok Y;refine BJ (xw2 rfl rfl ⟨g,j,c,m,qs,I,rfl,b,C,by lia,λba H3 u=>⟨true,rfl,BJ ?_⟩,λO H3 u=>⟨false,rfl,Bc ?_⟩⟩)
   ·refine⟨fun σ' R=>∃(v:Gv)(c2:Nat),σ'=[some (.ref g.p),some (.int t),some (.int c2)]/\Fr g H R/\Bd a R g v/\AI G v (n-m)/\m<=n/\Al v c2 ((m+1:Nat):Int)/\∀(r:Nat)(d:Gv)(k:Nat),AI v d k->MU d (m+1) c2 r->MU d (n+1) t r,fun σ' R z=>⟨m,by lia,z⟩,?_⟩;refine xw2 rfl rfl ⟨g,j,c,m,qs,I,rfl,b.at'.same u,b.ok,C,by lia,by lia,λc2 v H4 y V l e4=>?_⟩;have X:=(b.same u).fr y V l;refine⟨v,c2,rfl,fr.trans ((Ax.fr u).trans y),X,(go.trans l).mono A0,by lia,⟨_,e4,by show(m:Int)+1=_;lia⟩,λr d k' o t5=>?_⟩;exact M r d _ (l.trans o) ⟨qs,I,C.app (l.trans o),.inr ⟨ba,c2,o.get e4,t5⟩⟩
   ·exact xq1 rfl (k c j H3 (fr.trans (Ax.fr u)) (b.same u) (go.mono A0) (M c j 0 (AI.refl b.ok) ⟨qs,I,C,.inl ⟨O,rfl⟩⟩))
def Ma(G:Gv)(n f:Nat):Nat->Nat->Prop
 |0,w=>w=f
 |k+1,w=>∃u,Ma G n f k u/\Wid G (n+k) u w
theorem Ma.app{G b:Gv}{m n f:Nat}(go:AI G b m):∀{k w:Nat},Ma G n f k w->Ma b n f k w
 |0,_,h=>h
 |k+1,w,h=>by
  obtain⟨u,c,d⟩:=h;exact⟨u,Ma.app go c,d.app go⟩
inductive SpWO(a:Ad)(vs:List V)(H:Hp)(Q:VK):Prop
 |mk (g:GA) (G:Gv) (f n:Nat) (t:Addr) (x y wd ht:Int) (_:vs=[.ref g.p,.int f,.ref t]) (_:Bd a H g G) (_:Al G f ((n+1:Nat):Int)) (_:n<=40) (_:H t=some (.tup [.int x,.int y,.int wd,.int ht])) (_:BP x y wd ht (2^40)) (_:G.length<8700000) (_:∀(k w:Nat)(G':Gv)(H':Hp),Fr g H H'->Bd a H' g G'->AI G G' (5*k)->n+k<=40->Ma G' n f k w->Al G' w ((n+k+1:Nat):Int)->BP x y wd ht (2^(n+k))->(∀j,j<k->¬BP x y wd ht (2^(n+j)))->Q (.int w) H'):SpWO a vs H Q
def spWO(a:Ad):Sp:=λvs H Q _=>SpWO a vs H Q
theorem ok_wo(F:Fun K "widened_over" "widened_over" Fc f fd)(T:Top K mg a)(aD:Cal P w K mg base CX0 1 "lies_within" Pn Sd)(aI:Cal P w K mg base CX0 4 "reach_of" TL (JD a))(b9:Cal P w K mg base CX0 4 "widened" JK (UF a)):AJ P w K mg base CX0 5 f fd Fu (spWO a):=by
 refine F.ok EF (λvs H Q E h=>?_) (λac A O s H vs Q E X h=>?_)
 ·apply AM;intro C b;obtain⟨g,G,r,n,t,x,y,v,Z,rfl,_⟩:=h;apply b;clear b C;rfl
 ·apply AM;intro C b;obtain⟨g,G,r,n,t,x,y,v,D,rfl,U,hl,aa,Z,li,few,k⟩:=h;apply b;clear b C;refine⟨_,(Ae (An (i:=3) EF.nd rfl (Or.inl rfl) (pv 1)) (Ae (Jg K9 (CC (Cl (Ap aD (rm X) rfl Ao (Aa (pv 2) (Aa (Ap aI (rm X) rfl Ao (Aa (pv 0) (Aa (pv 3) Ab))) Ab))))) (Af (An (i:=3) EF.nd rfl (Or.inl rfl) (Ap b9 (rm X) rfl Ao (Aa (pv 0) (Aa (pv 3) Ab)))))) (Af (Ar (pv 3))))),?_⟩
  try dsimp only[cxK]
  refine xq1 rfl ?_;refine⟨λm σ I=>∃(e:Gv)(c j:Nat),σ=[some (.ref g.p),some (.int r),some (.ref t),some (.int c)]/\Fr g H I/\Bd a I g e/\AI G e (5*j)/\n+j+m=40/\Al e c ((n+j+1:Nat):Int)/\Ma e n r j c/\∀i,i<j->¬BP x y v D (2^(n+i)),⟨40-n,G,r,0,rfl,Fr.refl g H,U,AI.refl U.ok,by lia,hl,rfl,λi R=>absurd R (O6 _)⟩,?_⟩;rintro m σ I Y;apply AM;intro C b;obtain⟨e,c,j,rfl,fr,d,go,ab,S,wn,no⟩:=Y;apply b;clear b C;have gf:=go.few;have M:=fr.tup U.at' Z;refine xq1 rfl (xq1 rfl (xq1 rfl ⟨g,e,c,n+j,rfl,d.at',S,by lia,t,x,y,v,D,_,rfl,M,_,rfl,?_⟩));by_cases o:BP x y v D (2^(n+j))
  ·rw[Z7 o];exact Bc (xq1 rfl (k j c e I fr d go A0 wn S o no))
  ·rw[X4 o];have m0:m≠0:=λz=>by
    subst z;have:n+j=40:=by lia
    rw[this]at o;exact o li
   refine BJ ⟨fun σ' V=>∃(q:Gv)(c2 u:Nat),σ'=[some (.ref g.p),some (.int r),some (.ref t),some (.int c2)]/\Fr g H V/\Bd a V g q/\AI G q (5*u)/\n+u+(m-1)=40/\Al q c2 ((n+u+1:Nat):Int)/\Ma q n r u c2/\∀i,i<u->¬BP x y v D (2^(n+i)),fun σ' V z=>⟨m-1,by lia,z⟩,?_⟩;refine xw2 rfl rfl ⟨g,e,c,n+j,rfl,d,S,by lia,by lia,λc2 q H3 B N l wi=>?_⟩;refine⟨q,c2,j+1,rfl,fr.trans B,d.fr B N l,(go.trans l).mono A0,by lia,?_,⟨c,wn.app l,wi⟩,λi R=>?_⟩
   ·have:=wi.lev;rw[show n+(j+1)+1=n+j+2 by lia];exact this
   ·rcases U7.mp R with h|h
    ·exact no i h
    ·rw[h];exact o
end
end J
namespace J
open PySem L2
def quad(l x y:Nat):Nat:=x/2^l+2*(y/2^l)
theorem IJ{l x:Nat}(h:x<2^(l+1)):x/2^l<2:=by
 rw[W2 (Nat.pow_pos A3),V7,<-D9];exact h
theorem Et{l x y:Nat}(b:x<2^(l+1))(a:y<2^(l+1)):quad l x y<4:=by
 have c:=IJ b;have d:=IJ a;unfold quad;lia
theorem Jh(l:Nat):((2^l:Nat):Int)=(2:Int)^l:=F9 2 l
section
variable{P:Program}{w:World}{K:W.Frag}{mg:Str->Option Value}{base:Heap}{a:Ad}
end
section
variable{P:Program}{w:World}{K:W.Frag}{mg:Str->Option Value}{base:Heap}{a:Ad}
end
def IT(G:Gv)(n f:Nat):Prop:=n=0\/∃m qs ps,n=m+1/\Nf G m f qs ps/\¬BA m ps
theorem IT.app{G a:Gv}{k n f:Nat}(go:AI G a k)(h:IT G n f):IT a n f:=by
 rcases h with h|⟨m,qs,c,e,d,b⟩
 ·exact .inl h
 ·exact .inr ⟨m,qs,c,e,d.app go,b⟩
def CJ(G:Gv):Nat->Nat->Nat->Nat->Nat
 |0,i,_,_=>i
 |n+1,i,x,y=>match G[i]? with
  |some q=>CJ G n (q.parts.getD (quad n x y) 0).toNat (x%2^n) (y%2^n)
  |none=>0
theorem AU(n:Nat):0<2^n:=Nat.pow_pos A3
theorem Ba{G:Gv}{n i:Nat}{q:Sq}{a b c d:Nat}(h:Cu G n i q a b c d){x y:Nat}(f:x<2^(n+1))(e:y<2^(n+1)):CJ G (n+1) i x y=CJ G n (f4 a b c d (quad n x y)) (x%2^n) (y%2^n):=by
 rw[show CJ G (n+1) i x y=(match G[i]? with|some q=>CJ G n (q.parts.getD (quad n x y) 0).toNat (x%2^n) (y%2^n)|none=>0)from rfl,h.g];show CJ G n (q.parts.getD (quad n x y) 0).toNat _ _=_;have:=(h.nat (Et f e)).1;rw[F0,this];rfl
theorem Jz{G f:Gv}{k:Nat}(ok:GOk G)(go:AI G f k):∀{n i x y:Nat},Al G i (n:Int)->x<2^n->y<2^n->CJ f n i x y=CJ G n i x y
 |0,_,_,_,_,_,_=>rfl
 |n+1,i,x,y,h,hx,hy=>by
  obtain⟨q,a,b,c,d,e⟩:=Be ok h;rw[Ba e hx hy,Ba (e.app go) hx hy];exact Jz ok go (e.nat (Et hx hy)).2 (M8 _ (AU n)) (M8 _ (AU n))
theorem El{G r:Gv}(e:G=G0++r)(ok:GOk G):∀{n x y:Nat},n<=48->x<2^n->y<2^n->CJ G n (bareN n) x y=0
 |0,_,_,_,_,_=>rfl
 |n+1,x,y,hn,hx,hy=>by
  obtain⟨q,a,b,c,d,f⟩:=Be ok (Ds e (n:=n+1) hn);have h:a=bareN n/\b=bareN n/\c=bareN n/\d=bareN n:=by
   have g:=f.g;rw[show bareN (n+1)=8+n from rfl,Rv e n A0]at g;cases g;have s:[(bareN n:Int),(bareN n:Int),(bareN n:Int),(bareN n:Int)]=[(a:Int),(b:Int),(c:Int),(d:Int)]:=f.ps;injection s with s0 s
   injection s with s1 s
   injection s with s2 s
   injection s with s3 s
   exact⟨(X8 s0).symm,(X8 s1).symm,(X8 s2).symm,(X8 s3).symm⟩
  obtain⟨rfl,rfl,rfl,rfl⟩:=h;rw[Ba f hx hy];have:f4 (bareN n) (bareN n) (bareN n) (bareN n) (quad n x y)=bareN n:=by unfold f4;split<;>rfl
  rw[this];exact El e ok A0 (M8 _ (AU n)) (M8 _ (AU n))
theorem FI{n k x y:Nat}(c:k<4)(a:x<2^n)(b:y<2^n):(x+2^n*(k%2))<2^(n+1)/\(y+2^n*(k/2))<2^(n+1)/\quad n (x+2^n*(k%2)) (y+2^n*(k/2))=k/\(x+2^n*(k%2))%2^n=x/\(y+2^n*(k/2))%2^n=y:=by
 have p:=AU n;have e:2^(n+1)=2*2^n:=by rw[D9];lia
 unfold quad;rw[N8 _ _ p,N8 _ _ p,Q0,Q0,N6 a,N6 b,P3 a,P3 b,e];generalize 2^n=h at *
 match k,c with
 |0,_=>exact⟨by lia,by lia,rfl,rfl,rfl⟩
 |1,_=>exact⟨by lia,by lia,rfl,rfl,rfl⟩
 |2,_=>exact⟨by lia,by lia,rfl,rfl,rfl⟩
 |3,_=>exact⟨by lia,by lia,rfl,rfl,rfl⟩
theorem EY{G:Gv}(ok:GOk G):∀{n i j:Nat},Al G i (n:Int)->Al G j (n:Int)->(∀x y,x<2^n->y<2^n->CJ G n i x y=CJ G n j x y)->i=j
 |0,i,j,_,_,h=>h 0 0 A3 A3
 |n+1,i,j,hi,hj,h=>by
  obtain⟨q,a,b,c,d,l⟩:=Be ok hi;obtain⟨B,r,s,t,d',e⟩:=Be ok hj;have f:∀k,k<4->f4 a b c d k=f4 r s t d' k:=λk m=>by
   refine EY ok (l.nat m).2 (e.nat m).2 λx y z w=>?_;obtain⟨o,p,u,A,v⟩:=FI m z w;have:=h _ _ o p;rw[Ba l o p,Ba e o p,u,A,v]at this;exact this
  have k0:a=r:=f 0 A3;have k1:b=s:=f 1 A3;have k2:c=t:=f 2 A3;have k3:d=d':=f 3 A3;subst k0 k1 k2 k3;exact ok.one l.g e.g (l.ps.trans e.ps.symm)
def fieldF(G:Gv)(n f:Nat)(x y:Int):Nat:=if -(2^n)<=x/\x<2^n/\-(2^n)<=y/\y<2^n then CJ G (n+1) f (x+2^n).toNat (y+2^n).toNat else 0
theorem EN{n:Nat}{x:Int}(a:-(2^n)<=x)(b:x<2^n):(x+2^n).toNat<2^(n+1):=by
 have e:=Jh (n+1);rw[Dd]at e;lia
theorem Di{G a:Gv}{k n f:Nat}(ok:GOk G)(go:AI G a k)(h:Al G f ((n+1:Nat):Int))(x y:Int):fieldF a n f x y=fieldF G n f x y:=by
 unfold fieldF;split
 ·rename_i z;exact Jz ok go h (EN z.1 z.2.1) (EN z.2.2.1 z.2.2.2)
 ·rfl
theorem Rp{h X:Nat}(u:Nat)(a:h*u<=X)(b:X<h*(u+1)):X/h=u/\X%h=X-h*u:=by
 have e:X/h=u:=Nat.div_eq_of_lt_le (by rw[V7];exact a) (by rw[V7];exact b);exact⟨e,by have:=O7 X h;rw[e]at this;lia⟩
theorem LS(x n:Nat):x%2^(n+1)%2^n=x%2^n:=Nat.mod_mod_of_dvd x ⟨2,by rw[D9]⟩
theorem MF{G:Gv}{n i:Nat}{qs:Nat->Nat}{c:Nat->Nat->Nat}(h:Nf G n i qs c){x y:Nat}(f:x<2^(n+2))(e:y<2^(n+2)):CJ G (n+2) i x y=CJ G n (c (quad (n+1) x y) (quad n (x%2^(n+1)) (y%2^(n+1)))) (x%2^n) (y%2^n):=by
 obtain⟨q,g⟩:=h.node;have d:=Et (l:=n+1) f e;have a:x%2^(n+1)<2^(n+1):=M8 _ (AU _);have b:y%2^(n+1)<2^(n+1):=M8 _ (AU _);obtain⟨j,nk⟩:=h.sub _ d;rw[Ba g f e,RA qs d,Ba nk a b,RA (c _) (Et a b),LS,LS]
theorem bits{h u:Nat}(e:u<2*h):(u+h)/(2*h)=u/h/\(u+h)%(2*h)/h=1-u/h/\(u+h)%h=u%h/\u/h<2:=by
 have p:0<h:=by lia
 rcases Nat.lt_or_ge u h with z|z
 ·have a:u/h=0:=N6 z;have b:(u+h)/(2*h)=0:=N6 A0;have c:(u+h)%(2*h)=u+h:=P3 A0;have d:(u+h)/h=1:=(Rp (X:=u+h) 1 A0 A0).1;exact⟨by rw[a,b],by rw[c,d,a],Nat.add_mod_right u h,by lia⟩
 ·have a:u/h=1:=(Rp 1 A0 A0).1;have b:=Rp (h:=2*h) (X:=u+h) 1 A0 A0;have c:(u+h-2*h*1)/h=0:=N6 A0;exact⟨by rw[a,b.1],by rw[b.2,c,a],Nat.add_mod_right u h,by lia⟩
theorem PJ(n:Nat):2^(n+1)=2*2^n:=by rw[D9];lia
theorem Zw{G:Gv}(ok:GOk G){n i m:Nat}{qs:Nat->Nat}{a:Nat->Nat->Nat}(h:Nf G n i qs a)(x:G[m]?=some ⟨[(a 0 3:Int),(a 1 2:Int),(a 2 1:Int),(a 3 0:Int)],(n:Int)+1⟩){u v:Nat}(f:u<2^(n+1))(d:v<2^(n+1)):CJ G (n+2) i (u+2^n) (v+2^n)=CJ G (n+1) m u v:=by
 have c:∀k j,k<4->j<4->Al G (a k j) (n:Int):=λk j s r=>by
  obtain⟨q,nk⟩:=h.sub k s;have:=(nk.nat r).2;rw[RA (a k) r]at this;exact this
 have nm:Cu G n m _ (a 0 3) (a 1 2) (a 2 1) (a 3 0):=⟨x,rfl,rfl,c 0 3 A3 A3,c 1 2 A3 A3,c 2 1 A3 A3,c 3 0 A3 A3⟩
 have l:=PJ n;have H:2^(n+2)=2*2^(n+1):=PJ (n+1);have p:=AU n;rw[MF h A0 A0,Ba nm f d];unfold quad;rw[l];rw[l]at f d;apply AM;intro E b;obtain⟨B,D,y,t⟩:=bits f;obtain⟨b1,b2,C,w⟩:=bits d;apply b;clear b E;rw[B,D,y,b1,b2,C];have two:∀{A:Nat},A<2->A=0\/A=1:=λ{A} h=>by lia
 have g:=two t;have e:=two w;rcases g with z|z<;>rcases e with o|o<;>rw[z,o]<;>rfl
theorem mid_iff'{m X Y:Nat}{x y:Int}(q:(X:Int)=x+2^(m+1))(n:(Y:Int)=y+2^(m+1))(j:X<2^(m+2))(i:Y<2^(m+2)):quad m (X%2^(m+1)) (Y%2^(m+1))+quad (m+1) X Y=3↔(-(2^m)<=x/\x<2^m/\-(2^m)<=y/\y<2^m):=by
 have p:=AU m;have c:=PJ m;have M:2^(m+2)=2*2^(m+1):=PJ (m+1);have E:=Jh m;have c2:=Jh (m+1);rw[c]at c2;unfold quad;rw[c];rw[M,c]at j i;rw[<-c2]at q n;rw[<-E];generalize 2^m=h at *
 have a:∀{X:Nat}{x:Int},(X:Int)=x+((2*h:Nat):Int)->X<2*(2*h)->(X%(2*h)/h+X/(2*h)=1 ↔ -(h:Int)<=x/\x<(h:Int))/\X%(2*h)/h<2/\X/(2*h)<2:=by
  intro X x e l;have o:0<2*h:=by lia
  have I:X/(2*h)<2:=by rw[W2 o];exact l
  have H:X%(2*h)<2*h:=M8 _ o;have R:X%(2*h)/h<2:=by rw[W2 p];exact H
  have w:=O7 X (2*h);have Q:=O7 (X%(2*h)) h;have m1:=M8 (X%(2*h)) p;refine⟨?_,R,I⟩;generalize X/(2*h)=u at *
  generalize X%(2*h)/h=v at *
  generalize X%(2*h)%h=t at *
  generalize X%(2*h)=rr at *
  have P:u=0\/u=1:=by lia
  have K:v=0\/v=1:=by lia
  rcases P with rfl|rfl<;>rcases K with rfl|rfl<;>simp only[Z2,Nat.mul_one,N9]at Q w<;>lia
 obtain⟨r,Z,V⟩:=a q j;obtain⟨k,U,T⟩:=a n i;clear a;generalize X%(2*h)/h=A at *
 generalize X/(2*h)=B at *
 generalize Y%(2*h)/h=C at *
 generalize Y/(2*h)=D at *
 constructor
 ·intro z;have f:=r.mp A0;have d:=k.mp A0;exact⟨f.1,f.2,d.1,d.2⟩
 ·rintro g;apply AM;intro S b;obtain⟨N,G,s,O⟩:=g;apply b;clear b S;have f:=r.mpr ⟨N,G⟩;have d:=k.mpr ⟨s,O⟩;lia
theorem PN{G r:Gv}(w:G=G0++r)(ok:GOk G){n i m:Nat}(K:n<=46){qs:Nat->Nat}{d:Nat->Nat->Nat}(h:Nf G n i qs d)(H:BA n d)(A:G[m]?=some ⟨[(d 0 3:Int),(d 1 2:Int),(d 2 1:Int),(d 3 0:Int)],(n:Int)+1⟩)(x y:Int):fieldF G (n+1) i x y=fieldF G n m x y:=by
 have M:=Dd n;have p:=Iu n;unfold fieldF;by_cases b:-(2^n)<=x/\x<2^n/\-(2^n)<=y/\y<2^n
 ·apply AM;intro g a;obtain⟨l,o,k,j⟩:=b;apply a;clear a g;rw[X5 ⟨by lia,by lia,by lia,by lia⟩,X5 ⟨l,o,k,j⟩];have D:=EN l o;have v:=EN k j;have c:=Jh n;have E:(x+2^(n+1)).toNat=(x+2^n).toNat+2^n:=by lia
  have u:(y+2^(n+1)).toNat=(y+2^n).toNat+2^n:=by lia
  rw[E,u];exact Zw ok h A D v
 ·rw[Z8 b];split
  ·rename_i z;apply AM;intro g a;obtain⟨B,t,s,C⟩:=z;apply a;clear a g;have f:=EN B t;have e:=EN s C;rw[MF h f e];have I:¬quad n ((x+2^(n+1)).toNat%2^(n+1)) ((y+2^(n+1)).toNat%2^(n+1))+quad (n+1) (x+2^(n+1)).toNat (y+2^(n+1)).toNat=3:=λq=>b ((mid_iff' (S5 A0) (S5 A0) f e).mp q);rw[H _ _ (Et f e) (Et (M8 _ (AU _)) (M8 _ (AU _))) I];exact El w ok A0 (M8 _ (AU _)) (M8 _ (AU _))
  ·rfl
theorem GW{G g:Gv}(c:G=G0++g)(ok:GOk G):∀{n f r:Nat},n<=47->Al G f ((n+1:Nat):Int)->MU G (n+1) f r->∃m,m<=n/\Al G r ((m+1:Nat):Int)/\IT G m r/\∀x y,fieldF G m r x y=fieldF G n f x y
 |0,f,r,_,hl,h=>by
  have h:r=f:=h;subst h;exact⟨0,C5 _,hl,.inl rfl,λ_ _=>rfl⟩
 |n+1,f,r,hn,hl,h=>by
  apply AM;intro j a;obtain⟨qs,l,d,h⟩:=h;apply a;clear a j;rcases h with ⟨i,rfl⟩|⟨o,m,b,h⟩
  ·exact⟨n+1,C5 _,hl,.inr ⟨n,qs,l,rfl,d,i⟩,λ_ _=>rfl⟩
  ·obtain⟨k,q,e,tk,p⟩:=GW c ok A0 ⟨_,b,by show(n:Int)+1=_;lia⟩ h;refine⟨k,by lia,e,tk,λx y=>?_⟩;rw[p x y,PN c ok A0 d o b x y]
theorem VM{G r:Gv}(t:G=G0++r)(ok:GOk G){n f w:Nat}(E:n<=46)(h:Wid G n f w)(x y:Int):fieldF G (n+1) w x y=fieldF G n f x y:=by
 apply AM;intro P o;obtain⟨q,a,b,c,d,D,K,N,M,m,A,B,z,u,I⟩:=h.ex;apply o;clear o P;have i:=Ds t (n:=n) A0;have s:∀{p:Nat}{l:List Int},G[p]?=some ⟨l,(n:Int)+1⟩->Al G p ((n+1:Nat):Int):=λ{p l} e=>⟨_,e,by show(n:Int)+1=_;lia⟩
 have H:Nf G n w (f4 D K N M) (λk j=>if j+k=3 then f4 a b c d k else bareN n):=by
  refine⟨⟨_,I,rfl,by show(n:Int)+2=_;lia,s A,s B,s z,s u⟩,λk C=>?_⟩
  match k,C with
  |0,_=>exact⟨_,A,rfl,rfl,i,i,i,m.hx⟩
  |1,_=>exact⟨_,B,rfl,rfl,i,i,m.hy,i⟩
  |2,_=>exact⟨_,z,rfl,rfl,i,m.hz,i,i⟩
  |3,_=>exact⟨_,u,rfl,rfl,m.hw,i,i,i⟩
 have g:=m.g;have l:=m.lev;have v:=m.ps;refine PN t ok E H (λk j _ _ O=>Z8 O) ?_ x y;rw[g];cases q with
 |mk Q R=>cases v;cases l;rfl
theorem GU{G r:Gv}(a:G=G0++r)(ok:GOk G){n f:Nat}:∀{k w:Nat},n+k<=46->Ma G n f k w->∀x y,fieldF G (n+k) w x y=fieldF G n f x y
 |0,w,_,h,x,y=>by
  have h:w=f:=h;subst h;rfl
 |k+1,w,hk,h,x,y=>by
  obtain⟨u,b,c⟩:=h;rw[show n+(k+1)=n+k+1 by lia,VM a ok A0 c x y];exact GU a ok A0 b x y
theorem ZC{G r:Gv}(c:G=G0++r)(ok:GOk G){n i:Nat}(a:n<=48)(h:Al G i (n:Int))(e:i≠bareN n):∃x y,x<2^n/\y<2^n/\CJ G n i x y≠0:=by
 refine X9 λz=>e (EY ok h (Ds c a) λx y d b=>?_);rw[El c ok a d b];exact X9 λq=>z ⟨x,y,d,b,q⟩
theorem RT{G r:Gv}(E:G=G0++r)(ok:GOk G){m f:Nat}(Z:m<=46)(h:IT G (m+1) f):∃x y:Int,¬(-(2^m)<=x/\x<2^m/\-(2^m)<=y/\y<2^m)/\fieldF G (m+1) f x y≠0:=by
 rcases h with h|⟨a,qs,p,e,t,H⟩
 ·lia
 ·have:a=m:=by lia
  subst this;have:∃k j,k<4/\j<4/\j+k≠3/\p k j≠bareN a:=by
   refine X9 λz=>H λk j g d o=>X9 λq=>z ⟨k,j,g,d,o,q⟩
  apply AM;intro s b;obtain⟨k,j,g,d,o,c⟩:=this;obtain⟨S,nk⟩:=t.sub k g;apply b;clear b s;have R:Al G (p k j) (a:Int):=by
   have:=(nk.nat d).2;rw[RA (p k) d]at this;exact this
  obtain⟨u,v,N,D,K⟩:=ZC E ok A0 R c;apply AM;intro s b;obtain⟨M,P,w,C,O⟩:=FI d N D;obtain⟨b1,b2,A,l,i⟩:=FI (n:=a+1) g M P;apply b;clear b s;generalize V:u+2^a*(j%2)+2^(a+1)*(k%2)=X at *
  generalize U:v+2^a*(j/2)+2^(a+1)*(k/2)=Y at *
  have T:=Jh (a+1);have c2:=Jh (a+2);have I:=Dd (a+1);rw[I]at c2;refine⟨(X:Int)-2^(a+1),(Y:Int)-2^(a+1),λz=>o ?_,?_⟩
  ·have:=(mid_iff' (X:=X) (Y:=Y) A0 A0 b1 b2).mpr z;rw[A,l,i,w]at this;exact this
  ·unfold fieldF;rw[X5 ⟨by lia,by lia,by lia,by lia⟩,show((X:Int)-2^(a+1)+2^(a+1)).toNat=X by lia,show((Y:Int)-2^(a+1)+2^(a+1)).toNat=Y by lia,MF t b1 b2,A,l,i,w];have Q:X%2^a=u:=by rw[<-LS,l,C]
   have B:Y%2^a=v:=by rw[<-LS,i,O]
   rw[Q,B];exact K
theorem OM{G r:Gv}(o:G=G0++r)(ok:GOk G){n m f a:Nat}(j:n<=47)(g:m<=47)(i:Al G f ((n+1:Nat):Int))(c:Al G a ((m+1:Nat):Int))(t:IT G n f)(t':IT G m a)(h:∀x y,fieldF G n f x y=fieldF G m a x y):n=m/\f=a:=by
 have le:∀{n m f a:Nat},m<=47->IT G m a->(∀x y,fieldF G n f x y=fieldF G m a x y)->m<=n:=by
  intro n m f a g t' h;refine P4 λz=>?_;obtain⟨k,rfl⟩:∃k,m=k+1:=⟨m-1,by lia⟩
  obtain⟨x,y,d,b⟩:=RT o ok A0 t';rw[<-h x y]at b;unfold fieldF at b;split at b
  ·rename_i q;have:(2:Int)^n<=2^k:=by
    have:=O3 (show 0<2 by decide) (show n<=k by lia)
    exact_mod_cast this
   exact d ⟨by lia,by lia,by lia,by lia⟩
  ·exact b rfl
 have p:=le g t' h;have s:=le j t λx y=>(h x y).symm;have e:n=m:=by lia
 subst e;refine⟨rfl,EY ok i c λx y w v=>?_⟩;have u:=Jh n;have c2:=Jh (n+1);have l:=Dd n;rw[l]at c2;have:=h ((x:Int)-2^n) ((y:Int)-2^n);unfold fieldF at this;rw[X5 ⟨by lia,by lia,by lia,by lia⟩,X5 ⟨by lia,by lia,by lia,by lia⟩,show((x:Int)-2^n+2^n).toNat=x by lia,show((y:Int)-2^n+2^n).toNat=y by lia]at this;exact this
def Fix:HO->Prop
 |.tup _=>True
 |.ins _ _ _=>True
 |_=>False
def Fx(l:List Addr)(H H':Hp):Prop:=∀b o,H b=some o->(b∈l->Fix o)->H' b=some o
theorem Fx.refl(l:List Addr)(H:Hp):Fx l H H:=λ_ _ e _=>e
theorem Fx.trans{l:List Addr}{c d a:Hp}(h:Fx l c d)(f:Fx l d a):Fx l c a:=λb o e n=>f b o (h b o e n) n
theorem Ax.fx{l:List Addr}{a c:Hp}(h:Ax a c):Fx l a c:=λb o e _=>h b o e
theorem Fx.mono{l m:List Addr}{a c:Hp}(h:Fx l a c)(s:∀x∈l,x∈m):Fx m a c:=λb o e n=>h b o e λz=>n (s b z)
theorem Fx.get{l:List Addr}{a c:Hp}(h:Fx l a c){b:Addr}{o:HO}(n:b∉l)(e:a b=some o):c b=some o:=h b o e λz=>absurd z n
theorem Fx.tup{l:List Addr}{a c:Hp}(h:Fx l a c){b:Addr}{xs:List V}(e:a b=some (.tup xs)):c b=some (.tup xs):=h b _ e λ_=>True.intro
theorem fx_up{H:Hp}{x:Addr}{o o':HO}(e:H x=some o)(n:¬Fix o):Fx [x] H (upd H x o'):=λb u a f=>by
 by_cases z:b=x
 ·subst z;rw[e]at a;cases a;exact absurd (f (D7.mpr rfl)) n
 ·rw[As z];exact a
theorem Fr.fx{a:Ad}{g:GA}{G:Gv}{H c:Hp}(h:Fr g H c)(at':AK a H g G):Fx [g.lv,g.pt,g.nm] H c:=λb o e f=>by
 obtain⟨i,d,_⟩:=at'.pt;refine h b o e (λz=>?_) (λz=>?_) (λz=>?_)
 ·subst z;rw[at'.lv]at e;cases e;exact f A6
 ·subst z;rw[d]at e;cases e;exact f A6
 ·subst z;rw[at'.nm]at e;cases e;exact f A6
def DY(g:GA):List Addr:=[g.lv,g.pt,g.nm,g.br,g.am,g.bx]
theorem Bd.fx{a:Ad}{g:GA}{G:Gv}{H d:Hp}{l:List Addr}(h:Bd a H g G)(f:Fx l H d)(n:∀x∈DY g,x∉l):Bd a d g G:=by
 obtain⟨at',ok,s,w,⟨P,p,K⟩,⟨c,u,j⟩,C,r,D⟩:=h;obtain⟨E,R,⟨M,S,O⟩,N,B⟩:=at';have m:∀x∈DY g,∀o,H x=some o->d x=some o:=λx y o e=>f.get (n x y) e;refine⟨⟨f _ _ E λ_=>True.intro,m _ (by simp[DY]) _ R,⟨M,m _ (by simp[DY]) _ S,PairedM.imp (λt q z=>f.tup z) O⟩,m _ (by simp[DY]) _ N,B⟩,ok,s,m _ (by simp[DY]) _ w,⟨P,m _ (by simp[DY]) _ p,K⟩,⟨c,m _ (by simp[DY]) _ u,j.keys,λi v e=>?_⟩,C,r,D⟩;obtain⟨l,b,t,k,I,A,Q⟩:=j.val i v e;exact⟨l,b,t,k,I,A,f.tup Q⟩
theorem Ax.noneOf{H a:Hp}(s:Ax H a){x:Addr}(n:a x=none):H x=none:=by
 cases e:H x with
 |none=>rfl
 |some o=>rw[s _ _ e]at n;cases n
structure Nw(H:Hp)(l:List Addr):Prop where
 nd:l.Nodup
 s:∀x∈l,∃o,H x=some o
theorem Bd.nw{a:Ad}{H:Hp}{g:GA}{G:Gv}(h:Bd a H g G):Nw H (DY g):=by
 obtain⟨⟨_,j,⟨v,i,_⟩,b,s⟩,_,_,f,⟨u,d,_⟩,⟨q,c,_⟩,r,p,l⟩:=h;have t:∀{x y:Addr}{o o':HO},H x=some o->H y=some o'->o≠o'->x≠y:=λ{x y o o'} e m n=>AG e m n;refine⟨?_,λx k=>?_⟩
 ·simp only[DY,N5,C1,D6,K7,A4e,A3b,P6,and_true];exact⟨⟨s,t j b A4,K1 r,t j d A4,t j c A4⟩,⟨t i b A4,K1 p,t i d A4,t i c A4⟩,⟨t b f A4,t b d A4,t b c A4⟩,⟨t f d A4,t f c A4⟩,l⟩
 ·simp only[DY,C1,D6,K7]at k;rcases k with rfl|rfl|rfl|rfl|rfl|rfl
  ·exact⟨_,j⟩
  ·exact⟨_,i⟩
  ·exact⟨_,b⟩
  ·exact⟨_,f⟩
  ·exact⟨_,d⟩
  ·exact⟨_,c⟩
theorem Dv{H:Hp}{x y:Addr}{o:HO}(h:upd H x o y=none):H y=none:=by
 by_cases e:y=x
 ·subst e;rw[Ag]at h;cases h
 ·rw[As e]at h;exact h
theorem Tl.none{a:Ad}{H e:Hp}{x j:Addr}{o o':HO}{g:GA}{G:Gv}{B:List Int}{f:List (Key×V)}(N:Tl a (upd (upd H j o) x o') e g G B f):∀y∈DY g,H y=none:=λy b=>by
 obtain⟨i,d,c,f4,k,h⟩:=N.fresh;simp only[DY,C1,D6,K7]at b;rcases b with rfl|rfl|rfl|rfl|rfl|rfl
 ·exact Dv (Dv i)
 ·exact Dv (Dv d)
 ·exact Dv (Dv c)
 ·exact Dv (Dv f4)
 ·exact Dv (Dv k)
 ·exact Dv (Dv h)
theorem Ax.fxn{H a c:Hp}{m:List Addr}(s:Ax H a)(f:Fx m a c)(n:∀y∈m,H y=none):Ax H c:=λb o e=>f.get (λz=>by rw[n b z]at e;cases e) (s _ _ e)
theorem ev_test{c:TT}{σ:St}{H:Hp}{Q:Bool->Hp->Prop}(b:Bool)(h:∀a:Bool->Hp->Prop,a b H->c σ H a)(q:Q b H):c σ H Q:=h Q q
theorem ev_val{t:TE}{σ:St}{H:Hp}{Q:VK}(P:V->Hp->Prop)(h:∀b:VK,(∀v a,P v a->b v a)->t σ H b)(q:∀v a,P v a->Q v a):t σ H Q:=h Q q
structure OY(L:Int->Int->Prop)(b:Bx):Prop where
 inn:∀u v,L u v->b.l<=u/\u<b.l+b.w/\b.t<=v/\v<b.t+b.h
 le:∃v,L b.l v
 to:∃u,L u b.t
 ri:∃v,L (b.l+b.w-1) v
 bo:∃u,L u (b.t+b.h-1)
theorem SI{l:List Int}(h:l≠[]):mnL l∈l/\∀x∈l,mnL l<=x:=by
 unfold mnL;cases e:l.min? with
 |none=>exact absurd (List.min?_eq_none_iff.mp e) h
 |some m=>exact List.min?_eq_some_iff.mp e
theorem SG{l:List Int}(h:l≠[]):mxL l∈l/\∀x∈l,x<=mxL l:=by
 unfold mxL;cases e:l.max? with
 |none=>exact absurd (List.max?_eq_none_iff.mp e) h
 |some m=>exact List.max?_eq_some_iff.mp e
theorem VQ{L:Int->Int->Prop}{bs:List Bx}(d:bs≠[])(a:∀b∈bs,∃M:Int->Int->Prop,OY M b/\∀u v,M u v->L u v)(O:∀u v,L u v->∃b∈bs,b.l<=u/\u<b.l+b.w/\b.t<=v/\v<b.t+b.h):OY L (OE bs):=by
 have D:bs.map (·.l)≠[]:=λz=>d (S3.mp z);have r:bs.map (·.t)≠[]:=λz=>d (S3.mp z);have E:(bs.map λb=>b.l+b.w)≠[]:=λz=>d (S3.mp z);have n:(bs.map λb=>b.t+b.h)≠[]:=λz=>d (S3.mp z);obtain⟨R,N⟩:=SI D;obtain⟨p,Q⟩:=SI r;obtain⟨H,K⟩:=SG E;obtain⟨B,A⟩:=SG n;obtain⟨b1,f,m⟩:=D1.mp R;obtain⟨b2,e,I⟩:=D1.mp p;obtain⟨P,i,j⟩:=D1.mp H;obtain⟨C,g,k⟩:=D1.mp B;unfold OE;refine⟨λu v q=>?_,?_,?_,?_,?_⟩
 ·obtain⟨b,c,V,S,T,U⟩:=O u v q;have o:=N _ (D1.mpr ⟨b,c,rfl⟩);have c2:=Q _ (D1.mpr ⟨b,c,rfl⟩);have G:=K _ (D1.mpr ⟨b,c,rfl⟩);have y:=A _ (D1.mpr ⟨b,c,rfl⟩);dsimp only at o c2 G y⊢;lia
 ·obtain⟨M,t,s⟩:=a b1 f;obtain⟨v,x⟩:=t.le;exact⟨v,by rw[m]at x;exact s _ _ x⟩
 ·obtain⟨M,t,s⟩:=a b2 e;obtain⟨v,x⟩:=t.to;exact⟨v,by rw[I]at x;exact s _ _ x⟩
 ·obtain⟨M,t,s⟩:=a P i;obtain⟨v,x⟩:=t.ri;refine⟨v,?_⟩;dsimp only at j⊢;rw[j]at x;have:=s _ _ x;rw[show mnL (bs.map (·.l))+(mxL (bs.map λb=>b.l+b.w)-mnL (bs.map (·.l)))-1=mxL (bs.map λb=>b.l+b.w)-1 by lia];exact this
 ·obtain⟨M,t,s⟩:=a C g;obtain⟨v,x⟩:=t.bo;refine⟨v,?_⟩;dsimp only at k⊢;rw[k]at x;have:=s _ _ x;rw[show mnL (bs.map (·.t))+(mxL (bs.map λb=>b.t+b.h)-mnL (bs.map (·.t)))-1=mxL (bs.map λb=>b.t+b.h)-1 by lia];exact this
theorem OB{half:Int}{b:Bx}:∀{a:List (Option Bx)}{k:Nat},b∈DI half k a ↔ ∃(j:Nat)(c:Bx),a[j]?=some (some c)/\b=shB half (k+j) c
 |[],k=>⟨(λh=>by cases h),(λh=>by obtain⟨j,c,h,_⟩:=h;simp at h)⟩
 |none::r,k=>by
  rw[show DI half k (none::r)=DI half (k+1) r from rfl,OB];constructor
  ·rintro⟨j,c,h,e⟩;exact⟨j+1,c,by simpa using h,by rw[e,show k+1+j=k+(j+1) by lia]⟩
  ·rintro⟨j,c,h,e⟩;cases j with
   |zero=>simp at h
   |succ j=>exact⟨j,c,by simpa using h,by rw[e,show k+1+j=k+(j+1) by lia]⟩
 |some d::r,k=>by
  rw[show DI half k (some d::r)=shB half k d::DI half (k+1) r from rfl,C1,OB];constructor
  ·rintro(h|⟨j,c,h,e⟩)
   ·exact⟨0,d,rfl,h⟩
   ·exact⟨j+1,c,by simpa using h,by rw[e,show k+1+j=k+(j+1) by lia]⟩
  ·rintro⟨j,c,h,e⟩;cases j with
   |zero =>
    have h:d=c:=by simpa using h
    subst h;exact .inl e
   |succ j=>exact .inr ⟨j,c,by simpa using h,by rw[e,show k+1+j=k+(j+1) by lia]⟩
def Lv(G:Gv)(n i:Nat)(u v:Int):Prop:=∃a b:Nat,u=a/\v=b/\a<2^n/\b<2^n/\CJ G n i a b≠0
theorem Vc{G:Gv}{n i:Nat}{q:Sq}{a b c d:Nat}(p:Cu G n i q a b c d)(u v:Int):Lv G (n+1) i u v ↔ ∃k,k<4/\Lv G n (f4 a b c d k) (u-2^n*((k:Int)%2)) (v-2^n*((k:Int)/2)):=by
 have j:=Jh n;constructor
 ·rintro⟨x,y,rfl,rfl,g,f,h⟩;rw[Ba p g f]at h;have D:=IJ g;have C:=IJ f;refine⟨quad n x y,Et g f,x%2^n,y%2^n,?_,?_,M8 _ (AU n),M8 _ (AU n),h⟩
  ·have e:=O7 x (2^n);have l:((quad n x y:Nat):Int)%2=((x/2^n:Nat):Int):=by
    unfold quad;generalize x/2^n=A at *
    generalize y/2^n=B at *
    lia
   rw[l,<-j,<-O1];lia
  ·have e:=O7 y (2^n);have l:((quad n x y:Nat):Int)/2=((y/2^n:Nat):Int):=by
    unfold quad;generalize x/2^n=A at *
    generalize y/2^n=B at *
    lia
   rw[l,<-j,<-O1];lia
 ·rintro⟨k,r,x,y,z,E,g,f,h⟩;obtain⟨m,o,s,w,t⟩:=FI r g f;refine⟨x+2^n*(k%2),y+2^n*(k/2),?_,?_,m,o,?_⟩
  ·rw[Q4,O1,j,show((k%2:Nat):Int)=(k:Int)%2 from rfl];lia
  ·rw[Q4,O1,j,show((k/2:Nat):Int)=(k:Int)/2 from rfl];lia
  ·rw[Ba p m o,s,w,t];exact h
theorem PH{L:Int->Int->Prop}{b:Bx}{half:Int}{k:Nat}(h:OY L b):OY (λu v=>L (u-half*((k:Int)%2)) (v-half*((k:Int)/2))) (shB half k b):=by
 obtain⟨d,g⟩:=h.le;obtain⟨a,i⟩:=h.to;obtain⟨e,f⟩:=h.ri;obtain⟨c,j⟩:=h.bo;unfold shB;generalize half*((k:Int)%2)=p;generalize half*((k:Int)/2)=q;refine⟨λu v m=>?_,⟨d+q,?_⟩,⟨a+p,?_⟩,⟨e+q,?_⟩,⟨c+p,?_⟩⟩
 ·have:=h.inn _ _ m;dsimp only;lia
 ·show L (b.l+p-p) (d+q-q);rw[Q9,Q9];exact g
 ·show L (a+p-p) (b.t+q-q);rw[Q9,Q9];exact i
 ·show L (b.l+p+b.w-1-p) (e+q-q);rw[Q9,show b.l+p+b.w-1-p=b.l+b.w-1 by lia];exact f
 ·show L (c+p-p) (b.t+q+b.h-1-q);rw[Q9,show b.t+q+b.h-1-q=b.t+b.h-1 by lia];exact j
theorem JT{G:Gv}(ok:GOk G):∀{n i:Nat}{b:Bx},Al G i (n:Int)->BN G n i=some b->OY (Lv G n i) b
 |0,i,b,_,h=>by
  have h:(if i=0 then none else some (⟨0,0,1,1⟩:Bx))=some b:=h;by_cases z:i=0
  ·rw[X5 z]at h;cases h
  ·rw[Z8 z]at h;cases h;have B:Lv G 0 i 0 0:=⟨0,0,rfl,rfl,by decide,by decide,z⟩
   refine⟨λu v m=>?_,⟨0,B⟩,⟨0,B⟩,⟨0,B⟩,⟨0,B⟩⟩;obtain⟨x,y,rfl,rfl,p,s,_⟩:=m;have p:x<1:=p;have s:y<1:=s;dsimp only;lia
 |n+1,i,b,l,h=>by
  obtain⟨q,a,w,c,d,g⟩:=Be ok l;rw[EZ g]at h;have A:∀k,k<4->[BN G n a,BN G n w,BN G n c,BN G n d][k]?=some (BN G n (f4 a w c d k)):=λk f=>by
   match k,f with
   |0,_=>rfl
   |1,_=>rfl
   |2,_=>rfl
   |3,_=>rfl
  have o:∀e,e∈DI (2^n) 0 [BN G n a,BN G n w,BN G n c,BN G n d] ↔ ∃k r,k<4/\BN G n (f4 a w c d k)=some r/\e=shB (2^n) k r:=λe=>by
   rw[OB];constructor
   ·rintro⟨j,N,I,rfl⟩;have K:j<4:=(B9.mp I).1;rw[A j K]at I;exact⟨j,N,K,K0 I,by rw[N9]⟩
   ·rintro⟨k,r,f,D,rfl⟩;exact⟨k,r,by rw[A k f,D],by rw[N9]⟩
  unfold Pk at h;cases E:DI (2^n) 0 [BN G n a,BN G n w,BN G n c,BN G n d]with
  |nil=>rw[E]at h;cases h
  |cons Q S =>
   rw[E]at h;have h:=K0 h;rw[E]at o;subst h;refine VQ A6 (λe M=>?_) λu v m=>?_
   ·obtain⟨k,r,f,D,rfl⟩:=(o e).mp M;refine⟨_,PH (JT ok (g.nat f).2 D),λu v m=>(Vc g u v).mpr ⟨k,f,m⟩⟩
   ·obtain⟨k,f,m⟩:=(Vc g u v).mp m;cases H:BN G n (f4 a w c d k)with
    |none =>
     have O:=(JU ok n _ (g.nat f).2).mp H;obtain⟨x,y,_,_,p,s,P⟩:=m;exact absurd (cell_none ok (g.nat f).2 O p s) P
    |some r =>
     have t:=PH (half:=2^n) (k:=k) (JT ok (g.nat f).2 H);exact⟨_,(o _).mpr ⟨k,r,f,H,rfl⟩,t.inn u v m⟩
where cell_none {G:Gv} (ok:GOk G):∀{n i x y:Nat},Al G i (n:Int)->DE G n i=0->x<2^n->y<2^n->CJ G n i x y=0
 |0,i,x,y,_,h,_,_=>by
  have h:(if i=0 then(0:Int)else 1)=0:=h;show i=0;by_cases z:i=0
  ·exact z
  ·rw[Z8 z]at h;lia
 |n+1,i,x,y,l,h,p,s=>by
  obtain⟨q,a,b,c,d,g⟩:=Be ok l;have e:=JQ g;have e:DE G (n+1) i=DE G n a+(DE G n b+(DE G n c+(DE G n d+0))):=e;have U:=EW G n a;have V:=EW G n b;have T:=EW G n c;have R:=EW G n d;have C:=Et p s;rw[Ba g p s];refine cell_none ok (g.nat C).2 ?_ (M8 _ (AU n)) (M8 _ (AU n));generalize quad n x y=k at C
  match k,C with
  |0,_=>show DE G n a=0;lia
  |1,_=>show DE G n b=0;lia
  |2,_=>show DE G n c=0;lia
  |3,_=>show DE G n d=0;lia
seal L2.PA L2.PE L2.PS L2.PSs L2.PT L2.PW
theorem SM{G:Gv}{n f:Nat}(x y:Int):Lv G (n+1) f (x+2^n) (y+2^n)↔fieldF G n f x y≠0:=by
 have c:=Jh n;have e:=PJ n;constructor
 ·rintro⟨u,v,i,k,j,l,a⟩;unfold fieldF;rw[X5 ⟨by lia,by lia,by lia,by lia⟩,show(x+2^n).toNat=u by lia,show(y+2^n).toNat=v by lia];exact a
 ·intro a;unfold fieldF at a;split at a
  ·rename_i z;obtain⟨d,g,b,h⟩:=z;exact⟨(x+2^n).toNat,(y+2^n).toNat,by lia,by lia,EN d g,EN b h,a⟩
  ·exact absurd rfl a
def mvB(r:Int)(b:Bx):Bx:=⟨b.l+-r,b.t+-r,b.w,b.h⟩
theorem RU{G:Gv}(ok:GOk G){n f:Nat}(l:Al G f ((n+1:Nat):Int)){b:Bx}(h:BN G (n+1) f=some b):OY (λx y=>fieldF G n f x y≠0) (mvB (2^n) b):=by
 have t:=JT ok l h;obtain⟨k,c⟩:=t.le;obtain⟨j,d⟩:=t.to;obtain⟨i,a⟩:=t.ri;obtain⟨g,e⟩:=t.bo;have go:∀{u v:Int},Lv G (n+1) f u v->fieldF G n f (u+-(2^n)) (v+-(2^n))≠0:=λ{u v} m=>(SM _ _).mp (by rw[show u+-(2^n)+2^n=u by lia,show v+-(2^n)+2^n=v by lia];exact m);unfold mvB;refine⟨λx y m=>?_,⟨_,go c⟩,⟨_,go d⟩,⟨i+-(2^n),?_⟩,⟨g+-(2^n),?_⟩⟩
 ·have:=t.inn _ _ ((SM x y).mpr m);dsimp only;lia
 ·have:=go a;rw[show b.l+b.w-1+-(2^n)=b.l+-(2^n)+b.w-1 by lia]at this;exact this
 ·have:=go e;rw[show b.t+b.h-1+-(2^n)=b.t+-(2^n)+b.h-1 by lia]at this;exact this
theorem TH{G:Gv}(ok:GOk G){n f:Nat}(l:Al G f ((n+1:Nat):Int))(h:BN G (n+1) f=none)(x y:Int):fieldF G n f x y=0:=by
 have c:=(JU ok _ _ l).mp h;unfold fieldF;split
 ·rename_i z;exact JT.cell_none ok l c (EN z.1 z.2.1) (EN z.2.2.1 z.2.2.2)
 ·rfl
section
variable{P:Program}{w:World}{K:W.Frag}{mg:Str->Option Value}{base:Heap}{a:Ad}
inductive VE(a:Ad)(vs:List V)(H:Hp)(Q:VK):Prop
 |mk (g:GA) (G:Gv) (f n:Nat) (_:vs=[.ref g.p,.int f]) (_:Bd a H g G) (_:Al G f ((n+1:Nat):Int)) (_:n<48) (_:G.length<8000000) (_:(BN G (n+1) f=none->∀H',FrQ g H H'->Bd a H' g G->Q .non H')) (_:∀b,BN G (n+1) f=some b->∀t H',FrQ g H H'->Bd a H' g G->MI H' t (mvB (2^n) b)->Q (.ref t) H'):VE a vs H Q
def QE(a:Ad):Sp:=λvs H Q _=>VE a vs H Q
theorem Zf(F:Fun K "box_of" "box_of" Od f fd)(T:Top K mg a)(y:BK P w K mg base CX0 101 a.c_Grove "span" Jt (Tq a))(z:Cal P w K mg base CX0 4 "reach_of" TL (JD a))(I:Cal P w K mg base CX0 1 "shifted_box" Pl LA):AJ P w K mg base CX0 102 f fd TL (QE a):=by
  refine F.ok Mj (λ_ _ _ _ h=>by rcases h;subst_vars;rfl) λB A m s H vs Q E k h=>?_
  obtain⟨g,G,x,n,rfl,v,q,e,few,k0,k1⟩:=h;refine⟨_,(Ae (An (i:=2) Mj.nd rfl (Or.inl rfl) (AF (pv 0) y (rm k) Ao (Aa (pv 1) Ab))) (Ae (AN (Aw Jp (pv 2) DA (AD _)) (Af (Ar DA)) AE) (Ae (An (i:=3) Mj.nd rfl (Or.inl rfl) (Ap z (rm k) rfl Ao (Aa (pv 0) (Aa (pv 1) Ab)))) (Af (Ar (Ap I (rm k) rfl Ao (Aa (pv 2) (Aa (IQ EE (pv 3)) (Aa (IQ EE (pv 3)) Ab))))))))),?_⟩
  try dsimp only[cxK]
  refine xq1 rfl ⟨g.p,g.dx,(xq1 rfl ⟨v.at'.hp,no_span g,(xq1 rfl ⟨g,G,x,n+1,rfl,v,q,by lia,λD u d c=>?_,λb C t u d c M=>?_⟩)⟩)⟩
  ·exact xq1 rfl ⟨rfl,(xq1 rfl (BJ (k0 D u d c)))⟩
  ·refine xq1 rfl ⟨rfl,(xq1 rfl (Bc ?_))⟩;refine xw2 rfl rfl ⟨g,G,x,n,rfl,c.at',q,e,?_⟩;refine xw3 rfl rfl rfl (xw2 rfl rfl ⟨t,b,_,_,rfl,M,λt' j=>?_⟩);have r:=AB (o:=.tup [.int (b.l+-(2^n)),.int (b.t+-(2^n)),.int b.w,.int b.h]) j;exact k1 b C t' _ (d.trans (Ax.frq r)) (c.same r) Ag
end
end J
namespace J
open PySem L2
theorem cel_F{G:Gv}(ok:GOk G):∀{n i x y:Nat},Al G i (n:Int)->x<2^n->y<2^n->cel G n i x y=CJ G n i x y
 |0,_,_,_,_,_,_=>rfl
 |n+1,i,x,y,h,hx,hy=>by
  obtain⟨q,a,b,c,d,f⟩:=Be ok h;rw[Ba f hx hy];have p:=AU n;have k:x/2^n<2:=Nat.div_lt_of_lt_mul (by rw[D9]at hx;lia);have j:y/2^n<2:=Nat.div_lt_of_lt_mul (by rw[D9]at hy;lia);have e:qO G i ((x/2^n)%2+2*((y/2^n)%2))=f4 a b c d (quad n x y):=by
   have:=(f.nat (Et hx hy)).1;unfold qO;rw[f.g,P3 k,P3 j];show(q.parts.getD (quad n x y) 0).toNat=_;rw[F0,this];rfl
  show cel G n (qO G i ((x/2^n)%2+2*((y/2^n)%2))) x y=_;rw[e,<-cel_F ok (f.nat (Et hx hy)).2 (M8 _ p) (M8 _ p)];have:=RF G n (f4 a b c d (quad n x y)) (x%2^n) (y%2^n) (x/2^n) (y/2^n);rw[Nat.mod_add_div,Nat.mod_add_div]at this;exact this
theorem ND{α β:Type}(f:α->List β)(m:Nat):∀l:List α,(∀x∈l,(f x).length<=m)->(l.flatMap f).length<=l.length*m
 |[],_=>by simp
 |a::l,h=>by
  have:=ND f m l λx b=>h x (C4 _ b);have:=h a C8;rw[List.flatMap_cons,C6,F2,Nat.succ_mul];lia
structure ZS(a:Ad)(H:Hp)(g:GA)(G:Gv)(Κ:KTy)(N b:Nat)(p dx mem pr:Addr)(r:Az)(m:MA):Prop where
 jz:JZ a H g G Κ N b p dx mem pr r m
 fu:Bd a H g G
 na:g.am∉m.ds
 nb:g.bx∉m.ds
def FrZ(g:GA)(m:MA)(H H':Hp):Prop:=∀b o,H b=some o->b∉[g.lv,g.pt,g.nm,g.am,g.bx,m.kc]->b∉m.ds->H' b=some o
section
variable{a:Ad}{H H' H1 H2 H3:Hp}{g:GA}{G G':Gv}{Κ:KTy}{N b i:Nat}{p dx mem pr:Addr}{r:Az}{m:MA}
theorem FrZ.trans(h:FrZ g m H1 H2)(k:FrZ g m H2 H3):FrZ g m H1 H3:=λb o e d c=>k b o (h b o e d c) d c
theorem Ax.z(s:Ax H H'):FrZ g m H H':=λb o e _ _=>s b o e
theorem Fr.z(f:Fr g H H'):FrZ g m H H':=λb o e c _=>f b o e (λz=>c (by simp[z])) (λz=>c (by simp[z])) (λz=>c (by simp[z]))
theorem FrQ.z(f:FrQ g H H'):FrZ g m H H':=λb o e c _=>f b o e (λz=>c (by simp[z])) (λz=>c (by simp[z]))
theorem FrJ.z(f:FrJ g m H H'):FrZ g m H H':=λb o e c d=>f b o e (λz=>c (by simp[z])) (λz=>c (by simp[z])) (λz=>c (by simp[z])) (λz=>c (by simp[z])) d
theorem ZS.same(h:ZS a H g G Κ N b p dx mem pr r m)(s:Ax H H'):ZS a H' g G Κ N b p dx mem pr r m:=⟨h.jz.same s,h.fu.same s,h.na,h.nb⟩
theorem ZS.mono{c:Nat}(h:ZS a H g G Κ N b p dx mem pr r m)(e:b<=c):ZS a H g G Κ N c p dx mem pr r m:=⟨h.jz.mono e,h.fu,h.na,h.nb⟩
theorem ZS.fr(h:ZS a H g G Κ N b p dx mem pr r m)(f:Fr g H H')(c:Bd a H' g G')(go:AI G G' i):ZS a H' g G' Κ N (b+i) p dx mem pr r m:=⟨h.jz.fr f c.at' go,c,h.na,h.nb⟩
theorem ZS.frQ(h:ZS a H g G Κ N b p dx mem pr r m)(f:FrQ g H H')(s:Bd a H' g G):ZS a H' g G Κ N b p dx mem pr r m:=by
 have c:=h.jz.jw;have k:∀{x:Addr}{o:HO},H x=some o->(∀j,o≠.dK j)->H' x=some o:=λ{x o} e n=>f _ _ e (h.fu.ne_am e n).1 (h.fu.ne_am e n).2;have v:∀d∈m.ds,∀o,H d=some o->H' d=some o:=λd u o e=>f _ _ e (λz=>h.na (z▸u)) (λz=>h.nb (z▸u));obtain⟨C,A,_⟩:=c.me.ce;have q:JC H' g G N (b+10*N) r m:=c.me.kp c.ok (AI.refl c.ok) λx o e w=>by
  rcases w with z|z|z|z
  ·subst z;exact k e (by rw[c.me.tp]at e;cases e;intro j z;cases z)
  ·subst z;exact k e (by rw[c.me.l]at e;cases e;intro j z;cases z)
  ·exact v x z o e
  ·subst z;exact k e (by rw[A]at e;cases e;intro j z;cases z)
 obtain⟨B,y⟩:=h.jz.cn;refine⟨⟨⟨s.at',c.ok,c.bs,s.br,c.nbr,k c.hp (by intro j z;cases z),c.ru.kp λx o e n=>k e (by intro j z;rw[z]at n;cases n),c.rok,c.rest,q⟩,B,y.kp (i:=0) c.ok (AI.refl c.ok) v λt e=>⟨t,k e (by intro j z;cases z),C5 _⟩⟩,s,h.na,h.nb⟩
theorem ZS.aft(h:ZS a H g G Κ N b p dx mem pr r m)(f:FrJ g m H H')(k:JZ a H' g G' Κ N b p dx mem pr r m)(go:AI G G' i):ZS a H' g G' Κ N b p dx mem pr r m:=by
 have E:=h.jz.jw;refine⟨k,?_,h.na,h.nb⟩;obtain⟨at',ok,⟨Y,P⟩,R,⟨c,M,X⟩,⟨w,Q,D⟩,T,O,U⟩:=h.fu;obtain⟨us,C,_⟩:=at'.pt;obtain⟨Z,A,_⟩:=E.me.ce;have u:∀{x:Addr}{o:HO},H x=some o->(∀c,o≠.dK c)->x∉m.ds:=λ{x o} e n z=>by
  obtain⟨j,s⟩:=M0 z;obtain⟨kv,q,_⟩:=E.me.sq j x s;rw[e]at q;cases q;exact n _ rfl
 obtain⟨t,K⟩:=go.pre;have B:∀{x:Addr}{c:List (Key×V)},H x=some (.dK c)->x∉m.ds->H' x=some (.dK c):=λ{x c} e n=>f _ _ e (AG e at'.lv A4) (AG e C A4) (AG e at'.nm A4) (AG e A A4) n;refine⟨k.jw.gr,go.ok,⟨Y++t,by rw[K,P,R6]⟩,k.jw.br,⟨c,B M h.na,X.app ok go⟩,⟨w,B Q h.nb,D.keys.app go.le,λi v e=>?_⟩,T,O,U⟩;obtain⟨l,I,t,y,q,S,d⟩:=D.val i v e;exact⟨l,I,t,go.lev y,by rw[GQ ok go l i y];exact q,S,f _ _ d (AG d at'.lv A4) (AG d C A4) (AG d at'.nm A4) (AG d A A4) (u d (by intro c z;cases z))⟩
theorem ZS.keep(h:ZS a H g G Κ N b p dx mem pr r m)(f:FrZ g m H H'){x:Addr}{o:HO}(e:H x=some o)(k1:∀xs,o≠.lst xs)(k2:∀d,o≠.dK d)(k3:∀d,o≠.dT d):H' x=some o:=by
 have k:=h.jz.jw;obtain⟨us,s,_⟩:=h.fu.at'.pt;obtain⟨t,q,_⟩:=k.me.ce;have l:=h.fu.ne_am e k2;refine f _ _ e (λz=>?_) (λz=>?_)
 ·simp only[C1,D6,K7]at z;rcases z with z|z|z|z|z|z
  ·exact AG e h.fu.at'.lv (k1 _) z
  ·exact AG e s (k1 _) z
  ·exact AG e h.fu.at'.nm (k3 _) z
  ·exact l.1 z
  ·exact l.2 z
  ·exact AG e q (k3 _) z
 ·obtain⟨j,c⟩:=M0 z;obtain⟨u,n,_⟩:=k.me.sq j x c;exact AG e n (k2 _) rfl
theorem ZS.new(h:ZS a H g G Κ N b p dx mem pr r m){x:Addr}(n:H x=none):x∉[g.lv,g.pt,g.nm,g.am,g.bx,m.kc]/\x∉m.ds:=by
 have d:=h.jz.jw;obtain⟨us,s,_⟩:=h.fu.at'.pt;obtain⟨o,k,_⟩:=d.me.ce;obtain⟨t,l,_⟩:=h.fu.am;obtain⟨q,e,_⟩:=h.fu.bx;refine⟨λz=>?_,λz=>?_⟩
 ·simp only[C1,D6,K7]at z;rcases z with rfl|rfl|rfl|rfl|rfl|rfl
  ·rw[h.fu.at'.lv]at n;cases n
  ·rw[s]at n;cases n
  ·rw[h.fu.at'.nm]at n;cases n
  ·rw[l]at n;cases n
  ·rw[e]at n;cases n
  ·rw[k]at n;cases n
 ·obtain⟨j,c⟩:=M0 z;obtain⟨u,f,_⟩:=d.me.sq j x c;rw[f]at n;cases n
end
theorem JW.putL{a:Ad}{H:Hp}{g:GA}{G:Gv}{N M:Nat}{p k mem f x:Addr}{r:Az}{m:MA}{xs:List V}{o:HO}(h:JW a H g G N M p k mem f r m)(i:H x=some (.lst xs))(t:x≠g.lv)(s:x≠g.pt)(u:x≠g.br)(q:x≠m.l):JW a (upd H x o) g G N M p k mem f r m:=by
 have c:∀{b v},H b=some v->(∀l,v≠.lst l)->upd H x o b=some v:=λ{b v} e n=>by rw[As (AG e i (n _))];exact e
 refine⟨h.gr.put i t s,h.ok,h.bs,by rw[As (K1 u)];exact h.br,h.nbr,c h.hp B0,h.ru.kp λb o e n=>c e λl z=>(by rw[z]at n;cases n),h.rok,h.rest,h.me.kp h.ok (AI.refl h.ok) λb o e w=>?_⟩;rcases w with z|z|z|z
 ·have d:=h.me.tp;rw[<-z,e]at d;cases d;exact c e B0
 ·rw[z]at e⊢;rw[As (K1 q)];exact e
 ·obtain⟨j,y⟩:=M0 z;obtain⟨A,d,_⟩:=h.me.sq j b y;rw[e]at d;cases d;exact c e B0
 ·obtain⟨B,d,_⟩:=h.me.ce;rw[z]at e⊢;rw[e]at d;cases d;exact c e B0
structure ApZ(g:GA)(m:MA)(x:Addr):Prop where
 n0:x∉[g.lv,g.pt,g.nm,g.am,g.bx,m.kc]
 n1:x∉m.ds
 n2:x≠g.br
 n3:x≠m.l
section
variable{a:Ad}{H H':Hp}{g:GA}{G G':Gv}{Κ:KTy}{N b i:Nat}{p dx mem pr:Addr}{r:Az}{m:MA}
theorem ZS.ap(h:ZS a H g G Κ N b p dx mem pr r m){x:Addr}(n:H x=none):ApZ g m x:=by
 obtain⟨d,c⟩:=h.new n;refine⟨d,c,λz=>?_,λz=>?_⟩
 ·rw[z,h.fu.br]at n;cases n
 ·rw[z,h.jz.jw.me.l]at n;cases n
theorem ZS.putL{x:Addr}{xs:List V}{o:HO}(h:ZS a H g G Κ N b p dx mem pr r m)(j:H x=some (.lst xs))(ap:ApZ g m x):ZS a (upd H x o) g G Κ N b p dx mem pr r m:=by
 have k:x≠g.lv:=λz=>ap.n0 (by simp[z]);have pt:x≠g.pt:=λz=>ap.n0 (by simp[z]);obtain⟨f,c⟩:=h.jz.cn;refine⟨⟨h.jz.jw.putL j k pt ap.n2 ap.n3,f,c.kp (i:=0) h.jz.jw.ok (AI.refl h.jz.jw.ok) (λd n o' e=>?_) λl e=>⟨l,?_,C5 _⟩⟩,h.fu.put j k pt ap.n2,h.na,h.nb⟩
 ·rw[As (λz:d=x=>ap.n1 (z▸n))];exact e
 ·rw[As (AG e j A4)];exact e
end
theorem LW{G:Gv}(ok:GOk G){n f:Nat}(c:Al G f ((n+1:Nat):Int)){x y:Nat}(b:x<2^(n+1))(a:y<2^(n+1)):Cf G (n+1) f x y=(fieldF G n f ((x:Int)-2^n) ((y:Int)-2^n):Nat):=by
 unfold Cf fieldF;have p:((2^(n+1):Nat):Int)=2^n+2^n:=by rw[F9];exact Dd n
 rw[X5 A0,cel_F ok c b a];congr 2<;>lia
seal L2.PA L2.PE L2.PS L2.PSs L2.PT L2.PW
inductive WR(H:Hp):V->Prop
 |non:WR H .non
 |bl (b:Bool):WR H (.bl b)
 |str (z:Str):WR H (.str z)
 |lst {p:Addr} {xs:List V} (h:H p=some (.lst xs)):WR H (.ref p)
theorem ZH(K:W.Frag):kitOne K (.type "int") (.type "int")=some true/\kitOne K (.type "int") (.type "bool")=some false:=⟨by kernel_rfl,by kernel_rfl⟩
theorem OF(K:W.Frag):kitOne K (.type "bool") (.type "int")=some true/\kitOne K (.type "bool") (.type "bool")=some true/\kitOne K (.type "str") (.type "int")=some false/\kitOne K (.type "NoneType") (.type "int")=some false/\kitOne K (.type "list") (.type "int")=some false:=⟨by kernel_rfl,by kernel_rfl,by kernel_rfl,by kernel_rfl,by kernel_rfl⟩
section
variable{P:Program}{w:World}{K:W.Frag}{mg:Str->Option Value}{base:Heap}{a:Ad}
inductive SpIWx(vs:List V)(H:Hp)(Q:VK):Prop
 |mk (i:Int) (_:vs=[.int i]) (_:Q (.bl true) H):SpIWx vs H Q
 |no (v:V) (_:vs=[v]) (_:WR H v) (_:Q (.bl false) H):SpIWx vs H Q
def Yu:Sp:=λvs H Q _=>SpIWx vs H Q
theorem ok_iwx(F:Fun K "is_whole" "is_whole" Ic f fd)(T:Top K mg a):AJ P w K mg base CX0 1 f fd TM Yu:=by
 refine F.ok MK (λvs H Q E h=>?_) (λd A c s H vs Q E g h=>?_)
 ·cases h with
  |mk i e=>rw[e];rfl
  |no v e=>rw[e];rfl
 ·cases h with
  |mk i e k =>
   subst e;refine⟨_,(Af (Ar (EJ (Au AW rfl T.b_isinstance Z9 (Aa (pv 0) (Aa (DU (v:=.ty "int") rfl T.b_int A1a rfl) Ab))) (Ft (QO (Au AW rfl T.b_isinstance Z9 (Aa (pv 0) (Aa (DU (v:=.ty "bool") rfl T.b_bool A3c rfl) Ab)))))))),?_⟩
   try dsimp only[cxK]
   exact⟨_,rfl,_,_,_,.type "int",true,rfl,rfl,.of (.int i),(ZH K).1,true,rfl,BJ ⟨_,rfl,_,_,_,.type "int",false,rfl,rfl,.of (.int i),(ZH K).2,false,rfl,k⟩⟩
  |no v e o k =>
   subst e;refine⟨_,(Af (Ar (EJ (Au AW rfl T.b_isinstance Z9 (Aa (pv 0) (Aa (DU (v:=.ty "int") rfl T.b_int A1a rfl) Ab))) (Ft (QO (Au AW rfl T.b_isinstance Z9 (Aa (pv 0) (Aa (DU (v:=.ty "bool") rfl T.b_bool A3c rfl) Ab)))))))),?_⟩
   try dsimp only[cxK]
   cases o with
   |bl b=>exact⟨_,rfl,_,_,_,.type "bool",true,rfl,rfl,.of (.bl b),(OF K).1,true,rfl,BJ ⟨_,rfl,_,_,_,.type "bool",true,rfl,rfl,.of (.bl b),(OF K).2.1,true,rfl,k⟩⟩
   |str z=>exact⟨_,rfl,_,_,_,.type "str",false,rfl,rfl,.of (.str z),(OF K).2.2.1,false,rfl,Bc k⟩
   |non=>exact⟨_,rfl,_,_,_,.type "NoneType",false,rfl,rfl,.of .non,(OF K).2.2.2.1,false,rfl,Bc k⟩
   |lst h=>exact⟨_,rfl,_,_,_,.type "list",false,rfl,rfl,.of (.lst h),(OF K).2.2.2.2,false,rfl,Bc k⟩
inductive SpLvF(a:Ad)(vs:List V)(H:Hp)(Q:VK):Prop
 |mk (g:GA) (G:Gv) (f n e:Nat) (_:vs=[.ref g.p,.int f,.int e]) (_:AK a H g G) (_:Al G f ((n+1:Nat):Int)) (_:n<=40) (_:e<=40) (_:∀l:Nat,l<=41->n<=l->e<=l->2^n+2^e<=2^l->Q (.int ((l+2:Nat):Int)) H):SpLvF a vs H Q
def Yt(a:Ad):Sp:=λvs H Q _=>SpLvF a vs H Q
theorem ok_lvf(F:Fun K "level_for" "level_for" Jc f fd)(T:Top K mg a)(D:Cal P w K mg base CX0 4 "reach_of" TL (JD a)):AJ P w K mg base CX0 5 f fd Jk (Yt a):=by
  refine F.ok ES (λ_ _ _ _ h=>by rcases h;subst_vars;rfl) λO A o s H vs Q E S h=>?_
  obtain⟨g,G,c,n,e,rfl,B,C,l,q,k⟩:=h;refine⟨_,(Ae (An (i:=3) ES.nd rfl (Or.inl rfl) (Ay AQ (Ap D (rm S) rfl Ao (Aa (pv 0) (Aa (pv 1) Ab))) (Ay CU Ac (pv 2)))) (Ae (An (i:=4) ES.nd rfl (Or.inl rfl) Ac) (Ae (Jg K9 (Aw EQ (Ay CU Ac (Ay Bg (pv 4) Ac)) (pv 3) (AD _)) (Af (An (i:=4) ES.nd rfl (Or.inl rfl) (Ay AQ (pv 4) Ac)))) (Af (Ar (pv 4)))))),?_⟩
  try dsimp only[cxK]
  refine Bv ?_;intro r1 s1 k1 d E1;refine xw2 rfl rfl ⟨g,G,c,n,rfl,B,C,by lia,?_⟩;refine xwb rfl rfl rfl ⟨⟨by lia,by lia,by decide⟩,_,_,rfl,rfl,?_⟩;have y:(2:Int)^n+1*2^(e:Int).toNat=((2^n+2^e:Nat):Int):=by
   rw[M4,Int.one_mul,Q4,F9,F9];rfl
  have pn:2^n<=2^40:=O3 A3 l;have Y:2^e<=2^40:=O3 A3 q;have X:=AU n;have I:=AU e;rw[show(λi j:Int=>V.int (i+j)) (2^n) ((λi j:Int=>i*2^j.toNat) 1 (e:Int))=V.int ((2^n+2^e:Nat):Int)from K3 V.int y];generalize N:2^n+2^e=R at k;have M:R<=2^41:=by rw[<-N];lia
  refine d ?_;refine Bv ?_;intro r2 s2 k2 r E2;refine r ?_;refine⟨λm σ t=>∃j:Nat,σ=[some (.ref g.p),some (.int c),some (.int (e:Int)),some (.int (R:Int)),some (.int ((j+2:Nat):Int))]/\t=H/\j+m=41,⟨41,0,rfl,rfl,rfl⟩,?_⟩;rintro m σ t ⟨j,rfl,rfl,jm⟩;refine xwb rfl rfl rfl ⟨_,_,rfl,rfl,⟨by lia,by lia,by decide⟩,_,rfl,_,_,rfl,rfl,_,rfl,?_⟩;have v:(1:Int)*2^(((j+2:Nat):Int)-2).toNat=((2^j:Nat):Int):=by
   rw[show(((j+2:Nat):Int)-2).toNat=j by lia,Int.one_mul,F9];rfl
  refine EC (λb=>?_) (λb=>?_)
  ·have b:=K2 b;have b:(1:Int)*2^(((j+2:Nat):Int)-2).toNat<(R:Int):=b;rw[v]at b;have Z:m≠0:=λz=>by
    subst z;have:j=41:=by lia
    subst this;lia
   refine⟨fun σ' x=>∃u:Nat,σ'=[some (.ref g.p),some (.int c),some (.int (e:Int)),some (.int (R:Int)),some (.int ((u+2:Nat):Int))]/\x=t/\u+(m-1)=41,fun σ' x z=>⟨m-1,by lia,z⟩,?_⟩;have U:((j+2:Nat):Int)+1=((j+1+2:Nat):Int):=by lia
   exact xwb rfl rfl rfl ⟨j+1,K3 (λz:Int=>[some (V.ref g.p),some (V.int c),some (V.int (e:Int)),some (V.int (R:Int)),some (V.int z)]) U,rfl,by lia⟩
  ·have b:¬(1:Int)*2^(((j+2:Nat):Int)-2).toNat<(R:Int):=λz=>b (Z7 z);rw[v]at b;have le:R<=2^j:=by lia
   refine⟨_,rfl,k j A0 ?_ ?_ le⟩
   ·refine P4 λz=>?_;have:2^j<2^n:=W5 A3 z;lia
   ·refine P4 λz=>?_;have:2^j<2^e:=W5 A3 z;lia
inductive SpWT(a:Ad)(vs:List V)(H:Hp)(Q:VK):Prop
 |mk (g:GA) (G:Gv) (f n k:Nat) (_:vs=[.ref g.p,.int f,.int ((n+k+1:Nat):Int)]) (_:Bd a H g G) (_:Al G f ((n+1:Nat):Int)) (_:n+k<=46) (_:G.length<8000000) (_:∀(v:Nat)(G':Gv)(H':Hp),Fr g H H'->Bd a H' g G'->AI G G' (5*k)->Ma G' n f k v->Al G' v ((n+k+1:Nat):Int)->Q (.int v) H'):SpWT a vs H Q
def spWT(a:Ad):Sp:=λvs H Q _=>SpWT a vs H Q
theorem ok_wt(F:Fun K "widened_to" "widened_to" GY f fd)(T:Top K mg a)(X:BK P w K mg base CX0 3 a.c_Grove "level_of" Jt (LB a))(V:Cal P w K mg base CX0 4 "widened" JK (UF a)):AJ P w K mg base CX0 5 f fd Iv (spWT a):=by
  refine F.ok Ga (λ_ _ _ _ h=>by rcases h;subst_vars;rfl) λU A B s H vs Q E N h=>?_
  obtain⟨g,G,u,n,d,rfl,I,Y,Z,few,k⟩:=h;refine⟨_,(Ae (An (i:=3) Ga.nd rfl (Or.inl rfl) (pv 1)) (Ae (Jg K9 (Aw EQ (AF (pv 0) X (rm N) Ao (Aa (pv 3) Ab)) (pv 2) (AD _)) (Af (An (i:=3) Ga.nd rfl (Or.inl rfl) (Ap V (rm N) rfl Ao (Aa (pv 0) (Aa (pv 3) Ab)))))) (Af (Ar (pv 3))))),?_⟩
  try dsimp only[cxK]
  refine xq1 rfl ?_;refine⟨λm σ x=>∃(e:Gv)(c j:Nat),σ=[some (.ref g.p),some (.int u),some (.int ((n+d+1:Nat):Int)),some (.int c)]/\Fr g H x/\Bd a x g e/\AI G e (5*j)/\j+m=d/\Al e c ((n+j+1:Nat):Int)/\Ma e n u j c,⟨d,G,u,0,rfl,Fr.refl g H,I,AI.refl I.ok,by lia,Y,rfl⟩,?_⟩;rintro m σ x ⟨e,c,j,rfl,fr,b,go,S,C,O⟩;have gf:=go.few;obtain⟨q,eq,R⟩:=id C;refine⟨_,rfl,g.p,g.dx,_,rfl,b.at'.hp,DD g,_,rfl,⟨g,e,c,q,rfl,b.at',eq,?_⟩⟩;rw[R];refine⟨_,rfl,_,_,rfl,rfl,_,rfl,EC (λr=>?_) (λr=>?_)⟩
  ·have r:((n+j+1:Nat):Int)<((n+d+1:Nat):Int):=K2 r;refine⟨fun σ' D=>∃(o:Gv)(c2 v:Nat),σ'=[some (.ref g.p),some (.int u),some (.int ((n+d+1:Nat):Int)),some (.int c2)]/\Fr g H D/\Bd a D g o/\AI G o (5*v)/\v+(m-1)=d/\Al o c2 ((n+v+1:Nat):Int)/\Ma o n u v c2,fun σ' D z=>⟨m-1,by lia,z⟩,?_⟩;refine xw2 rfl rfl ⟨g,e,c,n+j,rfl,b,C,by lia,by lia,λc2 o H3 t y l M=>?_⟩;refine⟨o,c2,j+1,rfl,fr.trans t,b.fr t y l,(go.trans l).mono A0,by lia,?_,⟨c,O.app l,M⟩⟩;have:=M.lev;rw[show n+(j+1)+1=n+j+2 by lia];exact this
  ·have r:¬((n+j+1:Nat):Int)<((n+d+1:Nat):Int):=λz=>r (Z7 z);have:j=d:=by lia
   subst this;exact⟨_,rfl,k c e x fr b go O C⟩
end
end J
namespace J
open PySem L2
def sF(r:Az)(φ:Int->Int->Nat):Int->Int->Nat:=λx y=>(CK r (φ x y:Nat) [((φ (x-1) (y-1):Nat):Int),((φ x (y-1):Nat):Int),((φ (x+1) (y-1):Nat):Int),((φ (x-1) y:Nat):Int),((φ (x+1) y:Nat):Int),((φ (x-1) (y+1):Nat):Int),((φ x (y+1):Nat):Int),((φ (x+1) (y+1):Nat):Int)]).toNat
def sFN(r:Az):Nat->(Int->Int->Nat)->Int->Int->Nat
 |0,φ=>φ
 |n+1,φ=>sF r (sFN r n φ)
theorem LI(r:Az)(φ:Int->Int->Nat)(n:Nat):∀m,sFN r (m+n) φ=sFN r m (sFN r n φ)
 |0=>by rw[N9];rfl
 |m+1=>by
  rw[show m+1+n=(m+n)+1 by lia];show sF r (sFN r (m+n) φ)=sF r (sFN r m (sFN r n φ));rw[LI r φ n m]
theorem UP(r:Az){φ ψ:Int->Int->Nat}{X Y:Int}:∀(k:Nat)(x y:Int),(∀u v,x-k<=u->u<=x+k->y-k<=v->v<=y+k->φ u v=ψ (u+X) (v+Y))->sFN r k φ x y=sFN r k ψ (x+X) (y+Y)
 |0,x,y,h=>h x y A0 A0 A0 A0
 |k+1,x,y,h=>by
  have c:∀u v,x-1<=u->u<=x+1->y-1<=v->v<=y+1->sFN r k φ u v=sFN r k ψ (u+X) (v+Y):=λu v g j e m=>UP r k u v λa b l f i d=>h a b A0 A0 A0 A0;show sF r (sFN r k φ) x y=sF r (sFN r k ψ) (x+X) (y+Y);unfold sF;rw[c x y A0 A0 A0 A0,c (x-1) (y-1) A0 A0 A0 A0,c x (y-1) A0 A0 A0 A0,c (x+1) (y-1) A0 A0 A0 A0,c (x-1) y A0 A0 A0 A0,c (x+1) y A0 A0 A0 A0,c (x-1) (y+1) A0 A0 A0 A0,c x (y+1) A0 A0 A0 A0,c (x+1) (y+1) A0 A0 A0 A0];rw[show x-1+X=x+X-1 by lia,show y-1+Y=y+Y-1 by lia,show x+1+X=x+X+1 by lia,show y+1+Y=y+Y+1 by lia]
theorem Fp{r:Az}(h:CK r 0 Cd=0):∀k,sFN r k (λ_ _=>0)=λ_ _=>0
 |0=>rfl
 |k+1=>by
  show sF r (sFN r k λ_ _=>0)=_;rw[Fp h k]
  funext x y
  show(CK r ((0:Nat):Int) Cd).toNat=0;rw[show((0:Nat):Int)=0 from rfl,h];rfl
theorem Oe{r:Az}(h:CK r 0 Cd=0){φ:Int->Int->Nat}{k:Nat}{x y:Int}(z:sFN r k φ x y≠0):∃u v,x-k<=u/\u<=x+k/\y-k<=v/\v<=y+k/\φ u v≠0:=by
 refine X9 λno=>z ?_;have:=UP r (φ:=φ) (ψ:=λ_ _=>0) (X:=0) (Y:=0) k x y λu v c d a b=>X9 λq=>no ⟨u,v,c,d,a,b,q⟩;rw[this,Fp h]
theorem bec_nn{r:Az}(h:JB r){cell:Int}(d:0<=cell)(a:List Int):0<=CK r cell a:=by
 cases e:Nc r cell a with
 |none=>rw[OU e];exact d
 |some i =>
  obtain⟨c,b,f⟩:=OT e;rw[f];exact(h.ok c (F1 b)).makes.1
theorem JE{r:Az}(e:JB r){c:Nat->Nat->Int}{φ:Int->Int->Nat}{X Y:Int}:∀(k x y:Nat),k<=x->k<=y->(∀u v:Nat,x-k<=u->u<=x+k->y-k<=v->v<=y+k->c u v=(φ ((u:Int)+X) ((v:Int)+Y):Nat))->Bh r k c x y=(sFN r k φ ((x:Int)+X) ((y:Int)+Y):Nat)
 |0,x,y,_,_,h=>h x y A0 A0 A0 A0
 |k+1,x,y,hx,hy,h=>by
  have d:∀u v:Nat,x-1<=u->u<=x+1->y-1<=v->v<=y+1->Bh r k c u v=(sFN r k φ ((u:Int)+X) ((v:Int)+Y):Nat):=λu v j m g o=>JE e k u v A0 A0 λa b n i l f=>h a b A0 A0 A0 A0;show CK r (Bh r k c x y) [Bh r k c (x-1) (y-1),Bh r k c x (y-1),Bh r k c (x+1) (y-1),Bh r k c (x-1) y,Bh r k c (x+1) y,Bh r k c (x-1) (y+1),Bh r k c x (y+1),Bh r k c (x+1) (y+1)]=((sF r (sFN r k φ) ((x:Int)+X) ((y:Int)+Y):Nat):Int)
  unfold sF;rw[S5 (bec_nn e (P7 _) _)];rw[d x y A0 A0 A0 A0,d (x-1) (y-1) A0 A0 A0 A0,d x (y-1) A0 A0 A0 A0,d (x+1) (y-1) A0 A0 A0 A0,d (x-1) y A0 A0 A0 A0,d (x+1) y A0 A0 A0 A0,d (x-1) (y+1) A0 A0 A0 A0,d x (y+1) A0 A0 A0 A0,d (x+1) (y+1) A0 A0 A0 A0];rw[show((x-1:Nat):Int)+X=x+X-1 by lia,show((y-1:Nat):Int)+Y=y+Y-1 by lia,show((x+1:Nat):Int)+X=x+X+1 by lia,show((y+1:Nat):Int)+Y=y+Y+1 by lia]
theorem fld_jg{G:Gv}(ok:GOk G){r:Az}(m:JB r)(re:CK r 0 Cd=0){l e f k:Nat}(d:Al G f ((l+1+1:Nat):Int))(jr:JR r G e f k){φ:Int->Int->Nat}(h:∀x y,fieldF G (l+1) f x y=φ x y)(b:∀x y,φ x y≠0->-(2^l)+2^e<=x/\x+2^e<2^l/\-(2^l)+2^e<=y/\y+2^e<2^l):Al G k ((l+1:Nat):Int)/\∀x y,fieldF G l k x y=sFN r (2^e) φ x y:=by
 obtain⟨a,j,C,c,t⟩:=jr;have D:a=l:=by
  have:=j.one d;lia
 subst D;have p:((2^(a+1):Nat):Int)=2^a+2^a:=by rw[F9];exact Dd a
 have n:((2^a:Nat):Int)=2^a:=F9 2 a;have H:((2^e:Nat):Int)=2^e:=F9 2 e;have K:((2^(a+2):Nat):Int)=2^a+2^a+(2^a+2^a):=by
  rw[F9];show(2:Int)^(a+2)=_;rw[show(2:Int)^(a+2)=2^(a+1)+2^(a+1)from Dd (a+1),Dd]
 have le:2^e<=2^a:=O3 A3 C;refine⟨c,λx y=>?_⟩;by_cases z:-(2^a)<=x/\x<2^a/\-(2^a)<=y/\y<2^a
 ·obtain⟨B,M,b1,b2⟩:=z;have at':(fieldF G a k x y:Int)=Bh r (2^e) (Cf G (a+2) f) ((x+2^a).toNat+2^a) ((y+2^a).toNat+2^a):=by
   rw[<-t _ _ A0 A0,LW ok c A0 A0];congr 2<;>lia
  have g:∀u:Int,-(2^a)<=u->((((u+2^a).toNat+2^a:Nat):Int)+-(2^(a+1)))=u:=λu I=>by
   rw[Dd,Q4,n];lia
  rw[JE m (φ:=φ) (X:=-(2^(a+1))) (Y:=-(2^(a+1))) _ _ _ A0 A0 (λu v E o s A=>?_),g x B,g y b1]at at'
  ·exact X8 at'
  ·rw[LW ok d A0 A0,h];rfl
 ·unfold fieldF;rw[Z8 z];refine(X9 λq=>?_);obtain⟨u,v,E,o,s,A,i⟩:=Oe re (λw=>q w.symm);have:=b u v i;lia
def Kg(r:Az)(F:List (Int->Int->Nat))(T:Nat):KTy:=λl e ψ=>l<47/\((∀x y,x<2^(l+2)->y<2^(l+2)->ψ x y=0)\/∃φ∈F,∃(t:Nat)(i j:Int),t+2^e<=T/\∀x y,x<2^(l+2)->y<2^(l+2)->ψ x y=(sFN r t φ ((x:Int)+2^l*i) ((y:Int)+2^l*j):Nat))
theorem kg_cl{r:Az}(o:JB r)(re:CK r 0 Cd=0)(F:List (Int->Int->Nat))(T:Nat):ClK r (Kg r F T):=by
 have k:∀l,2^(l+1)=2^l*2:=λl=>D9 ..;have s:∀l:Nat,(2:Int)^(l+1)=2^l*2:=λl=>Q8 ..;have p:∀l,2^(l+2)=2^l*2*2:=λl=>by rw[D9,D9]
 have q:∀l,2^(l+1+2)=2^l*2*2*2:=λl=>by rw[D9,D9,D9]
 have nine:∀{l e m ψ},Kg r F T (l+1) e ψ->2^m<=2^e->∀i j,i<3->j<3->Kg r F T l m λx y=>ψ (x+2^(l+1)*i) (y+2^(l+1)*j):=λ{l e m ψ} h M i j B K=>by
  have b1:2^(l+1)*i<=2^(l+1)*2:=L7 _ A0;have b2:2^(l+1)*j<=2^(l+1)*2:=L7 _ A0;have G:=k l;have I:=p l;have E:=q l;refine⟨by have:=h.1;lia,?_⟩;rcases h.2 with z|⟨φ,b,t,a,f,C,z⟩
  ·exact .inl λx y g n=>z _ _ A0 A0
  ·refine .inr ⟨φ,b,t,2*a+2*(i:Int),2*f+2*(j:Int),by lia,λx y g n=>?_⟩;show ψ _ _=_;rw[z _ _ A0 A0];have d:∀(x i:Nat)(a:Int),((x+2^(l+1)*i:Nat):Int)+2^(l+1)*a=(x:Int)+2^l*(2*a+2*(i:Int)):=λx i a=>by
    rw[Q4,O1,F9];show(x:Int)+2^(l+1)*(i:Int)+2^(l+1)*a=_;rw[s,N3,S6,S6];lia
   rw[d,d]
 refine⟨λh _=>nine h (C5 _),λ{l φ} h=>nine h (by rw[k];lia),λ{l ψ} h i j B K=>?_⟩;have b1:2^(l+1)*i<=2^(l+1)*1:=L7 _ A0;have b2:2^(l+1)*j<=2^(l+1)*1:=L7 _ A0;have G:=k l;have I:=p l;have E:=q l;refine⟨by have:=h.1;lia,?_⟩;rcases h.2 with z|⟨φ,b,t,a,f,C,z⟩
 ·refine .inl λx y g n=>?_;have:=JE o (c:=ψ) (φ:=λ_ _=>0) (X:=0) (Y:=0) (2^l) (x+(2^(l+1)*i+2^l)) (y+(2^(l+1)*j+2^l)) A0 A0 λu v w H A D=>z u v A0 A0;rw[Fp re]at this;exact this
 ·refine .inr ⟨φ,b,t+2^l,2*a+(2*(i:Int)+1),2*f+(2*(j:Int)+1),by lia,λx y g n=>?_⟩;have:=JE o (c:=ψ) (φ:=sFN r t φ) (X:=2^(l+1)*a) (Y:=2^(l+1)*f) (2^l) (x+(2^(l+1)*i+2^l)) (y+(2^(l+1)*j+2^l)) A0 A0 λu v w H A D=>z u v A0 A0;show Bh r (2^l) ψ _ _=_;rw[this,<-LI,Nat.add_comm];have d:∀(x i:Nat)(a:Int),((x+(2^(l+1)*i+2^l):Nat):Int)+2^(l+1)*a=(x:Int)+2^l*(2*a+(2*(i:Int)+1)):=λx i a=>by
   rw[Q4,Q4,O1,F9,F9];show(x:Int)+(2^(l+1)*(i:Int)+2^l)+2^(l+1)*a=_;rw[s,N3,N3,S6,S6,Int.mul_one];lia
  rw[d,d]
def wl(W T l:Nat):Nat:=(W+2*T)/2^l+5
def sg(k T W D l:Nat):Nat:=1+k*(T*(wl W T l*wl D T l))
def mg(k T W D e:Nat):Nat:=if 2^e<=T then((List.range 47).map (sg k T W D)).sum else 47
def ng(k T W D:Nat):Nat:=s47 (mg k T W D)
def winF(ψ:Int->Int->Nat)(l:Nat)(i j:Int):Sht:=λx y=>(ψ ((x:Int)+2^l*i) ((y:Int)+2^l*j):Nat)
abbrev Fbx:=(Int->Int->Nat)×Int×Int
def WW(r:Az)(T W D l:Nat)(q:Fbx):List (Nat×Sht):=(List.range T).flatMap λt=>(List.range (wl W T l*wl D T l)).map λd=>(l,winF (sFN r t q.1) l ((q.2.1-T)/2^l-3+((d%wl W T l:Nat):Int)) ((q.2.2-T)/2^l-3+((d/wl W T l:Nat):Int)))
def Vd(r:Az)(T W D:Nat)(qs:List Fbx)(e:Nat):List (Nat×Sht):=(List.range 47).flatMap λl=>(l,λ_ _=>0)::if 2^e<=T then qs.flatMap (WW r T W D l)else []
theorem OL{α β:Type}(f:α->List β)(m:α->Nat):∀l:List α,(∀x∈l,(f x).length<=m x)->(l.flatMap f).length<=(l.map m).sum
 |[],_=>by simp
 |a::l,h=>by
  have:=OL f m l λx b=>h x (C4 _ b);have:=h a C8;rw[List.flatMap_cons,C6,F5,P2];lia
theorem Wx(r:Az)(T W D:Nat)(qs:List Fbx)(e:Nat):(Vd r T W D qs e).length<=mg qs.length T W D e:=by
 unfold Vd mg;by_cases h:2^e<=T
 ·rw[X5 h];simp only[X5 h];refine OL _ _ _ λl _=>?_;rw[F2];have:=ND (WW r T W D l) (T*(wl W T l*wl D T l)) qs λq _=>by
   unfold WW;have:=ND (λt=>(List.range (wl W T l*wl D T l)).map λd=>(l,winF (sFN r t q.1) l ((q.2.1-T)/2^l-3+((d%wl W T l:Nat):Int)) ((q.2.2-T)/2^l-3+((d/wl W T l:Nat):Int)))) (wl W T l*wl D T l) (List.range T) λt _=>by rw[B8,O0];exact C5 _
   rw[O0]at this;exact this
  unfold sg;lia
 ·rw[Z8 h];simp only[Z8 h];have:=ND (λl=>[((l,λ_ _=>0):Nat×Sht)]) 1 (List.range 47) λl _=>C5 _;rw[O0]at this;exact this
theorem kg_ext{r:Az}{F:List (Int->Int->Nat)}{T l e:Nat}{φ ψ:Sht}(h:Kg r F T l e φ)(q:RO l φ ψ):Kg r F T l e ψ:=by
 refine⟨h.1,?_⟩;rcases h.2 with c|⟨d,m,t,i,j,f,c⟩
 ·exact .inl λx y b a=>(q x y b a).symm.trans (c x y b a)
 ·exact .inr ⟨d,m,t,i,j,f,λx y b a=>(q x y b a).symm.trans (c x y b a)⟩
theorem WX{l T W t:Nat}{x:Nat}{i X u:Int}(v:x<2^(l+2))(s:t<=T)(n:(x:Int)+2^l*i-t<=u)(o:u<=(x:Int)+2^l*i+t)(g:X<=u)(y:u<X+W):∃d,d<wl W T l/\i=(X-T)/2^l-3+((d:Nat):Int):=by
 have a:(0:Int)<2^l:=by have:=AU l;have e:((2^l:Nat):Int)=2^l:=F9 2 l;lia
 have r:((2^(l+2):Nat):Int)=2^l*4:=by rw[F9];show(2:Int)^(l+2)=_;rw[Q8,Q8];lia
 have k:(((W+2*T)/2^l:Nat):Int)=((W:Int)+2*T)/2^l:=by rw[Int.natCast_ediv,F9];rfl
 generalize p:(2:Int)^l=P at *
 generalize eq:(X-T)/P=q;have f:=W4 (X-T) P;have h:=L9 (X-T) (Int.ne_of_gt a);have m:=L5 (X-T) a;rw[eq]at f;have w:=W4 ((W:Int)+2*T) P;have j:=L5 ((W:Int)+2*T) a;generalize z:((W:Int)+2*T)/P=b at *
 have lo:P*(q-4)<P*i:=by rw[Int.mul_sub];lia
 have c:P*i<P*(q+b+2):=by rw[N3,N3];lia
 have lo:=S1 lo (Z5 a);have c:=S1 c (Z5 a);refine⟨(i-q+3).toNat,?_,by lia⟩;unfold wl;lia
def InBx(F:List (Int->Int->Nat))(W D:Nat)(qs:List Fbx):Prop:=∀φ∈F,∀u v,φ u v≠0->∃X Y,(φ,X,Y)∈qs/\X<=u/\u<X+W/\Y<=v/\v<Y+D
theorem kg_fin{r:Az}(re:CK r 0 Cd=0){F:List (Int->Int->Nat)}{T W D:Nat}{qs:List Fbx}(H:InBx F W D qs):JY (Kg r F T) (ng qs.length T W D):=by
 refine⟨⟨mg qs.length T W D,C5 _,λe=>⟨Vd r T W D qs e,Wx r T W D qs e,λl ψ h=>?_⟩⟩,kg_ext⟩;obtain⟨o,b⟩:=h;have zero:(∀x y,x<2^(l+2)->y<2^(l+2)->ψ x y=0)->∃f,(l,f)∈Vd r T W D qs e/\RO l ψ f:=λz=>⟨λ_ _=>0,R9.mpr ⟨l,J1.mpr o,C8⟩,z⟩
 rcases b with b|⟨φ,n,t,i,j,N,b⟩
 ·exact zero b
 ·by_cases z:∀x y,x<2^(l+2)->y<2^(l+2)->ψ x y=0
  ·exact zero z
  ·obtain⟨x,z⟩:=Classical.not_forall.mp z;obtain⟨y,z⟩:=Classical.not_forall.mp z;obtain⟨g,z⟩:=Classical.not_imp.mp z;obtain⟨k,z⟩:=Classical.not_imp.mp z;rw[b x y g k]at z;have z:sFN r t φ ((x:Int)+2^l*i) ((y:Int)+2^l*j)≠0:=λq=>z (by rw[q];rfl);obtain⟨u,v,G,I,b1,b2,c⟩:=Oe re z;obtain⟨X,Y,m,A,C,p,B⟩:=H φ n u v c;have M:=AU e;obtain⟨d,l1,s⟩:=WX (T:=T) (W:=W) g A0 G I A C;obtain⟨a,l2,E⟩:=WX (T:=T) (W:=D) k A0 b1 b2 p B;have K:0<wl W T l:=by unfold wl;lia
   have w:(d+wl W T l*a)%wl W T l=d:=by rw[Q0,P3 l1]
   have dd:(d+wl W T l*a)/wl W T l=a:=by rw[N8 _ _ K,N6 l1,N9]
   have lt:d+wl W T l*a<wl W T l*wl D T l:=by
    have:wl W T l*(a+1)<=wl W T l*wl D T l:=L7 _ l2;rw[Nat.mul_add]at this;lia
   refine⟨winF (sFN r t φ) l i j,R9.mpr ⟨l,J1.mpr o,C4 _ ?_⟩,λx y g k=>b x y g k⟩;rw[X5 A0];refine R9.mpr ⟨_,m,R9.mpr ⟨t,J1.mpr A0,D1.mpr ⟨d+wl W T l*a,J1.mpr lt,?_⟩⟩⟩;rw[w,dd];show(l,winF (sFN r t φ) l ((X-T)/2^l-3+((d:Nat):Int)) ((Y-T)/2^l-3+((a:Nat):Int)))=_;rw[<-s,<-E]
theorem fld_kg{G:Gv}(ok:GOk G){r:Az}{F:List (Int->Int->Nat)}{T l f e t:Nat}(a:l<47)(b:Al G f ((l+1+1:Nat):Int)){φ:Int->Int->Nat}(m:φ∈F)(d:t+2^e<=T)(h:∀x y,fieldF G (l+1) f x y=sFN r t φ x y):Kg r F T l e (Cf G (l+2) f):=by
 refine⟨by lia,.inr ⟨φ,m,t,-2,-2,d,λx y g c=>?_⟩⟩;rw[LW ok b g c,h];have e:(2:Int)^(l+1)=2^l*2:=Q8 ..;rw[e];congr 2<;>lia
seal L2.PA L2.PE L2.PS L2.PSs L2.PT L2.PW
def Em(φ:Int->Int->Nat)(k:Nat):Prop:=∀x y,φ x y≠0->-(2^40)+(k:Int)<=x/\x+k<2^40/\-(2^40)+(k:Int)<=y/\y+k<2^40
theorem Zm {φ:Int->Int->Nat} {b:Bx} (t:OY (λx y=>φ x y≠0) b) (k:Nat):BP (b.l-k) (b.t-k) (b.w+2*k) (b.h+2*k) (2^40)↔Em φ k:=by
 unfold BP;constructor
 ·rintro⟨c,d,a,e⟩ x y h;have:=t.inn x y h;lia
 ·intro h;obtain⟨o,c⟩:=t.le;obtain⟨f,d⟩:=t.to;obtain⟨p,a⟩:=t.ri;obtain⟨n,e⟩:=t.bo;have i:=h _ _ c;have j:=h _ _ d;have g:=h _ _ a;have m:=h _ _ e;lia
section
variable{P:Program}{w:World}{K:W.Frag}{mg:Str->Option Value}{base:Heap}{a:Ad}
inductive SpChL(a:Ad)(vs:List V)(H:Hp)(Q:VK)(E:XK):Prop
 |mk (g:GA) (G:Gv) (f n k:Nat) (_:vs=[.ref g.p,.int f,.int (k:Int)]) (_:Bd a H g G) (_:Al G f ((n+1:Nat):Int)) (_:n<48) (_:G.length<8000000) (_:Em (fieldF G n f) k->∀H',FrQ g H H'->Bd a H' g G->Q .non H') (_:¬Em (fieldF G n f) k->∀H',FrQ g H H'->Bd a H' g G->E (.ref a.x_TooFar) none H'):SpChL a vs H Q E
 |no (q f v:V) (_:vs=[q,f,v]) (_:WR H v\/∃i:Int,v=.int i/\i<0) (_:E (.ref a.x_NoSteps) none H):SpChL a vs H Q E
def Yx(a:Ad):Sp:=λvs H Q E=>SpChL a vs H Q E
theorem ok_chl(F:Fun K "check_leap" "check_leap" Id f fd)(T:Top K mg a)(a9:Cal P w K mg base CX0 1 "is_whole" TM Yu)(cF:Cal P w K mg base CX0 102 "box_of" TL (QE a))(Y:Cal P w K mg base CX0 1 "lies_within" Pn Sd):AJ P w K mg base (CXE P w) 103 f fd Iy (Yx a):=by
 refine F.okE Gb (λvs H Q E h=>?_) (λaa A O s H vs Q E d h=>?_)
 ·cases h with
  |mk g G M n k e=>rw[e];rfl
  |no q M v e=>rw[e];rfl
 ·cases h with
  |no q M v e R k =>
   subst e;refine⟨_,(Ae (AN (PW.pt (Fs (CC (Cl (Ap a9 (rm d) rfl Ao (Aa (pv 2) Ab)))) (Dy (Aw EQ (pv 2) Ac (AD _))))) (Af (LK Nr rfl rfl T.mx_NoSteps T.ec_NoSteps (Cp Ab))) AE) (Ae (An (i:=3) Gb.nd rfl (Or.inl rfl) (Ap cF (rm d) rfl Ao (Aa (pv 0) (Aa (pv 1) Ab)))) (Af (AN (PW.pt (Lo (Aw QS (pv 3) DA (AD _)) (Ip (CC (Cl (Ap Y (rm d) rfl Ao (Bu (AV Bg (Ai Aj (pv 3) Ac (λ_ _=>rfl)) (pv 2) (AV Bg (Ai Aj (pv 3) Ac (λ_ _=>rfl)) (pv 2) (AV AQ (Ai Aj (pv 3) Ac (λ_ _=>rfl)) (Ay CV Ac (pv 2)) (AV AQ (Ai Aj (pv 3) Ac (λ_ _=>rfl)) (Ay CV Ac (pv 2)) Ab)))) (Aa (BL rfl T.k_LIMIT) Ab)))))))) (Af (LK Nr rfl rfl T.mx_TooFar T.ec_TooFar (Cp Ab))) AE)))),?_⟩
   try dsimp only[cxK]
   refine Bv ?_;intro r1 s1 k1 m E1;rcases R with R|⟨i,rfl,hi⟩
   ·exact⟨_,rfl,.no v rfl R ⟨false,rfl,BJ ⟨by show 1<=100;decide,k⟩⟩⟩
   ·refine⟨_,rfl,.mk i rfl ⟨true,rfl,Bc ?_⟩⟩;refine⟨_,rfl,_,_,rfl,rfl,_,rfl,?_⟩;rw[Z7 hi];exact BJ ⟨by show 1<=100;decide,k⟩
  |mk g G M n k e X S N few kn kf =>
   subst e;refine⟨_,(Ae (AN (PW.pt (Fs (CC (Cl (Ap a9 (rm d) rfl Ao (Aa (pv 2) Ab)))) (Dy (Aw EQ (pv 2) Ac (AD _))))) (Af (LK Nr rfl rfl T.mx_NoSteps T.ec_NoSteps (Cp Ab))) AE) (Ae (An (i:=3) Gb.nd rfl (Or.inl rfl) (Ap cF (rm d) rfl Ao (Aa (pv 0) (Aa (pv 1) Ab)))) (Af (AN (PW.pt (Lo (Aw QS (pv 3) DA (AD _)) (Ip (CC (Cl (Ap Y (rm d) rfl Ao (Bu (AV Bg (Ai Aj (pv 3) Ac (λ_ _=>rfl)) (pv 2) (AV Bg (Ai Aj (pv 3) Ac (λ_ _=>rfl)) (pv 2) (AV AQ (Ai Aj (pv 3) Ac (λ_ _=>rfl)) (Ay CV Ac (pv 2)) (AV AQ (Ai Aj (pv 3) Ac (λ_ _=>rfl)) (Ay CV Ac (pv 2)) Ab)))) (Aa (BL rfl T.k_LIMIT) Ab)))))))) (Af (LK Nr rfl rfl T.mx_TooFar T.ec_TooFar (Cp Ab))) AE)))),?_⟩
   try dsimp only[cxK]
   refine Bv ?_;intro r1 s1 k1 m E1;refine⟨_,rfl,.mk (k:Int) rfl ⟨true,rfl,Bc ?_⟩⟩;refine⟨_,rfl,_,_,rfl,rfl,_,rfl,?_⟩;rw[X4 A0];refine Bc ?_;refine m ?_;refine Bv ?_;intro r2 s2 k2 p E2;refine xw2 rfl rfl ⟨g,G,M,n,rfl,X,S,N,few,λV D U c=>?_,λbb V t D U c b=>?_⟩
   ·refine p ?_;refine⟨_,rfl,rfl,false,rfl,Bc ?_⟩;refine kn (λx y h=>absurd (TH X.ok S V x y) h) D U c
   ·refine p ?_;have Z:=RU X.ok S V;generalize mvB (2^n) bb=B at b Z;have b:D t=some (.tup [.int B.l,.int B.t,.int B.w,.int B.h]):=b;have nb:=Zm Z k;refine⟨_,rfl,rfl,true,rfl,BJ ?_⟩;refine⟨_,rfl,t,_,0,.int B.l,rfl,rfl,SqT.of b,Ah (j:=0) rfl,_,rfl,_,_,rfl,rfl,?_⟩;refine⟨_,rfl,t,_,1,.int B.t,rfl,rfl,SqT.of b,Ah (j:=1) rfl,_,rfl,_,_,rfl,rfl,?_⟩;refine⟨_,rfl,t,_,2,.int B.w,rfl,rfl,SqT.of b,Ah (j:=2) rfl,_,rfl,_,_,rfl,rfl,.inl ⟨by decide,by decide⟩,_,_,rfl,rfl,?_⟩;refine⟨_,rfl,t,_,3,.int B.h,rfl,rfl,SqT.of b,Ah (j:=3) rfl,_,rfl,_,_,rfl,rfl,.inl ⟨by decide,by decide⟩,_,_,rfl,rfl,?_⟩;refine⟨by show 4<=sizeLine;decide,λu hu=>?_⟩;refine⟨u,B.l-k,B.t-k,B.w+2*k,B.h+2*k,2^40,rfl,Ag,?_⟩;generalize eH:upd D u _=I;have r:Ax D I:=eH▸AB hu;clear eH;have o:FrQ g H I:=U.trans (Ax.frq r);have C:=c.same r;by_cases z:BP (B.l-k) (B.t-k) (B.w+2*k) (B.h+2*k) (2^40)
    ·rw[Z7 z];exact⟨true,rfl,Bc (kn (nb.mp z) I o C)⟩
    ·rw[X4 z];exact⟨false,rfl,BJ ⟨by show 1<=100;decide,kf (λy=>z (nb.mpr y)) I o C⟩⟩
end
theorem bare0{G r:Gv}(e:G=G0++r)(ok:GOk G):Al G (bareN 1) ((0+1:Nat):Int)/\IT G 0 (bareN 1)/\∀x y,fieldF G 0 (bareN 1) x y=0:=by
 refine⟨Ds e (n:=1) A3,.inl rfl,λx y=>?_⟩;unfold fieldF;by_cases z:-(2^0)<=x/\x<2^0/\-(2^0)<=y/\y<2^0
 ·rw[X5 z];exact El e ok (n:=1) A3 (by show _<2;have:(2:Int)^0=1:=rfl;lia) (by show _<2;have:(2:Int)^0=1:=rfl;lia)
 ·rw[Z8 z]
theorem near_lt{φ:Int->Int->Nat}{k:Nat}(h:Em φ k){x y:Int}(a:φ x y≠0):k<2^40:=by
 have:=h x y a;lia
theorem UY{r:Az}(re:CK r 0 Cd=0){φ:Int->Int->Nat}{k t:Nat}(h:Em φ k)(tk:t<=k){x y:Int}(b:sFN r t φ x y≠0):-(2^40)<=x/\x<2^40/\-(2^40)<=y/\y<2^40:=by
 obtain⟨u,v,d,e,c,f,a⟩:=Oe re b;have:=h u v a;lia
theorem Uw{G r:Gv}(e:G=G0++r)(ok:GOk G){n f:Nat}(b:n<=47)(t:IT G n f)(h:∀x y,fieldF G n f x y≠0->-(2^40)<=x/\x<2^40/\-(2^40)<=y/\y<2^40):n<=40:=by
 refine P4 λz=>?_;obtain⟨m,rfl⟩:∃m,n=m+1:=⟨n-1,by lia⟩
 obtain⟨x,y,c,a⟩:=RT e ok A0 t;have:=h x y a;have p:2^40<=2^m:=O3 A3 A0;have d:((2^m:Nat):Int)=2^m:=F9 2 m;lia
def Us(Κ:KTy)(r:Az)(φ:Int->Int->Nat)(k:Nat):Prop:=∀(j l:Nat)(G:Gv)(f:Nat),k/2^j%2=1->j<=l->l<=41->GOk G->Al G f ((l+1+1:Nat):Int)->(∀x y,fieldF G (l+1) f x y=sFN r (k%2^j) φ x y)->Κ l j (Cf G (l+2) f)
theorem kg_ask{r:Az}{F:List (Int->Int->Nat)}{T k t:Nat}{φ:Int->Int->Nat}(m:φ∈F)(h:k+t<=T):Us (Kg r F T) r (sFN r t φ) k:=λj l G f e g c ok b a=>by
 refine fld_kg (t:=k%2^j+t) ok A0 b m ?_ λx y=>by rw[a,<-LI]
 have d:=O7 k (2^j);have p:2^j*1<=2^j*(k/2^j):=L7 _ A0;lia
def VH(H:Hp)(G:Gv)(ψ:Int->Int->Nat)(ts:List Addr):Prop:=∃(t:Addr)(sq e res l:Nat),ts.getLast?=some t/\H t=some (.tup [.int sq,.int e,.int res])/\l<=41/\Al G res ((l+1:Nat):Int)/\∀x y,fieldF G l res x y=ψ x y
section
variable{P:Program}{w:World}{K:W.Frag}{mg:Str->Option Value}{base:Heap}{a:Ad}
inductive SpRdG(a:Ad)(vs:List V)(H:Hp)(Q:VK)(E:XK):Prop
 |mk (p dx mem pr:Addr) (g:GA) (G:Gv) (Κ:KTy) (φ:Int->Int->Nat) (N b:Nat) (r:Az) (m:MA) (f n k:Nat) (_:vs=[.ref p,.int f,.int (k:Int)]) (_:ZS a H g G Κ N b p dx mem pr r m) (_:JY Κ N) (_:ClK r Κ) (_:Em φ k->Us Κ r φ k) (_:Al G f ((n+1:Nat):Int)) (_:n<=40) (_:IT G n f) (_:∀x y,fieldF G n f x y=φ x y) (_:b+12000+10*N<7900000) (_:Em φ k->∀(L:Addr)(ts:List Addr)(G':Gv)(H':Hp)(i:Nat),FrZ g m H H'->ZS a H' g G' Κ N (b+12000) p dx mem pr r m->AI G G' i->H L=none->H' L=some (.lst (ts.map V.ref))->((ts=[]/\∀x y,sFN r k φ x y=φ x y)\/VH H' G' (sFN r k φ) ts)->Q (.ref L) H') (_:¬Em φ k->∀H',FrZ g m H H'->ZS a H' g G Κ N b p dx mem pr r m->E (.ref a.x_TooFar) none H'):SpRdG a vs H Q E
def Yn(a:Ad):Sp:=λvs H Q E=>SpRdG a vs H Q E
theorem ok_rdg(F:Fun K "road" "road" Ty f fd)(T:Top K mg a)(bU:Cal P w K mg base (CXE P w) 103 "check_leap" Iy (Yx a))(bV:Cal P w K mg base CX0 1 "bare_field" Re (QF a))(cA:Cal P w K mg base CX0 5 "level_for" Jk (Yt a))(bS:Cal P w K mg base CX0 5 "widened_to" Iv (spWT a))(bK:BK P w K mg base CX0 149 a.c_Jumps "after" Pt (FZ a 46))(aP:Cal P w K mg base CX0 4 "trimmed" JK (NM a)):AJ P w K mg base (CXE P w) 150 f fd QR (Yn a):=by
 refine F.okE DK (λvs H Q E h=>?_) (λcv A b7 s H vs Q E hr h=>?_)
 ·obtain⟨p,dx,mem,pr,g,G,Κ,φ,N,b,r,m,f',n,k,rfl,_⟩:=h;rfl
 ·obtain⟨p,dx,mem,pr,g,G,Κ,φ,N,b,r,m,f',n,k,rfl,zs,fin,cl,bd,lf,ba,tr,hf,few,kn,kf⟩:=h;refine⟨_,(Ae (An (i:=3) DK.nd rfl (Or.inl rfl) (AC (pv 0) rfl)) (Ae (Co (Ap bU (rm hr) rfl passE (Aa (pv 3) (Aa (pv 1) (Aa (pv 2) Ab))))) (Ae (An (i:=4) DK.nd rfl (Or.inl rfl) (CS Ab)) (Ae (An (i:=5) DK.nd rfl (Or.inl rfl) (pv 1)) (Ae (An (i:=6) DK.nd rfl (Or.inl rfl) (pv 2)) (Ae (An (i:=7) DK.nd rfl (Or.inl rfl) Ac) (Ae (Jg PassesOwn.leaving (PW.pt (Lo (Aw MO (pv 6) Ac (AD _)) (Ip (Aw MN (pv 5) (Ap bV (rm hr) rfl Ao (Aa (pv 3) Ab)) (AD _))))) (Ae (AN (Aw Cy (Ay BG (pv 6) Ac) Ac (AD _)) (Ae (An (i:=8) DK.nd rfl (Or.inl rfl) (Ap bS (rm hr) rfl Ao (Aa (pv 3) (Aa (pv 5) (Aa (Ap cA (rm hr) rfl Ao (Aa (pv 3) (Aa (pv 5) (Aa (pv 7) Ab)))) Ab))))) (Ae (An (i:=9) DK.nd rfl (Or.inl rfl) (AF (pv 0) bK (rm hr) Ao (Aa (pv 8) (Aa (pv 7) Ab)))) (Ae (Co (GK K6 A0d A0e Ek (pv 4) (Bu (Aa (pv 8) (Aa (pv 7) (Aa (pv 9) Ab))) Ab))) (Af (An (i:=5) DK.nd rfl (Or.inl rfl) (Ap aP (rm hr) rfl Ao (Aa (pv 3) (Aa (pv 9) Ab)))))))) AE) (Ae (An (i:=6) DK.nd rfl (Or.inl rfl) (Ay Du (pv 6) Ac)) (Af (An (i:=7) DK.nd rfl (Or.inl rfl) (Ay AQ (pv 7) Ac)))))) (Af (Ar (pv 4)))))))))),?_⟩
  try dsimp only[cxK]
  have sz:=zs.jz.sz fin;have re:=zs.jz.jw.rest;have ro:=zs.jz.jw.rok;refine Bv ?_;intro r1 s1 k1 a7 E1;refine xwf rfl rfl zs.jz.jw.hp T.cl_Jumps T.na_Jumps_grove (DX _ _ _ _ _) ?_;refine a7 ?_;refine Bv ?_;intro r2 s2 k2 bj E2;refine xw3 rfl rfl rfl (.mk g G f' n k rfl zs.fu lf A0 A0 (λnr H1 fq an=>?_) (λnn H1 fq an=>kf (λz=>nn λx y h=>z x y (by rw[<-hf];exact h)) H1 (FrQ.z fq) (zs.frQ fq an)));have nr:Em φ k:=λx y h=>nr x y (by rw[hf];exact h);have as:=zs.frQ fq an;have bx:FrZ g m H H1:=FrQ.z fq;refine bj ?_;refine Bv ?_;intro r3 s3 k3 bi E3;refine⟨by show 0<=sizeLine;decide,λL nL=>?_⟩;generalize eH:upd H1 L _=H2;have av:Ax H1 H2:=eH▸AB nL;have bz:H2 L=some (.lst (([]:List Addr).map V.ref)):=eH▸Ag;clear eH;have cd:=as.same av;obtain⟨a6,ch⟩:=as.new nL;have I:=as.ap nL;refine bi ?_;refine Bv ?_;intro r4 s4 k4 a8 E4;refine xq1 rfl (a8 ?_);refine Bv ?_;intro r5 s5 k5 bn E5;refine xq1 rfl (bn ?_);refine Bv ?_;intro r6 s6 k6 bw E6;refine bw ?_;refine Bv ?_;intro r7 s7 k7 b0 E7;have az:H L=none:=by
   cases e:H L with
   |none=>rfl
   |some o =>
    have h1:=fq L o e (λz=>a6 (by simp[z])) (λz=>a6 (by simp[z]));rw[nL]at h1;cases h1
  have bc:FrZ g m H H2:=bx.trans (Ax.z av);have bt:k/2^0=k:=by rw[Nat.pow_zero,Nat.div_one]
  have ax:k%2^0=0:=by rw[Nat.pow_zero,Nat.mod_one]
  refine⟨fun μ σ H3=>∃(j:Nat)(B:Gv)(q:List Addr)(h c:Nat)(u8 u9:Option V)(i:Nat),σ=[some (.ref p),some (.int f'),some (.int (k:Int)),some (.ref g.p),some (.ref L),some (.int h),some (.int ((k/2^j:Nat):Int)),some (.int (j:Int)),u8,u9]/\j+μ=41/\FrZ g m H H3/\ZS a H3 g B Κ N (b+270*q.length) p dx mem pr r m/\AI G B i/\H3 L=some (.lst (q.map V.ref))/\q.length<=j/\(c<=40/\Al B h ((c+1:Nat):Int)/\IT B c h/\∀x y,fieldF B c h x y=sFN r (k%2^j) φ x y)/\((q=[]/\∀x y,sFN r (k%2^j) φ x y=φ x y)\/VH H3 B (sFN r (k%2^j) φ) q),⟨41,0,G,[],f',n,none,none,0,(by rw[bt];rfl),rfl,bc,cd,AI.refl zs.fu.ok,bz,C5 _,⟨ba,lf,tr,by rw[ax];exact hf⟩,.inl ⟨rfl,by rw[ax];exact λ_ _=>rfl⟩⟩,?_⟩;rintro μ σ H3 ⟨j,B,q,h,c,u8,u9,i,rfl,jm,ar,C,aq,al,tl,⟨ah,lh,th,fh⟩,la⟩;have cu:=C.jz.sz fin;obtain⟨cw,e3⟩:=C.fu.g0;have ai:(k/2^j=0\/h=bareN 1)->k7 [some (.ref p),some (.int f'),some (.int (k:Int)),some (.ref g.p),some (.ref L),some (.int h),some (.int ((k/2^j:Nat):Int)),some (.int (j:Int)),u8,u9] H3:=λex=>by
   have eq:sFN r k φ=sFN r (k%2^j) φ:=by
    rcases ex with ex|rfl
    ·have:k%2^j=k:=by
      have:=O7 k (2^j);rw[ex,Z2,N9]at this;exact this
     rw[this]
    ·obtain⟨b1,b2,b3⟩:=bare0 e3 C.fu.ok;have n0:c=0:=by
      have:=lh.one b1;lia
     subst n0;have z:sFN r (k%2^j) φ=λ_ _=>0:=by
      funext x y
      rw[<-fh,b3]
     have:=LI r φ (k%2^j) (2^j*(k/2^j));rw[O7]at this;rw[this,z,Fp re]
   refine b0 ?_;refine xq1 rfl (kn nr L q B H3 i ar (C.mono A0) aq az al ?_);rw[eq];exact la
  refine⟨_,rfl,_,_,rfl,rfl,_,rfl,EC (λY=>?_) (λY=>?_)⟩
  ·have Y:((k/2^j:Nat):Int) > 0:=K2 Y;have kj:k/2^j≠0:=by lia
   refine⟨_,rfl,_,rfl,g,B,rfl,C.fu,rfl,_,rfl,?_⟩;by_cases hb:h=bareN 1
   ·subst hb;rw[Z7 rfl];exact Bc (ai (.inr rfl))
   ·rw[X4 (λz=>hb (by injection z with z;exact X8 z))];refine BJ ?_;obtain⟨x0,y0,h0⟩:∃x y,φ x y≠0:=by
     refine X9 λno=>hb ?_;have z:φ=λ_ _=>0:=by
      funext x y
      exact X9 λz=>no ⟨x,y,z⟩
     obtain⟨b1,b2,b3⟩:=bare0 e3 C.fu.ok;refine(OM e3 C.fu.ok A0 A3 lh b1 th b2 λx y=>?_).2;rw[b3,fh,z,Fp re]
    have cc:=near_lt nr h0;have cq:j<40:=by
     refine V2 λz=>kj (N6 (F6 cc (O3 A3 z)))
    refine⟨fun σ' O=>∃(j:Nat)(B:Gv)(q:List Addr)(h c:Nat)(u8 u9:Option V)(i:Nat),σ'=[some (.ref p),some (.int f'),some (.int (k:Int)),some (.ref g.p),some (.ref L),some (.int h),some (.int ((k/2^j:Nat):Int)),some (.int (j:Int)),u8,u9]/\j+(μ-1)=41/\FrZ g m H O/\ZS a O g B Κ N (b+270*q.length) p dx mem pr r m/\AI G B i/\O L=some (.lst (q.map V.ref))/\q.length<=j/\(c<=40/\Al B h ((c+1:Nat):Int)/\IT B c h/\∀x y,fieldF B c h x y=sFN r (k%2^j) φ x y)/\((q=[]/\∀x y,sFN r (k%2^j) φ x y=φ x y)\/VH O B (sFN r (k%2^j) φ) q),fun σ' O z=>⟨μ-1,by lia,z⟩,?_⟩;have dv:k/2^(j+1)=k/2^j/2:=by rw[D9,Nat.div_div_eq_div_mul]
    have md:k%2^(j+1)=k%2^j+2^j*(k/2^j%2):=Nat.mod_pow_succ;refine Bv ?_;intro r8 s8 k8 b6 E8;apply OD (T:=k8) (fun σ' O=>∃(B:Gv)(q:List Addr)(h c:Nat)(u8 u9:Option V)(i:Nat),σ'=[some (.ref p),some (.int f'),some (.int (k:Int)),some (.ref g.p),some (.ref L),some (.int h),some (.int ((k/2^j:Nat):Int)),some (.int (j:Int)),u8,u9]/\FrZ g m H O/\ZS a O g B Κ N (b+270*q.length) p dx mem pr r m/\AI G B i/\O L=some (.lst (q.map V.ref))/\q.length<=j+1/\(c<=40/\Al B h ((c+1:Nat):Int)/\IT B c h/\∀x y,fieldF B c h x y=sFN r (k%2^(j+1)) φ x y)/\((q=[]/\∀x y,sFN r (k%2^(j+1)) φ x y=φ x y)\/VH O B (sFN r (k%2^(j+1)) φ) q))
    ·intro U;refine xwb rfl rfl rfl ⟨B1,rfl,(xq1 rfl (EC (λY=>?_) (λY=>?_)))⟩
     ·have Y:((k/2^j:Nat):Int)%2=1:=by
       have:=K2 Y;injection this
      have od:k/2^j%2=1:=by lia
      have tk:2^j+k%2^j<=k:=by
       have d:=O7 k (2^j);have p:2^j*1<=2^j*(k/2^j):=L7 _ A0;lia
      refine Bv ?_;intro r9 s9 k9 am E9;refine⟨_,rfl,_,rfl,_,rfl,_,rfl,_,rfl,⟨g,B,h,c,j,rfl,C.fu.at',lh,ah,by lia,λl a5 nl jl le=>?_⟩⟩;have el:c+(l+1-c)+1=l+2:=by lia
      refine⟨g,B,h,c,l+1-c,by rw[el];rfl,C.fu,lh,by lia,by lia,λv G2 O ao R X wn lv=>?_⟩;have M:=C.fr ao R X;have cf:=M.jz.sz fin;obtain⟨r4,e4⟩:=R.g0;have wf:∀x y,fieldF G2 (l+1) v x y=sFN r (k%2^j) φ x y:=λx y=>by
       have:=GU e4 R.ok (k:=l+1-c) (w:=v) A0 wn x y;rw[show c+(l+1-c)=l+1 by lia]at this;rw[this,Di C.fu.ok X lh,fh]
      have af:Al G2 v ((l+1+1:Nat):Int):=by rw[show l+1+1=c+(l+1-c)+1 by lia];exact lv
      have a3:=aq.trans X;refine am ?_;refine Bv ?_;intro co cn ck a4 ci;refine xwn rfl rfl M.jz.jw.hp (Wl _ _ _ _ _) rfl (xq1 rfl ⟨p,dx,mem,pr,g,G2,Κ,N,_,r,m,v,l,j,rfl,M.jz,fin,cl,af,by lia,jl,bd nr j l G2 v od jl a5 R.ok af wf,by lia,λD G3 H5 i5 fj cb Z jr up=>?_⟩);have ad:=M.aft fj cb Z;have cj:=ad.jz.sz fin;have b9:FrZ g m H H5:=(ar.trans (Fr.z ao)).trans (FrJ.z fj);have bq:∀x y,fieldF G3 (l+1) v x y=sFN r (k%2^j) φ x y:=λx y=>by rw[Di R.ok Z af];exact wf x y
      obtain⟨lr,rs⟩:=fld_jg ad.fu.ok ro re (Z.lev af) jr bq (λx y ag=>by
       rw[<-fh]at ag;have p0:((2^c:Nat):Int)=2^c:=F9 2 c;have p1:((2^l:Nat):Int)=2^l:=F9 2 l;have p3:((2^j:Nat):Int)=2^j:=F9 2 j;have:=X9 λz:¬(-(2^c)<=x/\x<2^c/\-(2^c)<=y/\y<2^c)=>ag (by unfold fieldF;rw[Z8 z]);lia)
      have rs:∀x y,fieldF G3 l D x y=sFN r (k%2^(j+1)) φ x y:=λx y=>by rw[rs,<-LI,md,od,Nat.mul_one,Nat.add_comm]
      have aw:H5 L=some (.lst (q.map V.ref)):=FrJ.z fj _ _ (Fr.z (m:=m) ao _ _ al I.n0 I.n1) I.n0 I.n1;refine a4 ?_;refine Bv ?_;intro ct cg cp a2 cx;refine⟨_,rfl,.inl ⟨rfl,_,SqL.of aw⟩,_,rfl,_,rfl,_,rfl,by show 3<=sizeLine;decide,λt nt=>?_⟩;have aa:=AB (o:=.tup [.int (v:Int),.int (j:Int),.int (D:Int)]) nt;have ak:upd H5 t (.tup [.int (v:Int),.int (j:Int),.int (D:Int)]) t=some (.tup [.int (v:Int),.int (j:Int),.int (D:Int)]):=Ag;generalize upd H5 t (.tup [.int (v:Int),.int (j:Int),.int (D:Int)])=H6 at aa ak⊢;have bl:=ad.same aa;have aj:=aa _ _ aw;refine⟨L,_,_,rfl,rfl,aj,by rw[B8];exact IR A0,?_⟩;have ae:=bl.putL (o:=.lst (q.map V.ref++[.ref t])) aj I;have a0:upd H6 L (.lst (q.map V.ref++[.ref t])) t=some (.tup [.int (v:Int),.int (j:Int),.int (D:Int)]):=by rw[As (AG ak aj A4)];exact ak
      have au:FrZ g m H (upd H6 L (.lst (q.map V.ref++[.ref t]))):=λb' o e n1 n2=>by
       rw[As (AA e az)];exact aa _ _ (b9 _ _ e n1 n2)
      have ay:upd H6 L (.lst (q.map V.ref++[.ref t])) L=some (.lst ((q++[t]).map V.ref)):=by rw[Ag,D4];rfl
      generalize upd H6 L (.lst (q.map V.ref++[.ref t]))=H7 at ae a0 au ay⊢;refine a2 ?_;refine xw2 rfl rfl ⟨g,G3,D,l,rfl,ae.fu,lr,by lia,λnw G8 H8 ab ac S br=>?_⟩;have bg:=ae.fr ab ac S;obtain⟨r8,e8⟩:=ac.g0;obtain⟨m8,cr,ce,a1,bh⟩:=GW e8 ac.ok A0 (S.lev lr) br;have fa:∀x y,fieldF G8 l D x y=sFN r (k%2^(j+1)) φ x y:=λx y=>by rw[Di ad.fu.ok S lr];exact rs x y
      have fe:∀x y,fieldF G8 m8 nw x y=sFN r (k%2^(j+1)) φ x y:=λx y=>by rw[bh,fa]
      have bb:k%2^(j+1)<=k:=Nat.mod_le _ _;have a9:=Uw e8 ac.ok A0 a1 (λx y ag=>UY re nr bb (by rw[<-fe];exact ag));have ca:=ae.keep (Fr.z ab) a0 (by intro xs z;cases z) (by intro xs z;cases z) (by intro xs z;cases z);have b4:H8 L=some (.lst ((q++[t]).map V.ref)):=Fr.z (m:=m) ab _ _ ay I.n0 I.n1;have bf:=(a3.trans Z).trans S;refine U _ _ ⟨G8,q++[t],nw,m8,_,_,_,rfl,au.trans (Fr.z ab),bg.mono ?_,bf,b4,by rw[C6];show q.length+1<=_;lia,⟨a9,ce,a1,fe⟩,.inr ⟨t,v,j,D,l,by rw[List.getLast?_append];rfl,ca,a5,S.lev lr,fa⟩⟩;rw[C6];show _<=b+270*(q.length+1)
      lia
     ·have Y:¬((k/2^j:Nat):Int)%2=1:=λz=>Y (Z7 (K3 V.int z));have ev:k/2^j%2=0:=by lia
      have md:k%2^(j+1)=k%2^j:=by rw[md,ev,Z2,Nat.add_zero]
      exact U _ _ ⟨B,q,h,c,u8,u9,i,rfl,ar,C,aq,al,by lia,by rw[md];exact⟨ah,lh,th,fh⟩,by rw[md];exact la⟩
    ·rintro σ' O ⟨G2,b5,h2,bv,v8,v9,i2,rfl,bp,M,X,bm,b8,bu,bo⟩;refine b6 ?_;refine Bv ?_;intro r9 s9 k9 am E9;refine xwb rfl rfl rfl ⟨⟨by decide,by decide⟩,?_⟩;refine am ?_;have ed:((k/2^j:Nat):Int)/2=((k/2^(j+1):Nat):Int):=by rw[dv];lia
     have ej:(j:Int)+1=((j+1:Nat):Int):=by lia
     refine xwb rfl rfl rfl ⟨j+1,G2,b5,h2,bv,v8,v9,i2,?_,by lia,bp,M,X,bm,b8,bu,bo⟩;exact(K3 (λu:Int=>[some (V.ref p),some (V.int f'),some (V.int (k:Int)),some (V.ref g.p),some (V.ref L),some (V.int h2),some (V.int u),some (V.int ((j:Int)+1)),v8,v9]) ed).trans (K3 (λv:Int=>[some (V.ref p),some (V.int f'),some (V.int (k:Int)),some (V.ref g.p),some (V.ref L),some (V.int h2),some (V.int ((k/2^(j+1):Nat):Int)),some (V.int v),v8,v9]) ej)
  ·have Y:¬((k/2^j:Nat):Int) > 0:=λz=>Y (Z7 z);exact Bc (ai (.inl A0))
end
theorem ifT{b:Bool}{A B:Prop}(h:b=true)(x:A):if b=true then A else B:=by rw[h];exact BJ x
theorem ifF{b:Bool}{A B:Prop}(h:b=false)(x:B):if b=true then A else B:=by rw[h];exact Bc x
structure Fv(G:Gv)(f:Nat)(φ:Int->Int->Nat):Prop where
 ex:∃n:Nat,n<=40/\Al G f ((n+1:Nat):Int)/\IT G n f/\∀x y,fieldF G n f x y=φ x y
theorem Fv.app{G b:Gv}{k f:Nat}{φ:Int->Int->Nat}(ok:GOk G)(go:AI G b k)(h:Fv G f φ):Fv b f φ:=by
 obtain⟨n,d,a,c,e⟩:=h.ex;exact⟨n,d,go.lev a,c.app go,λx y=>by rw[Di ok go a];exact e x y⟩
theorem Fv.eq{G r:Gv}(g:G=G0++r)(ok:GOk G){f a:Nat}{φ ψ:Int->Int->Nat}(h:Fv G f φ)(h':Fv G a ψ)(e:∀x y,φ x y=ψ x y):f=a:=by
 obtain⟨n,o,d,c,k⟩:=h.ex;obtain⟨m,l,j,b,i⟩:=h'.ex;exact(OM g ok A0 A0 d j c b λx y=>by rw[k,i,e]).2
theorem Fv.to{G:Gv}{f:Nat}{φ ψ:Int->Int->Nat}(h:Fv G f φ)(e:∀x y,φ x y=ψ x y):Fv G f ψ:=by
 obtain⟨n,c,d,a,b⟩:=h.ex;exact⟨n,c,d,a,λx y=>by rw[b,e]⟩
section
variable{P:Program}{w:World}{K:W.Frag}{mg:Str->Option Value}{base:Heap}{a:Ad}
inductive SpJpG(a:Ad)(vs:List V)(H:Hp)(Q:VK)(E:XK):Prop
 |mk (p dx mem pr:Addr) (g:GA) (G:Gv) (Κ:KTy) (φ:Int->Int->Nat) (N b:Nat) (r:Az) (m:MA) (f k:Nat) (_:vs=[.ref p,.int f,.int (k:Int)]) (_:ZS a H g G Κ N b p dx mem pr r m) (_:JY Κ N) (_:ClK r Κ) (_:Em φ k->Us Κ r φ k) (_:Fv G f φ) (_:b+12000+10*N<7900000) (_:Em φ k->∀(d:Nat)(G':Gv)(H':Hp)(i:Nat),FrZ g m H H'->ZS a H' g G' Κ N (b+12048) p dx mem pr r m->AI G G' i->Fv G' d (sFN r k φ)->Q (.int d) H') (_:¬Em φ k->∀H',FrZ g m H H'->ZS a H' g G Κ N b p dx mem pr r m->E (.ref a.x_TooFar) none H'):SpJpG a vs H Q E
def UI(a:Ad):Sp:=λvs H Q E=>SpJpG a vs H Q E
theorem Za(F:Fun K "jump" "jump" Tz f fd)(T:Top K mg a)(cS:Cal P w K mg base (CXE P w) 150 "road" QR (Yn a))(aP:Cal P w K mg base CX0 4 "trimmed" JK (NM a)):AJ P w K mg base (CXE P w) 151 f fd QR (UI a):=by
 refine F.okE UN (λvs H Q E h=>?_) (λah A U s H vs Q E hr h=>?_)
 ·obtain⟨p,dx,mem,pr,g,G,Κ,φ,N,b,r,m,f',k,rfl,_⟩:=h;rfl
 ·obtain⟨p,dx,mem,pr,g,G,Κ,φ,N,b,r,m,f',k,rfl,M,fin,cl,ab,fv,few,kn,kf⟩:=h;obtain⟨n,R,lf,tr,hf⟩:=id fv.ex;have re:=M.jz.jw.rest;refine⟨_,(Ae (An (i:=3) UN.nd rfl (Or.inl rfl) (Ap cS (rm hr) rfl passE (Aa (pv 0) (Aa (pv 1) (Aa (pv 2) Ab))))) (Ae (AN (Aw Cy (Au Dk rfl T.b_len A1e (Aa (pv 3) Ab)) Ac (AD _)) (Af (Ar (pv 1))) AE) (Af (Ar (Ap aP (rm hr) rfl Ao (Aa (AC (pv 0) rfl) (Aa (Ai Aj (Ai Av (pv 3) (IQ EE Ac) (λ_ _=>rfl)) Ac (λ_ _=>rfl)) Ab))))))),?_⟩
  try dsimp only[cxK]
  refine Bv ?_;intro r1 s1 k1 I E1;refine xw3 rfl rfl rfl (.mk p dx mem pr g G Κ φ N b r m f' n k rfl M fin cl ab lf R tr hf few (λnr L q G1 H1 i1 B c u nL hL ca=>?_) kf);refine I ?_;refine Bv ?_;intro r2 s2 k2 Z E2;refine⟨_,rfl,L,_,rfl,.inl (SqL.of hL),rfl,_,rfl,?_⟩;rcases ca with ⟨rfl,ca⟩|⟨t,sq,e,v,l,Y,ht,ag,S,rs⟩
  ·exact ifT rfl ⟨_,rfl,kn nr f' G1 H1 i1 B (c.mono A0) u ((fv.app M.fu.ok u).to λx y=>(ca x y).symm)⟩
  ·have ne:q≠[]:=λz=>by rw[z]at Y;cases Y
   have tl:1<=q.length:=U1.mpr ne;refine ifF (X4 (λz=>by injection z with z;rw[B8]at z;lia)) ?_;refine Z ?_;have li:atI (q.map V.ref) (-1)=some (.ref t):=by
    unfold atI;have:ixN (q.map V.ref).length (-1)=some (q.length-1):=by
     unfold ixN;rw[B8,Z8 A3,X5 A0];congr 1;lia
    rw[this];show(q.map V.ref)[q.length-1]?=_;rw[C3,<-List.getLast?_eq_getElem?,Y];rfl
   refine xwf rfl rfl c.jz.jw.hp T.cl_Jumps T.na_Jumps_grove (DX _ _ _ _ _) ?_;refine⟨_,rfl,1,rfl,L,_,-1,.ref t,rfl,rfl,SqL.of hL,li,t,_,2,.int (v:Int),rfl,rfl,SqT.of ht,Ah (j:=2) rfl,?_⟩;have ai:=c.jz.sz fin;refine⟨g,G1,v,l,rfl,c.fu,S,by lia,λnh G8 H8 D o d af=>?_⟩;have ae:=c.fr D o d;obtain⟨r8,e8⟩:=o.g0;obtain⟨m8,aj,ad,C,X⟩:=GW e8 o.ok A0 (d.lev S) af;have ac:=u.trans d;have fe:∀x y,fieldF G8 m8 nh x y=sFN r k φ x y:=λx y=>by rw[X,Di c.fu.ok d S];exact rs x y
   have O:=Uw e8 o.ok A0 C (λx y aa=>UY re nr (C5 k) (by rw[<-fe];exact aa));exact kn nr nh G8 H8 _ (B.trans (Fr.z D)) (ae.mono A0) ac ⟨m8,O,ad,C,fe⟩
end
end J
namespace J
open PySem L2
theorem JC.new{a:Ad}{H b:Hp}{g:GA}{G:Gv}{N M:Nat}{r:Az}{m:MA}(f:AK a H g G)(nl:H m.l=none)(nk:H m.kc=none)(h:b m.tp=some (.tup [.ref m.l,.ref m.kc]))(k:b m.l=some (.lst (m.ds.map V.ref)))(u:b m.kc=some (.dT []))(i:∀d∈m.ds,b d=some (.dK []))(s:m.ds.length=47)(q:m.ds.Nodup):JC b g G N M r m:=by
 obtain⟨x,j,_⟩:=f.pt;exact⟨h,k,⟨K1 (AA f.lv nl),K1 (AA j nl),K1 (AA f.nm nk)⟩,s,q,λe d o=>⟨[],i d (F1 o),M6 _,λp t=>(nomatch t),λn v c=>by cases c⟩,⟨[],u,M6 _,λw v c=>by cases c⟩⟩
def zL(g:GA)(m:MA):List Addr:=[g.lv,g.pt,g.nm,g.am,g.bx,m.kc]++m.ds
section
variable{a:Ad}{H H':Hp}{g:GA}{G G':Gv}{Κ:KTy}{N b i:Nat}{p dx mem pr:Addr}{r:Az}{m:MA}
theorem FrZ.fx(h:ZS a H g G Κ N b p dx mem pr r m)(f:FrZ g m H H'):Fx (zL g m) H H':=λx o e z=>by
 obtain⟨u,d,_⟩:=h.fu.at'.pt;obtain⟨s,q,_⟩:=h.fu.am;obtain⟨v,b1,_⟩:=h.fu.bx;obtain⟨t,n,_⟩:=h.jz.jw.me.ce;refine f x o e (λy=>?_) (λy=>?_)
 ·have c:=z (D3.mpr (.inl y));clear z;simp only[C1,D6,K7]at y;rcases y with y|y|y|y|y|y<;>subst y
  ·rw[h.fu.at'.lv]at e;cases e;exact c
  ·rw[d]at e;cases e;exact c
  ·rw[h.fu.at'.nm]at e;cases e;exact c
  ·rw[q]at e;cases e;exact c
  ·rw[b1]at e;cases e;exact c
  ·rw[n]at e;cases e;exact c
 ·have c:=z (D3.mpr (.inr y));obtain⟨j,l⟩:=M0 y;obtain⟨w,k,_⟩:=h.jz.jw.me.sq j x l;rw[k]at e;cases e;exact c
theorem jnew{Q:VK}{c:Hp}(B:Bd a c g G)(ro:JB r)(rz:CK r 0 Cd=0)(V:Ct a c pr (Dn r) r)(X:c p=none)(O:c dx=none)(S:dx≠p)(few:G.length<=b)(k:∀(n:Hp)(mem:Addr)(m:MA),Ax c n->ZS a n g G Κ N b p dx mem pr r m->(∀y∈m.l::m.kc::m.ds,c y=none)->n mem=some (.dK (mK [(Dn r,m)]))->c mem=none->mem∉m.ds->Q .non n):RN a [.ref p,.ref g.p,.ref pr] (upd (upd c dx (.own p)) p (.ins a.c_Jumps dx [])) Q:=by
 have nq:upd c dx (.own p) p=none:=by rw[As (K1 S)];exact X
 have T:Ax c (upd (upd c dx (.own p)) p (.ins a.c_Jumps dx [])):=(show Ax c _ from AH O).trans (AH nq);refine⟨p,dx,g.p,pr,Dn r,r,rfl,Ag,V.same T,λn mem m U t I s f C hl x w D P K=>?_⟩;have q:Ax c n:=λb o e=>U b o (T b o e) (AA e X);have mn:∀{y:Addr},upd (upd c dx (.own p)) p (.ins a.c_Jumps dx []) y=none->c y=none:=λ{y} e=>Ax.noneN T e;have d:=B.same q;have hw:JC n g G N (b+10*N) r m:=(JC.new (N:=0) (M:=0) B.at' (mn f.2.1) (mn f.2.2.1) C hl x w D P).mono (M6 _) (M6 _);have h:∀dd∈m.ds,c dd=none:=λdd R=>mn (f.2.2.2 dd R);obtain⟨Z,e5⟩:=B.g0;have E:Bs G:=λj hj=>by
  have:=NC j hj;rw[e5];exact LT this
 obtain⟨ka,v,_⟩:=B.am;obtain⟨kb,u,_⟩:=B.bx;refine k n mem m q ⟨⟨⟨d.at',d.ok,E,d.br,⟨d.n1,d.n2⟩,I,V.same q,ro,rz,hw⟩,λ_=>0,λe dd ed=>⟨[],w dd (F1 ed),rfl,P6,λk Y=>nomatch Y⟩,D0 few (V3 _ _),[],x,M6 _⟩,d,λz=>?_,λz=>?_⟩ (λy A=>?_) s (mn t) (λz=>K mem z rfl)
 ·rw[h _ z]at v;cases v
 ·rw[h _ z]at u;cases u
 ·rcases C1.mp A with rfl|A
  ·exact mn f.2.1
  ·rcases C1.mp A with rfl|A
   ·exact mn f.2.2.1
   ·exact h y A
end
theorem Sol.uniq{G:Gv}(ok:GOk G){s:Nat}:∀{l n m:Nat},Sol G s l n->Sol G s l m->n=m
 |0,n,m,h,c=>by
  have h:n=s:=h;have c:m=s:=c;rw[h,c]
 |l+1,n,m,h,c=>by
  obtain⟨a,f,d⟩:=h;obtain⟨b,e,g⟩:=c;have:=Sol.uniq ok f e;subst this;exact ok.one d g rfl
structure FL(G:Gv)(n i o:Nat)(l t r b:Int)(m:Nat):Prop where
 lev:Al G m (n:Int)
 cell:∀x y:Nat,x<2^n->y<2^n->CJ G n m x y=if(l<=x/\(x:Int)<r)/\(t<=y/\(y:Int)<b)then CJ G n i x y else CJ G n o x y
theorem FL.app{G d:Gv}{k n i o m:Nat}{l t r b:Int}(ok:GOk G)(go:AI G d k)(e:Al G i (n:Int))(f:Al G o (n:Int))(h:FL G n i o l t r b m):FL d n i o l t r b m:=⟨go.lev h.lev,λx y c a=>by rw[Jz ok go h.lev c a,Jz ok go e c a,Jz ok go f c a];exact h.cell x y c a⟩
def spl(s e h:Int):Nat->Int×Int
 |0=>(s,if h<e then h else e)
 |_=>(if s-h<0 then 0 else s-h,e-h)
theorem Ni{s e:Int}{n x u:Nat}(g:x<2^(n+1))(f:x/2^n=u):((spl s e (2^n) u).1<=((x%2^n:Nat):Int)/\((x%2^n:Nat):Int)<(spl s e (2^n) u).2)↔(s<=x/\(x:Int)<e):=by
 have p:(0:Int)<2^n:=Iu n;have d:(2:Int)^n=((2^n:Nat):Int):=by exact_mod_cast rfl
 have a:=O7 x (2^n);have lt:=M8 x (AU n);have b:=IJ g;rw[f]at a b;rw[d]at p⊢;generalize 2^n=h at *
 match u,b with
 |0,_ =>
  have c:x%h=x:=by rw[Z2,N9]at a;exact a
  show(s<=((x%h:Nat):Int)/\((x%h:Nat):Int)<if(h:Int)<e then(h:Int)else e)↔_;rw[c];split<;>lia
 |1,_ =>
  have c:x=h+x%h:=by rw[Nat.mul_one]at a;exact a.symm
  show((if s-(h:Int)<0 then(0:Int)else s-h)<=((x%h:Nat):Int)/\((x%h:Nat):Int)<e-h)↔_;split<;>lia
theorem FL.join{G:Gv}{n i o m:Nat}{l t r b:Int}{K I:Sq}{E g d v u D C w:Nat}{a:Nat->Nat}(N:Cu G n i K E g d v)(no:Cu G n o I u D C w)
  (h:∀k,k<4->FL G n (f4 E g d v k) (f4 u D C w k) (spl l r (2^n) (k%2)).1 (spl t b (2^n) (k/2)).1 (spl l r (2^n) (k%2)).2 (spl t b (2^n) (k/2)).2 (a k))
  (B:G[m]?=some ⟨[(a 0:Int),(a 1:Int),(a 2:Int),(a 3:Int)],(n:Int)+1⟩):FL G (n+1) i o l t r b m:=by
 have nm:Cu G n m _ (a 0) (a 1) (a 2) (a 3):=⟨B,rfl,rfl,(h 0 A3).lev,(h 1 A3).lev,(h 2 A3).lev,(h 3 A3).lev⟩
 refine⟨⟨_,B,by show(n:Int)+1=_;lia⟩,λx y j p=>?_⟩;have O:=IJ j;have P:=IJ p;have A:quad n x y<4:=by unfold quad;lia
 have c:=(h _ A).cell (x%2^n) (y%2^n) (M8 _ (AU n)) (M8 _ (AU n));have f:f4 (a 0) (a 1) (a 2) (a 3) (quad n x y)=a (quad n x y):=by
  match quad n x y,A with
  |0,_=>rfl
  |1,_=>rfl
  |2,_=>rfl
  |3,_=>rfl
 have H:quad n x y%2=x/2^n:=by unfold quad;lia
 have M:quad n x y/2=y/2^n:=by unfold quad;lia
 rw[Ba nm j p,f,c,Ba N j p,Ba no j p,H,M];have g:=Ni (s:=l) (e:=r) j rfl;have d:=Ni (s:=t) (e:=b) p rfl;by_cases z:(l<=(x:Int)/\(x:Int)<r)/\(t<=(y:Int)/\(y:Int)<b)
 ·rw[X5 z,X5 ⟨g.mpr z.1,d.mpr z.2⟩]
 ·rw[Z8 z,Z8 λq=>z ⟨g.mp q.1,d.mp q.2⟩]
def JX(A B:Int)(n:Nat)(s e:Int):Prop:=(s=0\/s=A%2^n)/\(e=2^n\/e=B%2^n)
theorem JX.spl{A B:Int}{n u:Nat}{s e:Int}(h:JX A B (n+1) s e)(f:(spl s e (2^n) u).1<(spl s e (2^n) u).2):JX A B n (spl s e (2^n) u).1 (spl s e (2^n) u).2:=by
 have p:(0:Int)<2^n:=Iu n;have g:(2:Int)^(n+1)=2^n+2^n:=by rw[Q8];lia
 have i:∀C:Int,C%2^n=if C%2^(n+1)<2^n then C%2^(n+1)else C%2^(n+1)-2^n:=λC=>by
  have k:=L9 C (show(2:Int)^(n+1)≠0 by lia);have d:=L5 C (show(0:Int)<2^(n+1) by lia);have b:C%2^n=(C%2^(n+1))%2^n:=(Int.emod_emod_of_dvd C ⟨2,by rw[g];lia⟩).symm;rw[b];split
  ·rename_i z;exact U6 k z
  ·rename_i z;rw[<-Int.sub_emod_right,U6 A0 A0]
 have j:=i A;have b1:=i B;have m:=L9 A (show(2:Int)^(n+1)≠0 by lia);have b2:=L9 B (show(2:Int)^(n+1)≠0 by lia);have l:=L5 A (show(0:Int)<2^(n+1) by lia);have o:=L5 B (show(0:Int)<2^(n+1) by lia);obtain⟨d,b⟩:=h;unfold JX;rw[j,b1];rw[g]at d b m b2 l o⊢;clear j b1 i g;generalize (2:Int)^n=H at *
 generalize A%(H+H)=a at *
 generalize B%(H+H)=c at *
 unfold J.spl at f⊢;split at f
 ·dsimp only at f⊢;split at f<;>rcases d with d|d<;>rcases b with b|b<;>subst d b<;>(constructor<;>split<;>lia)
 ·dsimp only at f⊢;split at f<;>rcases d with d|d<;>rcases b with b|b<;>subst d b<;>(constructor<;>split<;>lia)
theorem JX.top{A B:Int}{n:Nat}(a:0<=A)(b:A<B)(c:B<=2^n):JX A B n A B:=by
 refine⟨.inr (U6 a A0).symm,?_⟩;by_cases e:B=2^n
 ·exact .inl e
 ·exact .inr (U6 A0 A0).symm
def Clo(G:Gv)(S:List Nat):Prop:=∀o∈S,o<8\/∃(n:Nat)(q:Sq)(a b c d:Nat),Cu G n o q a b c d/\a∈S/\b∈S/\c∈S/\d∈S
theorem Clo.app{G e:Gv}{k:Nat}{S:List Nat}(go:AI G e k)(h:Clo G S):Clo e S:=λo f=>by
 rcases h o f with z|⟨n,q,a,b,c,d,g,m⟩
 ·exact .inl z
 ·exact .inr ⟨n,q,a,b,c,d,g.app go,m⟩
theorem cast4'{x y z w a b c d:Nat}(e:[(x:Int),(y:Int),(z:Int),(w:Int)]=[(a:Int),(b:Int),(c:Int),(d:Int)]):x=a/\y=b/\z=c/\w=d:=by
 injection e with e1 e
 injection e with e2 e
 injection e with e3 e
 injection e with e4 e
 exact⟨X8 e1,X8 e2,X8 e3,X8 e4⟩
theorem Clo.get{G:Gv}(ok:GOk G){S:List Nat}(h:Clo G S){n o a b c d:Nat}{q:Sq}(j:o∈S)(i:Cu G n o q a b c d):a∈S/\b∈S/\c∈S/\d∈S:=by
 rcases h o j with z|⟨l,k,r,p,s,d',f,m⟩
 ·have:=i.g;rw[ok.leaf o z]at this;cases this;have:=i.lev;have:(0:Int)=(n:Int)+1:=this;lia
 ·have e:q=k:=K0 (i.g.symm.trans f.g);subst e;obtain⟨rfl,rfl,rfl,rfl⟩:=cast4' (i.ps.symm.trans f.ps);exact m
abbrev shM:List Bool:=[false,false,true]
def kMx(i o:Nat)(l t r b:Int):NK:=[.inl (i:Int),.inl (o:Int),.inr [l,t,r,b]]
theorem Rt{i o d o':Nat}{l t r b a t' c f:Int}(e:kMx i o l t r b=kMx d o' a t' c f):i=d/\o=o'/\l=a/\t=t'/\r=c/\b=f:=by
 unfold kMx at e;injection e with e1 e
 injection e with e2 e
 injection e with e3 e
 injection e1 with e1
 injection e2 with e2
 injection e3 with e3
 injection e3 with f1 e3
 injection e3 with f2 e3
 injection e3 with f3 e3
 injection e3 with f4 e3
 exact⟨X8 e1,X8 e2,f1,f2,f3,f4⟩
structure Mc where
 s:Nat
 S:List Nat
 A:Int
 R:Int
 T:Int
 B:Int
 ro:Bool
def EV(c:Mc)(i o:Nat):Nat:=if c.ro=true then i else o
def Wb(c:Mc)(i o:Nat):Nat:=if c.ro=true then o else i
structure Pd(G:Gv)(c:Mc)(n i o:Nat):Prop where
 li:Al G i (n:Int)
 lo:Al G o (n:Int)
 so:Sol G c.s n (Wb c i o)
 mo:EV c i o∈c.S
theorem Pd.go{G a:Gv}{k:Nat}{c:Mc}{n i o:Nat}(h:Pd G c n i o)(go:AI G a k):Pd a c n i o:=⟨go.lev h.li,go.lev h.lo,Sol.goes go h.so,h.mo⟩
theorem Pd.lm{G:Gv}{c:Mc}{n i o:Nat}(h:Pd G c n i o):Al G (EV c i o) (n:Int):=by
 unfold EV;split
 ·exact h.li
 ·exact h.lo
theorem f4_in{a b c d k:Nat}{S:List Nat}(e:k<4)(h:a∈S/\b∈S/\c∈S/\d∈S):f4 a b c d k∈S:=by
 match k,e with
 |0,_=>exact h.1
 |1,_=>exact h.2.1
 |2,_=>exact h.2.2.1
 |3,_=>exact h.2.2.2
theorem Sol.part{G:Gv}{s n i a b c d:Nat}{q:Sq}(h:Sol G s (n+1) i)(l:Cu G n i q a b c d){k:Nat}(o:k<4):Sol G s n (f4 a b c d k):=by
 obtain⟨m,f,e⟩:=h;have eq:q=_:=K0 (l.g.symm.trans e);have j:=l.ps;rw[eq]at j;obtain⟨rfl,rfl,rfl,rfl⟩:=cast4' j
 match k,o with
 |0,_=>exact f
 |1,_=>exact f
 |2,_=>exact f
 |3,_=>exact f
theorem Pd.part{G:Gv}(ok:GOk G){c:Mc}(b:Clo G c.S){n i o:Nat}(h:Pd G c (n+1) i o){s r:Sq}{q g m j f e l p:Nat}(d:Cu G n i s q g m j)(no:Cu G n o r f e l p){k:Nat}(a:k<4):Pd G c n (f4 q g m j k) (f4 f e l p k):=by
 refine⟨(d.nat a).2,(no.nat a).2,?_,?_⟩
 ·have:=h.so;unfold Wb at this⊢;by_cases z:c.ro=true
  ·rw[X5 z]at this⊢;exact Sol.part this no a
  ·rw[Z8 z]at this⊢;exact Sol.part this d a
 ·have:=h.mo;unfold EV at this⊢;by_cases z:c.ro=true
  ·rw[X5 z]at this⊢;exact f4_in a (b.get ok this d)
  ·rw[Z8 z]at this⊢;exact f4_in a (b.get ok this no)
structure Ent(G:Gv)(c:Mc)(p:NK×V)(n i o:Nat)(l t r b:Int)(m:Nat):Prop where
 e:p=(kMx i o l t r b,.int m)
 pd:Pd G c n i o
 mx:FL G n i o l t r b m
 sx:JX c.A c.R n l r
 sy:JX c.T c.B n t b
structure KOk(G:Gv)(c:Mc)(kvs:List (NK×V)):Prop where
 nd:(kvs.map (·.1)).Nodup
 val:∀p∈kvs,∃n i o l t r b m,Ent G c p n i o l t r b m
theorem kok0(G:Gv)(c:Mc):KOk G c []:=⟨P6,λp a=>by simp at a⟩
theorem Ent.go{G a:Gv}{k:Nat}{c:Mc}{p:NK×V}{n i o:Nat}{l t r b:Int}{m:Nat}(ok:GOk G)(d:c.s<8)(go:AI G a k)(h:Ent G c p n i o l t r b m):Ent a c p n i o l t r b m:=⟨h.e,h.pd.go go,h.mx.app ok go h.pd.li h.pd.lo,h.sx,h.sy⟩
theorem KOk.go{G d:Gv}{k:Nat}{c:Mc}{a:List (NK×V)}(ok:GOk G)(g:c.s<8)(go:AI G d k)(h:KOk G c a):KOk d c a:=⟨h.nd,λp f=>by
 obtain⟨n,i,o,l,t,r,b,m,e⟩:=h.val p f;exact⟨n,i,o,l,t,r,b,m,e.go ok g go⟩⟩
theorem WZ{a:List (NK×V)}{k:NK}{v:V}(h:Bq a k=some v):(k,v)∈a:=by
 induction a with
 |nil=>cases h
 |cons p r b =>
  by_cases e:p.1=k
  ·rw[BE e]at h;cases h;rw[<-e];exact C8
  ·rw[Bn e]at h;exact C4 _ (b h)
theorem KOk.put{G:Gv}{c:Mc}{a:List (NK×V)}{n i o:Nat}{l t r b:Int}{m:Nat}(h:KOk G c a)(e:Ent G c (kMx i o l t r b,.int m) n i o l t r b m)(no:Bq a (kMx i o l t r b)=none):KOk G c (Dz a (kMx i o l t r b) (.int m))/\(Dz a (kMx i o l t r b) (.int m)).length=a.length+1:=by
 have d:=nd_putK (.int m) h.nd no;rw[GJ _ no]at d⊢;refine⟨⟨d,λp f=>?_⟩,by rw[C6];rfl⟩;rcases D3.mp f with z|z
 ·exact h.val p z
 ·rw[D7]at z;subst z;exact⟨n,i,o,l,t,r,b,m,e⟩
def lvN(G:Gv)(o:Nat):Nat:=match G[o]? with
 |some q=>q.lev.toNat
 |none=>0
theorem lvN_eq{G:Gv}{o n:Nat}(h:Al G o (n:Int)):lvN G o=n:=by
 obtain⟨q,e,a⟩:=h;unfold lvN;rw[e];show q.lev.toNat=n;rw[a,M4]
def b01(c:Prop)[Decidable c]:Nat:=if c then 0 else 1
theorem EL(c:Prop)[Decidable c]:b01 c<2:=by unfold b01;split<;>decide
theorem NH{c d:Prop}[Decidable c][Decidable d](h:b01 c=b01 d):c↔d:=by
 unfold b01 at h;split at h<;>split at h<;>simp_all
def code(G:Gv)(c:Mc)(k:NK):Nat:=match k with
 |[.inl i,.inl o,.inr [l,t,r,b]]=>c.S.idxOf (EV c i.toNat o.toNat)*16+(b01 (l=0)+2*b01 (r=2^lvN G (EV c i.toNat o.toNat))+4*b01 (t=0)+8*b01 (b=2^lvN G (EV c i.toNat o.toNat)))
 |_=>0
theorem OP(G:Gv)(c:Mc)(i o:Nat)(l t r b:Int):code G c (kMx i o l t r b)=c.S.idxOf (EV c i o)*16+(b01 (l=0)+2*b01 (r=2^lvN G (EV c i o))+4*b01 (t=0)+8*b01 (b=2^lvN G (EV c i o))):=rfl
theorem KOk.len{G:Gv}(ok:GOk G){c:Mc}{j:List (NK×V)}(h:KOk G c j):j.length<=16*c.S.length:=by
 have:=JP (16*c.S.length) ((j.map (·.1)).map (code G c)) (by
  rw[O4,Z4];refine A4f (λ{x y} B E C z=>C ?_) (O4.mp h.nd);obtain⟨p,A,rfl⟩:=D1.mp B;obtain⟨p',D,rfl⟩:=D1.mp E;obtain⟨n,i,o,l,t,r,b,m,e⟩:=h.val p A;obtain⟨Q,g,o',O,t',I,M,m',a⟩:=h.val p' D;have w:=e.e;have Z:=a.e;subst w Z;dsimp only at z⊢;rw[OP,OP]at z;have q1:=EL (l=0);have U:=EL (r=2^lvN G (EV c i o));have X:=EL (t=0);have Y:=EL (b=2^lvN G (EV c i o));have ab:=EL (O=0);have aa:=EL (I=2^lvN G (EV c g o'));have ac:=EL (t'=0);have T:=EL (M=2^lvN G (EV c g o'));have N:c.S.idxOf (EV c i o)=c.S.idxOf (EV c g o'):=by lia
  have k:EV c i o=EV c g o':=by
   have d:=List.getElem_idxOf (P0 e.pd.mo);have f:=List.getElem_idxOf (P0 a.pd.mo);have:c.S[c.S.idxOf (EV c i o)]?=c.S[c.S.idxOf (EV c g o')]?:=by rw[N]
   rw[D8 (P0 e.pd.mo),D8 (P0 a.pd.mo),d,f]at this;exact K0 this
  have en:n=Q:=by
   have H:=e.pd.lm;rw[k]at H;exact X8 (H.uniq a.pd.lm)
  subst en;have q:Wb c i o=Wb c g o':=Sol.uniq ok e.pd.so a.pd.so;obtain⟨rfl,rfl⟩:i=g/\o=o':=by
   unfold EV at k;unfold Wb at q;by_cases z:c.ro=true
   ·rw[X5 z,X5 z]at k q;exact⟨k,q⟩
   ·rw[Z8 z,Z8 z]at k q;exact⟨q,k⟩
  clear k q N;rw[lvN_eq e.pd.lm]at *
  have z1:=NH (show b01 (l=0)=b01 (O=0) by lia);have R:=NH (show b01 (r=2^n)=b01 (I=2^n) by lia);have P:=NH (show b01 (t=0)=b01 (t'=0) by lia);have z4:=NH (show b01 (b=2^n)=b01 (M=2^n) by lia);have same:∀{x s u v:Int},(x=u\/x=v)->(s=u\/s=v)->(x=u↔s=u)->x=s:=λ{x s u v} d f K=>by
   rcases d with d|d
   ·rw[d,K.mp d]
   ·rcases f with f|f
    ·rw[f,K.mpr f]
    ·rw[d,f]
  rw[same e.sx.1 a.sx.1 z1,same e.sx.2 a.sx.2 R,same e.sy.1 a.sy.1 P,same e.sy.2 a.sy.2 z4]) (λx B=>by
  obtain⟨y,E,rfl⟩:=D1.mp B;obtain⟨p,A,rfl⟩:=D1.mp E;obtain⟨n,i,o,l,t,r,b,m,e⟩:=h.val p A;have w:=e.e;subst w;dsimp only;rw[OP];have:=P0 e.pd.mo;have q1:=EL (l=0);have U:=EL (r=2^lvN G (EV c i o));have X:=EL (t=0);have Y:=EL (b=2^lvN G (EV c i o));lia)
 rw[B8,B8]at this;exact this
def Un(G:Gv)(N:Nat)(kvs kvs':List (NK×V)):Prop:=∀(i o:Nat)(l t r b:Int)(N':Nat),Al G o (N':Int)->N<N'->Bq kvs (kMx i o l t r b)=none->Bq kvs' (kMx i o l t r b)=none
theorem Un.refl(G:Gv)(N:Nat)(a:List (NK×V)):Un G N a a:=λ_ _ _ _ _ _ _ _ _ h=>h
theorem Un.trans{G j:Gv}{k N:Nat}{a b c:List (NK×V)}(go:AI G j k)(h:Un G N a b)(m:Un j N b c):Un G N a c:=λi o l t r g d e f z=>m i o l t r g d (go.lev e) f (h i o l t r g d e f z)
seal L2.PA L2.PE L2.PS L2.PSs L2.PT L2.PW
theorem Fx.fresh{l:List Addr}{H a c:Hp}{x:Addr}(s:Ax H a)(f:Fx (x::l) a c)(n:H x=none):Fx l H c:=λb o e z=>f b o (s _ _ e) λm=>by
 rcases C1.mp m with rfl|m
 ·rw[n]at e;cases e
 ·exact z m
theorem BC.fx{P:Program}{w:World}{sh:List Bool}{H d:Hp}{a:Addr}{c:List (NK×V)}{l:List Addr}(f:Fx l H d)(n:a∉l)(h:BC P w sh H a c):BC P w sh d a c:=h.keep (λb ys e=>f.tup e) (λo e=>f.get n e)
theorem BC.same{P:Program}{w:World}{sh:List Bool}{H d:Hp}{a:Addr}{c:List (NK×V)}(s:Ax H d)(h:BC P w sh H a c):BC P w sh d a c:=h.keep (λb ys e=>s _ _ e) (λo e=>s _ _ e)
def frM(g:GA)(kn:Addr):List Addr:=[g.lv,g.pt,g.nm,kn]
section
variable{P:Program}{w:World}{K:W.Frag}{mg:Str->Option Value}{base:Heap}{a:Ad}
inductive Vu(vs:List V)(H:Hp)(Q:VK):Prop
 |mk (s e h:Int) (_:vs=[.int s,.int e,.int h]) (_:∀(c0 c1 cc:Addr)(H':Hp),Ax H H'->H' cc=some (.tup [.ref c0,.ref c1])->H' c0=some (.tup [.int (spl s e h 0).1,.int (spl s e h 0).2])->H' c1=some (.tup [.int (spl s e h 1).1,.int (spl s e h 1).2])->Q (.ref cc) H'):Vu vs H Q
def Nk:Sp:=λvs H Q _=>Vu vs H Q
theorem YT(F:Fun K "split_stretch" "split_stretch" EH f fd)(T:Top K mg a):AJ P w K mg base CX0 1 f fd MZ Nk:=by
 refine F.ok Mi (λvs H Q E h=>?_) (λy A j s H vs Q E z h=>?_)
 ·apply AM;intro n c;obtain⟨s',e,h',rfl,_⟩:=h;apply c;clear c n;rfl
 ·apply AM;intro n c;obtain⟨g,d,b,rfl,k⟩:=h;apply c;clear c n;refine⟨_,(Af (Ar (CD (Bu (Aa (pv 0) (Aa (Au (DG rfl) rfl T.b_min K8 (Aa (pv 1) (Aa (pv 2) Ab))) Ab)) (Bu (Aa (Au (Dj rfl) rfl T.b_max K5 (AV Bg (pv 0) (pv 2) (AL Ab))) (AV Bg (pv 1) (pv 2) Ab)) Ab))))),?_⟩
  try dsimp only[cxK]
  refine xw3 rfl rfl rfl ⟨_,_,rfl,(by show 2<=sizeLine;decide),λi u=>?_⟩;have t:=AB (o:=.tup [.int g,.int (if b<d then b else d)]) u;have p:upd H i (.tup [.int g,.int (if b<d then b else d)]) i=some (.tup [.int (spl g d b 0).1,.int (spl g d b 0).2]):=Ag;show ∃_,_;generalize upd H i (.tup [.int g,.int (if b<d then b else d)])=B at t p⊢;refine xw2 rfl rfl (xq2 rfl rfl ⟨_,_,rfl,(xw2 rfl rfl (xq2 rfl rfl ⟨(by show 2<=sizeLine;decide),λq v=>⟨(by show 2<=sizeLine;decide),λx l=>?_⟩⟩))⟩);have r:=AB (o:=.tup [.int (if 0 > g-b then 0 else g-b),.int (d-b)]) v;have m:=AB (o:=.tup [.ref i,.ref q]) l;exact k i q x _ (t.trans (r.trans m)) Ag (m _ _ (r _ _ p)) (m _ _ Ag)
inductive SpMQ(a:Ad)(P:Program)(w:World)(n:Nat)(vs:List V)(H:Hp)(Q:VK):Prop
 |mk (g:GA) (G:Gv) (c:Mc) (kn tk tp:Addr) (kvs:List (NK×V)) (i o N:Nat) (l t r b:Int) (_:vs=[.ref g.p,.ref tk,.int (2^N),.ref kn]) (_:Bd a H g G) (_:BC P w shM H kn kvs) (_:kn∉DY g) (_:H tk=some (.tup [.int i,.int o,.ref tp])) (_:H tp=some (.tup [.int l,.int t,.int r,.int b])) (_:KOk G c kvs) (_:Clo G c.S) (_:c.s<8) (_:Pd G c (N+1) i o) (_:N<n) (_:N<=47) (_:(0<=l/\0<=t/\r<=2^(N+1)/\b<=2^(N+1))) (_:JX c.A c.R (N+1) l r) (_:JX c.T c.B (N+1) t b) (_:(G.length+16*c.S.length<8000000+kvs.length/\16*c.S.length<4000000)) (_:∀(m:Nat)(G':Gv)(kvs':List (NK×V))(H':Hp),Fx (frM g kn) H H'->Bd a H' g G'->BC P w shM H' kn kvs'->KOk G' c kvs'->kvs.length<=kvs'.length->AI G G' (kvs'.length-kvs.length+1)->Un G N kvs kvs'->FL G' (N+1) i o l t r b m->Q (.int m) H'):SpMQ a P w n vs H Q
def spMQ(a:Ad)(P:Program)(w:World)(n:Nat):Sp:=λvs H Q _=>SpMQ a P w n vs H Q
inductive SpMxd(a:Ad)(P:Program)(w:World)(n:Nat)(vs:List V)(H:Hp)(Q:VK):Prop
 |mk (g:GA) (G:Gv) (c:Mc) (kn tp:Addr) (kvs:List (NK×V)) (i o N:Nat) (l t r b:Int) (_:vs=[.ref g.p,.int i,.int o,.ref tp,.ref kn]) (_:Bd a H g G) (_:BC P w shM H kn kvs) (_:kn∉DY g) (_:H tp=some (.tup [.int l,.int t,.int r,.int b])) (_:KOk G c kvs) (_:Clo G c.S) (_:c.s<8) (_:Pd G c N i o) (_:N<n) (_:N<=48) (_:(0<=l/\0<=t/\r<=2^N/\b<=2^N)) (_:(l<r->JX c.A c.R N l r)) (_:(t<b->JX c.T c.B N t b)) (_:(G.length+16*c.S.length<8000000+kvs.length/\16*c.S.length<4000000)) (_:∀(m:Nat)(G':Gv)(kvs':List (NK×V))(H':Hp),Fx (frM g kn) H H'->Bd a H' g G'->BC P w shM H' kn kvs'->KOk G' c kvs'->kvs.length<=kvs'.length->AI G G' (kvs'.length-kvs.length)->Un G N kvs kvs'->FL G' N i o l t r b m->Q (.int m) H'):SpMxd a P w n vs H Q
def Sc(a:Ad)(P:Program)(w:World)(n:Nat):Sp:=λvs H Q _=>SpMxd a P w n vs H Q
theorem ok_mixS{n d:Nat}(F:Fun K "mixed" "mixed" Nq f fd)(T:Top K mg a)(cJ:Cal P w K mg base CX0 d "mixed_quarters" Dg (spMQ a P w n)):AJ P w K mg base CX0 (d+1) f fd JL (Sc a P w (n+1)):=by
 refine F.ok GI (λvs H Q E h=>?_) (λa1 A as s H vs Q E hr h=>?_)
 ·apply AM;intro X u;obtain⟨g,G,c,kn,O,D,i,o,N,l,t,r,b,rfl,_⟩:=h;apply u;clear u X;rfl
 ·apply AM;intro X u;obtain⟨g,G,c,kn,O,D,i,o,N,l,t,r,b,rfl,fu,na,nk,C,ae,au,s8,pd,Nn,ay,bd,sx,sy,few,k⟩:=h;apply u;clear u X;refine⟨_,(Ae (AN (PW.pt (Fs (Aw op_ge (Ai Aj (pv 3) Ac (λ_ _=>rfl)) (Ai Aj (pv 3) Ac (λ_ _=>rfl)) (AD _)) (Dy (Aw op_ge (Ai Aj (pv 3) Ac (λ_ _=>rfl)) (Ai Aj (pv 3) Ac (λ_ _=>rfl)) (AD _))))) (Af (Ar (pv 2))) AE) (Ae (An (i:=5) GI.nd rfl (Or.inl rfl) (Ay CU Ac (Ai Av (AC (pv 0) rfl) (pv 1) (λ_ _=>rfl)))) (Ae (AN (PW.pt (Fs (Aw Cy (pv 1) (pv 2) (AD _)) (Dy (Aw (We hr.units) (pv 3) (CD (AL (AL (Aa (pv 5) (Aa (pv 5) Ab))))) (AD _))))) (Af (Ar (pv 1))) AE) (Ae (An (i:=6) GI.nd rfl (Or.inl rfl) (CD (Aa (pv 1) (Aa (pv 2) (Aa (pv 3) Ab))))) (Ae (An (i:=7) GI.nd rfl (Or.inl rfl) (YM (sh:=[false,false,true]) hr.units (pv 4) (pv 6) ⟨rfl,rfl,rfl,rfl⟩)) (Ae (AN (Aw Jp (pv 7) DA (AD _)) (Ae (An (i:=7) GI.nd rfl (Or.inl rfl) (Ap cJ (rm hr) rfl Ao (Aa (pv 0) (Aa (pv 6) (AV Du (pv 5) Ac (Aa (pv 4) Ab)))))) (Af (YH (sh:=[false,false,true]) hr.units (pv 4) (pv 6) (pv 7) rfl))) AE) (Af (Ar (pv 7))))))))),?_⟩
  try dsimp only[cxK]
  have li:=pd.li;have lo:=pd.lo;have B:∀{m:Nat}{Y:Hp},Ax H Y->FL G N i o l t r b m->Q (.int m) Y:=λ{m Y} s' mx=>k m G D Y (Ax.fx s') (fu.same s') (BC.same s' na) ae (C5 _) ((AI.refl fu.ok).mono A0) (Un.refl _ _ _) mx;refine ev_test (c:=tOr (Uy (tOp (rI0 λi j=>V.bl (decide (j<=i))) (tOp (FM K) (Ey 3) (tC (V.int 0))) (tOp (FM K) (Ey 3) (tC (V.int 2))))) (Uy (tOp (rI0 λi j=>V.bl (decide (j<=i))) (tOp (FM K) (Ey 3) (tC (V.int 1))) (tOp (FM K) (Ey 3) (tC (V.int 3)))))) (decide (r<=l) || decide (b<=t)) (λQ' q'=>?_) ?_
  ·refine xwi rfl rfl rfl (SqT.of C) (Ah (j:=0) rfl) (xwi rfl rfl rfl (SqT.of C) (Ah (j:=2) rfl) (xq2 rfl rfl (xq1 rfl ?_)));revert q';generalize decide (r<=l)=b1;cases b1
   ·intro q';exact Bc (xwi rfl rfl rfl (SqT.of C) (Ah (j:=1) rfl) (xwi rfl rfl rfl (SqT.of C) (Ah (j:=3) rfl) (xq2 rfl rfl (xq1 rfl (q')))))
   ·intro q';exact BJ q'
  refine EC (λhc=>?_) (λhc=>?_)
  ·refine xq1 rfl (B (Ax.refl H) ⟨lo,λx y _ _=>?_⟩);rw[Z8];rcases(Bool.or_eq_true _ _).mp hc with z|z
   ·have:=K2 z;lia
   ·have:=K2 z;lia
  have hl:l<r:=by
   refine Int.lt_of_not_ge λz=>hc ?_;rw[Z7 (show r<=l from z)];rfl
  have ht:t<b:=by
   refine Int.lt_of_not_ge λz=>hc ?_;rw[Z7 (show b<=t from z),Bool.or_true]
  clear hc;obtain⟨qi,ei,ak⟩:=id li;refine⟨_,rfl,g.p,_,g.dx,_,_,rfl,fu.at'.hp,T.cl_Grove,T.na_Grove_levels,FJ g,_,rfl,g.lv,_,(i:Int),.int qi.lev,rfl,rfl,SqL.of fu.at'.lv,Ah (by rw[C3,ei];rfl),?_⟩;rw[ak];refine xq2 rfl rfl ⟨⟨by lia,by lia,by decide⟩,?_⟩;have e1:(1:Int)*2^((N:Int)).toNat=2^N:=by rw[Int.one_mul,M4]
  show(Yg _ _) _ [some (.ref g.p),some (.int i),some (.int o),some (.ref O),some (.ref kn),some (.int (1*2^((N:Int)).toNat)),none,none] H;rw[e1];refine xw2 rfl rfl ⟨rfl,(xq1 rfl (EC (λU=>?_) (λ_=>?_)))⟩
  ·have U:=K2 U;injection U with U
   obtain rfl:i=o:=X8 U;exact BJ (xq1 rfl (B (Ax.refl H) ⟨li,λx y _ _=>by split<;>rfl⟩))
  refine xw3 rfl rfl rfl ⟨(by show 4<=sizeLine;decide),λt1 av=>?_⟩;have s1:=AB (o:=.tup [.int 0,.int 0,.int (2^N),.int (2^N)]) av;have h1:upd H t1 (.tup [.int 0,.int 0,.int (2^N),.int (2^N)]) t1=some (.tup [.int 0,.int 0,.int (2^N),.int (2^N)]):=Ag;show ∃_,_;generalize upd H t1 (.tup [.int 0,.int 0,.int (2^N),.int (2^N)])=H1 at s1 h1⊢;refine⟨O,t1,[l,t,r,b],[0,0,2^N,2^N],rfl,rfl,SqT.of (s1 _ _ C),SqT.of h1,(xq1 rfl (EC (λI=>?_) (λI=>?_)))⟩
  ·have I:=K2 I;injection I with z1 I
   injection I with z2 I
   injection I with z3 I
   injection I with z4 I
   refine xq1 rfl (B s1 ⟨li,λx y hx hy=>?_⟩);have px:(x:Int)<2^N:=by have:(x:Int)<((2^N:Nat):Int):=A0;rw[F9]at this;exact this
   have py:(y:Int)<2^N:=by have:(y:Int)<((2^N:Nat):Int):=A0;rw[F9]at this;exact this
   rw[X5 (by subst z1 z2 z3 z4;exact⟨⟨by lia,px⟩,by lia,py⟩)]
  have N1:1<=N:=by
   refine Nat.one_le_iff_ne_zero.mpr λz=>I ?_;subst z;have b1:r<=1:=bd.2.2.1;have b2:b<=1:=bd.2.2.2;have an:l=0/\t=0/\r=1/\b=1:=by lia
   apply AM;intro X u;obtain⟨rfl,rfl,rfl,rfl⟩:=an;apply u;clear u X;exact Z7 rfl
  obtain⟨M,rfl⟩:∃M,N=M+1:=⟨N-1,by lia⟩
  refine xw3 rfl rfl rfl ⟨(by show 3<=sizeLine;decide),λtk am=>?_⟩;have s2:=AB (o:=.tup [.int i,.int o,.ref O]) am;have h2:upd H1 tk (.tup [.int i,.int o,.ref O]) tk=some (.tup [.int i,.int o,.ref O]):=Ag;show(Yg _ _) _ _ (upd H1 tk (.tup [.int i,.int o,.ref O]));generalize upd H1 tk (.tup [.int i,.int o,.ref O])=H2 at s2 h2⊢;have S:=s1.trans s2;have ad:=BC.same S na;have aw:=fu.same S;have R:=S _ _ C;have ah:∀{Y:Hp},Y tk=some (.tup [.int i,.int o,.ref O])->Y O=some (.tup [.int l,.int t,.int r,.int b])->GE Y tk (kMx i o l t r b):=λz1 z2=>⟨_,z1,.cons rfl (.cons rfl (.cons ⟨O,rfl,z2⟩ .nil))⟩
  refine xq1 rfl ⟨kn,rfl,⟨D,ad⟩,(xq1 rfl ⟨tk,kMx i o l t r b,D,rfl,ad,ah h2 R,rfl,?_⟩)⟩;cases ev:Bq D (kMx i o l t r b)with
  |some v =>
   apply AM;intro X u;obtain⟨n',i',o',l',t',r',b',m,en⟩:=ae.val _ (WZ ev);apply u;clear u X;have e2:=en.e;injection e2 with e2 e3
   apply AM;intro X u;obtain⟨rfl,rfl,rfl,rfl,rfl,rfl⟩:=Rt e2;apply u;clear u X;subst e3;have:n'=M+1:=X8 (en.pd.lo.uniq lo);subst this;exact xq1 rfl ⟨rfl,(xq1 rfl (Bc (xq1 rfl (B S en.mx))))⟩
  |none =>
   refine xq1 rfl ⟨rfl,(xq1 rfl (BJ ?_))⟩;refine xw3 rfl rfl rfl (xq2 rfl rfl ⟨⟨by decide,by decide⟩,(xq1 rfl ?_)⟩);have e4:(2:Int)^(M+1)/2=2^M:=by rw[Q8,Int.mul_ediv_cancel _ A3]
   refine⟨g,G,c,kn,tk,O,D,i,o,M,l,t,r,b,by rw[<-e4];rfl,aw,ad,nk,h2,R,ae,au,s8,pd,by lia,by lia,bd,sx hl,sy ht,few,λm G' aa H3 x3 ag ab Z a0 ac aj ai=>?_⟩;have ar:Bq aa (kMx i o l t r b)=none:=aj i o l t r b (M+1) lo A0 ev;have l3:=Z.len ag.ok;have g3:=ac.few;refine xw3 rfl rfl rfl ⟨kn,tk,kMx i o l t r b,aa,rfl,rfl,ab,ah (x3.tup h2) (x3.tup R),rfl,IR A0,λH4 x4 aq=>?_⟩;obtain⟨af,ax⟩:=Z.put ⟨rfl,pd.go ac,ai,sx hl,sy ht⟩ ar;have ao:Fx (frM g kn) H3 H4:=λcc oo e z=>x4 cc oo e λy=>by
    subst y;obtain⟨xs,e9,_⟩:=ab.ex;rw[e9]at e;cases e;exact z (by simp[frM])
   have al:=ag.fx (l:=[kn]) (λcc oo e z=>x4 cc oo e λy=>by
    subst y;obtain⟨xs,e9,_⟩:=ab.ex;rw[e9]at e;cases e;exact z A6) λy hy z=>nk (by rw[D7]at z;rw[<-z];exact hy)
   refine xq1 rfl (k m G' _ H4 (((Ax.fx S).trans x3).trans ao) al aq af A0 (ac.mono A0) ?_ ai);intro i' o' l' t' r' b' N' hN az z;rw[IV,Z8]
   ·exact aj i' o' l' t' r' b' N' hN A0 z
   ·intro q;obtain⟨_,rfl,_⟩:=Rt q;have:=X8 (hN.uniq lo);lia
end
theorem Cu.at4{G:Gv}{n i:Nat}{q:Sq}{a b c d:Nat}(h:Cu G n i q a b c d){k:Nat}(e:k<4):(q.parts.map V.int)[k]?=some (.int (f4 a b c d k:Nat)):=by
 rw[h.ps]
 match k,e with
 |0,_=>rfl
 |1,_=>rfl
 |2,_=>rfl
 |3,_=>rfl
section
variable{P:Program}{w:World}{K:W.Frag}{mg:Str->Option Value}{base:Heap}{a:Ad}
theorem ok_mq{n d:Nat}(hd:2<=d)(F:Fun K "mixed_quarters" "mixed_quarters" CZ f fd)(T:Top K mg a)(aH:Cal P w K mg base CX0 1 "split_stretch" MZ Nk)(a6:BK P w K mg base CX0 2 a.c_Grove "linked" AS (DJ a))(cE:Cal P w K mg base CX0 d "mixed" JL (Sc a P w n)):AJ P w K mg base CX0 (d+1) f fd Dg (spMQ a P w n):=by
 refine F.ok AO (λvs H Q E h=>?_) (λck A ce s H vs Q E hr h=>?_)
 ·apply AM;intro G_ v;obtain⟨g,G,c,kn,tk,tp,U,i,o,N,l,t,r,b,rfl,_⟩:=h;apply v;clear v G_;rfl
 ·apply AM;intro G_ v;obtain⟨g,G,c,kn,tk,tp,U,i,o,N,l,t,r,b,rfl,fu,na,nk,ag,ah,b8,bh,s8,pd,Nn,ci,bd,sx,sy,⟨few,bg⟩,k⟩:=h;apply v;clear v G_;refine⟨_,(Ae (An (i:=4) AO.nd rfl (Or.inl rfl) (Ai Av (AC (pv 0) rfl) (Ai Aj (pv 1) Ac (λ_ _=>rfl)) (λ_ _=>rfl))) (Ae (An (i:=5) AO.nd rfl (Or.inl rfl) (Ai Av (AC (pv 0) rfl) (Ai Aj (pv 1) Ac (λ_ _=>rfl)) (λ_ _=>rfl))) (Ae (An (i:=6) AO.nd rfl (Or.inl rfl) (Ai Aj (pv 1) Ac (λ_ _=>rfl))) (Ae (An (i:=7) AO.nd rfl (Or.inl rfl) (Ap aH (rm hr) rfl Ao (Aa (Ai Aj (pv 6) Ac (λ_ _=>rfl)) (Aa (Ai Aj (pv 6) Ac (λ_ _=>rfl)) (Aa (pv 2) Ab))))) (Ae (An (i:=8) AO.nd rfl (Or.inl rfl) (Ap aH (rm hr) rfl Ao (Aa (Ai Aj (pv 6) Ac (λ_ _=>rfl)) (Aa (Ai Aj (pv 6) Ac (λ_ _=>rfl)) (Aa (pv 2) Ab))))) (Ae (An (i:=9) AO.nd rfl (Or.inl rfl) (CS Ab)) (Ae (Ir K9 rfl (JH rfl T.b_range (AL Ab)) (CG (i:=10) AO.nd rfl (Or.inl rfl)) (Ae (An (i:=11) AO.nd rfl (Or.inl rfl) (Ai Aj (pv 7) (Ay BG (pv 10) Ac) (λ_ _=>rfl))) (Ae (An (i:=12) AO.nd rfl (Or.inl rfl) (Ai Aj (pv 8) (Ay Du (pv 10) Ac) (λ_ _=>rfl))) (Ae (An (i:=13) AO.nd rfl (Or.inl rfl) (CD (Aa (Ai Aj (pv 11) Ac (λ_ _=>rfl)) (Aa (Ai Aj (pv 12) Ac (λ_ _=>rfl)) (Aa (Ai Aj (pv 11) Ac (λ_ _=>rfl)) (Aa (Ai Aj (pv 12) Ac (λ_ _=>rfl)) Ab)))))) (Af (Co (GK K6 A0d A0e Ek (pv 9) (Aa (Ap cE (rm hr) rfl Ao (Aa (pv 0) (Aa (Ai Aj (pv 4) (pv 10) (λ_ _=>rfl)) (Aa (Ai Aj (pv 5) (pv 10) (λ_ _=>rfl)) (Aa (pv 13) (Aa (pv 3) Ab)))))) Ab)))))))) (Af (Ar (AF (pv 0) a6 (rm hr) Ao (Aa (BR BZ rfl T.b_tuple A0g (Aa (pv 9) Ab)) Ab))))))))))),?_⟩
  try dsimp only[cxK]
  have li:=pd.li;have lo:=pd.lo;apply AM;intro G_ v;obtain⟨qi,i0,i1,i2,i3,ni⟩:=Be fu.ok li;obtain⟨qo,o0,o1,o2,o3,no⟩:=Be fu.ok lo;obtain⟨ts,h3,h4⟩:=fu.at'.pt;obtain⟨ti,cg,ad⟩:=PairedM.get h4 ni.g;apply v;clear v G_;have ad:H ti=some (.tup (qi.parts.map V.int)):=ad;obtain⟨a4,b7,an⟩:=PairedM.get h4 no.g;have an:H a4=some (.tup (qo.parts.map V.int)):=an;refine xwf rfl rfl fu.at'.hp T.cl_Grove T.na_Grove_parts (Ce g) (xwi rfl rfl rfl (SqT.of ag) (Ah (j:=0) rfl) (xq4 rfl rfl (SqL.of h3) (Ah (by rw[C3,cg];rfl)) ?_));refine xwf rfl rfl fu.at'.hp T.cl_Grove T.na_Grove_parts (Ce g) (xwi rfl rfl rfl (SqT.of ag) (Ah (j:=1) rfl) (xq4 rfl rfl (SqL.of h3) (Ah (by rw[C3,b7];rfl)) ?_));refine xwi rfl rfl rfl (SqT.of ag) (Ah (j:=2) rfl) ?_;refine xwi rfl rfl rfl (SqT.of ah) (Ah (j:=0) rfl) (xwi rfl rfl rfl (SqT.of ah) (Ah (j:=2) rfl) (xq1 rfl ⟨l,r,2^N,rfl,λc0 c1 cc H1 s1 bj bf ba=>?_⟩));have Y:=s1 _ _ ah;refine xwi rfl rfl rfl (SqT.of Y) (Ah (j:=1) rfl) (xwi rfl rfl rfl (SqT.of Y) (Ah (j:=3) rfl) (xq1 rfl ⟨t,b,2^N,rfl,λr0 r1 rr H2 s2 a8 av bo=>?_⟩));refine⟨(by show 0<=sizeLine;decide),λO af=>?_⟩;have s3:=AB (o:=.lst []) af;have ax:upd H2 O (.lst []) O=some (.lst []):=Ag;show(Yg _ _) _ _ (upd H2 O (.lst []));generalize upd H2 O (.lst [])=H3 at s3 ax⊢;have Z:=(s1.trans s2).trans s3;have ar:H O=none:=Ax.noneOf (s1.trans s2) af;have col:∀{u:Nat},u<2->∃x,[V.ref c0,V.ref c1][u]?=some (.ref x)/\H3 x=some (.tup [.int (spl l r (2^N) u).1,.int (spl l r (2^N) u).2]):=λ{u} hu=>by
   match u,hu with
   |0,_=>exact⟨c0,rfl,s3 _ _ (s2 _ _ bf)⟩
   |1,_=>exact⟨c1,rfl,s3 _ _ (s2 _ _ ba)⟩
  have bv:∀{u:Nat},u<2->∃x,[V.ref r0,V.ref r1][u]?=some (.ref x)/\H3 x=some (.tup [.int (spl t b (2^N) u).1,.int (spl t b (2^N) u).2]):=λ{u} hu=>by
   match u,hu with
   |0,_=>exact⟨r0,rfl,s3 _ _ av⟩
   |1,_=>exact⟨r1,rfl,s3 _ _ bo⟩
  have a7:=s3 _ _ (s2 _ _ bj);have bi:=s3 _ _ a8;have a0:=Z _ _ ad;have bn:=Z _ _ an;have bt:=fu.same Z;have bp:=BC.same Z na;have aa:O∉DY g:=λz=>by
   obtain⟨oo,e⟩:=(fu.same (s1.trans s2)).nw.s O z;rw[af]at e;cases e
  have bb:O≠kn:=λz=>by
   obtain⟨xs,e,_⟩:=na.ex;rw[z]at ar;rw[ar]at e;cases e
  have mF:O∉frM g kn:=λz=>by
   simp only[frM,C1,D6,K7]at z;rcases z with z|z|z|z
   ·exact aa (by rw[z];simp[DY])
   ·exact aa (by rw[z];simp[DY])
   ·exact aa (by rw[z];simp[DY])
   ·exact bb z
  clear Y bf ba av bo bj a8 s1 s2 s3;refine⟨4,rfl,by decide,by decide,?_⟩;refine JO (n:=4) (λj σ H4=>∃(S:Gv)(B:List (NK×V))(I:Nat->Nat)(ak ae as aj:Option V),σ=[some (.ref g.p),some (.ref tk),some (.int (2^N)),some (.ref kn),some (.ref ti),some (.ref a4),some (.ref tp),some (.ref cc),some (.ref rr),some (.ref O),ak,ae,as,aj]/\Fx (O::frM g kn) H3 H4/\H4 O=some (.lst ((List.range j).map λx=>V.int (I x:Nat)))/\Bd a H4 g S/\BC P w shM H4 kn B/\KOk S c B/\U.length<=B.length/\AI G S (B.length-U.length)/\Un G N U B/\∀x,x<j->FL S N (f4 i0 i1 i2 i3 x) (f4 o0 o1 o2 o3 x) (spl l r (2^N) (x%2)).1 (spl t b (2^N) (x/2)).1 (spl l r (2^N) (x%2)).2 (spl t b (2^N) (x/2)).2 (I x)) ⟨G,U,λ_=>0,none,none,none,none,rfl,Fx.refl _ H3,ax,bt,bp,b8,C5 _,(AI.refl fu.ok).mono A0,Un.refl _ _ _,λx hx=>absurd hx (O6 _)⟩ ?_ ?_
  ·rintro j σ H4 hj bu;apply AM;intro G_ v;obtain⟨S,B,I,ak,ae,as,aj,rfl,x4,au,C,al,R,ay,q,aq,M⟩:=bu;apply v;clear v G_;have u2:j%2<2:=M8 _ A3;have v2:j/2<2:=by lia
   obtain⟨cx,b6,b5⟩:=col u2;obtain⟨ry,b4,b0⟩:=bv v2;have ab:=x4.tup b5;have ac:=x4.tup b0;have cm:(0+(j:Int))%2=((j%2:Nat):Int):=by lia
   have cd:(0+(j:Int))/2=((j/2:Nat):Int):=by lia
   refine xq1 rfl (xq1 rfl (xq2 rfl rfl ⟨B1,cc,_,_,.ref cx,rfl,rfl,SqT.of (x4.tup a7),?_,?_⟩))
   ·show atI [V.ref c0,V.ref c1] ((0+(j:Int))%2)=_;rw[cm];exact Ah b6
   refine xq1 rfl (xq1 rfl (xq2 rfl rfl ⟨⟨by decide,by decide⟩,rr,_,_,.ref ry,rfl,rfl,SqT.of (x4.tup bi),?_,?_⟩))
   ·show atI [V.ref r0,V.ref r1] ((0+(j:Int))/2)=_;rw[cd];exact Ah b4
   refine xwi rfl rfl rfl (SqT.of ab) (Ah (j:=0) rfl) (xwi rfl rfl rfl (SqT.of ac) (Ah (j:=0) rfl) (xwi rfl rfl rfl (SqT.of ab) (Ah (j:=1) rfl) (xwi rfl rfl rfl (SqT.of ac) (Ah (j:=1) rfl) ⟨(by show 4<=sizeLine;decide),λqp b9=>?_⟩)));have X:=AB (o:=.tup [.int (spl l r (2^N) (j%2)).1,.int (spl t b (2^N) (j/2)).1,.int (spl l r (2^N) (j%2)).2,.int (spl t b (2^N) (j/2)).2]) b9;have h5:upd H4 qp (.tup [.int (spl l r (2^N) (j%2)).1,.int (spl t b (2^N) (j/2)).1,.int (spl l r (2^N) (j%2)).2,.int (spl t b (2^N) (j/2)).2]) qp=some (.tup [.int (spl l r (2^N) (j%2)).1,.int (spl t b (2^N) (j/2)).1,.int (spl l r (2^N) (j%2)).2,.int (spl t b (2^N) (j/2)).2]):=Ag;show ∃_,_;generalize upd H4 qp (.tup [.int (spl l r (2^N) (j%2)).1,.int (spl t b (2^N) (j/2)).1,.int (spl l r (2^N) (j%2)).2,.int (spl t b (2^N) (j/2)).2])=H5 at X h5⊢;have x5:=x4.trans (Ax.fx X);have bc:=X _ _ au;have ai:atI (qi.parts.map V.int) (0+(j:Int))=some (.int (f4 i0 i1 i2 i3 j:Nat)):=by
    rw[Int.zero_add];exact Ah (ni.at4 hj)
   have ao:atI (qo.parts.map V.int) (0+(j:Int))=some (.int (f4 o0 o1 o2 o3 j:Nat)):=by
    rw[Int.zero_add];exact Ah (no.at4 hj)
   have ca:Pd S c N (f4 i0 i1 i2 i3 j) (f4 o0 o1 o2 o3 j):=(pd.part fu.ok bh ni no hj).go q;have pN:(0:Int)<2^N:=Iu N;have e2:(2:Int)^(N+1)=2^N+2^N:=by rw[Q8];lia
   rw[e2]at bd;have a9:∀{s0 e0:Int}{u:Nat},0<=s0->e0<=2^N+2^N->0<=(spl s0 e0 (2^N) u).1/\(spl s0 e0 (2^N) u).2<=2^N:=λ{s0 e0 u} a1 a2=>by
    unfold spl;split
    ·dsimp only;split<;>lia
    ·dsimp only;split<;>lia
   have bx:=a9 (u:=j%2) bd.1 bd.2.2.1;have a5:=a9 (u:=j/2) bd.2.1 bd.2.2.2
   have g4:=q.few;refine xq1 rfl ⟨.inl ⟨rfl,_,SqL.of bc⟩,(xw3 rfl rfl rfl (xq4 rfl rfl (SqT.of (x5.tup a0)) ai (xwj rfl rfl rfl rfl (SqT.of (x5.tup bn)) ao (xw2 rfl rfl ?_))))⟩;refine⟨g,S,c,kn,qp,B,f4 i0 i1 i2 i3 j,f4 o0 o1 o2 o3 j,N,_,_,_,_,rfl,C.same X,BC.same X al,nk,h5,R,bh.app q,s8,ca,Nn,by lia,⟨bx.1,a5.1,bx.2,a5.2⟩,λz=>sx.spl z,λz=>sy.spl z,⟨by lia,bg⟩,λm G6 aw H6 x6 am br bl cj D cb b3=>?_⟩;have bm:=x6.get mF bc;refine⟨O,_,.int m,rfl,rfl,bm,by rw[B8,O0];exact IR A0,?_⟩;have x7:=fx_up (o':=.lst (((List.range j).map λx=>V.int (I x:Nat))++[.int m])) bm (λz=>z);have ch:G.length<=S.length:=q.le;refine⟨G6,aw,λx=>if x=j then m else I x,_,_,_,_,rfl,(x5.trans (x6.mono (by simp[frM]))).trans (x7.mono A6),?_,am.fx x7 λy hy z=>aa (by rw[D7]at z;rw[<-z];exact hy),BC.fx x7 (by simpa using K1 bb) br,bl,by lia,(q.trans D).mono A0,aq.trans q cb,λx hx=>?_⟩
   ·rw[Ag,U0,D4];congr 3
    ·exact List.map_congr_left λx hx=>by
      show V.int (I x:Nat)=V.int ((if x=j then m else I x:Nat):Int);rw[Z8 (by have:=J1.mp hx;lia)]
    ·show [V.int m]=[V.int ((if j=j then m else I j:Nat):Int)]
     rw[X5 rfl]
   ·dsimp only;by_cases z:x=j
    ·subst z;rw[X5 rfl];exact b3
    ·rw[Z8 z];have a3:x<4:=by lia
     have l1:Al S (f4 o0 o1 o2 o3 x) (N:Int):=q.lev (by
      match x,a3 with
      |0,_=>exact no.hx
      |1,_=>exact no.hy
      |2,_=>exact no.hz
      |3,_=>exact no.hw)
     have l2:Al S (f4 i0 i1 i2 i3 x) (N:Int):=q.lev (ni.nat a3).2;exact(M x A0).app C.ok D l2 l1
  ·rintro σ H4 cf;apply AM;intro G_ v;obtain⟨S,B,I,ak,ae,as,aj,rfl,x4,au,C,al,R,ay,q,aq,M⟩:=cf;apply v;clear v G_;have g4:=q.few;have l4:=R.len C.ok;refine xq1 rfl ⟨g.p,g.dx,(xq1 rfl ⟨C.at'.hp,BI g,(xq1 rfl ⟨O,(xq1 rfl (.inl ⟨SqL.of au,λtl bw=>?_⟩))⟩)⟩)⟩;have X:=AB (o:=.tup [.int (I 0:Nat),.int (I 1:Nat),.int (I 2:Nat),.int (I 3:Nat)]) bw;refine⟨g,S,tl,I 0,I 1,I 2,I 3,(N:Int),rfl,C.at'.same X,C.ok,Ag,⟨(M 0 A3).lev,(M 1 A3).lev,(M 2 A3).lev,(M 3 A3).lev⟩,by lia,by lia,λm G6 H6 az bz D e6=>?_⟩;have x6:=az.fx (C.at'.same X);have am:=(C.same X).fr az bz D;have bq:Fx (O::frM g kn) H3 H6:=(x4.trans (Ax.fx X)).trans (x6.mono (by simp[frM]));have kf:kn∉[g.lv,g.pt,g.nm]:=λz=>nk (by simp[DY]at *;lia);refine k m G6 B H6 (Fx.fresh Z bq ar) am (BC.fx x6 kf (BC.same X al)) (R.go C.ok s8 D) ay (q.trans D) aq ?_;exact FL.join (ni.app (q.trans D)) (no.app (q.trans D)) (λx hx=>(M x hx).app C.ok D (q.lev (ni.nat hx).2) (q.lev (by
    match x,hx with
    |0,_=>exact no.hx
    |1,_=>exact no.hy
    |2,_=>exact no.hz
    |3,_=>exact no.hw))) e6
theorem YY{f:Addr}{p:FuncData}{z:Addr}{j:FuncData}(F:Fun K "mixed" "mixed" Nq f p)(v:Fun K "mixed_quarters" "mixed_quarters" CZ z j)(T:Top K mg a)(D:mg "mixed" = some (.ref f))(C:Ch K p JL [])(k:mg "mixed_quarters" = some (.ref z))(m:Ch K j Dg [])(B:Cal P w K mg base CX0 1 "split_stretch" MZ Nk)(I:BK P w K mg base CX0 2 a.c_Grove "linked" AS (DJ a)):∀n,AJ P w K mg base CX0 (2*n+2) f p JL (Sc a P w n)
 |0=>by
  refine F.ok GI (λvs H Q E h=>?_) (λO A u s H vs Q E S h=>?_)
  ·apply AM;intro y e;obtain⟨g,G,c,R,M,x,i,o,N,l,t,r,b,rfl,_,_,_,_,_,_,_,_,q,_⟩:=h;apply e;clear e y;exact absurd q (O6 _)
  ·apply AM;intro y e;obtain⟨g,G,c,R,M,x,i,o,N,l,t,r,b,rfl,_,_,_,_,_,_,_,_,q,_⟩:=h;apply e;clear e y;exact absurd q (O6 _)
 |n+1=>ok_mixS F T ⟨z,j,ok_mq (d:=2*n+2) A0 v T B I ⟨f,p,YY F v T D C k m B I n,D,F.kp,C⟩,k,v.kp,m⟩
end
end J
namespace J
open PySem L2
theorem FL.part{G:Gv}{n i o m:Nat}{l t r b:Int}{S Q T:Sq}{O d a v u N K B A M w E:Nat}(X:Cu G n i S O d a v)(no:Cu G n o Q u N K B)(nm:Cu G n m T A M w E)(h:FL G (n+1) i o l t r b m){k:Nat}(p:k<4) :
  FL G n (f4 O d a v k) (f4 u N K B k) (spl l r (2^n) (k%2)).1 (spl t b (2^n) (k/2)).1 (spl l r (2^n) (k%2)).2 (spl t b (2^n) (k/2)).2 (f4 A M w E k):=by
 refine⟨(nm.nat p).2,λx y C I=>?_⟩;apply AM;intro V j;obtain⟨f,g,R,D,H⟩:=FI p C I;apply j;clear j V;have c:=h.cell _ _ f g;rw[Ba nm f g,Ba X f g,Ba no f g,R,D,H]at c;rw[c];have U:(x+2^n*(k%2))/2^n=k%2:=by
  rw[N8 _ _ (AU n),N6 C,N9]
 have P:(y+2^n*(k/2))/2^n=k/2:=by
  rw[N8 _ _ (AU n),N6 I,N9]
 have d:=Ni (s:=l) (e:=r) f U;have a:=Ni (s:=t) (e:=b) g P;rw[D]at d;rw[H]at a;by_cases z:(l<=((x+2^n*(k%2):Nat):Int)/\((x+2^n*(k%2):Nat):Int)<r)/\(t<=((y+2^n*(k/2):Nat):Int)/\((y+2^n*(k/2):Nat):Int)<b)
 ·rw[X5 z,X5 ⟨d.mpr z.1,a.mpr z.2⟩]
 ·rw[Z8 z,Z8 λq=>z ⟨d.mp q.1,a.mp q.2⟩]
theorem FL.empty{G:Gv}(ok:GOk G){n i o m:Nat}{l t r b:Int}(h:FL G n i o l t r b m)(lo:Al G o (n:Int))(e:r<=l\/b<=t):m=o:=by
 refine EY ok h.lev lo λx y c a=>?_;rw[h.cell x y c a,Z8 A0]
theorem FL.one{G:Gv}(ok:GOk G){n i o m a:Nat}{l t r b:Int}(h:FL G n i o l t r b m)(h':FL G n i o l t r b a):m=a:=EY ok h.lev h'.lev λx y c d=>by rw[h.cell x y c d,h'.cell x y c d]
def Ur(G:Gv)(c:Mc)(x:Nat):Prop:=∃(k:NK)(n i o:Nat)(l t r b:Int),Ent G c (k,.int x) n i o l t r b x
theorem Zv{G:Gv}(ok:GOk G){c:Mc}{l:List Nat}(C:l.Nodup)(h:∀x∈l,Ur G c x):l.length<=16*c.S.length:=by
 classical
 let f:Nat->NK:=λx=>if z:Ur G c x then Classical.choose z else [];have j:∀x∈l,∃n i o l t r b,Ent G c (f x,.int x) n i o l t r b x:=λx d=>by
  have z:=h x d;show ∃n i o l t r b,Ent G c ((if z:Ur G c x then Classical.choose z else []),.int x) n i o l t r b x;rw[dif_pos z];exact A3e z
 have k:KOk G c (l.map λx=>(f x,V.int (x:Int))):=by
  refine⟨?_,λp H=>?_⟩
  ·rw[T6,O4,Z4];refine A4f (λ{x y} d B m z=>m ?_) (O4.mp C);have z:f x=f y:=z;apply AM;intro g a;obtain⟨n,i,o,l,t,r,b,e⟩:=j x d;obtain⟨w,A,o',v,t',E,D,q⟩:=j y B;apply a;clear a g;have u:=K3 Prod.fst e.e;have s:=K3 Prod.fst q.e;have u:f x=kMx i o l t r b:=u;have s:f y=kMx A o' v t' E D:=s;apply AM;intro g a;obtain⟨rfl,rfl,rfl,rfl,rfl,rfl⟩:=Rt (u.symm.trans (z.trans s));apply a;clear a g;have:n=w:=X8 (e.pd.lo.uniq q.pd.lo);subst this;exact e.mx.one ok q.mx
  ·obtain⟨x,d,rfl⟩:=D1.mp H;apply AM;intro g a;obtain⟨n,i,o,l,t,r,b,e⟩:=j x d;apply a;clear a g;exact⟨n,i,o,l,t,r,b,x,e⟩
 have:=k.len ok;rw[B8]at this;exact this
structure FS(G:Gv)(f B:Nat):Prop where
 ex:∃S:List Nat,f∈S/\(∀j,j<=48->bareN j∈S)/\Clo G S/\S.length<=B
theorem FS.app{G b:Gv}{k f B:Nat}(go:AI G b k)(h:FS G f B):FS b f B:=by
 apply AM;intro g a;obtain⟨S,d,e,c,i⟩:=h.ex;apply a;clear a g;exact⟨S,d,e,c.app go,i⟩
theorem FS.mono{G:Gv}{f B C:Nat}(h:FS G f B)(e:B<=C):FS G f C:=by
 apply AM;intro g a;obtain⟨S,c,d,b,i⟩:=h.ex;apply a;clear a g;exact⟨S,c,d,b,by lia⟩
theorem Clo.cons{G:Gv}{S:List Nat}(h:Clo G S){n x a b c d:Nat}{q:Sq}(j:Cu G n x q a b c d)(m:a∈S/\b∈S/\c∈S/\d∈S):Clo G (x::S):=λo g=>by
 rcases C1.mp g with rfl|g
 ·exact .inr ⟨n,q,a,b,c,d,j,C4 _ m.1,C4 _ m.2.1,C4 _ m.2.2.1,C4 _ m.2.2.2⟩
 ·rcases h o g with z|⟨i,p,l,k,r,d',f,e⟩
  ·exact .inl z
  ·exact .inr ⟨i,p,l,k,r,d',f,C4 _ e.1,C4 _ e.2.1,C4 _ e.2.2.1,C4 _ e.2.2.2⟩
theorem Ry{G r:Gv}(c:G=G0++r)(ok:GOk G){j:Nat}(h:j<=48):FS G (bareN j) 49:=by
 refine⟨(List.range 49).map bareN,D1.mpr ⟨j,J1.mpr A0,rfl⟩,λi b=>D1.mpr ⟨i,J1.mpr A0,rfl⟩,λo d=>?_,by rw[B8,O0];exact C5 _⟩;obtain⟨i,b,rfl⟩:=D1.mp d;have b:=J1.mp b;cases i with
 |zero=>exact .inl A3
 |succ i =>
  have m:bareN i∈(List.range 49).map bareN:=D1.mpr ⟨i,J1.mpr A0,rfl⟩;have a:=Ds c (n:=i) A0;have g:G[bareN (i+1)]?=some ⟨[(bareN i:Int),(bareN i:Int),(bareN i:Int),(bareN i:Int)],(i:Int)+1⟩:=by
   have:=Rv c i A0;exact this
  exact .inr ⟨i,_,bareN i,bareN i,bareN i,bareN i,⟨g,rfl,rfl,a,a,a,a⟩,m,m,m,m⟩
theorem FS.wid{G r:Gv}(I:G=G0++r)(ok:GOk G){n f w B:Nat}(Y:n<=46)(h:FS G f B)(Q:Wid G n f w):FS G w (B+5):=by
 apply AM;intro T k;obtain⟨S,A,s,m,Z⟩:=h.ex;obtain⟨q,x,y,z,v,a,b,c,d,i,t,u,p,o,M⟩:=Q.ex;obtain⟨U,C,N,D⟩:=m.get ok A i;apply k;clear k T;have e:=Ds I (n:=n) A0;have g:=s n A0;have R:Cu G n a _ (bareN n) (bareN n) (bareN n) x:=⟨t,rfl,rfl,e,e,e,i.hx⟩
 have K:Cu G n b _ (bareN n) (bareN n) y (bareN n):=⟨u,rfl,rfl,e,e,i.hy,e⟩
 have V:Cu G n c _ (bareN n) z (bareN n) (bareN n):=⟨p,rfl,rfl,e,i.hz,e,e⟩
 have P:Cu G n d _ v (bareN n) (bareN n) (bareN n):=⟨o,rfl,rfl,i.hw,e,e,e⟩
 have E:Al G a ((n+1:Nat):Int):=⟨_,t,by show(n:Int)+1=_;lia⟩
 have l:Al G b ((n+1:Nat):Int):=⟨_,u,by show(n:Int)+1=_;lia⟩
 have H:Al G c ((n+1:Nat):Int):=⟨_,p,by show(n:Int)+1=_;lia⟩
 have O:Al G d ((n+1:Nat):Int):=⟨_,o,by show(n:Int)+1=_;lia⟩
 have nw:Cu G (n+1) w _ a b c d:=⟨M,rfl,by show(n:Int)+2=((n+1:Nat):Int)+1;lia,E,l,H,O⟩
 refine⟨w::a::b::c::d::S,by simp,λj X=>by simp[s j X],?_,by simp only[F2];lia⟩;refine Clo.cons (Clo.cons (Clo.cons (Clo.cons (Clo.cons m P ⟨D,g,g,g⟩) V ?_) K ?_) R ?_) nw ?_
 ·exact⟨C4 _ g,C4 _ N,C4 _ g,C4 _ g⟩
 ·simp[g,C]
 ·simp[g,U]
 ·simp
theorem FS.widN{G r:Gv}(a:G=G0++r)(ok:GOk G){n f B:Nat}(h:FS G f B):∀{k w:Nat},n+k<=46->Ma G n f k w->FS G w (B+5*k)
 |0,w,_,e=>by
  have e:w=f:=e;subst e;exact h
 |k+1,w,hn,e=>by
  obtain⟨u,b,c⟩:=e;exact((FS.widN a ok h (k:=k) A0 b).wid a ok A0 c).mono A0
theorem FS.trim{G:Gv}(ok:GOk G):∀{n f r B:Nat},FS G f B->MU G n f r->FS G r (B+n)
 |0,_,_,_,_,t=>absurd t (by intro z;exact z)
 |1,f,r,B,h,t=>by
  have t:r=f:=t;subst t;exact h.mono A0
 |n+2,f,r,B,h,t=>by
  apply AM;intro e a;obtain⟨qs,d,o,t⟩:=t;apply a;clear a e;rcases t with ⟨_,rfl⟩|⟨_,m,D,t⟩
  ·exact h.mono A0
  ·apply AM;intro e a;obtain⟨S,w,K,i,O⟩:=h.ex;obtain⟨q,C⟩:=o.node;obtain⟨y,M,x,E⟩:=i.get ok w C;apply a;clear a e;have sub:∀k,k<4->qs k∈S:=λk g=>by
    match k,g with
    |0,_=>exact y
    |1,_=>exact M
    |2,_=>exact x
    |3,_=>exact E
   have b:∀k j,k<4->j<4->d k j∈S/\Al G (d k j) (n:Int):=λk j g l=>by
    obtain⟨P,c⟩:=o.sub k g;apply AM;intro e a;obtain⟨A,I,N,H⟩:=i.get ok (sub k g) c;apply a;clear a e
    match j,l with
    |0,_=>exact⟨A,c.hx⟩
    |1,_=>exact⟨I,c.hy⟩
    |2,_=>exact⟨N,c.hz⟩
    |3,_=>exact⟨H,c.hw⟩
   have p:=b 0 3 A3 A3;have s:=b 1 2 A3 A3;have u:=b 2 1 A3 A3;have v:=b 3 0 A3 A3;have nm:Cu G n m _ (d 0 3) (d 1 2) (d 2 1) (d 3 0):=⟨D,rfl,rfl,p.2,s.2,u.2,v.2⟩
   have:FS G m (B+1):=⟨m::S,by simp,λj l=>by simp[K j l],Clo.cons i nm ⟨p.1,s.1,u.1,v.1⟩,by simp only[F2];lia⟩
   exact(FS.trim ok this t).mono A0
theorem fs_mix{G:Gv}(ok:GOk G){c:Mc}(v:Clo G c.S)(U:∀j,j<=48->bareN j∈c.S){m:Nat}(h:Ur G c m)(s8:c.s<8)(O:c.ro=true->∀{n o:Nat},Al G o (n:Int)->Sol G c.s n o->o∈c.S):FS G m (17*c.S.length):=by
 classical
 let L:=(List.range G.length).filter λx=>decide (Ur G c x);have w:∀{x:Nat},Ur G c x->x∈L:=λ{x} p=>S7.mpr ⟨J1.mpr (by
  apply AM;intro B f;obtain⟨k,n,i,o,l,t,r,b,e⟩:=p;apply f;clear f B;exact e.mx.lev.lt),Z7 p⟩
 have len:L.length<=16*c.S.length:=Zv ok (List.Pairwise.filter _ List.nodup_range) λx p=>K2 (S7.mp p).2;refine⟨c.S++L,D3.mpr (.inr (w h)),λj V=>D3.mpr (.inl (U j V)),λx p=>?_,by rw[C6];lia⟩;rcases D3.mp p with p|p
 ·rcases v x p with z|⟨n,q,a,b,T,d,R,E,C,D,P⟩
  ·exact .inl z
  ·exact .inr ⟨n,q,a,b,T,d,R,D3.mpr (.inl E),D3.mpr (.inl C),D3.mpr (.inl D),D3.mpr (.inl P)⟩
 ·apply AM;intro B f;obtain⟨k,n,i,o,l,t,r,b,e⟩:=K2 (S7.mp p).2;apply f;clear f B;cases n with
  |zero=>exact .inl (Ve ok e.mx.lev)
  |succ n =>
   apply AM;intro B f;obtain⟨Q,M,E,C,D,nm⟩:=Be ok e.mx.lev;obtain⟨Y,X,o1,o2,o3,no⟩:=Be ok e.pd.lo;obtain⟨qi,Z,i1,i2,i3,N⟩:=Be ok e.pd.li;apply f;clear f B;have all:∀u,u<4->f4 M E C D u∈c.S++L:=λu K=>by
    have A:=e.mx.part N no nm K;have g:=e.pd.part ok v N no K;by_cases z:(spl l r (2^n) (u%2)).1<(spl l r (2^n) (u%2)).2/\(spl t b (2^n) (u/2)).1<(spl t b (2^n) (u/2)).2
    ·exact D3.mpr (.inr (w ⟨_,n,_,_,_,_,_,_,⟨rfl,g,A,e.sx.spl z.1,e.sy.spl z.2⟩⟩))
    ·rw[A.empty ok g.lo A0];refine D3.mpr (.inl ?_);have I:=g.mo;have H:=g.so;unfold EV at I;unfold Wb at H;by_cases y:c.ro=true
     ·rw[X5 y]at H;exact O y g.lo H
     ·rw[Z8 y]at I;exact I
   exact .inr ⟨n,Q,M,E,C,D,nm,all 0 A3,all 1 A3,all 2 A3,all 3 A3⟩
seal L2.PA L2.PE L2.PS L2.PSs L2.PT L2.PW
theorem Ta{G:Gv}(ok:GOk G){s:Nat}(a:s<8):∀{n i x y:Nat},Sol G s n i->x<2^n->y<2^n->CJ G n i x y=s
 |0,i,x,y,h,_,_=>h
 |n+1,i,x,y,h,hx,hy=>by
  obtain⟨m,b,e⟩:=h;have lm:=Sol.lev ok a b;have c:Cu G n i _ m m m m:=⟨e,rfl,rfl,lm,lm,lm,lm⟩
  rw[Ba c hx hy];have:f4 m m m m (quad n x y)=m:=by unfold f4;split<;>rfl
  rw[this];exact Ta ok a b (M8 _ (AU n)) (M8 _ (AU n))
def InB(x y wd ht u v:Int):Prop:=(x<=u/\u<x+wd)/\(y<=v/\v<y+ht)
instance(x y wd ht u v:Int):Decidable (InB x y wd ht u v):=by unfold InB;infer_instance
theorem Wu{G:Gv}(ok:GOk G){n s i o m:Nat}{x y a b:Int}(k:s<8)(e:Sol G s (n+1) i)(j:BP x y a b (2^n))(h:FL G (n+1) i o (x+2^n) (y+2^n) (x+2^n+a) (y+2^n+b) m)(u v:Int):fieldF G n m u v=if InB x y a b u v then s else fieldF G n o u v:=by
 unfold fieldF;by_cases z:-(2^n)<=u/\u<2^n/\-(2^n)<=v/\v<2^n
 ·rw[X5 z,X5 z];have c:=EN z.1 z.2.1;have d:=EN z.2.2.1 z.2.2.2;rw[h.cell _ _ c d,Ta ok k e c d];have f:((u+2^n).toNat:Int)=u+2^n:=S5 A0;have g:((v+2^n).toNat:Int)=v+2^n:=S5 A0;rw[f,g];by_cases q:InB x y a b u v
  ·rw[X5 q,X5 (by unfold InB at q;lia)]
  ·rw[Z8 q,Z8 (by unfold InB at q;lia)]
 ·rw[Z8 z,Z8 z,Z8];unfold InB;unfold BP at j;lia
def clL(v:Int):Int:=if 0 > v then 0 else v
def clR(n:Nat)(v:Int):Int:=if 2*2^n<v then 2*2^n else v
theorem clL_id{v:Int}(h:0<=v):clL v=v:=by unfold clL;rw[Z8 A0]
theorem clR_id{n:Nat}{v:Int}(h:v<=2*2^n):clR n v=v:=by unfold clR;rw[Z8 A0]
section
variable{P:Program}{w:World}{K:W.Frag}{mg:Str->Option Value}{base:Heap}{a:Ad}
inductive SpChB(vs:List V)(H:Hp)(Q:VK):Prop
 |mk (t:Addr) (x y wd ht:Int) (_:vs=[.ref t]) (_:H t=some (.tup [.int x,.int y,.int wd,.int ht])) (_:0<=wd) (_:0<=ht) (_:Q .non H):SpChB vs H Q
def Yy:Sp:=λvs H Q _=>SpChB vs H Q
theorem ok_chb(F:Fun K "check_box" "check_box" Jd f fd)(T:Top K mg a):AJ P w K mg base CX0 1 f fd SC Yy:=by
  refine F.ok QH (λ_ _ _ _ h=>by rcases h;subst_vars;rfl) λe A b s H vs Q E m h=>?_
  obtain⟨t,x,y,d,g,rfl,c,l,i,k⟩:=h;refine⟨_,(Af (AN (PW.pt (Fs (Aw EQ (Ai Aj (pv 0) Ac (λ_ _=>rfl)) Ac (AD _)) (Dy (Aw EQ (Ai Aj (pv 0) Ac (λ_ _=>rfl)) Ac (AD _))))) (Af Bk) AE)),?_⟩
  try dsimp only[cxK]
  refine xwi rfl rfl rfl (SqT.of c) (Ah (j:=2) rfl) (xq2 rfl rfl (xq1 rfl ?_));rw[X4 (by lia:¬d<0)];refine Bc (xwi rfl rfl rfl (SqT.of c) (Ah (j:=3) rfl) (xq2 rfl rfl (xq1 rfl ?_)));rw[X4 (by lia:¬g<0)];exact Bc k
inductive SpPI(a:Ad)(vs:List V)(H:Hp)(Q:VK):Prop
 |mk (g:GA) (G:Gv) (f n:Nat) (t:Addr) (x y wd ht:Int) (_:vs=[.ref g.p,.int f,.ref t]) (_:Bd a H g G) (_:Al G f ((n+1:Nat):Int)) (_:n<48) (_:H t=some (.tup [.int x,.int y,.int wd,.int ht])) (_:∀(t':Addr)(H':Hp),Ax H H'->H' t'=some (.tup [.int (clL (x+2^n)),.int (clL (y+2^n)),.int (clR n (x+2^n+wd)),.int (clR n (y+2^n+ht))])->Q (.ref t') H'):SpPI a vs H Q
def spPI(a:Ad):Sp:=λvs H Q _=>SpPI a vs H Q
theorem ok_pi(F:Fun K "part_in" "part_in" Mo f fd)(T:Top K mg a)(o:Cal P w K mg base CX0 4 "reach_of" TL (JD a)):AJ P w K mg base CX0 5 f fd Fu (spPI a):=by
  refine F.ok Fb (λ_ _ _ _ h=>by rcases h;subst_vars;rfl) λl A e s H vs Q E p h=>?_
  obtain⟨g,G,r,n,t,x,y,u,v,rfl,q,m,c,b,k⟩:=h;refine⟨_,(Ae (An (i:=3) Fb.nd rfl (Or.inl rfl) (Ap o (rm p) rfl Ao (Aa (pv 0) (Aa (pv 1) Ab)))) (Ae (An (i:=4) Fb.nd rfl (Or.inl rfl) (Ay AQ (Ai Aj (pv 2) Ac (λ_ _=>rfl)) (pv 3))) (Ae (An (i:=5) Fb.nd rfl (Or.inl rfl) (Ay AQ (Ai Aj (pv 2) Ac (λ_ _=>rfl)) (pv 3))) (Ae (An (i:=6) Fb.nd rfl (Or.inl rfl) (Ay CV Ac (pv 3))) (Af (Ar (CD (Aa (Au (Dj rfl) rfl T.b_max K5 (Aa (pv 4) (AL Ab))) (Aa (Au (Dj rfl) rfl T.b_max K5 (Aa (pv 5) (AL Ab))) (Aa (Au (DG rfl) rfl T.b_min K8 (AV AQ (pv 4) (Ai Aj (pv 2) Ac (λ_ _=>rfl)) (Aa (pv 6) Ab))) (Aa (Au (DG rfl) rfl T.b_min K8 (AV AQ (pv 5) (Ai Aj (pv 2) Ac (λ_ _=>rfl)) (Aa (pv 6) Ab))) Ab))))))))))),?_⟩
  try dsimp only[cxK]
  refine xw2 rfl rfl ⟨g,G,r,n,rfl,q.at',m,c,?_⟩;refine xwi rfl rfl rfl (SqT.of b) (Ah (j:=0) rfl) (xwb rfl rfl rfl ?_);refine xwi rfl rfl rfl (SqT.of b) (Ah (j:=1) rfl) (xwb rfl rfl rfl ?_);refine xwb rfl rfl rfl ⟨.inl ⟨by decide,by decide⟩,?_⟩;refine xq1 rfl ⟨_,_,rfl,(xq1 rfl ⟨_,_,rfl,(xwj rfl rfl rfl rfl (SqT.of b) (Ah (j:=2) rfl) (xq2 rfl rfl (xq1 rfl ⟨_,_,rfl,(xwj rfl rfl rfl rfl (SqT.of b) (Ah (j:=3) rfl) (xq2 rfl rfl (xq1 rfl ⟨_,_,rfl,(by show 4<=sizeLine;decide),λt' d=>?_⟩)))⟩)))⟩)⟩;exact k t' _ (AB d) Ag
end
end J
namespace J
open PySem L2
theorem Clo.un{G:Gv}{U:List Nat}(h:∀o∈U,∃S,Clo G S/\o∈S/\∀x∈S,x∈U):Clo G U:=λo p=>by
 apply AM;intro k f;obtain⟨S,c,m,sub⟩:=h o p;apply f;clear f k;rcases c o m with z|⟨n,q,a,b,d,e,j,l,i,g,r⟩
 ·exact .inl z
 ·exact .inr ⟨n,q,a,b,d,e,j,sub _ l,sub _ i,sub _ g,sub _ r⟩
theorem clo_four{G:Gv}{n m j r i p:Nat}{q:Sq}{S c f e d:List Nat}(nm:Cu G n m q j r i p)(g:Clo G S)(v:Clo G (c++S))(s:Clo G (f++S))(c2:Clo G (e++S))(u:Clo G (d++S))(k:j∈c++S)(l:r∈f++S)(o:i∈e++S)(h:p∈d++S):Clo G (m::(c++(f++(e++d)))++S):=by
 have t:Clo G (c++(f++(e++d))++S):=Clo.un λx b=>by
  simp only[D3]at b;rcases b with (b|b|b|b)|b
  ·exact⟨_,v,by simp[b],λy a=>by simp only[D3]at a⊢;rcases a with a|a<;>simp[a]⟩
  ·exact⟨_,s,by simp[b],λy a=>by simp only[D3]at a⊢;rcases a with a|a<;>simp[a]⟩
  ·exact⟨_,c2,by simp[b],λy a=>by simp only[D3]at a⊢;rcases a with a|a<;>simp[a]⟩
  ·exact⟨_,u,by simp[b],λy a=>by simp only[D3]at a⊢;rcases a with a|a<;>simp[a]⟩
  ·exact⟨_,g,b,λy a=>by simp[a]⟩
 simp only[D3]at k l o h;refine Clo.cons t nm ⟨?_,?_,?_,?_⟩
 ·simp only[D3];rcases k with z|z<;>simp[z]
 ·simp only[D3];rcases l with z|z<;>simp[z]
 ·simp only[D3];rcases o with z|z<;>simp[z]
 ·simp only[D3];rcases h with z|z<;>simp[z]
theorem spl_w{l r h:Int}(a:0<=l):((spl l r h 0).2-(spl l r h 0).1).toNat+((spl l r h 1).2-(spl l r h 1).1).toNat=(r-l).toNat:=by
 show((if h<r then h else r)-l).toNat+(r-h-(if l-h<0 then 0 else l-h)).toNat=(r-l).toNat;split<;>split<;>lia
theorem Yk{l r h:Int}(a:0<=l)(k:Nat):0<=(spl l r h k).1:=by
 match k with
 |0=>exact a
 |k+1=>show 0<=(if l-h<0 then 0 else l-h);split<;>lia
theorem area4(a b c d:Nat):a*c+b*c+a*d+b*d=(a+b)*(c+d):=by
 rw[Nat.add_mul,Nat.mul_add,Nat.mul_add];lia
theorem Vp{G:Gv}(ok:GOk G){S:List Nat}(f:Clo G S):∀{n i o m:Nat}{l t r b:Int},Al G i (n:Int)->Al G o (n:Int)->o∈S->FL G n i o l t r b m->0<=l->0<=t->∃T:List Nat,T.length<=(r-l).toNat*(b-t).toNat*(n+1)/\m∈T++S/\Clo G (T++S)
 |n,i,o,m,l,t,r,b,li,lo,mo,mx,l0,t0=>by
  by_cases em:r<=l\/b<=t
  ·refine⟨[],M6 _,?_,f⟩;rw[mx.empty ok lo em];exact mo
  have p1:1<=(r-l).toNat:=by lia
  have p2:1<=(b-t).toNat:=by lia
  have pa:1<=(r-l).toNat*(b-t).toNat:=Nat.mul_pos p1 p2;cases n with
  |zero =>
   refine⟨[m],by show 1<=_;lia,by simp,λx u=>?_⟩;rcases C1.mp u with rfl|u
   ·exact .inl (Ve ok mx.lev)
   ·rcases f x u with z|⟨n,q,a,b,d,e,nd,E,p,w,V⟩
    ·exact .inl z
    ·exact .inr ⟨n,q,a,b,d,e,nd,C4 _ E,C4 _ p,C4 _ w,C4 _ V⟩
  |succ n =>
   apply AM;intro D g;obtain⟨qm,R,E,p,w,nm⟩:=Be ok mx.lev;obtain⟨qo,M,o1,o2,X,no⟩:=Be ok lo;obtain⟨qi,i0,i1,i2,i3,I⟩:=Be ok li;apply g;clear g D;have oS:∀k,k<4->f4 M o1 o2 X k∈S:=λk j=>by
    apply AM;intro D g;obtain⟨U,a1,a2,a3⟩:=f.get ok mo no;apply g;clear g D
    match k,j with
    |0,_=>exact U
    |1,_=>exact a1
    |2,_=>exact a2
    |3,_=>exact a3
   have all:∀k,k<4->∃T:List Nat,T.length<=((spl l r (2^n) (k%2)).2-(spl l r (2^n) (k%2)).1).toNat*((spl t b (2^n) (k/2)).2-(spl t b (2^n) (k/2)).1).toNat*(n+1)/\f4 R E p w k∈T++S/\Clo G (T++S):=λk j=>Vp ok f (I.nat j).2 (no.nat j).2 (oS k j) (mx.part I no nm j) (Yk l0 _) (Yk t0 _);obtain⟨Q,C,K,c0⟩:=all 0 A3;obtain⟨T1,B,P,N⟩:=all 1 A3;obtain⟨T2,v,h2,c2⟩:=all 2 A3;obtain⟨Z,s,Y,c3⟩:=all 3 A3;have wx:=spl_w (l:=l) (r:=r) (h:=2^n) l0;have O:=spl_w (l:=t) (r:=b) (h:=2^n) t0;have e0:(0%2:Nat)=0:=rfl;rw[show(0%2:Nat)=0 from rfl,show(0/2:Nat)=0 from rfl]at C;rw[show(1%2:Nat)=1 from rfl,show(1/2:Nat)=0 from rfl]at B;rw[show(2%2:Nat)=0 from rfl,show(2/2:Nat)=1 from rfl]at v;rw[show(3%2:Nat)=1 from rfl,show(3/2:Nat)=1 from rfl]at s;generalize ((spl l r (2^n) 0).2-(spl l r (2^n) 0).1).toNat=a at *
   generalize ((spl l r (2^n) 1).2-(spl l r (2^n) 1).1).toNat=y at *
   generalize ((spl t b (2^n) 0).2-(spl t b (2^n) 0).1).toNat=c at *
   generalize ((spl t b (2^n) 1).2-(spl t b (2^n) 1).1).toNat=d at *
   have H:=area4 a y c d;rw[wx,O]at H;generalize (r-l).toNat*(b-t).toNat=A at *
   have sum:a*c*(n+1)+y*c*(n+1)+a*d*(n+1)+y*d*(n+1)=A*(n+1):=by rw[<-H,Nat.add_mul,Nat.add_mul,Nat.add_mul]
   have up:A*(n+1+1)=A*(n+1)+A:=Nat.mul_succ _ _;exact⟨m::(Q++(T1++(T2++Z))),by simp only[F2,C6];lia,by simp,clo_four nm f c0 N c2 c3 K P h2 Y⟩
theorem fs_area{G:Gv}(ok:GOk G){S:List Nat}(c:Clo G S)(g:∀j,j<=48->bareN j∈S){n i o m A:Nat}{l t r b:Int}(h:Al G i (n:Int))(lo:Al G o (n:Int))(q:o∈S)(mx:FL G n i o l t r b m)(s:0<=l)(f:0<=t)(v:n<=49)(d:(r-l).toNat*(b-t).toNat<=A):FS G m (S.length+A*50):=by
 apply AM;intro p a;obtain⟨T,w,k,e⟩:=Vp ok c h lo q mx s f;apply a;clear a p;refine⟨T++S,k,λj u=>D3.mpr (.inr (g j u)),e,?_⟩;rw[C6];have:(r-l).toNat*(b-t).toNat*(n+1)<=A*50:=Nat.mul_le_mul d A0;lia
seal L2.PA L2.PE L2.PS L2.PSs L2.PT L2.PW
theorem WP{G r:Gv}(a:G=G0++r)(ok:GOk G){n j w:Nat}(i:n+j<=46)(h:Al G (bareN (n+1)) ((n+1:Nat):Int))(g:Ma G n (bareN (n+1)) j w)(b:Al G w ((n+j+1:Nat):Int)):w=bareN (n+j+1):=by
 refine EY ok b (Ds a A0) λx y f d=>?_;rw[El a ok A0 f d];have c:=Jh (n+j);have s:=PJ (n+j);have e:=GU a ok A0 g ((x:Int)-2^(n+j)) ((y:Int)-2^(n+j));unfold fieldF at e;rw[X5 ⟨by lia,by lia,by lia,by lia⟩,show((x:Int)-2^(n+j)+2^(n+j)).toNat=x by lia,show((y:Int)-2^(n+j)+2^(n+j)).toNat=y by lia]at e;rw[e];split
 ·rename_i z;exact El a ok A0 (EN z.1 z.2.1) (EN z.2.2.1 z.2.2.2)
 ·rfl
section
variable{P:Program}{w:World}{K:W.Frag}{mg:Str->Option Value}{base:Heap}{a:Ad}
inductive SpFill(a:Ad)(vs:List V)(H:Hp)(Q:VK):Prop
 |mk (g:GA) (G:Gv) (f n:Nat) (t:Addr) (x y wd ht:Int) (s B C:Nat) (_:vs=[.ref g.p,.int f,.ref t,.int s]) (_:Bd a H g G) (_:Al G f ((n+1:Nat):Int)) (_:n<=40) (_:IT G n f) (_:H t=some (.tup [.int x,.int y,.int wd,.int ht])) (_:0<=wd) (_:0<=ht) (_:(0<wd->0<ht->BP x y wd ht (2^40))) (_:s<8) (_:FS G f B) (_:(f=bareN (n+1)/\900<=C)\/17*B+4000<=C\/wd.toNat*ht.toNat*50+B+300<=C) (_:B<=200000) (_:G.length+16*B<7500000) (_:∀(r m:Nat)(G':Gv)(H':Hp),Fr g H H'->Bd a H' g G'->AI G G' (16*B+4000)->Al G' r ((m+1:Nat):Int)->m<=40->IT G' m r->(∀u v,fieldF G' m r u v=if InB x y wd ht u v then s else fieldF G n f u v)->FS G' r C->Q (.int r) H'):SpFill a vs H Q
def QD(a:Ad):Sp:=λvs H Q _=>SpFill a vs H Q
theorem ok_fill(F:Fun K "filled" "filled" Oc f fd)(T:Top K mg a)(cB:Cal P w K mg base CX0 1 "check_box" SC Yy)(aD:Cal P w K mg base CX0 1 "lies_within" Pn Sd)(b6:Cal P w K mg base CX0 2 "is_state" TM spIS)(bC:Cal P w K mg base CX0 5 "widened_over" Fu (spWO a))(aO:BK P w K mg base CX0 4 a.c_Grove "solid" Ew (Nl a))(a7:BK P w K mg base CX0 3 a.c_Grove "level_of" Jt (LB a))(cH:Cal P w K mg base CX0 5 "part_in" Fu (spPI a))(cE:Cal P w K mg base CX0 102 "mixed" JL (Sc a P w 50))(aP:Cal P w K mg base CX0 4 "trimmed" JK (NM a)):AJ P w K mg base CX0 103 f fd On (QD a):=by
  refine F.ok JF (λ_ _ _ _ h=>by rcases h;subst_vars;rfl) λa8 A a1 s H vs Q E hr h=>?_
  obtain⟨g,G,f',n,t,x,y,l,o,st,B,C,rfl,fu,lf,ah,tr,hb,w0,h0,a0,s8,fs,Z,B2,few,k⟩:=h;refine⟨_,(Ae (Co (Ap cB (rm hr) rfl Ao (Aa (pv 2) Ab))) (Ae (An (i:=4) JF.nd rfl (Or.inl rfl) (EJ (CH MO (Ai Aj (pv 2) Ac (λ_ _=>rfl)) Ac (AD _)) (Ft (CH MO (Ai Aj (pv 2) Ac (λ_ _=>rfl)) Ac (AD _))))) (Ae (AN (PW.pt (Lo (Cl (pv 4)) (Ip (CC (Cl (Ap aD (rm hr) rfl Ao (Aa (pv 2) (Aa (BL rfl T.k_LIMIT) Ab)))))))) (Af Bk) AE) (Ae (AN (CC (Cl (Ap b6 (rm hr) rfl Ao (Aa (pv 3) Ab)))) (Af Bk) AE) (Ae (AN (CC (Cl (pv 4))) (Af (Ar (pv 1))) AE) (Ae (An (i:=5) JF.nd rfl (Or.inl rfl) (Ap bC (rm hr) rfl Ao (Aa (pv 0) (Aa (pv 1) (Aa (pv 2) Ab))))) (Ae (An (i:=6) JF.nd rfl (Or.inl rfl) (AF (pv 0) aO (rm hr) Ao (Aa (AF (pv 0) a7 (rm hr) Ao (Aa (pv 5) Ab)) (Aa (pv 3) Ab)))) (Af (Ar (Ap aP (rm hr) rfl Ao (Aa (pv 0) (Aa (Ap cE (rm hr) rfl Ao (Aa (pv 0) (Aa (pv 6) (Aa (pv 5) (Aa (Ap cH (rm hr) rfl Ao (Aa (pv 0) (Aa (pv 5) (Aa (pv 2) Ab)))) (Aa (YL (sh:=[false,false,true])) Ab)))))) Ab)))))))))))),?_⟩
  try dsimp only[cxK]
  refine xq1 rfl ⟨t,x,y,l,o,rfl,hb,w0,h0,?_⟩;refine ev_val (t:=tAndV (tOp (rI0 λi j=>V.bl (decide (j<i))) (tOp (FM K) (Ey 2) (tC (V.int 2))) (tC (V.int 0))) (tOp (rI0 λi j=>V.bl (decide (j<i))) (tOp (FM K) (Ey 2) (tC (V.int 3))) (tC (V.int 0)))) (λv H1=>v=.bl (decide (0<l) && decide (0<o))/\H=H1) (λQ' q'=>?_) ?_
  ·refine xwi rfl rfl rfl (SqT.of hb) (Ah (j:=2) rfl) (xq2 rfl rfl (xq1 rfl ?_));revert q';generalize decide ((0:Int)<l)=b1;cases b1
   ·intro q';exact Bc (q' _ _ ⟨rfl,rfl⟩)
   ·intro q';exact BJ (xwi rfl rfl rfl (SqT.of hb) (Ah (j:=3) rfl) (xq2 rfl rfl (q' _ _ ⟨rfl,rfl⟩)))
  rintro v H1 ⟨rfl,rfl⟩;by_cases hp:0<l/\0<o
  ·have li:=a0 hp.1 hp.2;rw[Z7 hp.1,Z7 hp.2];refine xq1 rfl ⟨true,rfl,BJ (xq1 rfl ⟨t,x,y,l,o,2^40,rfl,hb,(xq1 rfl ?_)⟩)⟩;rw[Z7 li];refine Bc (xq1 rfl ⟨(st:Int),rfl,by lia,by lia,true,rfl,Bc (xq1 rfl ⟨true,rfl,Bc ?_⟩)⟩);refine xw3 rfl rfl rfl ⟨g,G,f',n,t,x,y,l,o,rfl,fu,lf,ah,hb,li,by lia,λj w' G1 H1 ae c aa nk wi lw R _=>?_⟩;have g1:=aa.few;have ar:H1 t=some (.tup [.int x,.int y,.int l,.int o]):=ae.tup fu.at' hb;obtain⟨qw,ew,az⟩:=id lw;refine xq1 rfl ⟨g.p,g.dx,(xq1 rfl ⟨c.at'.hp,Su g,(xq1 rfl ⟨g.p,g.dx,(xq1 rfl ⟨c.at'.hp,DD g,(xq1 rfl ⟨g,G1,w',qw,rfl,c.at',ew,(xq1 rfl ?_)⟩)⟩)⟩)⟩)⟩;refine⟨g,G1,n+j+1,st,by rw[az];rfl,c.at',c.ok,by lia,s8,by lia,λi G2 H2 ad ax I M=>?_⟩;have D:=c.fr ad ax I;have g2:=I.few;have a3:H2 t=some (.tup [.int x,.int y,.int l,.int o]):=ad.tup c.at' ar;have U:=I.lev lw;refine xw3 rfl rfl rfl (xw3 rfl rfl rfl (xq1 rfl ⟨g,G2,w',n+j,t,x,y,l,o,rfl,D,U,by lia,a3,λtp H3 s3 ak=>?_⟩));rw[clL_id (by unfold BP at R;lia),clL_id (by unfold BP at R;lia),clR_id (by unfold BP at R;lia),clR_id (by unfold BP at R;lia)]at ak;intro kn H4 ab s4 na;have aj:=(D.same s3).same s4;have ai:=s4 _ _ ak;have aq:H kn=none:=by
    cases e:H kn with
    |none=>rfl
    |some oo =>
     have z:kn=g.lv\/kn=g.pt\/kn=g.nm:=by
      refine X9 λz=>?_;have q1:=ae _ _ e (λq=>z (.inl q)) (λq=>z (.inr (.inl q))) (λq=>z (.inr (.inr q)));have q2:=ad _ _ q1 (λq=>z (.inl q)) (λq=>z (.inr (.inl q))) (λq=>z (.inr (.inr q)));rw[s3 _ _ q2]at ab;cases ab
     have w3:=(D.same s3).nw;obtain⟨o1,e1⟩:=w3.s kn (by simp[DY];lia);rw[ab]at e1;cases e1
   have kg:kn∉DY g:=λz=>by
    obtain⟨o1,e1⟩:=(D.same s3).nw.s kn z;rw[ab]at e1;cases e1
   obtain⟨r0,e0⟩:=aj.g0;obtain⟨S,m1,m2,af,lS,lC⟩:∃S:List Nat,w'∈S/\(∀j,j<=48->bareN j∈S)/\Clo G2 S/\S.length<=B+200/\(17*S.length+50<=C\/l.toNat*o.toNat*50+S.length+50<=C):=by
    rcases Z with ⟨rfl,Z⟩|Z
    ·have e1:=A3e c.g0;have eb:=WP e1 c.ok A0 (Ds e1 (n:=n+1) A0) wi lw;obtain⟨S,h1,h2,h3,h4⟩:=((Ry e1 c.ok (j:=n+j+1) A0).app I).ex;obtain⟨S0,q1,q2,q3,q4⟩:=fs.ex;exact⟨S,by rw[eb];exact h1,h2,h3,by lia,.inl A0⟩
    ·obtain⟨S,h1,h2,h3,h4⟩:=(((FS.widN (n:=n) (B:=B) (f:=f') (A3e c.g0) c.ok (fs.app aa) A0 wi)).app I).ex;exact⟨S,h1,h2,h3,by lia,Z.imp (λz=>by lia) (λz=>by lia)⟩
   have p2:=Iu (n+j);have e2:(2:Int)^(n+j+1)=2^(n+j)+2^(n+j):=by rw[Q8];lia
   have al:=R;unfold BP at al;have sx:JX (x+2^(n+j)) (x+2^(n+j)+l) (n+j+1) (x+2^(n+j)) (x+2^(n+j)+l):=JX.top A0 A0 A0;have sy:JX (y+2^(n+j)) (y+2^(n+j)+o) (n+j+1) (y+2^(n+j)) (y+2^(n+j)+o):=JX.top A0 A0 A0;refine⟨g,G2,⟨st,S,x+2^(n+j),x+2^(n+j)+l,y+2^(n+j),y+2^(n+j)+o,false⟩,kn,tp,[],i,w',n+j+1,x+2^(n+j),y+2^(n+j),x+2^(n+j)+l,y+2^(n+j)+o,rfl,aj,na,kg,ai,kok0 _ _,af,s8,⟨Sol.lev D.ok s8 M,U,M,m1⟩,by lia,by lia,⟨by lia,by lia,by lia,by lia⟩,λ_=>sx,λ_=>sy,⟨by show G2.length+16*S.length<8000000+0;lia,by show 16*S.length<4000000;lia⟩,λm G5 Y H5 x5 N a4 ao a5 d a6 O=>?_⟩;have l5:=ao.len N.ok;have l5:Y.length<=16*S.length:=l5;have g5:=d.few;have g5:G5.length<=G2.length+(Y.length-0):=g5;refine⟨g,G5,m,n+j,rfl,N,O.lev,by lia,λr G6 H6 as ac X am=>?_⟩;have g6:=X.few;obtain⟨r6,e6⟩:=ac.g0;obtain⟨m6,a9,a2,aw,ay⟩:=GW e6 ac.ok A0 (X.lev O.lev) am;have an:AI G2 G6 (Y.length-0+48):=d.trans X;have au:AI G G6 (16*B+4000):=((aa.trans I).trans an).mono A0;have md:Ur G5 ⟨st,S,x+2^(n+j),x+2^(n+j)+l,y+2^(n+j),y+2^(n+j)+o,false⟩ m:=⟨_,n+j+1,i,w',_,_,_,_,⟨rfl,⟨d.lev (Sol.lev D.ok s8 M),d.lev U,Sol.goes d M,m1⟩,O,sx,sy⟩⟩
   have ag:=fs_mix N.ok (af.app d) m2 md s8 (λz=>nomatch z);have ag:FS G5 m (C-50):=by
    rcases lC with lC|lC
    ·exact FS.mono ag (show 17*S.length<=C-50 by lia)
    ·exact(fs_area N.ok (af.app d) m2 (d.lev (Sol.lev D.ok s8 M)) (d.lev U) m1 O A0 A0 A0 (A:=l.toNat*o.toNat) (by rw[show x+2^(n+j)+l-(x+2^(n+j))=l by lia,show y+2^(n+j)+o-(y+2^(n+j))=o by lia];exact C5 _)).mono A0
   refine k r m6 G6 H6 ?_ ac au a2 A0 aw (λu v=>?_) (((ag.app X).trim ac.ok am).mono A0)
   ·intro bb oo e n1 n2 n3;have q1:=ad _ _ (ae _ _ e n1 n2 n3) n1 n2 n3;have q2:=s4 _ _ (s3 _ _ q1);have q3:=x5.get (b:=bb) (by
     simp only[frM,C1,D6,K7,A4e];exact⟨n1,n2,n3,λz=>by rw[z,aq]at e;cases e⟩) q2
    exact as _ _ q3 n1 n2 n3
   ·obtain⟨ra,ea⟩:=c.g0;rw[ay u v,Di N.ok X O.lev,Wu N.ok s8 (Sol.goes d M) R O,Di D.ok d U,Di c.ok I lw,GU ea c.ok A0 wi,Di fu.ok aa lf]
  ·have e:(decide (0<l) && decide (0<o))=false:=by
    by_cases z:0<l
    ·rw[X4 (λq=>hp ⟨z,q⟩),W9]
    ·rw[X4 z,Bool.false_and]
   rw[e];refine xq1 rfl ⟨false,rfl,Bc (Bc (xq1 rfl ⟨(st:Int),rfl,by lia,by lia,true,rfl,Bc (xq1 rfl ⟨false,rfl,BJ (xq1 rfl ?_)⟩)⟩))⟩;have av:FS G f' C:=by
    rcases Z with ⟨rfl,Z⟩|Z
    ·exact(Ry (A3e fu.g0) fu.ok A0).mono A0
    ·exact fs.mono (by rcases Z with Z|Z<;>lia)
   refine k f' n G H (Fr.refl g H) fu ((AI.refl fu.ok).mono A0) lf ah tr (λu v=>?_) av;rw[Z8];unfold InB;lia
end
theorem UT{b:Nat}(h:b<=40):(2:Int)^b<=2^40:=by
 have:=O3 (show 0<2 by decide) h
 exact_mod_cast this
section
variable{P:Program}{w:World}{K:W.Frag}{mg:Str->Option Value}{base:Heap}{a:Ad}
inductive SpLMix(vs:List V)(H:Hp)(Q:VK):Prop
 |mk (c k:Int) (_:vs=[.int c,.int k]) (_:0<=k) (_:k<=1000) (_:∀v:Int,Q (.int v) H):SpLMix vs H Q
def Qy:Sp:=λvs H Q _=>SpLMix vs H Q
theorem ok_lmix(F:Fun K "_law_mix" "_law_mix" Ll f fd)(T:Top K mg a):AJ P w K mg base CX0 1 f fd IC Qy:=by
  refine F.ok Ja (λ_ _ _ _ h=>by rcases h;subst_vars;rfl) λd A b s H vs Q E e h=>?_
  obtain⟨c,k,rfl,k0,k1,q⟩:=h;refine⟨_,(Ae (An (i:=2) Ja.nd rfl (Or.inl rfl) (Ay AQ (Ay AQ (Ay BG (pv 0) Ac) (Ay CV Ac (pv 1))) Ac)) (Ae (An (i:=2) Ja.nd rfl (Or.inl rfl) (Ay BG (Ay CV (pv 2) (Ay AQ Ac (Ay CV Ac (pv 1)))) Ac)) (Af (Ar (Ay BG (Ay CV (Ay AQ (Ay Du (pv 2) Ac) (Ay CV (pv 2) Ac)) Ac) Ac))))),?_⟩
  try dsimp only[cxK]
  refine xwb rfl rfl rfl ⟨B5,(xwb rfl rfl rfl ⟨.inl ⟨by decide,by decide⟩,(xq2 rfl rfl (xq2 rfl rfl ?_))⟩)⟩;refine xw2 rfl rfl (xq2 rfl rfl ⟨.inl ⟨by decide,by decide⟩,(xq2 rfl rfl (xq2 rfl rfl ⟨.inr ⟨by lia,by lia⟩,(xq2 rfl rfl ⟨B5,?_⟩)⟩))⟩);exact xwb rfl rfl rfl ⟨⟨by decide,by decide⟩,(xwb rfl rfl rfl ⟨.inr ⟨by decide,by decide⟩,(xq2 rfl rfl (xq2 rfl rfl ⟨.inr ⟨by decide,by decide⟩,(xq2 rfl rfl ⟨B5,q _⟩)⟩))⟩)⟩
inductive SpPl(vs:List V)(H:Hp)(Q:VK):Prop
 |mk (c k:Int) (b:Nat) (_:vs=[.int c,.int k,.int (b:Int)]) (_:0<=k) (_:k<=1000) (_:b<=40) (_:∀p:Int,-(2^b)<=p->p<2^b->Q (.int p) H):SpPl vs H Q
def spPl:Sp:=λvs H Q _=>SpPl vs H Q
theorem ok_pl(F:Fun K "_law_place" "_law_place" Ih f fd)(T:Top K mg a)(l:Cal P w K mg base CX0 1 "_law_mix" IC Qy):AJ P w K mg base CX0 2 f fd Rh spPl:=by
  refine F.ok Pf (λ_ _ _ _ h=>by rcases h;subst_vars;rfl) λg A d s H vs Q E m h=>?_
  obtain⟨c,k,b,rfl,k0,k1,i,q⟩:=h;have p:=Iu b;have e:(2:Int)*2^((b:Int)).toNat=2^b+2^b:=by rw[M4];lia
  have j:(1:Int)*2^((b:Int)).toNat=2^b:=by rw[M4];lia
  refine⟨_,(Af (Ar (Ay Bg (Ay BG (Ap l (rm m) rfl Ao (Aa (pv 0) (Aa (pv 1) Ab))) (Ay CU Ac (pv 2))) (Ay CU Ac (pv 2))))),?_⟩
  try dsimp only[cxK]
  refine xw2 rfl rfl ⟨c,k,rfl,k0,k1,λv=>?_⟩;refine xwb rfl rfl rfl ⟨⟨by lia,by lia,by decide⟩,(xq2 rfl rfl ⟨(by show(0:Int)<2*2^((b:Int)).toNat;lia),(xwb rfl rfl rfl ⟨⟨by lia,by lia,by decide⟩,(xq2 rfl rfl ?_)⟩)⟩)⟩;show Q (.int (v%(2*2^((b:Int)).toNat)-1*2^((b:Int)).toNat)) H;rw[e,j];have o:=L9 v (show(2:Int)^b+2^b≠0 by lia);have n:=L5 v (show(0:Int)<2^b+2^b by lia);exact q _ A0 A0
inductive SpLong(vs:List V)(H:Hp)(Q:VK):Prop
 |mk (c k m:Int) (_:vs=[.int c,.int k,.int m]) (_:0<=k) (_:k<=1000) (_:0<=m) (_:∀v:Int,0<=v->v<=m->Q (.int v) H):SpLong vs H Q
def Ts:Sp:=λvs H Q _=>SpLong vs H Q
theorem ok_long(F:Fun K "_law_long" "_law_long" Jf f fd)(T:Top K mg a)(g:Cal P w K mg base CX0 1 "_law_mix" IC Qy):AJ P w K mg base CX0 2 f fd SE Ts:=by
  refine F.ok QI (λ_ _ _ _ h=>by rcases h;subst_vars;rfl) λj A d s H vs Q E i h=>?_
  obtain⟨c,k,m,rfl,k0,k1,o,q⟩:=h;refine⟨_,(Ae (AN (Aw Cy (Ay BG (pv 0) Ac) Ac (AD _)) (Af (Ar (Ay BG (Ap g (rm i) rfl Ao (Aa (pv 0) (Aa (pv 1) Ab))) (Au (DG rfl) rfl T.b_min K8 (AV AQ (pv 2) Ac (AL Ab)))))) AE) (Af (Ar (Ay BG (Ap g (rm i) rfl Ao (Aa (pv 0) (Aa (pv 1) Ab))) (Ay AQ (pv 2) Ac))))),?_⟩
  try dsimp only[cxK]
  refine⟨_,rfl,_,_,rfl,rfl,(by show(0:Int)<3;decide),rfl,_,rfl,EC (λ_=>?_) (λ_=>?_)⟩
  ·refine⟨_,rfl,_,rfl,c,k,rfl,k0,k1,λv=>⟨_,rfl,_,_,rfl,rfl,_,_,rfl,?_⟩⟩;have b:(0:Int)<(if(4:Int)<m+1 then 4 else m+1):=by split<;>lia
   refine⟨_,_,rfl,rfl,b,?_⟩;have e:=L9 v (show(if(4:Int)<m+1 then 4 else m+1)≠0 by lia);have l:=L5 v b;have n:(if(4:Int)<m+1 then 4 else m+1)<=m+1:=by split<;>lia
   exact q _ e A0
  ·refine⟨_,rfl,_,rfl,c,k,rfl,k0,k1,λv=>⟨_,rfl,_,_,rfl,rfl,?_⟩⟩;have b:(0:Int)<m+1:=by lia
   refine⟨_,_,rfl,rfl,b,?_⟩;have e:=L9 v (show m+1≠0 by lia);have l:=L5 v b;exact q _ e A0
inductive VF(K:W.Frag)(vs:List V)(H:Hp)(Q:VK):Prop
 |mk (l:Addr) (ns:List Int) (fi:Int) (b:Nat) (_:vs=[.ref l,.int fi,.int (b:Int)]) (_:SqL K H l (ns.map V.int)) (_:0<=fi) (_:b<=40) (_:∀(t:Addr)(x y wd ht:Int)(H':Hp),Ax H H'->H' t=some (.tup [.int x,.int y,.int wd,.int ht])->0<=wd->0<=ht->BP x y wd ht (2^b)->Q (.ref t) H'):VF K vs H Q
def Np(K:W.Frag):Sp:=λvs H Q _=>VF K vs H Q
theorem ok_bby(F:Fun K "_law_box_by" "_law_box_by" Gi f fd)(T:Top K mg a)(j:Cal P w K mg base CX0 1 "_law_at" Wr (Yz K))(o:Cal P w K mg base CX0 2 "_law_place" Rh spPl)(n:Cal P w K mg base CX0 2 "_law_long" SE Ts):AJ P w K mg base CX0 3 f fd Ev (Np K):=by
  refine F.ok CN (λ_ _ _ _ h=>by rcases h;subst_vars;rfl) λB A k s H vs Q E c h=>?_
  obtain⟨l,ns,g,b,rfl,e,v,d,q⟩:=h;refine⟨_,(Ae (An (i:=3) CN.nd rfl (Or.inl rfl) (Ap o (rm c) rfl Ao (Aa (Ap j (rm c) rfl Ao (Aa (pv 0) (Aa (pv 1) Ab))) (AL (Aa (pv 2) Ab))))) (Ae (An (i:=4) CN.nd rfl (Or.inl rfl) (Ap o (rm c) rfl Ao (Aa (Ap j (rm c) rfl Ao (Aa (pv 0) (AV AQ (pv 1) Ac Ab))) (AL (Aa (pv 2) Ab))))) (Ae (An (i:=5) CN.nd rfl (Or.inl rfl) (Ap n (rm c) rfl Ao (Aa (Ap j (rm c) rfl Ao (Aa (pv 0) (AV AQ (pv 1) Ac Ab))) (AL (AV Bg (Ay CU Ac (pv 2)) (pv 3) Ab))))) (Ae (An (i:=6) CN.nd rfl (Or.inl rfl) (Ap n (rm c) rfl Ao (Aa (Ap j (rm c) rfl Ao (Aa (pv 0) (AV AQ (pv 1) Ac Ab))) (AL (AV Bg (Ay CU Ac (pv 2)) (pv 4) Ab))))) (Af (Ar (CD (Aa (pv 3) (Aa (pv 4) (Aa (pv 5) (Aa (pv 6) Ab))))))))))),?_⟩
  try dsimp only[cxK]
  have R:=Iu b;have pl:=UT d;have D:(1:Int)*2^((b:Int)).toNat=2^b:=by rw[M4];lia
  refine⟨_,rfl,_,rfl,l,ns,g,rfl,e,v,_,rfl,_,1,b,rfl,by decide,by decide,d,λx I O=>?_⟩;refine⟨_,rfl,_,rfl,_,_,rfl,rfl,l,ns,g+1,rfl,e,by lia,_,rfl,_,2,b,rfl,by decide,by decide,d,λy M N=>?_⟩;refine⟨_,rfl,_,rfl,_,_,rfl,rfl,l,ns,g+2,rfl,e,by lia,_,rfl,_,_,rfl,rfl,⟨by lia,by lia,by decide⟩,_,rfl,_,_,rfl,rfl,?_⟩;refine⟨_,3,1*2^((b:Int)).toNat-x,rfl,by decide,by decide,by lia,λG r C=>?_⟩;refine⟨_,rfl,_,rfl,_,_,rfl,rfl,l,ns,g+3,rfl,e,by lia,_,rfl,_,_,rfl,rfl,⟨by lia,by lia,by decide⟩,_,rfl,_,_,rfl,rfl,?_⟩;refine⟨_,4,1*2^((b:Int)).toNat-y,rfl,by decide,by decide,by lia,λz p u=>?_⟩;rw[D]at C u;refine⟨_,rfl,_,rfl,_,rfl,_,rfl,(by show 4<=sizeLine;decide),λt m=>q t x y G z _ (AB m) Ag r p ⟨by lia,by lia,by lia,by lia⟩⟩
end
end J
namespace J
open PySem L2
structure Vl(G:Gv)(f:Nat)(φ:Int->Int->Nat)(B:Nat):Prop where
 ex:∃n:Nat,(Al G f ((n+1:Nat):Int)/\IT G n f/\n<=40)/\∀u v,fieldF G n f u v=φ u v
 fs:FS G f B
structure Bo where
 x:Int
 y:Int
 wd:Int
 ht:Int
structure BoOk(q:Bo):Prop where
 w0:0<=q.wd
 h0:0<=q.ht
 li:BP q.x q.y q.wd q.ht (2^40)
def FO(H:Hp)(t:Addr)(q:Bo):Prop:=H t=some (.tup [.int q.x,.int q.y,.int q.wd,.int q.ht])
def FN(q:Bo)(s:Nat)(φ:Int->Int->Nat)(u v:Int):Nat:=if InB q.x q.y q.wd q.ht u v then s else φ u v
section
variable{P:Program}{w:World}{K:W.Frag}{mg:Str->Option Value}{base:Heap}{a:Ad}
theorem Jw{g:GA}{G:Gv}{H:Hp}{Q:VK}{E:XK}{f s B C:Nat}{φ:Int->Int->Nat}{t:Addr}{q:Bo}(U:Bd a H g G)(h:Vl G f φ B)(M:FO H t q)(z:0<=q.wd)(o:0<=q.ht)(i:0<q.wd->0<q.ht->BP q.x q.y q.wd q.ht (2^40))(S:s<8)(I:∀n:Nat,Al G f ((n+1:Nat):Int)->(f=bareN (n+1)/\900<=C)\/17*B+4000<=C)(D:B<=200000)(few:G.length+16*B<7500000)(k:∀(r:Nat)(c:Gv)(b:Hp),Fr g H b->Bd a b g c->AI G c (16*B+4000)->Vl c r (FN q s φ) C->Q (.int r) b):QD a [.ref g.p,.int f,.ref t,.int s] H Q E:=by
 obtain⟨n,⟨l,N,A⟩,T⟩:=h.ex;refine⟨g,G,f,n,t,q.x,q.y,q.wd,q.ht,s,B,C,rfl,U,l,A,N,M,z,o,i,S,h.fs,(I n l).imp id Or.inl,D,few,λr m c b fr j go O d R e fs=>k r c b fr j go ⟨⟨m,⟨O,R,d⟩,λu v=>?_⟩,fs⟩⟩;rw[e u v];unfold FN;split
 ·rfl
 ·exact T u v
end
seal L2.PA L2.PE L2.PS L2.PSs L2.PT L2.PW
structure KiW(K:W.Frag)(a:Ad)(c:Addr)(j:Nat):Prop where
 ec:Mb K c
 ef:Tm K c
 mr:mroIn K c (.ref a.x_FieldError)=some true
 kv:kitOne K (.ref c) (.type "ValueError")=some true
 jl:j<13
 k0:kitOne K (.ref c) (.ref a.x_NoNumber)=some (decide (j=0))
 k1:kitOne K (.ref c) (.ref a.x_NoRule)=some (decide (j=1))
 k2:kitOne K (.ref c) (.ref a.x_Restless)=some (decide (j=2))
 k3:kitOne K (.ref c) (.ref a.x_NoSquare)=some (decide (j=3))
 k4:kitOne K (.ref c) (.ref a.x_NoLevel)=some (decide (j=4))
 k5:kitOne K (.ref c) (.ref a.x_NoState)=some (decide (j=5))
 k6:kitOne K (.ref c) (.ref a.x_NoBox)=some (decide (j=6))
 k7:kitOne K (.ref c) (.ref a.x_TooFar)=some (decide (j=7))
 k8:kitOne K (.ref c) (.ref a.x_TooMany)=some (decide (j=8))
 k9:kitOne K (.ref c) (.ref a.x_NoSteps)=some (decide (j=9))
 k10:kitOne K (.ref c) (.ref a.x_NoPattern)=some (decide (j=10))
 k11:kitOne K (.ref c) (.ref a.x_NoName)=some (decide (j=11))
 k12:kitOne K (.ref c) (.ref a.x_NoRow)=some (decide (j=12))
def Qp:List Str:=["number","rule","restless","square","level","state","box","far","many","steps","pattern","name","row"]
def WV(j:Nat):Str:=Qp.getD j ""
def Lw(j:Nat):List Bool:=(List.range 13).map λi=>decide (j=i)
theorem WA{j:Nat}(h:j<13):(Lw j).countP id=1:=by
 have:∀j<13,(Lw j).countP id=1:=by decide
 exact this j h
section
variable{P:Program}{w:World}{K:W.Frag}{mg:Str->Option Value}{base:Heap}{a:Ad}
theorem kiw_far(T:Top K mg a):KiW K a a.x_TooFar 7:=⟨T.ec_TooFar,T.ef_TooFar,T.mr_TooFar,T.kv_TooFar,by decide,T.ki_TooFar_NoNumber,T.ki_TooFar_NoRule,T.ki_TooFar_Restless,T.ki_TooFar_NoSquare,T.ki_TooFar_NoLevel,T.ki_TooFar_NoState,T.ki_TooFar_NoBox,T.ki_TooFar_TooFar,T.ki_TooFar_TooMany,T.ki_TooFar_NoSteps,T.ki_TooFar_NoPattern,T.ki_TooFar_NoName,T.ki_TooFar_NoRow⟩
end
theorem word_at{j:Nat}(h:j<13):(Qp.map V.str)[j]?=some (.str (WV j)):=by
 rw[C3];unfold WV;rw[F0,D8 (show j<Qp.length from h)];rfl
theorem SO{j i:Nat}(a:i<13):(Lw j)[i]?=some (decide (j=i)):=by
 unfold Lw;rw[C3,Q7 a];rfl
section
variable{P:Program}{w:World}{K:W.Frag}{mg:Str->Option Value}{base:Heap}{a:Ad}
inductive SpWd(K:W.Frag)(a:Ad)(vs:List V)(H:Hp)(Q:VK):Prop
 |mk (e c:Addr) (j:Nat) (_:vs=[.ref e]) (_:H e=some (MR e c)) (_:KiW K a c j) (_:∀H',Ax H H'->Q (.str (WV j)) H'):SpWd K a vs H Q
def spWd(K:W.Frag)(a:Ad):Sp:=λvs H Q _=>SpWd K a vs H Q
theorem ok_wd(F:Fun K "_law_word" "_law_word" Je f fd)(T:Top K mg a):VJ P w K mg base 1 f fd FU (spWd K a):=by
 refine F.okH Cj (λvs H Q E h=>?_) (λaa A S s H vs Q hr h=>?_)
 ·obtain⟨e,c,j,rfl,_⟩:=h;rfl
 ·obtain⟨e,c,j,rfl,he,b,k⟩:=h;refine⟨_,(Ae (An (i:=1) Cj.nd rfl (Or.inl rfl) (CS (Aa (Au AW rfl T.b_isinstance Z9 (Aa (pv 0) (Aa (De rfl T.mx_NoNumber) Ab))) (Aa (Au AW rfl T.b_isinstance Z9 (Aa (pv 0) (Aa (De rfl T.mx_NoRule) Ab))) (Aa (Au AW rfl T.b_isinstance Z9 (Aa (pv 0) (Aa (De rfl T.mx_Restless) Ab))) (Aa (Au AW rfl T.b_isinstance Z9 (Aa (pv 0) (Aa (De rfl T.mx_NoSquare) Ab))) Ab)))))) (Ae (An (i:=1) Cj.nd rfl (Or.inl rfl) (Ay QT (pv 1) (CS (Aa (Au AW rfl T.b_isinstance Z9 (Aa (pv 0) (Aa (De rfl T.mx_NoLevel) Ab))) (Aa (Au AW rfl T.b_isinstance Z9 (Aa (pv 0) (Aa (De rfl T.mx_NoState) Ab))) (Aa (Au AW rfl T.b_isinstance Z9 (Aa (pv 0) (Aa (De rfl T.mx_NoBox) Ab))) Ab)))))) (Ae (An (i:=1) Cj.nd rfl (Or.inl rfl) (Ay QT (pv 1) (CS (Aa (Au AW rfl T.b_isinstance Z9 (Aa (pv 0) (Aa (De rfl T.mx_TooFar) Ab))) (Aa (Au AW rfl T.b_isinstance Z9 (Aa (pv 0) (Aa (De rfl T.mx_TooMany) Ab))) (Aa (Au AW rfl T.b_isinstance Z9 (Aa (pv 0) (Aa (De rfl T.mx_NoSteps) Ab))) Ab)))))) (Ae (An (i:=1) Cj.nd rfl (Or.inl rfl) (Ay QT (pv 1) (CS (Aa (Au AW rfl T.b_isinstance Z9 (Aa (pv 0) (Aa (De rfl T.mx_NoPattern) Ab))) (Aa (Au AW rfl T.b_isinstance Z9 (Aa (pv 0) (Aa (De rfl T.mx_NoName) Ab))) (Aa (Au AW rfl T.b_isinstance Z9 (Aa (pv 0) (Aa (De rfl T.mx_NoRow) Ab))) Ab)))))) (Ae (AN (PW.pt (Fs (CC (Cl (Au AW rfl T.b_isinstance Z9 (Aa (pv 0) (Aa (DU (v:=.ty "ValueError") rfl T.b_ValueError PyProof.Rows.Boot.«ValueError» rfl) Ab))))) (Dy (Aw MN (GK K6 PySem.F.slot_list_count PySem.F.type_list_count Wt (pv 1) (Aa Ol Ab)) Ac (AD _))))) (Af (Ar Lp)) AE) (Ae (An (i:=2) Cj.nd rfl (Or.inl rfl) (CS (Cp (Cp (Cp (Cp (Cp (Cp (Cp Ab))))))))) (Ae (An (i:=2) Cj.nd rfl (Or.inl rfl) (Ay QT (pv 2) (CS (Cp (Cp (Cp (Cp (Cp (Cp Ab))))))))) (Af (Ar (Ai Av (pv 2) (GK K6 PySem.F.slot_list_index PySem.F.type_list_index Ws (pv 1) (Aa Ol Ab)) (λ_ _=>rfl))))))))))),?_⟩
  try dsimp only[cxK]
  have ty:∀{H2:Hp},Ax H H2->TyX K H2 (.ref e) (.ref c):=λs=>.exc (s _ _ he) b.ef;have O:=Ax.refl H;refine xq1 rfl ⟨_,_,_,(xq2 rfl rfl ⟨ty O,b.k0,(xq1 rfl ⟨_,_,_,(xq2 rfl rfl ⟨ty O,b.k1,(xq1 rfl ⟨_,_,_,(xq2 rfl rfl ⟨ty O,b.k2,(xq1 rfl ⟨_,_,_,(xq2 rfl rfl ⟨ty O,b.k3,by show 4<=sizeLine;decide,λM U=>?_⟩)⟩)⟩)⟩)⟩)⟩)⟩)⟩;have D:=AB (o:=.lst [.bl (decide (j=0)),.bl (decide (j=1)),.bl (decide (j=2)),.bl (decide (j=3))]) U;have h1:upd H M (.lst [.bl (decide (j=0)),.bl (decide (j=1)),.bl (decide (j=2)),.bl (decide (j=3))]) M=some _:=Ag;generalize upd H M (.lst [.bl (decide (j=0)),.bl (decide (j=1)),.bl (decide (j=2)),.bl (decide (j=3))])=H1 at D h1⊢;refine xw2 rfl rfl ⟨_,_,_,(xq2 rfl rfl ⟨ty D,b.k4,(xq1 rfl ⟨_,_,_,(xq2 rfl rfl ⟨ty D,b.k5,(xq1 rfl ⟨_,_,_,(xq2 rfl rfl ⟨ty D,b.k6,by show 3<=sizeLine;decide,λp2 y=>?_⟩)⟩)⟩)⟩)⟩)⟩;refine⟨M,p2,(xq2 rfl rfl ⟨(AB y _ _ h1),Ag,(by show 4+3<=sizeLine;decide),λp3 R=>?_⟩)⟩;obtain⟨q,r,h3,t⟩:∃q,Ax H1 q/\q p3=some (.lst [.bl (decide (j=0)),.bl (decide (j=1)),.bl (decide (j=2)),.bl (decide (j=3)),.bl (decide (j=4)),.bl (decide (j=5)),.bl (decide (j=6))])/\upd (upd H1 p2 (.lst [.bl (decide (j=4)),.bl (decide (j=5)),.bl (decide (j=6))])) p3 (.lst ([.bl (decide (j=0)),.bl (decide (j=1)),.bl (decide (j=2)),.bl (decide (j=3))]++[.bl (decide (j=4)),.bl (decide (j=5)),.bl (decide (j=6))]))=q:=⟨_,(AB y).trans (AB R),Ag,rfl⟩
  rw[t];have r:=D.trans r;clear t;refine xw2 rfl rfl ⟨_,_,_,(xq2 rfl rfl ⟨ty r,b.k7,(xq1 rfl ⟨_,_,_,(xq2 rfl rfl ⟨ty r,b.k8,(xq1 rfl ⟨_,_,_,(xq2 rfl rfl ⟨ty r,b.k9,by show 3<=sizeLine;decide,λp4 C=>?_⟩)⟩)⟩)⟩)⟩)⟩;refine⟨p3,p4,(xq2 rfl rfl ⟨(AB C _ _ h3),Ag,(by show 7+3<=sizeLine;decide),λp5 Y=>?_⟩)⟩;obtain⟨p,n,h5,I⟩:∃p,Ax q p/\p p5=some (.lst [.bl (decide (j=0)),.bl (decide (j=1)),.bl (decide (j=2)),.bl (decide (j=3)),.bl (decide (j=4)),.bl (decide (j=5)),.bl (decide (j=6)),.bl (decide (j=7)),.bl (decide (j=8)),.bl (decide (j=9))])/\upd (upd q p4 (.lst [.bl (decide (j=7)),.bl (decide (j=8)),.bl (decide (j=9))])) p5 (.lst ([.bl (decide (j=0)),.bl (decide (j=1)),.bl (decide (j=2)),.bl (decide (j=3)),.bl (decide (j=4)),.bl (decide (j=5)),.bl (decide (j=6))]++[.bl (decide (j=7)),.bl (decide (j=8)),.bl (decide (j=9))]))=p:=⟨_,(AB C).trans (AB Y),Ag,rfl⟩
  rw[I];have n:=r.trans n;clear I;refine xw2 rfl rfl ⟨_,_,_,(xq2 rfl rfl ⟨ty n,b.k10,(xq1 rfl ⟨_,_,_,(xq2 rfl rfl ⟨ty n,b.k11,(xq1 rfl ⟨_,_,_,(xq2 rfl rfl ⟨ty n,b.k12,by show 3<=sizeLine;decide,λp6 u=>?_⟩)⟩)⟩)⟩)⟩)⟩;refine⟨p5,p6,(xq2 rfl rfl ⟨(AB u _ _ h5),Ag,(by show 10+3<=sizeLine;decide),λB Z=>?_⟩)⟩;obtain⟨g,N,l,x⟩:∃g,Ax p g/\g B=some (.lst [.bl (decide (j=0)),.bl (decide (j=1)),.bl (decide (j=2)),.bl (decide (j=3)),.bl (decide (j=4)),.bl (decide (j=5)),.bl (decide (j=6)),.bl (decide (j=7)),.bl (decide (j=8)),.bl (decide (j=9)),.bl (decide (j=10)),.bl (decide (j=11)),.bl (decide (j=12))])/\upd (upd p p6 (.lst [.bl (decide (j=10)),.bl (decide (j=11)),.bl (decide (j=12))])) B (.lst ([.bl (decide (j=0)),.bl (decide (j=1)),.bl (decide (j=2)),.bl (decide (j=3)),.bl (decide (j=4)),.bl (decide (j=5)),.bl (decide (j=6)),.bl (decide (j=7)),.bl (decide (j=8)),.bl (decide (j=9))]++[.bl (decide (j=10)),.bl (decide (j=11)),.bl (decide (j=12))]))=g:=⟨_,(AB u).trans (AB Z),Ag,rfl⟩
  rw[x];have N:=n.trans N;clear x;have l:g B=some (.lst ((Lw j).map V.bl)):=l;refine xq1 rfl ⟨_,_,_,(xq2 rfl rfl ⟨ty N,b.kv,true,rfl,Bc ?_⟩)⟩;refine xq1 rfl ⟨.inl ⟨rfl,_,SqL.of l⟩,B,Lw j,rfl,rfl,l,?_⟩;rw[WA b.jl];refine⟨rfl,(xq1 rfl (SR rfl ?_))⟩;refine⟨by show 7<=sizeLine;decide,λp8 X=>?_⟩;refine xq1 rfl ⟨by show 6<=sizeLine;decide,λp9 G=>?_⟩;refine⟨p8,p9,(xq2 rfl rfl ⟨(AB G _ _ Ag),Ag,(by show 7+6<=sizeLine;decide),λab z=>?_⟩)⟩;have d:Ax g _:=((AB X).trans (AB G)).trans (AB (o:=.lst (Qp.map V.str)) z);refine xw2 rfl rfl ⟨.inl ⟨rfl,_,SqL.of (d _ _ l)⟩,B,Lw j,j,rfl,rfl,d _ _ l,by show 13<1000;decide,by rw[SO b.jl,Z7 rfl],λm hm=>by rw[SO (S9 hm b.jl),X4 A0],?_⟩;exact xq4 rfl rfl (SqL.of Ag) (Ah (word_at b.jl)) (k _ (N.trans d))
theorem len3{vs:List V}(h:vs.length=3):∃d b c,vs=[d,b,c]:=by
 match vs,h with
 |[d,b,c],_=>exact⟨d,b,c,rfl⟩
end
end J
namespace J
open PySem L2
abbrev Rg:=Int->Int->Prop
abbrev Dc(p:Rg):=∀x y,Decidable (p x y)
def vP(s:Nat)(p:Rg)(d:Dc p):Int->Int->Nat:=λx y=>@ite Nat (p x y) (d x y) s 0
theorem Md{s:Nat}{p:Rg}{d:Dc p}{x y:Int}(h:p x y):vP s p d x y=s:=X5 h
theorem Lz{s:Nat}{p:Rg}{d:Dc p}{x y:Int}(h:¬p x y):vP s p d x y=0:=Z8 h
theorem MJ{s:Nat}{p q:Rg}{d:Dc p}{d':Dc q}{x y u v:Int}(h:p x y↔q u v):vP s p d x y=vP s q d' u v:=by
 by_cases z:p x y
 ·rw[Md z,Md (h.mp z)]
 ·rw[Lz z,Lz λw=>z (h.mpr w)]
theorem vP_le{s:Nat}{p:Rg}{d:Dc p}{x y:Int}:vP s p d x y≠0->p x y:=λh=>X9 λz=>h (Lz z)
def dil(n:Int)(p:Rg):Rg:=λx y=>∃i j:Int,(-n<=i/\i<=n)/\(-n<=j/\j<=n)/\p (x+i) (y+j)
def ero(n:Int)(p:Rg):Rg:=λx y=>∀i j:Int,(-n<=i/\i<=n)->(-n<=j/\j<=n)->p (x+i) (y+j)
theorem Qu{n i:Int}(c:0<=n)(h:-(n+1)<=i/\i<=n+1):∃a b:Int,(-1<=a/\a<=1)/\(-n<=b/\b<=n)/\i=a+b:=by
 by_cases d:i<=n
 ·by_cases e:-n<=i
  ·exact⟨0,i,by lia,by lia,by lia⟩
  ·exact⟨-1,i+1,by lia,by lia,by lia⟩
 ·exact⟨1,i-1,by lia,by lia,by lia⟩
theorem dil_dil{n:Int}(f:0<=n)(p:Rg)(x y:Int):dil 1 (dil n p) x y↔dil (n+1) p x y:=by
 constructor
 ·rintro⟨i,j,e,g,q,s,t,o,h⟩;exact⟨i+q,j+s,by lia,by lia,by rw[<-R3,<-R3];exact h⟩
 ·rintro⟨i,j,e,g,h⟩;obtain⟨a,b,k,l,rfl⟩:=Qu f e;obtain⟨c,d,r,m,rfl⟩:=Qu f g;exact⟨a,c,k,r,b,d,l,m,by rw[R3,R3];exact h⟩
theorem ero_ero{n:Int}(f:0<=n)(p:Rg)(x y:Int):ero 1 (ero n p) x y↔ero (n+1) p x y:=by
 constructor
 ·intro h i j e g;obtain⟨a,b,k,l,rfl⟩:=Qu f e;obtain⟨c,d,q,m,rfl⟩:=Qu f g;have:=h a c k q b d l m;rw[R3,R3]at this;exact this
 ·intro h i j e g s t r o;rw[R3,R3];exact h _ _ A0 A0
def VI(r:Az)(s:Nat):Prop:=∀(p:Rg)(d:Dc p)(d':Dc (dil 1 p)),sF r (vP s p d)=vP s (dil 1 p) d'
def ShrR(r:Az)(s:Nat):Prop:=∀(p:Rg)(d:Dc p)(d':Dc (ero 1 p)),sF r (vP s p d)=vP s (ero 1 p) d'
theorem NJ{s:Nat}{p q:Rg}{d:Dc p}{d':Dc q}(h:∀x y,p x y↔q x y):vP s p d=vP s q d':=by
 funext x y
 exact MJ (h x y)
theorem Ub{r:Az}{s:Nat}(g:VI r s)(p:Rg)(d:Dc p):∀(n:Nat)(d':Dc (dil n p)),sFN r n (vP s p d)=vP s (dil n p) d'
 |0,_=>NJ λx y=>⟨λh=>⟨0,0,by lia,by lia,by rw[L8,L8];exact h⟩,λ⟨i,j,e,c,h⟩=>by
  have a:i=0:=by lia
  have b:j=0:=by lia
  rw[a,b,L8,L8]at h;exact h⟩
 |n+1,_=>by
  show sF r (sFN r n (vP s p d))=_;rw[Ub g p d n (λx y=>Classical.propDecidable _),g _ _ (λx y=>Classical.propDecidable _)];exact NJ λx y=>dil_dil (P7 n) p x y
theorem YA{r:Az}{s:Nat}(g:ShrR r s)(p:Rg)(d:Dc p):∀(n:Nat)(d':Dc (ero n p)),sFN r n (vP s p d)=vP s (ero n p) d'
 |0,_=>NJ λx y=>⟨λh i j e c=>by
  have a:i=0:=by lia
  have b:j=0:=by lia
  rw[a,b,L8,L8];exact h,λh=>by
  have:=h 0 0 A0 A0;rw[L8,L8]at this;exact this⟩
 |n+1,_=>by
  show sF r (sFN r n (vP s p d))=_;rw[YA g p d n (λx y=>Classical.propDecidable _),g _ _ (λx y=>Classical.propDecidable _)];exact NJ λx y=>ero_ero (P7 n) p x y
def bxR(a b c d:Int):Rg:=λx y=>a<=x/\x<b/\c<=y/\y<d
theorem dil_bx{a b c d n:Int}(q:0<=n)(f:a<b)(g:c<d)(x y:Int):dil n (bxR a b c d) x y↔bxR (a-n) (b+n) (c-n) (d+n) x y:=by
 unfold bxR;constructor
 ·rintro⟨i,j,e,k,h⟩;lia
 ·intro h;have t:∀{x a b:Int},a<b->a-n<=x->x<b+n->∃i,(-n<=i/\i<=n)/\a<=x+i/\x+i<b:=λ{x a b} h f g=>by
   by_cases z:x<a
   ·exact⟨a-x,by lia,by lia,by lia⟩
   ·by_cases y:b<=x
    ·exact⟨b-1-x,by lia,by lia,by lia⟩
    ·exact⟨0,by lia,by lia,by lia⟩
  obtain⟨i,e,l,o⟩:=t f h.1 h.2.1;obtain⟨j,k,m,p⟩:=t g h.2.2.1 h.2.2.2;exact⟨i,j,e,k,l,o,m,p⟩
theorem dil_no{a b c d n:Int}(h:¬(a<b/\c<d))(x y:Int):¬dil n (bxR a b c d) x y:=λ⟨i,j,_,_,g,k,e,f⟩=>h ⟨by lia,by lia⟩
theorem ero_bx{a b c d n:Int}(k:0<=n)(x y:Int):ero n (bxR a b c d) x y↔bxR (a+n) (b-n) (c+n) (d-n) x y:=by
 unfold bxR;constructor
 ·intro h;have f:=h n n A0 A0;have g:=h (-n) (-n) A0 A0;lia
 ·intro h i j e l;lia
theorem dil_or{n:Int}{p q:Rg}(x y:Int):dil n (λu v=>p u v\/q u v) x y↔dil n p x y\/dil n q x y:=by
 constructor
 ·rintro⟨i,j,a,b,h|h⟩
  ·exact .inl ⟨i,j,a,b,h⟩
  ·exact .inr ⟨i,j,a,b,h⟩
 ·rintro(⟨i,j,a,b,h⟩|⟨i,j,a,b,h⟩)
  ·exact⟨i,j,a,b,.inl h⟩
  ·exact⟨i,j,a,b,.inr h⟩
theorem ero_diff{n:Int}{p q:Rg}(x y:Int):ero n (λu v=>p u v/\¬q u v) x y↔ero n p x y/\¬dil n q x y:=by
 constructor
 ·exact λh=>⟨λi j a b=>(h i j a b).1,λ⟨i,j,a,b,z⟩=>(h i j a b).2 z⟩
 ·exact λh i j a b=>⟨h.1 i j a b,λz=>h.2 ⟨i,j,a,b,z⟩⟩
def rG(s:Nat):Az:=[⟨some 0,[.am 0 [0,1,2,3,4,5,6,7]],s⟩]
def rS(s:Nat):Az:=[⟨some s,[.am 0 [1,2,3,4,5,6,7,8]],0⟩]
theorem Zn{p:Rg}{d:Dc p}(x y:Int){s:Nat}(h:1<=s){l:List Int}(c:l=[((vP s p d (x-1) (y-1):Nat):Int),((vP s p d x (y-1):Nat):Int),((vP s p d (x+1) (y-1):Nat):Int),((vP s p d (x-1) y:Nat):Int),((vP s p d (x+1) y:Nat):Int),((vP s p d (x-1) (y+1):Nat):Int),((vP s p d x (y+1):Nat):Int),((vP s p d (x+1) (y+1):Nat):Int)]):(∀v∈l,∃i j:Int,(-1<=i/\i<=1)/\(-1<=j/\j<=1)/\((v=0/\¬p (x+i) (y+j))\/(v=s/\p (x+i) (y+j))))/\∀i j:Int,(-1<=i/\i<=1)->(-1<=j/\j<=1)->(i≠0\/j≠0)->((vP s p d (x+i) (y+j):Nat):Int)∈l:=by
 have q:∀u v,(((vP s p d u v:Nat):Int)=0/\¬p u v)\/(((vP s p d u v:Nat):Int)=s/\p u v):=λu v=>by
  by_cases z:p u v
  ·exact .inr ⟨by rw[Md z],z⟩
  ·exact .inl ⟨by rw[Lz z];rfl,z⟩
 subst c;constructor
 ·intro v a;simp only[C1,D6,K7]at a;rcases a with rfl|rfl|rfl|rfl|rfl|rfl|rfl|rfl
  ·exact⟨-1,-1,by lia,by lia,q _ _⟩
  ·exact⟨0,-1,by lia,by lia,by rw[L8];exact q _ _⟩
  ·exact⟨1,-1,by lia,by lia,q _ _⟩
  ·exact⟨-1,0,by lia,by lia,by rw[L8];exact q _ _⟩
  ·exact⟨1,0,by lia,by lia,by rw[L8];exact q _ _⟩
  ·exact⟨-1,1,by lia,by lia,q _ _⟩
  ·exact⟨0,1,by lia,by lia,by rw[L8];exact q _ _⟩
  ·exact⟨1,1,by lia,by lia,q _ _⟩
 ·intro i j g k f;have b:i=-1\/i=0\/i=1:=by lia
  have e:j=-1\/j=0\/j=1:=by lia
  rcases b with rfl|rfl|rfl<;>rcases e with rfl|rfl|rfl
  ·simp[S8]
  ·simp[S8]
  ·simp[S8]
  ·simp[S8]
  ·exact absurd f A6
  ·simp
  ·simp[S8]
  ·simp
  ·simp
theorem any7:∀c:Nat,c<=8->([0,1,2,3,4,5,6,7].any λn:Int=>decide (n=(c:Int)))=decide (c≠8):=by decide
theorem any8:∀c:Nat,c<=8->([1,2,3,4,5,6,7,8].any λn:Int=>decide (n=(c:Int)))=decide (c≠0):=by decide
theorem UR{s:Nat}(A:1<=s):VI (rG s) s:=λp d d'=>by
 funext x y
 unfold sF;generalize g:[((vP s p d (x-1) (y-1):Nat):Int),((vP s p d x (y-1):Nat):Int),((vP s p d (x+1) (y-1):Nat):Int),((vP s p d (x-1) y:Nat):Int),((vP s p d (x+1) y:Nat):Int),((vP s p d (x-1) (y+1):Nat):Int),((vP s p d x (y+1):Nat):Int),((vP s p d (x+1) (y+1):Nat):Int)]=l;obtain⟨o,r⟩:=Zn (p:=p) (d:=d) x y A g.symm;have len:l.length=8:=by rw[<-g];rfl
 have t:l.countP (· == 0)<=8:=len▸List.countP_le_length;unfold rG;rw[Vr];have f:Bm.fits ((vP s p d x y:Nat):Int) l ⟨some 0,[.am 0 [0,1,2,3,4,5,6,7]],s⟩=(decide ((0:Int)=((vP s p d x y:Nat):Int)) && decide (l.countP (· == 0)≠8)):=by
  show(decide ((0:Int)=((vP s p d x y:Nat):Int)) && (([0,1,2,3,4,5,6,7].any λn:Int=>decide (n=((l.countP (· == 0):Nat):Int))) && true))=_;rw[Bool.and_true,any7 _ t]
 rw[f];by_cases z:p x y
 ·rw[Md z,Md (show dil 1 p x y from⟨0,0,by lia,by lia,by rw[L8,L8];exact z⟩),Z8 (by rw[X4 A0];exact C7)];rfl
 ·rw[Lz z];by_cases a:l.countP (· == 0)=8
  ·rw[Z8 (by rw[X4 (show ¬(l.countP (· == 0)≠8)from λw=>w a),W9];exact C7),Lz]
   ·rfl
   ·rintro⟨i,j,b,c,h⟩;have u:i≠0\/j≠0:=X9 λw=>z (by
     have k:i=0:=by lia
     have m:j=0:=by lia
     rw[k,m,L8,L8]at h;exact h)
    have:=List.countP_eq_length.mp (a.trans len.symm) _ (r i j b c u);rw[Md h]at this;have:=K2 this;lia
  ·rw[X5 (by rw[Z7 (show(0:Int)=((0:Nat):Int)from rfl),Z7 (show l.countP (· == 0)≠8 from a)];rfl),Md]
   ·rfl
   ·refine X9 λw=>a (len▸List.countP_eq_length.mpr λv q=>?_);obtain⟨i,j,b,c,e|e⟩:=o v q
    ·rw[e.1];rfl
    ·exact absurd ⟨i,j,b,c,e.2⟩ w
theorem YE{s:Nat}(A:1<=s):ShrR (rS s) s:=λp d d'=>by
 funext x y
 unfold sF;generalize g:[((vP s p d (x-1) (y-1):Nat):Int),((vP s p d x (y-1):Nat):Int),((vP s p d (x+1) (y-1):Nat):Int),((vP s p d (x-1) y:Nat):Int),((vP s p d (x+1) y:Nat):Int),((vP s p d (x-1) (y+1):Nat):Int),((vP s p d x (y+1):Nat):Int),((vP s p d (x+1) (y+1):Nat):Int)]=l;obtain⟨m,r⟩:=Zn (p:=p) (d:=d) x y A g.symm;have len:l.length=8:=by rw[<-g];rfl
 have t:l.countP (· == 0)<=8:=len▸List.countP_le_length;unfold rS;rw[Vr];have f:Bm.fits ((vP s p d x y:Nat):Int) l ⟨some s,[.am 0 [1,2,3,4,5,6,7,8]],0⟩=(decide ((s:Int)=((vP s p d x y:Nat):Int)) && decide (l.countP (· == 0)≠0)):=by
  show(decide ((s:Int)=((vP s p d x y:Nat):Int)) && (([1,2,3,4,5,6,7,8].any λn:Int=>decide (n=((l.countP (· == 0):Nat):Int))) && true))=_;rw[Bool.and_true,any8 _ t]
 rw[f];by_cases z:p x y
 ·rw[Md z];by_cases a:l.countP (· == 0)=0
  ·rw[Z8 (by rw[X4 (show ¬(l.countP (· == 0)≠0)from λw=>w a),W9];exact C7),Md]
   ·rfl
   ·intro i j b c;by_cases u:i≠0\/j≠0
    ·refine X9 λw=>?_;have:=List.countP_eq_zero.mp a _ (r i j b c u);rw[Lz w]at this;exact this rfl
    ·have h:i=0:=by lia
     have k:j=0:=by lia
     rw[h,k,L8,L8];exact z
  ·rw[X5 (by rw[Z7 (show(s:Int)=((s:Nat):Int)from rfl),Z7 (show l.countP (· == 0)≠0 from a)];rfl),Lz]
   ·rfl
   ·refine λw=>a (List.countP_eq_zero.mpr λv o=>?_);obtain⟨i,j,b,c,e|e⟩:=m v o
    ·exact absurd (w i j b c) e.2
    ·rw[e.1];intro q;have:=K2 q;lia
 ·rw[Lz z,Lz λw=>z (by have:=w 0 0 A0 A0;rw[L8,L8]at this;exact this),Z8 (by rw[X4 A0];exact C7)];rfl
theorem QM:∀s:Nat,s<8->CK (rG s) 0 Cd=0:=by decide +kernel
theorem QL:∀s:Nat,s<8->1<=s->CK (rS s) 0 Cd=0:=by decide +kernel
def GS(r:Az)(s:Nat):Prop:=VI r s\/ShrR r s
instance(a b c d:Int):Dc (bxR a b c d):=λx y=>by unfold bxR;infer_instance
def bxW(s:Nat)(a b c d:Int):Sht:=λx y=>(vP s (bxR a b c d) inferInstance x y:Nat)
structure Cg(X1 X2 Y1 Y2:Int)(l:Nat)(a b c d:Int):Prop where
 a:((2^l:Nat):Int) ∣ a-X1
 b:((2^l:Nat):Int) ∣ b-X2
 c:((2^l:Nat):Int) ∣ c-Y1
 d:((2^l:Nat):Int) ∣ d-Y2
def Kb(s E:Nat)(X1 X2 Y1 Y2:Int):KTy:=λl e ψ=>l<47/\((∀x y,x<2^(l+2)->y<2^(l+2)->ψ x y=0)\/(((e=l/\l<=E)\/(e=E/\E<l))/\∃a b c d:Int,Cg X1 X2 Y1 Y2 l a b c d/\RO l ψ (bxW s a b c d)))
theorem Cg.half{o r j n:Int}{l:Nat}{a b c d u v:Int}(h:Cg o r j n (l+1) a b c d)(k m C B:Int)(x:u=((2^l:Nat):Int)*k)(A:v=((2^l:Nat):Int)*m){p s:Int}(g:p=((2^l:Nat):Int)*C)(f:s=((2^l:Nat):Int)*B):Cg o r j n l (a+u) (b+p) (c+v) (d+s):=by
 have e:((2^(l+1):Nat):Int)=((2^l:Nat):Int)*2:=by rw[D9];rfl
 have t:∀{z X w q:Int},((2^(l+1):Nat):Int) ∣ z-X->w=((2^l:Nat):Int)*q->((2^l:Nat):Int) ∣ z+w-X:=λ{z X w q} ⟨i,y⟩ D=>⟨2*i+q,by rw[D,N3,<-S6,<-e,<-y];lia⟩
 exact⟨t h.a x,t h.b g,t h.c A,t h.d f⟩
theorem ZJ{r:Az}(G:JB r)(re:CK r 0 Cd=0){s:Nat}(Q:GS r s)(E:Nat)(A B t C:Int):ClK r (Kb s E A B t C):=by
 have p:∀l,2^(l+1)=2^l*2:=λl=>D9 ..;have K:∀l,2^(l+2)=2^l*2*2:=λl=>by rw[D9,D9]
 have M:∀l,2^(l+1+2)=2^l*2*2*2:=λl=>by rw[D9,D9,D9]
 have nine:∀{l:Nat}{ψ:Sht}{i j:Nat},i<3->j<3->((∀x y,x<2^(l+1+2)->y<2^(l+1+2)->ψ x y=0)->∀x y,x<2^(l+2)->y<2^(l+2)->ψ (x+2^(l+1)*i) (y+2^(l+1)*j)=0)/\((∃a b c d:Int,Cg A B t C (l+1) a b c d/\RO (l+1) ψ (bxW s a b c d))->∃a b c d:Int,Cg A B t C l a b c d/\RO l (λx y=>ψ (x+2^(l+1)*i) (y+2^(l+1)*j)) (bxW s a b c d)):=λ{l ψ i j} n o=>by
  have b1:2^(l+1)*i<=2^(l+1)*2:=L7 _ A0;have b2:2^(l+1)*j<=2^(l+1)*2:=L7 _ A0;have T:=p l;have U:=K l;have R:=M l;refine⟨λh x y f m=>h _ _ A0 A0,λ⟨a,b,c,d,h,q⟩=>?_⟩;have eq:∀k:Nat,-((2^(l+1)*k:Nat):Int)=((2^l:Nat):Int)*(-2*(k:Int)):=λk=>by rw[p,O1,O1,S6,<-R7,Int.neg_mul];rfl
  refine⟨_,_,_,_,h.half _ _ _ _ (eq i) (eq j) (eq i) (eq j),λx y f m=>?_⟩;refine(q _ _ A0 A0).trans ?_;unfold bxW;refine K3 Int.ofNat (MJ ?_);unfold bxR;lia
 refine⟨λ{l e ψ} h V i j n o=>?_,λ{l ψ} h i j n o=>?_,λ{l ψ} h i j n o=>?_⟩
 ·refine⟨by have:=h.1;lia,?_⟩;rcases h.2 with z|⟨q,z⟩
  ·exact .inl ((nine n o).1 z)
  ·exact .inr ⟨by lia,(nine n o).2 z⟩
 ·refine⟨by have:=h.1;lia,?_⟩;rcases h.2 with z|⟨q,z⟩
  ·exact .inl ((nine n o).1 z)
  ·exact .inr ⟨by lia,(nine n o).2 z⟩
 ·have b1:2^(l+1)*i<=2^(l+1)*1:=L7 _ A0;have b2:2^(l+1)*j<=2^(l+1)*1:=L7 _ A0;have T:=p l;have U:=K l;have R:=M l;have zero:(∀x y,x<2^(l+1+2)->y<2^(l+1+2)->ψ x y=0)->∀x y,x<2^(l+2)->y<2^(l+2)->Bh r (2^l) ψ (x+(2^(l+1)*i+2^l)) (y+(2^(l+1)*j+2^l))=0:=λz x y f m=>by
   have:=JE G (c:=ψ) (φ:=λ_ _=>0) (X:=0) (Y:=0) (2^l) (x+(2^(l+1)*i+2^l)) (y+(2^(l+1)*j+2^l)) A0 A0 λu v N S O P=>z u v A0 A0;rw[Fp re]at this;exact this
  refine⟨by have:=h.1;lia,?_⟩;rcases h.2 with z|⟨q,a,b,c,d,I,z⟩
  ·exact .inl (zero z)
  ·by_cases D:a<b/\c<d
   ·have eq:∀k:Nat,((2^(l+1)*k+2^l:Nat):Int)=((2^l:Nat):Int)*(2*(k:Int)+1):=λk=>by rw[p,Q4,O1,O1,N3,Int.mul_one,S6];rfl
    have H:∀x y,x<2^(l+2)->y<2^(l+2)->Bh r (2^l) ψ (x+(2^(l+1)*i+2^l)) (y+(2^(l+1)*j+2^l))=(sFN r (2^l) (vP s (bxR a b c d) inferInstance) (((x+(2^(l+1)*i+2^l):Nat):Int)) (((y+(2^(l+1)*j+2^l):Nat):Int)):Nat):=λx y f m=>by
     have:=JE G (c:=ψ) (φ:=vP s (bxR a b c d) inferInstance) (X:=0) (Y:=0) (2^l) (x+(2^(l+1)*i+2^l)) (y+(2^(l+1)*j+2^l)) A0 A0 λu v N S O P=>by rw[L8,L8];exact z u v A0 A0
     rw[L8,L8]at this;exact this
    rcases Q with g|g
    ·refine .inr ⟨by lia,a+-(((2^(l+1)*i+2^l:Nat):Int)+(2^l:Nat)),b+-(((2^(l+1)*i+2^l:Nat):Int)-(2^l:Nat)),c+-(((2^(l+1)*j+2^l:Nat):Int)+(2^l:Nat)),d+-(((2^(l+1)*j+2^l:Nat):Int)-(2^l:Nat)),I.half (-(2*(i:Int)+2)) (-(2*(j:Int)+2)) (-(2*(i:Int))) (-(2*(j:Int))) ?_ ?_ ?_ ?_,λx y f m=>?_⟩
     ·rw[eq,R7,N3,N3];lia
     ·rw[eq,R7,N3,N3];lia
     ·rw[eq,R7,N3];lia
     ·rw[eq,R7,N3];lia
     ·refine(H x y f m).trans ?_;rw[Ub g _ _ _ (λx y=>Classical.propDecidable _)];unfold bxW;refine K3 Int.ofNat (MJ ((dil_bx (P7 _) D.1 D.2 _ _).trans ?_));unfold bxR;generalize (2^(l+1)*i+2^l:Nat)=u;generalize (2^(l+1)*j+2^l:Nat)=v;lia
    ·refine .inr ⟨by lia,a+-(((2^(l+1)*i+2^l:Nat):Int)-(2^l:Nat)),b+-(((2^(l+1)*i+2^l:Nat):Int)+(2^l:Nat)),c+-(((2^(l+1)*j+2^l:Nat):Int)-(2^l:Nat)),d+-(((2^(l+1)*j+2^l:Nat):Int)+(2^l:Nat)),I.half (-(2*(i:Int))) (-(2*(j:Int))) (-(2*(i:Int)+2)) (-(2*(j:Int)+2)) ?_ ?_ ?_ ?_,λx y f m=>?_⟩
     ·rw[eq,R7,N3];lia
     ·rw[eq,R7,N3];lia
     ·rw[eq,R7,N3,N3];lia
     ·rw[eq,R7,N3,N3];lia
     ·refine(H x y f m).trans ?_;rw[YA g _ _ _ (λx y=>Classical.propDecidable _)];unfold bxW;refine K3 Int.ofNat (MJ ((ero_bx (P7 _) _ _).trans ?_));unfold bxR;generalize (2^(l+1)*i+2^l:Nat)=u;generalize (2^(l+1)*j+2^l:Nat)=v;lia
   ·refine .inl (zero λx y f m=>?_);rw[z x y f m];unfold bxW;rw[Lz (λw=>D ⟨by unfold bxR at w;lia,by unfold bxR at w;lia⟩)];rfl
def cnd(P X:Int)(k:Nat):Int:=if k<4 then X%P+k*P else if k=4 then 0 else 4*P
theorem RD{P X a:Int}(b:0<P)(h:P ∣ a-X):∃k,k<6/\∀x:Int,0<=x->x<4*P->(a<=x↔cnd P X k<=x):=by
 by_cases l:a<=0
 ·exact⟨4,by decide,λx c g=>⟨λ_=>c,λ_=>by lia⟩⟩
 ·by_cases m:4*P<=a
  ·exact⟨5,by decide,λx c g=>⟨λ_=>by lia,λz=>absurd (show 4*P<=x from z) A0⟩⟩
  ·obtain⟨q,o⟩:=h;have i:=W4 X P;have j:=L9 X (Int.ne_of_gt b);have n:=L5 X b;have f:a=X%P+P*(X/P+q):=by rw[N3];lia
   have lo:P * -1<P*(X/P+q):=by lia
   have d:P*(X/P+q)<P*4:=by lia
   have lo:=S1 lo (Z5 b);have d:=S1 d (Z5 b);obtain⟨k,e⟩:=F4 (show 0<=X/P+q by lia);refine⟨k,by lia,λx _ _=>?_⟩;unfold cnd;rw[X5 A0,f,e,Int.mul_comm]
def bxC(s l:Nat)(X1 X2 Y1 Y2:Int)(n:Nat):Nat×Sht:=(l,bxW s (cnd (2^l:Nat) X1 (n%6)) (cnd (2^l:Nat) X2 (n/6%6)) (cnd (2^l:Nat) Y1 (n/36%6)) (cnd (2^l:Nat) Y2 (n/216)))
def ZD(s E:Nat)(X1 X2 Y1 Y2:Int)(e:Nat):List (Nat×Sht):=(List.range 47).flatMap λl=>(l,λ_ _=>0)::if(e=l/\l<=E)\/(e=E/\E<l)then(List.range 1296).map (bxC s l X1 X2 Y1 Y2)else []
def mB(E e l:Nat):Nat:=1+if(e=l/\l<=E)\/(e=E/\E<l)then 1296 else 0
theorem Wy(s E:Nat)(d b a c:Int)(e:Nat):(ZD s E d b a c e).length<=((List.range 47).map (mB E e)).sum:=by
 unfold ZD;refine OL _ _ _ λl _=>?_;rw[F2];unfold mB;by_cases z:(e=l/\l<=E)\/(e=E/\E<l)
 ·rw[X5 z,X5 z,B8,O0];exact C5 _
 ·rw[Z8 z,Z8 z];exact C5 _
theorem nB:∀E:Nat,E<11->s47 (λe=>((List.range 47).map (mB E e)).sum)<=100000:=by decide +kernel
theorem TZ{s E:Nat}(I:E<=10)(n o m r:Int):JY (Kb s E n o m r) 100000:=by
 refine⟨⟨_,nB E A0,λe=>⟨ZD s E n o m r e,Wy s E n o m r e,λl ψ h=>?_⟩⟩,λ{l e z ψ} h q=>⟨h.1,?_⟩⟩
 ·obtain⟨t,i|⟨c,a,b,u,d,k,i⟩⟩:=h
  ·exact⟨λ_ _=>0,R9.mpr ⟨l,J1.mpr t,C8⟩,i⟩
  ·have p:(0:Int)<((2^l:Nat):Int):=by have:=AU l;lia
   have K:((2^(l+2):Nat):Int)=4*((2^l:Nat):Int):=by rw[D9,D9];lia
   obtain⟨k1,l1,v⟩:=RD p k.a;obtain⟨k2,l2,C⟩:=RD p k.b;obtain⟨k3,H,w⟩:=RD p k.c;obtain⟨f,M,D⟩:=RD p k.d;refine⟨bxW s (cnd (2^l:Nat) n k1) (cnd (2^l:Nat) o k2) (cnd (2^l:Nat) m k3) (cnd (2^l:Nat) r f),R9.mpr ⟨l,J1.mpr t,C4 _ ?_⟩,λx y g j=>?_⟩
   ·rw[X5 c];refine D1.mpr ⟨k1+6*k2+36*k3+216*f,J1.mpr A0,?_⟩;unfold bxC;rw[show(k1+6*k2+36*k3+216*f)%6=k1 by lia,show(k1+6*k2+36*k3+216*f)/6%6=k2 by lia,show(k1+6*k2+36*k3+216*f)/36%6=k3 by lia,show(k1+6*k2+36*k3+216*f)/216=f by lia]
   ·rw[i x y g j];unfold bxW;refine K3 Int.ofNat (MJ ?_);unfold bxR;have G:=v x A0 A0;have B:=C x A0 A0;have A:=w y A0 A0;have f4:=D y A0 A0;rw[G,A,<-Int.not_le (a:=b),B,<-Int.not_le (a:=d),f4,Int.not_le,Int.not_le]
 ·rcases h.2 with i|⟨c,a,b,u,d,k,i⟩
  ·exact .inl λx y g j=>(q x y g j).symm.trans (i x y g j)
  ·exact .inr ⟨c,a,b,u,d,k,λx y g j=>(q x y g j).symm.trans (i x y g j)⟩
theorem bitp{e j:Nat}(h:2^e/2^j%2=1):j=e:=by
 rcases Nat.lt_trichotomy j e with z|z|z
 ·obtain⟨d,rfl⟩:=Nat.exists_eq_add_of_lt z;rw[show j+d+1=j+(d+1) by lia,Nat.pow_add,Nat.mul_div_cancel_left _ (AU j),D9]at h;lia
 ·exact z
 ·rw[N6 (W5 A3 z)]at h;cases h
theorem kb_ask{r:Az}{s E:Nat}{c d a b:Int}{dd:Dc (bxR c d a b)}:Us (Kb s E c d a b) r (vP s (bxR c d a b) dd) (2^E):=λj l G o h n k ok g f=>by
 have:=bitp h;subst this;refine⟨by lia,.inr ⟨by lia,c+(2^(l+1):Nat),d+(2^(l+1):Nat),a+(2^(l+1):Nat),b+(2^(l+1):Nat),?_,λx y m i=>?_⟩⟩
 ·have e:((2^(l+1):Nat):Int)=((2^l:Nat):Int)*2:=by rw[D9];rfl
  have t:∀X:Int,((2^l:Nat):Int) ∣ X+(2^(l+1):Nat)-X:=λX=>⟨2,by rw[<-e];lia⟩
  exact⟨t _,t _,t _,t _⟩
 ·rw[LW ok g m i,f,Nat.mod_self];unfold bxW;refine K3 Int.ofNat (MJ ?_);have e:((2^(l+1):Nat):Int)=2^(l+1):=F9 2 _;unfold bxR;rw[<-e];lia
theorem kb_ask0{r:Az}(re:CK r 0 Cd=0){s E k:Nat}{g h a e:Int}:Us (Kb s E g h a e) r (λ_ _=>0) k:=λj l G o m n f ok c b=>⟨by lia,.inl λx y i d=>by
 rw[LW ok c i d,b,Fp re];rfl⟩
seal L2.PA L2.PE L2.PS L2.PSs L2.PT L2.PW
def mx(i j:Int):Int:=if j > i then j else i
def mn(i j:Int):Int:=if j<i then j else i
def noB:Bo:=⟨0,0,0,0⟩
def grB(q:Bo)(n:Int):Bo:=if q.wd=0\/q.ht=0 then noB else⟨q.x-n,q.y-n,q.wd+2*n,q.ht+2*n⟩
def skB(q:Bo)(n:Int):Bo:=⟨q.x+n,q.y+n,mx 0 (q.wd-2*n),mx 0 (q.ht-2*n)⟩
def cmB(q p:Bo):Bo:=⟨mx q.x p.x,mx q.y p.y,mx 0 (mn (q.x+q.wd) (p.x+p.wd)-mx q.x p.x),mx 0 (mn (q.y+q.ht) (p.y+p.ht)-mx q.y p.y)⟩
def lvB(q:Bo)(n:Int):Prop:=(q.wd≠0/\q.ht≠0)/\(q.x-n < -(2^40)\/q.y-n < -(2^40)\/2^40<q.x+q.wd+n\/2^40<q.y+q.ht+n)
theorem dz{i j:Int}(h:decide (V.int i=V.int j)=true):i=j:=by injection K2 h
theorem dnz{i j:Int}(h:¬decide (V.int i=V.int j)=true):i≠j:=λe=>h (Z7 (by rw[e]))
section
variable{P:Program}{w:World}{K:W.Frag}{mg:Str->Option Value}{base:Heap}{a:Ad}
theorem bo0{H:Hp}{t:Addr}{q:Bo}(h:FO H t q):SqT K H t [.int q.x,.int q.y,.int q.wd,.int q.ht]:=SqT.of h
inductive SpBn(op:Bo->Int->Bo)(vs:List V)(H:Hp)(Q:VK):Prop
 |mk (t:Addr) (q:Bo) (n:Int) (_:vs=[.ref t,.int n]) (_:FO H t q) (_:∀(t':Addr)(H':Hp),Ax H H'->FO H' t' (op q n)->Q (.ref t') H'):SpBn op vs H Q
def VS(op:Bo->Int->Bo):Sp:=λvs H Q _=>SpBn op vs H Q
theorem ok_gr(F:Fun K "_law_grown" "_law_grown" Ii f fd)(T:Top K mg a):AJ P w K mg base CX0 1 f fd Ri (VS grB):=by
  refine F.ok Pg (λ_ _ _ _ h=>by rcases h;subst_vars;rfl) λd A c s H vs Q E i h=>?_
  obtain⟨t,q,n,rfl,b,k⟩:=h;refine⟨_,(Ae (AN (PW.pt (Fs (Aw Cy (Ai Aj (pv 0) Ac (λ_ _=>rfl)) Ac (AD _)) (Dy (Aw Cy (Ai Aj (pv 0) Ac (λ_ _=>rfl)) Ac (AD _))))) (Af (Ar (CD (AL (AL (AL (AL Ab))))))) AE) (Af (Ar (CD (AV Bg (Ai Aj (pv 0) Ac (λ_ _=>rfl)) (pv 1) (AV Bg (Ai Aj (pv 0) Ac (λ_ _=>rfl)) (pv 1) (AV AQ (Ai Aj (pv 0) Ac (λ_ _=>rfl)) (Ay CV Ac (pv 1)) (AV AQ (Ai Aj (pv 0) Ac (λ_ _=>rfl)) (Ay CV Ac (pv 1)) Ab)))))))),?_⟩
  try dsimp only[cxK]
  refine⟨_,rfl,t,_,2,.int q.wd,rfl,rfl,bo0 b,Ah (j:=2) rfl,rfl,_,rfl,EC (λh=>BJ ?_) (λe=>⟨_,rfl,t,_,3,.int q.ht,rfl,rfl,bo0 b,Ah (j:=3) rfl,rfl,_,rfl,EC (λh=>?_) (λg=>?_)⟩)⟩
  ·exact⟨(by show 4<=sizeLine;decide),λt' h'=>k t' _ (AB h') (by unfold grB;rw[X5 (.inl (dz h))];exact Ag)⟩
  ·exact⟨(by show 4<=sizeLine;decide),λt' h'=>k t' _ (AB h') (by unfold grB;rw[X5 (.inr (dz h))];exact Ag)⟩
  ·refine⟨_,rfl,t,_,0,.int q.x,rfl,rfl,bo0 b,Ah (j:=0) rfl,_,rfl,_,_,rfl,rfl,_,rfl,t,_,1,.int q.y,rfl,rfl,bo0 b,Ah (j:=1) rfl,_,rfl,_,_,rfl,rfl,?_⟩;refine⟨_,rfl,t,_,2,.int q.wd,rfl,rfl,bo0 b,Ah (j:=2) rfl,_,rfl,_,_,rfl,rfl,.inl ⟨by decide,by decide⟩,_,_,rfl,rfl,_,rfl,t,_,3,.int q.ht,rfl,rfl,bo0 b,Ah (j:=3) rfl,_,rfl,_,_,rfl,rfl,.inl ⟨by decide,by decide⟩,_,_,rfl,rfl,(by show 4<=sizeLine;decide),λt' h'=>k t' _ (AB h') ?_⟩;unfold grB;rw[Z8 (λz=>z.elim (dnz e) (dnz g))];exact Ag
theorem ok_sh(F:Fun K "_law_shrunk" "_law_shrunk" Gf f fd)(T:Top K mg a):AJ P w K mg base CX0 1 f fd Ri (VS skB):=by
  refine F.ok NW (λ_ _ _ _ h=>by rcases h;subst_vars;rfl) λd A c s H vs Q E e h=>?_
  obtain⟨t,q,n,rfl,b,k⟩:=h;refine⟨_,(Af (Ar (CD (AV AQ (Ai Aj (pv 0) Ac (λ_ _=>rfl)) (pv 1) (AV AQ (Ai Aj (pv 0) Ac (λ_ _=>rfl)) (pv 1) (Aa (Au (Dj rfl) rfl T.b_max K5 (AL (AV Bg (Ai Aj (pv 0) Ac (λ_ _=>rfl)) (Ay CV Ac (pv 1)) Ab))) (Aa (Au (Dj rfl) rfl T.b_max K5 (AL (AV Bg (Ai Aj (pv 0) Ac (λ_ _=>rfl)) (Ay CV Ac (pv 1)) Ab))) Ab))))))),?_⟩
  try dsimp only[cxK]
  refine⟨_,rfl,t,_,0,.int q.x,rfl,rfl,bo0 b,Ah (j:=0) rfl,_,rfl,_,_,rfl,rfl,_,rfl,t,_,1,.int q.y,rfl,rfl,bo0 b,Ah (j:=1) rfl,_,rfl,_,_,rfl,rfl,?_⟩;refine⟨_,rfl,t,_,2,.int q.wd,rfl,rfl,bo0 b,Ah (j:=2) rfl,_,rfl,_,_,rfl,rfl,.inl ⟨by decide,by decide⟩,_,_,rfl,rfl,_,_,rfl,_,rfl,t,_,3,.int q.ht,rfl,rfl,bo0 b,Ah (j:=3) rfl,_,rfl,_,_,rfl,rfl,.inl ⟨by decide,by decide⟩,_,_,rfl,rfl,_,_,rfl,(by show 4<=sizeLine;decide),λt' h'=>k t' _ (AB h') Ag⟩
inductive SpCm(vs:List V)(H:Hp)(Q:VK):Prop
 |mk (t t2:Addr) (q p:Bo) (_:vs=[.ref t,.ref t2]) (_:FO H t q) (_:FO H t2 p) (_:∀(t':Addr)(H':Hp),Ax H H'->FO H' t' (cmB q p)->Q (.ref t') H'):SpCm vs H Q
def spCm:Sp:=λvs H Q _=>SpCm vs H Q
theorem ok_cm(F:Fun K "_law_common" "_law_common" Gh f fd)(T:Top K mg a):AJ P w K mg base CX0 1 f fd Gs spCm:=by
  refine F.ok CM (λ_ _ _ _ h=>by rcases h;subst_vars;rfl) λg A e s H vs Q E l h=>?_
  obtain⟨t,c,q,p,rfl,b,d,k⟩:=h;refine⟨_,(Ae (An (i:=2) CM.nd rfl (Or.inl rfl) (Au (Dj rfl) rfl T.b_max K5 (Aa (Ai Aj (pv 0) Ac (λ_ _=>rfl)) (Aa (Ai Aj (pv 1) Ac (λ_ _=>rfl)) Ab)))) (Ae (An (i:=3) CM.nd rfl (Or.inl rfl) (Au (Dj rfl) rfl T.b_max K5 (Aa (Ai Aj (pv 0) Ac (λ_ _=>rfl)) (Aa (Ai Aj (pv 1) Ac (λ_ _=>rfl)) Ab)))) (Ae (An (i:=4) CM.nd rfl (Or.inl rfl) (Au (DG rfl) rfl T.b_min K8 (AV AQ (Ai Aj (pv 0) Ac (λ_ _=>rfl)) (Ai Aj (pv 0) Ac (λ_ _=>rfl)) (AV AQ (Ai Aj (pv 1) Ac (λ_ _=>rfl)) (Ai Aj (pv 1) Ac (λ_ _=>rfl)) Ab)))) (Ae (An (i:=5) CM.nd rfl (Or.inl rfl) (Au (DG rfl) rfl T.b_min K8 (AV AQ (Ai Aj (pv 0) Ac (λ_ _=>rfl)) (Ai Aj (pv 0) Ac (λ_ _=>rfl)) (AV AQ (Ai Aj (pv 1) Ac (λ_ _=>rfl)) (Ai Aj (pv 1) Ac (λ_ _=>rfl)) Ab)))) (Af (Ar (CD (Aa (pv 2) (Aa (pv 3) (Aa (Au (Dj rfl) rfl T.b_max K5 (AL (AV Bg (pv 4) (pv 2) Ab))) (Aa (Au (Dj rfl) rfl T.b_max K5 (AL (AV Bg (pv 5) (pv 3) Ab))) Ab))))))))))),?_⟩
  try dsimp only[cxK]
  refine⟨_,rfl,t,_,0,.int q.x,rfl,rfl,bo0 b,Ah (j:=0) rfl,_,rfl,c,_,0,.int p.x,rfl,rfl,bo0 d,Ah (j:=0) rfl,_,_,rfl,?_⟩;refine⟨_,rfl,t,_,1,.int q.y,rfl,rfl,bo0 b,Ah (j:=1) rfl,_,rfl,c,_,1,.int p.y,rfl,rfl,bo0 d,Ah (j:=1) rfl,_,_,rfl,?_⟩;refine⟨_,rfl,t,_,0,.int q.x,rfl,rfl,bo0 b,Ah (j:=0) rfl,_,rfl,t,_,2,.int q.wd,rfl,rfl,bo0 b,Ah (j:=2) rfl,_,_,rfl,rfl,_,rfl,c,_,0,.int p.x,rfl,rfl,bo0 d,Ah (j:=0) rfl,_,rfl,c,_,2,.int p.wd,rfl,rfl,bo0 d,Ah (j:=2) rfl,_,_,rfl,rfl,_,_,rfl,?_⟩;refine⟨_,rfl,t,_,1,.int q.y,rfl,rfl,bo0 b,Ah (j:=1) rfl,_,rfl,t,_,3,.int q.ht,rfl,rfl,bo0 b,Ah (j:=3) rfl,_,_,rfl,rfl,_,rfl,c,_,1,.int p.y,rfl,rfl,bo0 d,Ah (j:=1) rfl,_,rfl,c,_,3,.int p.ht,rfl,rfl,bo0 d,Ah (j:=3) rfl,_,_,rfl,rfl,_,_,rfl,?_⟩;exact⟨_,rfl,_,rfl,_,rfl,_,rfl,_,_,rfl,rfl,_,_,rfl,_,rfl,_,rfl,_,_,rfl,rfl,_,_,rfl,(by show 4<=sizeLine;decide),λt' h'=>k t' _ (AB h') Ag⟩
inductive SpLvs(vs:List V)(H:Hp)(Q:VK):Prop
 |mk (t:Addr) (q:Bo) (n:Int) (_:vs=[.ref t,.int n]) (_:FO H t q) (_:lvB q n->Q (.bl true) H) (_:¬lvB q n->Q (.bl false) H):SpLvs vs H Q
def Ys:Sp:=λvs H Q _=>SpLvs vs H Q
theorem ok_lvs(F:Fun K "_law_leaves" "_law_leaves" Gg f fd)(T:Top K mg a):AJ P w K mg base CX0 1 f fd Ri Ys:=by
  refine F.ok NX (λ_ _ _ _ h=>by rcases h;subst_vars;rfl) λo A k s H vs Q E B h=>?_
  obtain⟨t,q,n,rfl,b,c,i⟩:=h;refine⟨_,(Ae (AN (PW.pt (Fs (Aw Cy (Ai Aj (pv 0) Ac (λ_ _=>rfl)) Ac (AD _)) (Dy (Aw Cy (Ai Aj (pv 0) Ac (λ_ _=>rfl)) Ac (AD _))))) (Af (Ar Ol)) AE) (Ae (AN (PW.pt (Fs (Aw EQ (Ay Bg (Ai Aj (pv 0) Ac (λ_ _=>rfl)) (pv 1)) (IQ EE (Ay CU Ac Ac)) (AD _)) (Dy (Aw EQ (Ay Bg (Ai Aj (pv 0) Ac (λ_ _=>rfl)) (pv 1)) (IQ EE (Ay CU Ac Ac)) (AD _))))) (Af (Ar Ol)) AE) (Af (Ar (pe_or (CH MO (Ay AQ (Ay AQ (Ai Aj (pv 0) Ac (λ_ _=>rfl)) (Ai Aj (pv 0) Ac (λ_ _=>rfl))) (pv 1)) (Ay CU Ac Ac) (AD _)) (Ft (CH MO (Ay AQ (Ay AQ (Ai Aj (pv 0) Ac (λ_ _=>rfl)) (Ai Aj (pv 0) Ac (λ_ _=>rfl))) (pv 1)) (Ay CU Ac Ac) (AD _)))))))),?_⟩
  try dsimp only[cxK]
  have l:(1:Int)*2^((40:Int)).toNat=2^40:=rfl;have d:CPow 1 40:=⟨by decide,by decide,by decide⟩
  refine⟨_,rfl,t,_,2,.int q.wd,rfl,rfl,bo0 b,Ah (j:=2) rfl,rfl,_,rfl,EC (λh=>BJ (i λz=>z.1.1 (dz h))) (λr=>⟨_,rfl,t,_,3,.int q.ht,rfl,rfl,bo0 b,Ah (j:=3) rfl,rfl,_,rfl,EC (λh=>i λz=>z.1.2 (dz h)) (λu=>?_)⟩)⟩;have e:=And.intro (dnz r) (dnz u);refine⟨_,rfl,t,_,0,.int q.x,rfl,rfl,bo0 b,Ah (j:=0) rfl,_,rfl,_,_,rfl,rfl,_,_,rfl,rfl,d,_,rfl,_,_,rfl,rfl,_,rfl,EC (λh=>BJ (c ⟨e,.inl (K2 h)⟩)) (λm=>?_)⟩;refine⟨_,rfl,t,_,1,.int q.y,rfl,rfl,bo0 b,Ah (j:=1) rfl,_,rfl,_,_,rfl,rfl,_,_,rfl,rfl,d,_,rfl,_,_,rfl,rfl,_,rfl,EC (λh=>c ⟨e,.inr (.inl (K2 h))⟩) (λv=>?_)⟩;refine⟨_,rfl,t,_,0,.int q.x,rfl,rfl,bo0 b,Ah (j:=0) rfl,_,rfl,t,_,2,.int q.wd,rfl,rfl,bo0 b,Ah (j:=2) rfl,_,_,rfl,rfl,_,rfl,_,_,rfl,rfl,_,_,rfl,rfl,d,_,_,rfl,rfl,_,rfl,EC (λh=>c ⟨e,.inr (.inr (.inl (K2 h)))⟩) (λp=>?_)⟩;refine⟨_,rfl,t,_,1,.int q.y,rfl,rfl,bo0 b,Ah (j:=1) rfl,_,rfl,t,_,3,.int q.ht,rfl,rfl,bo0 b,Ah (j:=3) rfl,_,_,rfl,rfl,_,rfl,_,_,rfl,rfl,_,_,rfl,rfl,d,_,_,rfl,rfl,?_⟩;show Q (.bl (decide ((1:Int)*2^((40:Int)).toNat<q.y+q.ht+n))) H;by_cases g:(1:Int)*2^((40:Int)).toNat<q.y+q.ht+n
  ·rw[Z7 g];exact c ⟨e,.inr (.inr (.inr g))⟩
  ·rw[X4 g];exact i λz=>z.2.elim (λw=>m (Z7 w)) λz=>z.elim (λw=>v (Z7 w)) λz=>z.elim (λw=>p (Z7 w)) g
structure FbOk(q:Bo):Prop where
 ok:BoOk q
 w:q.wd<1000
 h:q.ht<1000
inductive SpFb(K:W.Frag)(vs:List V)(H:Hp)(Q:VK):Prop
 |mk (l:Addr) (ns:List Int) (n:Int) (_:vs=[.ref l,.int n]) (_:SqL K H l (ns.map V.int)) (_:0<=n) (_:∀(t:Addr)(q:Bo)(H':Hp),Ax H H'->FO H' t q->FbOk q->Q (.ref t) H'):SpFb K vs H Q
def spFb(K:W.Frag):Sp:=λvs H Q _=>SpFb K vs H Q
theorem ok_fb(F:Fun K "_law_far_box" "_law_far_box" Fl f fd)(T:Top K mg a)(a8:Cal P w K mg base CX0 1 "_law_at" Wr (Yz K))(aL:Cal P w K mg base CX0 3 "_law_box_by" Ev (Np K)):AJ P w K mg base CX0 4 f fd FC (spFb K):=by
  refine F.ok Cw (λ_ _ _ _ h=>by rcases h;subst_vars;rfl) λaa A M s H vs Q E X h=>?_
  obtain⟨l,ns,n,rfl,I,n0,k⟩:=h;refine⟨_,(Ae (An (i:=2) Cw.nd rfl (Or.inl rfl) (Ap aL (rm X) rfl Ao (Aa (pv 0) (AL (AV BG (Ap a8 (rm X) rfl Ao (Aa (pv 0) (AL Ab))) Ac Ab))))) (Ae (An (i:=2) Cw.nd rfl (Or.inl rfl) (CD (Aa (Ai Aj (pv 2) Ac (λ_ _=>rfl)) (Aa (Ai Aj (pv 2) Ac (λ_ _=>rfl)) (AV BG (Ai Aj (pv 2) Ac (λ_ _=>rfl)) Ac (AV BG (Ai Aj (pv 2) Ac (λ_ _=>rfl)) Ac Ab)))))) (Ae (An (i:=3) Cw.nd rfl (Or.inl rfl) (Ap a8 (rm X) rfl Ao (Aa (pv 0) (AL Ab)))) (Ae (AN (PW.pt (Fs (Aw Cy (Ay BG (pv 3) Ac) Ac (AD _)) (Dy (Aw MO (pv 1) (Ay CU Ac Ac) (AD _))))) (Af (Ar (pv 2))) AE) (Ae (An (i:=4) Cw.nd rfl (Or.inl rfl) (Ay Bg (Ay AQ (IQ EE (Ay CU Ac Ac)) (pv 1)) (Ay CV (Ay BG (Ay Du (pv 3) Ac) Ac) (Au (DG rfl) rfl T.b_min K8 (Aa (pv 1) (AL Ab)))))) (Af (Ar (CD (Aa (pv 4) (Aa (Ai Aj (pv 2) Ac (λ_ _=>rfl)) (Aa (Ai Aj (pv 2) Ac (λ_ _=>rfl)) (Aa (Ai Aj (pv 2) Ac (λ_ _=>rfl)) Ab)))))))))))),?_⟩
  try dsimp only[cxK]
  refine Bv ?_;intro r1 s1 k1 C E1;obtain⟨b,hb⟩:=F4 (L9 (atN ns 2) (by decide:(41:Int)≠0));have v:b<=40:=by have:=L5 (atN ns 2) (by decide:(0:Int)<41);lia
  refine⟨_,rfl,_,rfl,l,ns,2,rfl,I,by decide,_,_,rfl,rfl,(by show(0:Int)<41;decide),l,ns,3,b,K3 (λz=>[V.ref l,V.int 3,V.int z]) hb,I,by decide,v,λt x y m g H1 B p w0 h0 li=>?_⟩;have N:=B.seq I;have pl:=UT v;refine C ?_;refine Bv ?_;intro r2 s2 k2 S E2;refine⟨_,rfl,t,_,0,.int x,rfl,rfl,SqT.of p,Ah (j:=0) rfl,_,rfl,t,_,1,.int y,rfl,rfl,SqT.of p,Ah (j:=1) rfl,_,rfl,t,_,2,.int m,rfl,rfl,SqT.of p,Ah (j:=2) rfl,_,_,rfl,rfl,(by show(0:Int)<1000;decide),_,rfl,t,_,3,.int g,rfl,rfl,SqT.of p,Ah (j:=3) rfl,_,_,rfl,rfl,(by show(0:Int)<1000;decide),(by show 4<=sizeLine;decide),λq n2=>?_⟩;have d:=AB (o:=.tup [.int x,.int y,.int (m%1000),.int (g%1000)]) n2;have e:FO (upd H1 q (.tup [.int x,.int y,.int (m%1000),.int (g%1000)])) q ⟨x,y,m%1000,g%1000⟩:=Ag;generalize upd H1 q (.tup [.int x,.int y,.int (m%1000),.int (g%1000)])=H2 at d e⊢;have G:=d.seq N;replace d:=B.trans d;have m1:=L9 m (show(1000:Int)≠0 by decide);have Y:=L5 m (show(0:Int)<1000 by decide);have m3:=L9 g (show(1000:Int)≠0 by decide);have Z:=L5 g (show(0:Int)<1000 by decide);have m5:m%1000<=m:=by lia
  have m6:g%1000<=g:=by lia
  unfold BP at li;generalize m%1000=u at *
  generalize g%1000=r at *
  refine S ?_;refine Bv ?_;intro r3 s3 k3 R E3;refine⟨_,rfl,l,ns,12,rfl,G,by decide,?_⟩;generalize atN ns 12=c;refine R ?_;have fb:FbOk ⟨x,y,u,r⟩:=⟨⟨m1,m3,by unfold BP;dsimp only;lia⟩,Y,Z⟩
  refine Bv ?_;intro r4 s4 k4 D E4;refine⟨_,rfl,_,_,rfl,rfl,B1,rfl,_,rfl,EC (λ_=>BJ ⟨_,rfl,k q _ H2 d e fb⟩) (λ_=>⟨_,rfl,_,_,rfl,rfl,⟨by decide,by decide,by decide⟩,_,_,rfl,rfl,_,rfl,EC (λ_=>⟨_,rfl,k q _ H2 d e fb⟩) (λhn=>?_)⟩)⟩;have ab:n<=1024:=Int.not_lt.mp λz=>hn (Z7 z);refine D ?_;refine Bv ?_;intro r5 s5 k5 U E5;refine⟨_,_,rfl,rfl,⟨by decide,by decide,by decide⟩,_,rfl,_,rfl,_,_,rfl,rfl,_,rfl,_,_,rfl,rfl,⟨by decide,by decide⟩,_,_,rfl,rfl,B1,_,rfl,_,_,rfl,_,_,rfl,rfl,.inl ⟨by lia,by lia⟩,_,_,rfl,rfl,?_⟩;refine U ?_;refine⟨_,rfl,_,rfl,q,_,1,.int y,rfl,rfl,bo0 e,Ah (j:=1) rfl,_,rfl,q,_,2,.int u,rfl,rfl,bo0 e,Ah (j:=2) rfl,_,rfl,q,_,3,.int r,rfl,rfl,bo0 e,Ah (j:=3) rfl,(by show 4<=sizeLine;decide),λt3 n3=>?_⟩;refine k t3 ⟨-(1*2^((40:Int)).toNat)+n-c/2%2*(if(1:Int)<n then 1 else n),y,u,r⟩ _ (d.trans (AB n3)) Ag ⟨⟨m1,m3,?_⟩,Y,Z⟩;have O:(1:Int)*2^((40:Int)).toNat=2^40:=rfl;rw[O];unfold BP;dsimp only;have mm:(if(1:Int)<n then 1 else n)<=1/\0<=(if(1:Int)<n then 1 else n)/\(if(1:Int)<n then 1 else n)<=n:=by split<;>lia
  generalize (if(1:Int)<n then(1:Int)else n)=z at mm⊢;have zz:z=0\/z=1:=by lia
  rcases zz with rfl|rfl<;>lia
end
theorem rG_text:∀s:Nat,s<8->Str.ofString "0 0=01234567 " ++ sgD s=Dn (rG s):=by decide +kernel
theorem rS_text:∀s:Nat,s<8->sgD s++Str.ofString " 0=12345678 0" = Dn (rS s):=by decide +kernel
theorem YG{s:Nat}(e:s<=7):JB (rG s):=⟨by show 1<=50;decide,λc b=>by
 rw[D7.mp b];exact⟨⟨by decide,by decide⟩,⟨by show(0:Int)<=s;lia,by show(s:Int)<8;lia⟩,by show 1<=50;decide,λd a=>by rw[D7.mp a];exact⟨⟨by decide,by decide⟩,by decide,by decide,by decide⟩⟩⟩
theorem YF{s:Nat}(e:s<=7):JB (rS s):=⟨by show 1<=50;decide,λc b=>by
 rw[D7.mp b];exact⟨⟨by show(0:Int)<=s;lia,by show(s:Int)<8;lia⟩,⟨by show(0:Int)<=0;decide,by show(0:Int)<8;decide⟩,by show 1<=50;decide,λd a=>by rw[D7.mp a];exact⟨⟨by decide,by decide⟩,by decide,by decide,by decide⟩⟩⟩
def rB(q:Bo):Rg:=bxR q.x (q.x+q.wd) q.y (q.y+q.ht)
def rOr(p q:Bo):Rg:=λu v=>rB p u v\/rB q u v
def rDf(p q:Bo):Rg:=λu v=>rB p u v/\¬rB q u v
theorem Vi{q:Bo}{s:Nat}{φ:Int->Int->Nat}{u v:Int}(h:rB q u v):FN q s φ u v=s:=by
 unfold FN;exact X5 ⟨⟨h.1,h.2.1⟩,h.2.2.1,h.2.2.2⟩
theorem Vj{q:Bo}{s:Nat}{φ:Int->Int->Nat}{u v:Int}(h:¬rB q u v):FN q s φ u v=φ u v:=by
 unfold FN;exact Z8 λz=>h ⟨z.1.1,z.1.2,z.2.1,z.2.2⟩
theorem ZY(b a:Bo)(s:Nat)(d:Dc (rOr b a))(u v:Int):FN a s (FN b s λ_ _=>0) u v=vP s (rOr b a) d u v:=by
 by_cases z:rB a u v
 ·rw[Vi z,Md (.inr z)]
 ·rw[Vj z];by_cases y:rB b u v
  ·rw[Vi y,Md (.inl y)]
  ·rw[Vj y,Lz λw=>w.elim y z]
theorem ZZ(b a:Bo)(s:Nat)(d:Dc (rDf b a))(u v:Int):FN a 0 (FN b s λ_ _=>0) u v=vP s (rDf b a) d u v:=by
 by_cases z:rB a u v
 ·rw[Vi z,Lz λw=>w.2 z]
 ·rw[Vj z];by_cases y:rB b u v
  ·rw[Vi y,Md ⟨y,z⟩]
  ·rw[Vj y,Lz λw=>y w.1]
theorem Ug{q:Bo}(c:0<=q.wd)(b:0<=q.ht){n:Int}(a:0<=n)(x y:Int):dil n (rB q) x y↔rB (grB q n) x y:=by
 unfold rB grB;by_cases z:q.wd=0\/q.ht=0
 ·rw[X5 z];refine⟨λh=>absurd h (dil_no A0 x y),λh=>?_⟩;have:0<=x/\x<0+0/\0<=y/\y<0+0:=h;lia
 ·rw[Z8 z,dil_bx a A0 A0];unfold bxR;dsimp only;lia
theorem SF(i:Int):(0<=mx 0 i/\i<=mx 0 i)/\(mx 0 i=0\/mx 0 i=i):=by
 unfold mx;split<;>lia
theorem ero_sk{q:Bo}{n:Int}(a:0<=n)(x y:Int):ero n (rB q) x y↔rB (skB q n) x y:=by
 unfold rB skB;rw[ero_bx a];have b:=SF (q.wd-2*n);have c:=SF (q.ht-2*n);unfold bxR;dsimp only;generalize mx 0 (q.wd-2*n)=i at *
 generalize mx 0 (q.ht-2*n)=j at *
 lia
structure Bp(q:Bo):Prop where
 w:0<=q.wd
 h:0<=q.ht
theorem step_or{b a:Bo}(b1:Bp b)(b2:Bp a){r:Az}{s:Nat}(g:VI r s)(d:Dc (rOr b a))(n:Nat)(u v:Int):sFN r n (vP s (rOr b a) d) u v=FN (grB a n) s (FN (grB b n) s λ_ _=>0) u v:=by
 have c:=P7 n;rw[Ub g _ _ n (λx y=>Classical.propDecidable _),ZY _ _ _ (λx y=>Classical.propDecidable _)];exact MJ ((dil_or u v).trans (or_congr (Ug b1.w b1.h c u v) (Ug b2.w b2.h c u v)))
theorem step_df{b a:Bo}(b2:Bp a){r:Az}{s:Nat}(g:ShrR r s)(d:Dc (rDf b a))(n:Nat)(u v:Int):sFN r n (vP s (rDf b a) d) u v=FN (grB a n) 0 (FN (skB b n) s λ_ _=>0) u v:=by
 have c:=P7 n;rw[YA g _ _ n (λx y=>Classical.propDecidable _),ZZ _ _ _ (λx y=>Classical.propDecidable _)];exact MJ ((ero_diff u v).trans (and_congr (ero_sk c u v) (not_congr (Ug b2.w b2.h c u v))))
def Sm(q:Bo):Prop:=Bp q/\BP q.x q.y q.wd q.ht 8
inductive Cs(q1 q2:Bo)(n:Nat):Prop
 |small (h1:Sm q1) (h2:Sm q2) (n5:n<=5)
 |far (fb:FbOk q1) (b2:Bp q2) (e2:q2.wd=0) (hn:n=0\/(∃E,E<=10/\n=2^E)\/2^40<=n)
theorem Cs.b1{b c:Bo}{n:Nat}(h:Cs b c n):Bp b:=by
 cases h with
 |small d=>exact d.1
 |far a=>exact⟨a.ok.w0,a.ok.h0⟩
theorem Cs.b2{b a:Bo}{n:Nat}(h:Cs b a n):Bp a:=by
 cases h with
 |small _ c=>exact c.1
 |far _ b2=>exact b2
theorem Cs.l1{a b:Bo}{n:Nat}(h:Cs a b n):BP a.x a.y a.wd a.ht (2^40):=by
 cases h with
 |small d=>have:=d.2;unfold BP at this⊢;lia
 |far c=>exact c.ok.li
theorem Cs.l2{c a:Bo}{n:Nat}(h:Cs c a n):0<a.wd->BP a.x a.y a.wd a.ht 8/\n<=5:=λz=>by
 cases h with
 |small _ b d=>exact⟨b.2,d⟩
 |far _ _ e=>lia
inductive C0(q1 q2:Bo)(n:Nat):Prop
 |small (h1:Sm q1) (h2:Sm q2) (n5:n<=5)
 |far (fb:FbOk q1) (e2:q2=noB) (hn:n=0\/(∃E,E<=10/\n=2^E)\/2^40<=n)
theorem C0.cs{b a:Bo}{n:Nat}(h:C0 b a n):Cs b a n:=by
 cases h with
 |small e f i=>exact .small e f i
 |far g c d=>rw[c];exact .far g ⟨by decide,by decide⟩ rfl d
theorem C0.cm{a c:Bo}{n:Nat}(h:C0 a c n):Cs a (cmB a c) n:=by
 have g:=SF (mn (a.x+a.wd) (c.x+c.wd)-mx a.x c.x);have o:=SF (mn (a.y+a.ht) (c.y+c.ht)-mx a.y c.y);have b:Bp (cmB a c):=⟨g.1.1,o.1.1⟩
 cases h with
 |small d e l =>
  refine .small d ⟨b,?_⟩ l;have A:=d.2;have G:=e.2;have z:=d.1.w;have H:=e.1.w;have D:=d.1.h;have E:=e.1.h;unfold BP cmB at *
  dsimp only at *
  have t:∀i j:Int,(mx i j=i\/mx i j=j)/\i<=mx i j/\j<=mx i j:=λi j=>by unfold mx;split<;>lia
  have t':∀i j:Int,(mn i j=i\/mn i j=j)/\mn i j<=i/\mn i j<=j:=λi j=>by unfold mn;split<;>lia
  have p:=t a.x c.x;have c2:=t a.y c.y;have v:=t' (a.x+a.wd) (c.x+c.wd);have r:=t' (a.y+a.ht) (c.y+c.ht);generalize mx 0 _=I at *
  generalize mx 0 _=u at *
  generalize mx a.x c.x=s at *
  generalize mx a.y c.y=q at *
  generalize mn _ _=C at *
  generalize mn _ _=B at *
  lia
 |far k m f =>
  refine .far k b ?_ f;subst m;show mx 0 (mn (a.x+a.wd) (0+0)-mx a.x 0)=0;unfold mx mn;split<;>split<;>split<;>lia
structure Lvq(q1 q2:Bo)(p:Rg):Prop where
 inn:∀u v,p u v->rB q1 u v\/rB q2 u v
 all:(q2.wd=0\/q2.ht=0)->∀u v,p u v↔rB q1 u v
theorem Zz(b a:Bo):Lvq b a (rOr b a):=⟨λu v h=>h,λe u v=>⟨λh=>h.elim id λz=>by unfold rB bxR at z;lia,.inl⟩⟩
theorem ZA(b a:Bo):Lvq b a (rDf b a):=⟨λu v h=>.inl h.1,λe u v=>⟨λh=>h.1,λh=>⟨h,λz=>by unfold rB bxR at z;lia⟩⟩⟩
theorem Zl{a b:Bo}{n s:Nat}(h:Cs a b n){p:Rg}(c:Lvq a b p){d:Dc p}(no:¬lvB a n):Em (vP s p d) n:=λx y z=>by
 rcases c.inn x y (vP_le z)with w|w
 ·unfold rB bxR at w;unfold lvB at no;lia
 ·obtain⟨l2,e⟩:=h.l2 (by unfold rB bxR at w;lia);unfold rB bxR at w;unfold BP at l2;lia
theorem far_c{c f:Bo}{n s:Nat}(h:Cs c f n)(w:1<=s){p:Rg}(q:Lvq c f p){d:Dc p}(le:lvB c n):¬Em (vP s p d) n:=λg=>by
 cases h with
 |small o v t =>
  have:=o.2;unfold BP at this;unfold lvB at le;lia
 |far i b2 m u =>
  have all:=q.all (.inl m);have k:=i.ok.w0;have j:=i.ok.h0;obtain⟨⟨r,l⟩,le⟩:=le;have e:∀x y,rB c x y->vP s p d x y≠0:=λx y z=>by rw[Md ((all x y).mpr z)];lia
  have a:=g c.x c.y (e _ _ (by unfold rB bxR;lia));have b:=g (c.x+c.wd-1) (c.y+c.ht-1) (e _ _ (by unfold rB bxR;lia));lia
theorem JY.mono{Κ:KTy}{N a:Nat}(h:JY Κ N)(e:N<=a):JY Κ a:=by
 obtain⟨M,b,c⟩:=h.ls;exact⟨⟨M,D0 b e,c⟩,h.ext⟩
theorem ng58:ng 1 6 16 16<=300000:=by decide +kernel
theorem ask_c{a g:Bo}{n s:Nat}(h:Cs a g n){r:Az}(b:JB r)(re:CK r 0 Cd=0)(c:GS r s){p:Rg}(k:Lvq a g p){d:Dc p}:∃Κ:KTy,JY Κ 300000/\ClK r Κ/\(Em (vP s p d) n->Us Κ r (vP s p d) n):=by
 cases h with
 |small o C K =>
  refine⟨Kg r [vP s p d] 6,(kg_fin (qs:=[(vP s p d,-8,-8)]) re fun ψ e u v z=>?_).mono ng58,kg_cl b re _ _,λ_=>kg_ask (t:=0) (D7.mpr rfl) A0⟩;rw[D7.mp e]at z⊢;refine⟨-8,-8,D7.mpr rfl,?_⟩;have B:=o.2;have H:=C.2;unfold BP at B H;have:=k.inn u v (vP_le z);unfold rB bxR at this;lia
 |far I b2 A f =>
  have m:vP s p d=vP s (bxR a.x (a.x+a.wd) a.y (a.y+a.ht)) inferInstance:=NJ (k.all (.inl A));rcases f with rfl|⟨E,D,rfl⟩|f
  ·refine⟨Kb s 0 0 0 0 0,(TZ A3 _ _ _ _).mono A3,ZJ b re c _ _ _ _ _,λ_ j l G M i=>?_⟩;rw[Nat.zero_div]at i;cases i
  ·rw[m];exact⟨_,(TZ D _ _ _ _).mono A3,ZJ b re c _ _ _ _ _,λ_=>kb_ask⟩
  ·refine⟨Kb s 0 0 0 0 0,(TZ A3 _ _ _ _).mono A3,ZJ b re c _ _ _ _ _,λq=>?_⟩;have z:vP s p d=λ_ _=>0:=by
    funext x y
    refine X9 λw=>?_;have:=q x y w;lia
   rw[z];exact kb_ask0 re
section
variable{P:Program}{w:World}{K:W.Frag}{mg:Str->Option Value}{base:Heap}{a:Ad}
theorem AJ.down{k:Nat}{f:Addr}{g:FuncData}{d:List Str}{sp:Sp}(F:AJ P w K mg base (CXE P w) k f g d sp):AJ P w K mg base CX0 k f g d (λvs H Q _=>sp vs H Q λ_ _ _=>False) :=
 ⟨λvs H Q E h=>F.len vs H Q _ h,λA b s H c us vs Q E j e i r h=>A3g (F.run A b s H c us vs Q _ j e i r h) λr s' q=>by
  rcases r with e|(_|_|_|_)
  ·obtain⟨_,_,_,_,_,_,_,_,_,_,_,_,_,_,z⟩:=q;exact z.elim
  all_goals exact q⟩
def spJpN(a:Ad):Sp:=λvs H Q _=>UI a vs H Q λ_ _ _=>False
def S4(σ:St):Prop:=∃x1 x2 x3 x4,σ=[x1,x2,x3,x4]
inductive SpRfJ(K:W.Frag)(a:Ad)(sp:Sp)(vs:List V)(H:Hp)(Q:VK):Prop
 |mk (ER:Hp->Prop) (_:vs.length=3) (_:∀(Q':VK)(E':XK),(∀c H',KiW K a c 7->ER H'->E' (.ref c) none H')->sp vs H Q' E') (_:∀H' H'',ER H'->Ax H' H''->Q (.bl true) H''):SpRfJ K a sp vs H Q
def Ym(K:W.Frag)(a:Ad)(sp:Sp):Sp:=λvs H Q _=>SpRfJ K a sp vs H Q
theorem ok_rfj{sp:Sp}{d:Nat}(F:Fun K "_law_refused" "_law_refused" Fk f fd)(T:Top K mg a)(I:1<=d)(n:Cal P w K mg base (CXE P w) d "jump" QR sp)(p:CalH P w K mg base 1 "_law_word" FU (spWd K a)):AJ P w K mg base CX0 (d+1) f fd FB (Ym K a sp):=by
 refine F.ok IN (λvs H Q E h=>?_) (λr A g s H vs Q E k h=>?_)
 ·obtain⟨_,h,_⟩:=h;exact h
 ·obtain⟨X,y,h,k2⟩:=h;obtain⟨V,U,D,rfl⟩:=len3 y;refine⟨_,(Ae (VX (i:=3) (S:=S4) rfl rfl rfl rfl rfl T.mx_FieldError T.ec_FieldError IN.nd rfl rfl (λB M O b=>(Af (Co (pe_calS n (rm k) rfl b (Aa (pv 0) (Aa (pv 1) (Aa (pv 2) Ab))))))) (λR=>(Af (Ar (CH Cy (pe_calH p ((rm k).marked _) rfl (Aa (pv 3) Ab)) Lp (AD _)))))) (Af (Ar Ol))),?_⟩
  try dsimp only[cxK]
  refine⟨⟨_,_,_,_,rfl⟩,_,rfl,_,rfl,_,rfl,h _ _ λc t j q=>?_⟩;refine⟨c,rfl,j.ec,j.mr,fun σ' e l m=>?_⟩;obtain⟨N,C,z,G,rfl⟩:=l;have x:=AB (o:=MR e c) m;refine⟨_,rfl,e,c,7,rfl,Ag,j,λu v=>?_⟩;refine⟨rfl,?_⟩;exact k2 t u q (x.trans v)
end
theorem OW{G r:Gv}(e:G=G0++r):∀{n:Nat},n<=48->Sol G 0 n (bareN n)
 |0,_=>rfl
 |n+1,h=>⟨bareN n,OW e A0,Rv e n A0⟩
theorem Nh{G r:Gv}(a:G=G0++r)(ok:GOk G):Vl G (bareN 1) (λ_ _=>0) 49:=by
 refine⟨⟨0,⟨Ds a (n:=1) A3,.inl rfl,by decide⟩,λu v=>?_⟩,Ry a ok A3⟩;unfold fieldF;split
 ·rename_i z;exact El a ok A3 (EN z.1 z.2.1) (EN z.2.2.1 z.2.2.2)
 ·rfl
theorem Vl.fv{G:Gv}{f B:Nat}{φ ψ:Int->Int->Nat}(h:Vl G f φ B)(e:∀u v,φ u v=ψ u v):Fv G f ψ:=by
 obtain⟨n,⟨c,d,a⟩,b⟩:=h.ex;exact⟨n,a,c,d,λx y=>by rw[b,e]⟩
structure Kn(bb:Bool)(s n:Nat)(q1 q2:Bo)(r:Az)(φ:Int->Int->Nat)(Κ:KTy):Prop where
 cs:Cs q1 q2 n
 fin:JY Κ 300000
 cl:ClK r Κ
 ask:Em φ n->Us Κ r φ n
 nr:¬lvB q1 n->Em φ n
 fa:lvB q1 n->¬Em φ n
 st:bb=true->∀u v,sFN r n φ u v=FN (grB q2 n) s (FN (grB q1 n) s λ_ _=>0) u v
 sf:bb=false->∀u v,sFN r n φ u v=FN (grB q2 n) 0 (FN (skB q1 n) s λ_ _=>0) u v
theorem kn_t{s n:Nat}{b a:Bo}(c:1<=s)(i:s<=7)(h:Cs b a n):∃(φ:Int->Int->Nat)(Κ:KTy),Kn true s n b a (rG s) φ Κ/\∀u v,FN a s (FN b s λ_ _=>0) u v=φ u v:=by
 obtain⟨Κ,f,g,e⟩:=ask_c h (YG i) (QM s A0) (.inl (UR c)) (Zz b a) (d:=λx y=>Classical.propDecidable _);exact⟨_,Κ,⟨h,f,g,e,Zl h (Zz b a),far_c h c (Zz b a),λ_=>step_or h.b1 h.b2 (UR c) _ n,(λz=>nomatch z)⟩,ZY b a s _⟩
theorem kn_f{s n:Nat}{b a:Bo}(c:1<=s)(i:s<=7)(h:Cs b a n):∃(φ:Int->Int->Nat)(Κ:KTy),Kn false s n b a (rS s) φ Κ/\∀u v,FN a 0 (FN b s λ_ _=>0) u v=φ u v:=by
 obtain⟨Κ,f,g,e⟩:=ask_c h (YF i) (QL s A0 c) (.inr (YE c)) (ZA b a) (d:=λx y=>Classical.propDecidable _);exact⟨_,Κ,⟨h,f,g,e,Zl h (ZA b a),far_c h c (ZA b a),(λz=>nomatch z),λ_=>step_df h.b2 (YE c) _ n⟩,ZZ b a s _⟩
theorem PY{q:Bo}(b:Bp q)(n:Nat):0<=(grB q n).wd/\0<=(grB q n).ht:=by
 unfold grB;have:=b.w;have:=b.h;split
 ·exact⟨by decide,by decide⟩
 ·dsimp only;lia
theorem gr_li{q:Bo}{n:Nat}(h:0<q.wd->0<q.ht->BP (q.x-n) (q.y-n) (q.wd+2*n) (q.ht+2*n) (2^40))(b:Bp q):0<(grB q n).wd->0<(grB q n).ht->BP (grB q n).x (grB q n).y (grB q n).wd (grB q n).ht (2^40):=by
 unfold grB;have:=b.w;have:=b.h;split
 ·exact λz=>absurd z A3
 ·exact λ_ _=>h A0 A0
theorem sk_ok(q:Bo)(n:Nat):0<=(skB q n).wd/\0<=(skB q n).ht:=⟨(SF _).1.1,(SF _).1.1⟩
theorem sk_li{q:Bo}{n:Nat}(h:BP q.x q.y q.wd q.ht (2^40)):0<(skB q n).wd->0<(skB q n).ht->BP (skB q n).x (skB q n).y (skB q n).wd (skB q n).ht (2^40):=by
 have a:=SF (q.wd-2*n);have b:=SF (q.ht-2*n);unfold skB BP at *
 dsimp only;generalize mx 0 (q.wd-2*n)=i at *
 generalize mx 0 (q.ht-2*n)=j at *
 lia
section
variable{P:Program}{w:World}{K:W.Frag}{mg:Str->Option Value}{base:Heap}{a:Ad}{Hd H H':Hp}{g:GA}{G G':Gv}{Κ:KTy}{N b i:Nat}{p dx mem pr:Addr}{r:Az}{m:MA}
structure Y8(a:Ad)(Hd H:Hp)(g:GA)(G:Gv)(Κ:KTy)(N b:Nat)(p dx mem pr:Addr)(r:Az)(m:MA):Prop where
 zs:ZS a H g G Κ N b p dx mem pr r m
 sm:Ax Hd H
 nn:∀y∈zL g m,Hd y=none
theorem Y8.fr(h:Y8 a Hd H g G Κ N b p dx mem pr r m)(f:Fr g H H')(c:Bd a H' g G')(go:AI G G' i):Y8 a Hd H' g G' Κ N (b+i) p dx mem pr r m:=⟨h.zs.fr f c go,Ax.fxn h.sm ((Fr.z f).fx h.zs) h.nn,h.nn⟩
theorem Y8.same(h:Y8 a Hd H g G Κ N b p dx mem pr r m)(s:Ax H H'):Y8 a Hd H' g G Κ N b p dx mem pr r m:=⟨h.zs.same s,h.sm.trans s,h.nn⟩
theorem ok_law(F:Fun K "law" "law" YC f fd)(T:Top K mg a)(cT:RP P w K mg base CX0 2 "Grove" a.c_Grove IH (QC a))(a8:Cal P w K mg base CX0 1 "_law_at" Wr (Yz K))(bW:Cal P w K mg base CX0 1 "_law_whole" Rf spWh)(aL:Cal P w K mg base CX0 3 "_law_box_by" Ev (Np K))(bH:Cal P w K mg base CX0 4 "_law_far_box" FC (spFb K))(aO:BK P w K mg base CX0 4 a.c_Grove "solid" Ew (Nl a))(bI:Cal P w K mg base CX0 8 "read_rule" Gp (spRR a))(cN:RP P w K mg base CX0 3 "Jumps" a.c_Jumps Rj (QA a))(aT:Cal P w K mg base CX0 103 "filled" On (QD a))(bQ:Cal P w K mg base CX0 1 "_law_common" Gs spCm)(bP:Cal P w K mg base CX0 1 "_law_leaves" Ri Ys)(bG:Cal P w K mg base CX0 152 "_law_refused" FB (Ym K a (UI a)))(aX:Cal P w K mg base CX0 1 "_law_grown" Ri (VS grB))(bO:Cal P w K mg base CX0 1 "_law_shrunk" Ri (VS skB))(cK:Cal P w K mg base CX0 151 "jump" QR (spJpN a)):AJ P w K mg base CX0 153 f fd p_law (UH K):=by
  refine F.ok BX (λ_ _ _ _ h=>by rcases h;subst_vars;rfl) λd9 A d0 s H vs Q E k h=>?_
  obtain⟨l,ns,rfl,hS,d2,kq⟩:=h;refine⟨_,(Ae (An (i:=1) BX.nd rfl (Or.inl rfl) (Ay AQ Ac (Ay BG (Ap a8 (rm k) rfl Ao (Aa (pv 0) (AL Ab))) Ac))) (Ae (An (i:=2) BX.nd rfl (Or.inl rfl) (Ay BG (Ap a8 (rm k) rfl Ao (Aa (pv 0) (AL Ab))) Ac)) (Ae (An (i:=3) BX.nd rfl (Or.inl rfl) (Ap aL (rm k) rfl Ao (Aa (pv 0) (AL (AV BG (Ap a8 (rm k) rfl Ao (Aa (pv 0) (AL Ab))) Ac Ab))))) (Ae (An (i:=4) BX.nd rfl (Or.inl rfl) (Ap aL (rm k) rfl Ao (Aa (pv 0) (AL (AV BG (Ay Du (Ap a8 (rm k) rfl Ao (Aa (pv 0) (AL Ab))) Ac) Ac Ab))))) (Ae (AN (Aw Cy (Ay BG (Ap a8 (rm k) rfl Ao (Aa (pv 0) (AL Ab))) Ac) Ac (AD _)) (Ae (An (i:=2) BX.nd rfl (Or.inl rfl) (Ay CU (Ay BG (Ap a8 (rm k) rfl Ao (Aa (pv 0) (AL Ab))) Ac) (Ay BG (Ay Du (Ap a8 (rm k) rfl Ao (Aa (pv 0) (AL Ab))) Ac) Ac))) (Ae (AN (Aw Cy (Ay BG (Ay Du (Ap a8 (rm k) rfl Ao (Aa (pv 0) (AL Ab))) Ac) Ac) Ac (AD _)) (Af (An (i:=2) BX.nd rfl (Or.inl rfl) (Ay AQ (Ay CU Ac Ac) (Ay BG (Ay Du (Ap a8 (rm k) rfl Ao (Aa (pv 0) (AL Ab))) Ac) (Ay op_pow Ac Ac))))) AE) (Ae (An (i:=3) BX.nd rfl (Or.inl rfl) (Ap bH (rm k) rfl Ao (Aa (pv 0) (Aa (pv 2) Ab)))) (Af (An (i:=4) BX.nd rfl (Or.inl rfl) (CD (AL (AL (AL (AL Ab)))))))))) AE) (Ae (An (i:=5) BX.nd rfl (Or.inl rfl) (YR cT (rm k) rfl Ao)) (Ae (An (i:=6) BX.nd rfl (Or.inl rfl) (AF (pv 5) aO (rm k) Ao (AL (AL Ab)))) (Ae (AN (Aw Cy (Ay BG (Ay Du (Ap a8 (rm k) rfl Ao (Aa (pv 0) (AL Ab))) Ac) Ac) Ac (AD _)) (Ae (An (i:=7) BX.nd rfl (Or.inl rfl) (JI cN (rm k) rfl Ao (Aa (pv 5) (Aa (Ap bI (rm k) rfl Ao (AV Op Lp (BR LZ rfl T.b_str A3d (Aa (pv 1) Ab)) Ab)) Ab)))) (Af (An (i:=8) BX.nd rfl (Or.inl rfl) (Ap aT (rm k) rfl Ao (Aa (pv 5) (Aa (Ap aT (rm k) rfl Ao (Aa (pv 5) (Aa (pv 6) (Aa (pv 3) (Aa (pv 1) Ab))))) (Aa (pv 4) (Aa (pv 1) Ab)))))))) (Ae (An (i:=4) BX.nd rfl (Or.inl rfl) (Ap bQ (rm k) rfl Ao (Aa (pv 3) (Aa (pv 4) Ab)))) (Ae (An (i:=7) BX.nd rfl (Or.inl rfl) (JI cN (rm k) rfl Ao (Aa (pv 5) (Aa (Ap bI (rm k) rfl Ao (AV Op (BR LZ rfl T.b_str A3d (Aa (pv 1) Ab)) Lp Ab)) Ab)))) (Af (An (i:=8) BX.nd rfl (Or.inl rfl) (Ap aT (rm k) rfl Ao (Aa (pv 5) (Aa (Ap aT (rm k) rfl Ao (Aa (pv 5) (Aa (pv 6) (Aa (pv 3) (Aa (pv 1) Ab))))) (Aa (pv 4) (AL Ab)))))))))) (Ae (AN (Cl (Ap bP (rm k) rfl Ao (Aa (pv 3) (Aa (pv 2) Ab)))) (Af (Ar (Ap bG (rm k) rfl Ao (Aa (pv 7) (Aa (pv 8) (Aa (pv 2) Ab)))))) AE) (Ae (AN (Aw Cy (Ay BG (Ay Du (Ap a8 (rm k) rfl Ao (Aa (pv 0) (AL Ab))) Ac) Ac) Ac (AD _)) (Ae (An (i:=9) BX.nd rfl (Or.inl rfl) (Ap aT (rm k) rfl Ao (Aa (pv 5) (Aa (pv 6) (Aa (Ap aX (rm k) rfl Ao (Aa (pv 3) (Aa (pv 2) Ab))) (Aa (pv 1) Ab)))))) (Af (An (i:=9) BX.nd rfl (Or.inl rfl) (Ap aT (rm k) rfl Ao (Aa (pv 5) (Aa (pv 9) (Aa (Ap aX (rm k) rfl Ao (Aa (pv 4) (Aa (pv 2) Ab))) (Aa (pv 1) Ab)))))))) (Ae (An (i:=9) BX.nd rfl (Or.inl rfl) (Ap aT (rm k) rfl Ao (Aa (pv 5) (Aa (pv 6) (Aa (Ap bO (rm k) rfl Ao (Aa (pv 3) (Aa (pv 2) Ab))) (Aa (pv 1) Ab)))))) (Af (An (i:=9) BX.nd rfl (Or.inl rfl) (Ap aT (rm k) rfl Ao (Aa (pv 5) (Aa (pv 9) (Aa (Ap aX (rm k) rfl Ao (Aa (pv 4) (Aa (pv 2) Ab))) (AL Ab))))))))) (Ae (An (i:=10) BX.nd rfl (Or.inl rfl) (Ap cK (rm k) rfl Ao (Aa (pv 7) (Aa (pv 8) (Aa (pv 2) Ab))))) (Af (Ar (EJ (Ap bW (rm k) rfl Ao (Aa (pv 10) Ab)) (EJ (CH Cy (pv 10) (pv 9) (AD _)) (Ft (CH Cy (Ap cK (rm k) rfl Ao (Aa (pv 7) (Aa (pv 8) (Aa (pv 2) Ab)))) (pv 9) (AD _)))))))))))))))))),?_⟩
  try dsimp only[cxK]
  refine Bv ?_;intro r1 s1 k1 c9 E1;obtain⟨s,hs⟩:=F4 (show 0<=1+atN ns 1%7 by lia);have a7:1<=s:=by lia
  have s7:s<=7:=by lia
  refine⟨_,rfl,l,ns,1,rfl,hS,by decide,_,_,rfl,rfl,(by show(0:Int)<7;decide),_,_,rfl,rfl,?_⟩;rw[show(λi j:Int=>V.int (i+j)) 1 (atN ns 1%7)=V.int (s:Int)from K3 V.int hs];clear hs;refine c9 ?_;refine Bv ?_;intro r2 s2 k2 dk E2;obtain⟨n0,ck⟩:=F4 (L9 (atN ns 11) (by decide:(6:Int)≠0));have cc:n0<=5:=by have:=L5 (atN ns 11) (by decide:(0:Int)<6);lia
  refine⟨_,rfl,l,ns,11,rfl,hS,by decide,_,_,rfl,rfl,(by show(0:Int)<6;decide),?_⟩;rw[show(λi j:Int=>V.int (i%j)) (atN ns 11) 6=V.int (n0:Int)from K3 V.int ck];clear ck;refine dk ?_;refine Bv ?_;intro r3 s3 k3 dj E3;have p8:∀{b:Nat},b<=3->(2:Int)^b<=8:=λ{b} h=>(show ∀b:Nat,b<4->(2:Int)^b<=8 by decide) b A0;obtain⟨b1,cv⟩:=F4 (L9 (atN ns 2) (by decide:(4:Int)≠0));have cj:b1<=3:=by have:=L5 (atN ns 2) (by decide:(0:Int)<4);lia
  refine⟨_,rfl,_,rfl,l,ns,2,rfl,hS,by decide,_,_,rfl,rfl,B6,l,ns,3,b1,K3 (λz=>[V.ref l,V.int 3,V.int z]) cv,hS,by decide,by lia,λt1 x1 y1 w1 h1 H3 ce c4 ca ci cy=>?_⟩;have a9:=ce.seq hS;have cu:Sm ⟨x1,y1,w1,h1⟩:=⟨⟨ca,ci⟩,by have:=p8 cj;unfold BP at cy⊢;dsimp only;lia⟩
  clear cv cj cy ca ci;refine dj ?_;refine Bv ?_;intro r4 s4 k4 da E4;obtain⟨b2,b7⟩:=F4 (L9 (atN ns 2/4) (by decide:(4:Int)≠0));have cn:b2<=3:=by have:=L5 (atN ns 2/4) (by decide:(0:Int)<4);lia
  refine⟨_,rfl,_,rfl,l,ns,2,rfl,a9,by decide,_,_,rfl,rfl,⟨by decide,by decide⟩,_,_,rfl,rfl,B6,l,ns,7,b2,K3 (λz=>[V.ref l,V.int 7,V.int z]) b7,a9,by decide,by lia,λX x2 y2 w2 h2 H4 b6 cg c6 c7 ct=>?_⟩;have Z:=b6.seq a9;have cq:Sm ⟨x2,y2,w2,h2⟩:=⟨⟨c6,c7⟩,by have:=p8 cn;unfold BP at ct⊢;dsimp only;lia⟩
  have ba:FO H4 t1 ⟨x1,y1,w1,h1⟩:=b6 _ _ c4;have bd:FO H4 X ⟨x2,y2,w2,h2⟩:=cg;clear b7 cn ct c6 c7 c4 cg ce b6 a9;refine da ?_;refine Bv ?_;intro r5 s5 k5 dl E5;apply OD (T:=k5) (fun σ' H5=>∃(n:Nat)(t1 X:Addr)(q1 q2:Bo),σ'=[some (.ref l),some (.int (s:Int)),some (.int (n:Int)),some (.ref t1),some (.ref X),none,none,none,none,none,none]/\SqL K H5 l (ns.map V.int)/\FO H5 t1 q1/\FO H5 X q2/\C0 q1 q2 n)
  ·intro M;refine⟨_,rfl,l,ns,0,rfl,Z,by decide,_,_,rfl,rfl,B6,rfl,_,rfl,EC (λ_=>?_) (λ_=>M _ _ ⟨n0,t1,X,_,_,rfl,Z,ba,bd,.small cu cq cc⟩)⟩;refine Bv ?_;intro r6 s6 k6 bv E6;obtain⟨u,hu⟩:=F4 (L9 (atN ns 11) (by decide:(3:Int)≠0));have u2:u<=2:=by have:=L5 (atN ns 11) (by decide:(0:Int)<3);lia
   obtain⟨v,hv⟩:=F4 (L9 (atN ns 11/3) (by decide:(10:Int)≠0));have v9:v<=9:=by have:=L5 (atN ns 11/3) (by decide:(0:Int)<10);lia
   refine⟨_,rfl,l,ns,11,rfl,Z,by decide,_,_,rfl,rfl,(by show(0:Int)<3;decide),_,rfl,l,ns,11,rfl,Z,by decide,_,_,rfl,rfl,⟨by decide,by decide⟩,_,_,rfl,rfl,(by show(0:Int)<10;decide),(u:Int),(v:Int),K3 V.int hu,K3 V.int hv,⟨by lia,by lia,by lia⟩,?_⟩;rw[show(λi j:Int=>V.int (i*2^j.toNat)) (u:Int) (v:Int)=V.int ((u*2^v:Nat):Int)from K3 V.int (by rw[M4,O1,F9];rfl)];have c3:u*2^v=0\/(∃E,E<=10/\u*2^v=2^E)\/2^40<=u*2^v:=by
    rcases(show u=0\/u=1\/u=2 by lia)with e|e|e<;>rw[e]
    ·exact .inl (Nat.zero_mul _)
    ·exact .inr (.inl ⟨v,by lia,Nat.one_mul _⟩)
    ·exact .inr (.inl ⟨v+1,by lia,by rw[D9,V7]⟩)
   generalize u*2^v=n1 at c3⊢;clear hu hv;refine bv ?_;refine Bv ?_;intro r7 di k7 bx E7;apply OD (T:=k7) (fun σ' H5=>∃n:Nat,σ'=[some (.ref l),some (.int (s:Int)),some (.int (n:Int)),some (.ref t1),some (.ref X),none,none,none,none,none,none]/\H5=H4/\(n=0\/(∃E,E<=10/\n=2^E)\/2^40<=n))
   ·intro az;refine⟨_,rfl,l,ns,11,rfl,Z,by decide,_,_,rfl,rfl,⟨by decide,by decide⟩,_,_,rfl,rfl,B6,rfl,_,rfl,EC (λ_=>?_) (λ_=>az _ _ ⟨n1,rfl,rfl,c3⟩)⟩;obtain⟨z,hz⟩:=F4 (show(0:Int)<=1*2^((40:Int)).toNat+atN ns 11/120%10^((30:Int)).toNat from Int.add_nonneg A3 (L9 _ A3));have dw:2^40<=z:=by
     have h1:=L9 (atN ns 11/120) (show(10:Int)^((30:Int)).toNat≠0 by decide);have h2:(1:Int)*2^((40:Int)).toNat=2^40:=rfl;generalize atN ns 11/120%10^((30:Int)).toNat=y at *
     lia
    refine⟨_,_,rfl,rfl,⟨by decide,by decide,by decide⟩,_,rfl,l,ns,11,rfl,Z,by decide,_,_,rfl,rfl,⟨by decide,by decide⟩,_,_,rfl,rfl,⟨by decide,by decide,by decide⟩,_,_,rfl,rfl,(by show(0:Int)<10^((30:Int)).toNat;decide),_,_,rfl,rfl,?_⟩;rw[show(λi j:Int=>V.int (i+j)) (1*2^((40:Int)).toNat) (atN ns 11/120%10^((30:Int)).toNat)=V.int (z:Int)from K3 V.int hz];exact az _ _ ⟨z,rfl,rfl,.inr (.inr dw)⟩
   ·rintro σ' H5 ⟨n,rfl,rfl,hn⟩;refine bx ?_;refine⟨_,rfl,_,rfl,l,ns,(n:Int),rfl,Z,by lia,λt3 q3 H6 a5 db fb=>?_⟩;refine⟨(by show 4<=sizeLine;decide),λt4 n4=>M _ _ ⟨n,t3,t4,q3,noB,rfl,(a5.trans (AB n4)).seq Z,AB n4 _ _ db,Ag,.far fb rfl hn⟩⟩
  ·rintro σ' H5 ⟨n,t1,X,q1,q2,rfl,b9,ar,am,c0⟩;refine dl ?_;clear Z ba bd cu cq cc;generalize d7:decide (V.int (atN ns 0/4%2)=V.int 0)=bb;refine Bv ?_;intro r6 s6 k6 bv E6;refine λx dq nx cr d1=>⟨x,dq,rfl,Ag,λg H6 b8 N=>⟨rfl,?_⟩⟩
   have a5:Ax H5 H6:=λb o e=>N.kp b o (by rw[As (AA e nx),As (AA e cr)];exact e) (b8▸AA e nx);subst b8;have al:=Bd.new N;have ng:=N.none;clear N;refine bv ?_;refine Bv ?_;intro r7 di k7 bx E7;refine⟨_,rfl,g.p,g.dx,_,rfl,al.at'.hp,Su g,g,G0,1,0,rfl,al.at',al.ok,by decide,by decide,by rw[Rw];decide,λi0 G7 H7 bl c2 bw cz=>?_⟩;have a4:=al.fr bl c2 bw;have g7:=bw.few;rw[Rw]at g7;obtain⟨q7,e7⟩:=a4.g0;have ei:i0=bareN 1:=Sol.uniq a4.ok cz (OW e7 A3);subst ei;have ag:Ax H5 H7:=Ax.fxn a5 (bl.fx al.at') λy hy=>ng y (by simp only[C1,D6,K7]at hy;rcases hy with z|z|z<;>simp[DY,z]);clear a5 al bl c2 bw cz nx cr d1;refine bx ?_;refine Bv ?_;intro r8 s8 k8 dy E8;have cw:=ag.seq b9;have ao:FO H7 t1 q1:=ag _ _ ar;have bg:FO H7 X q2:=ag _ _ am;have lg:(s:Int).natAbs.log2<1920:=VT A0 A0;have dg:Str.ofString (toString (s:Int))=sgD s:=Tx.dig_text A0 A0;have l1:(sgD s).length=1:=rfl;have bu:∀{H9:Hp}{m:MA},Ax H7 H9->(∀y∈m.l::m.kc::m.ds,H9 y=none)->∀y∈zL g m,H5 y=none:=λ{H9 m} s9 fr y hy=>by
    have sm:=ag.trans s9;simp only[zL,List.cons_append,List.nil_append,C1]at hy;rcases hy with rfl|rfl|rfl|rfl|rfl|rfl|hy
    ·exact ng _ (by simp[DY])
    ·exact ng _ (by simp[DY])
    ·exact ng _ (by simp[DY])
    ·exact ng _ (by simp[DY])
    ·exact ng _ (by simp[DY])
    ·exact Ax.noneN sm (fr _ A6)
    ·exact Ax.noneN sm (fr _ (by simp[hy]))
   apply OD (T:=k8) (fun σ' H8=>∃(r:Az)(q2:Bo)(X:Addr)(φ:Int->Int->Nat)(Κ:KTy)(G:Gv)(p R mem pr:Addr)(m:MA)(f:Nat),σ'=[some (.ref l),some (.int (s:Int)),some (.int (n:Int)),some (.ref t1),some (.ref X),some (.ref g.p),some (.int (bareN 1:Nat)),some (.ref p),some (.int (f:Int)),none,none]/\Y8 a H5 H8 g G Κ 300000 200000 p R mem pr r m/\FO H8 X q2/\Fv G f φ/\Kn (decide (V.int (atN ns 0/4%2)=V.int 0)) s n q1 q2 r φ Κ)
   ·intro M;refine⟨_,rfl,l,ns,0,rfl,cw,by decide,_,_,rfl,rfl,⟨by decide,by decide⟩,_,_,rfl,rfl,B1,rfl,_,rfl,EC (λhb=>?_) (λhb=>?_)⟩
    ·refine Bv ?_;intro r9 s9 k9 as E9;obtain⟨φ,Κ,U,b3⟩:=kn_t a7 s7 c0.cs;have b1:=c0.cs.b1;have b2:=c0.cs.b2;have tx:(Str.ofString "0 0=01234567 ").length=13:=by decide
     refine⟨_,rfl,_,rfl,(s:Int),rfl,lg,_,_,rfl,rfl,Vf (by rw[dg,l1,tx];decide),rG s,(by rw[dg,rG_text s A0];rfl),YG s7,QM s A0,λpr H9 aa hR=>?_⟩;refine λp R np b5 b0=>jnew (Κ:=Κ) (N:=300000) (b:=2000) (a4.same aa) (YG s7) (QM s A0) hR np b5 b0 A0 λah mem m t O au _ _ _=>⟨rfl,?_⟩
     have d:Y8 a H5 ah g G7 Κ 300000 2000 p R mem pr (rG s) m:=⟨O,(ag.trans aa).trans t,bu aa au⟩
     refine as ?_;refine⟨_,rfl,_,rfl,_,rfl,_,rfl,_,rfl,Jw (E:=E0) (C:=4833) d.zs.fu (Nh e7 d.zs.fu.ok) (t _ _ (aa _ _ ao)) b1.w b1.h (λ_ _=>c0.cs.l1) A0 (λ_ _=>.inr A3) A3 A0 λf1 a6 ab D I c ai=>?_⟩;have af:=d.fr D I c;have bi:=c.few;have S:FO ab X q2:=af.sm _ _ am;refine⟨_,rfl,_,rfl,Jw (E:=E0) (C:=86161) I ai S b2.w b2.h (λz _=>by have:=(c0.cs.l2 z).1;unfold BP at this⊢;lia) A0 (λ_ _=>.inr A3) A3 A0 λf2 bq br ak av aw bt=>?_⟩;have B:=af.fr ak av aw;exact M _ _ ⟨rG s,q2,X,φ,Κ,bq,p,R,mem,pr,m,f2,rfl,⟨B.zs.mono A3,B.sm,B.nn⟩,B.sm _ _ am,bt.fv b3,by rw[hb];exact U⟩
    ·refine Bv ?_;intro r9 s9 k9 as E9;refine⟨_,rfl,_,rfl,t1,X,q1,q2,rfl,ao,bg,λt9 H8 bm c8=>?_⟩;have cm:=c0.cm;generalize cmB q1 q2=qc at c8 cm;refine as ?_;refine Bv ?_;intro dv dt co ay dm;obtain⟨φ,Κ,U,b3⟩:=kn_f a7 s7 cm;have b1:=cm.b1;have b2:=cm.b2;have tx:(Str.ofString " 0=12345678 0").length=13:=by decide
     refine⟨_,rfl,_,rfl,(s:Int),rfl,lg,_,_,rfl,rfl,Vf (by rw[dg,l1,tx];decide),rS s,(by rw[dg,rS_text s A0];rfl),YF s7,QL s A0 a7,λpr H9 aa hR=>?_⟩;refine λp R np b5 b0=>jnew (Κ:=Κ) (N:=300000) (b:=2000) (a4.same (bm.trans aa)) (YF s7) (QL s A0 a7) hR np b5 b0 A0 λah mem m t O au _ _ _=>⟨rfl,?_⟩
     have d:Y8 a H5 ah g G7 Κ 300000 2000 p R mem pr (rS s) m:=⟨O,(ag.trans (bm.trans aa)).trans t,bu (bm.trans aa) au⟩
     have bz:FO ah t9 qc:=t _ _ (aa _ _ c8);refine ay ?_;refine⟨_,rfl,_,rfl,_,rfl,_,rfl,_,rfl,Jw (E:=E0) (C:=4833) d.zs.fu (Nh e7 d.zs.fu.ok) (d.sm _ _ ar) b1.w b1.h (λ_ _=>cm.l1) A0 (λ_ _=>.inr A3) A3 A0 λf1 a6 ab D I c ai=>?_⟩;have af:=d.fr D I c;have bi:=c.few;have a1:FO ab t9 qc:=D.tup d.zs.fu.at' bz;refine⟨_,rfl,Jw (E:=E0) (C:=86161) (s:=0) I ai a1 b2.w b2.h (λz _=>by have:=(cm.l2 z).1;unfold BP at this⊢;lia) A3 (λ_ _=>.inr A3) A3 A0 λf2 bq br ak av aw bt=>?_⟩;have B:=af.fr ak av aw;exact M _ _ ⟨rS s,qc,t9,φ,Κ,bq,p,R,mem,pr,m,f2,rfl,⟨B.zs.mono A3,B.sm,B.nn⟩,ak.tup I.at' a1,bt.fv b3,by rw[T7.mpr hb];exact U⟩
   ·rintro σ' H8 ⟨r,q2,X,φ,Κ,G,p,R,mem,pr,m,f8,rfl,Y,am,fv,U⟩;refine dy ?_;clear bu cw ao bg ag a4 g7 e7 ng;refine Bv ?_;intro r9 s9 k9 as E9;refine⟨_,rfl,_,rfl,.mk t1 q1 (n:Int) rfl (Y.sm _ _ ar) (λle=>⟨_,rfl,BJ ?_⟩) (λno=>⟨_,rfl,Bc ?_⟩)⟩
    ·exact⟨_,rfl,_,rfl,_,rfl,.mk (λ_=>True) rfl (λQ' E' kE=>.mk p R mem pr g G Κ φ 300000 200000 r m f8 n rfl Y.zs U.fin U.cl U.ask fv A3 (λnr=>absurd nr (U.fa le)) (λ_ H' fz d6=>kE _ H' (kiw_far T) True.intro)) (λH' d5 _ _=>kq _)⟩
    refine as ?_;have nr:=U.nr no;have b1:=U.cs.b1;have b2:=U.cs.b2;have sz:=Y.zs.jz.sz U.fin;have dh:=gr_li (q:=q1) (n:=n) (λz1 z2=>by unfold lvB at no;unfold BP;lia) b1;have cp:=gr_li (q:=q2) (n:=n) (λz1 _=>by have:=U.cs.l2 z1;unfold BP at this⊢;lia) b2;refine Bv ?_;intro dv dt co ay dm;apply OD (T:=co) (fun σ' H9=>∃(a0:Nat)(G:Gv),σ'=[some (.ref l),some (.int (s:Int)),some (.int (n:Int)),some (.ref t1),some (.ref X),some (.ref g.p),some (.int (bareN 1:Nat)),some (.ref p),some (.int (f8:Int)),some (.int (a0:Int)),none]/\Y8 a H5 H9 g G Κ 300000 400000 p R mem pr r m/\Fv G f8 φ/\Fv G a0 (sFN r n φ))
    ·intro M;refine⟨_,rfl,l,ns,0,rfl,Y.sm.seq b9,by decide,_,_,rfl,rfl,⟨by decide,by decide⟩,_,_,rfl,rfl,B1,rfl,_,rfl,EC (λhb=>?_) (λhb=>?_)⟩
     ·refine Bv ?_;intro c1 cb cx ad c5;refine⟨_,rfl,_,rfl,_,rfl,_,rfl,.mk t1 q1 (n:Int) rfl (Y.sm _ _ ar) λdn ah t a2=>?_⟩;have d:=Y.same t;obtain⟨dr,bo⟩:=d.zs.fu.g0;refine⟨_,rfl,Jw (E:=E0) (C:=4833) d.zs.fu (Nh bo d.zs.fu.ok) a2 (PY b1 n).1 (PY b1 n).2 dh A0 (λ_ _=>.inr A3) A3 A0 λf1 a6 ab D I c ai=>?_⟩;have af:=d.fr D I c;have bi:=c.few;have S:FO ab X q2:=D.tup d.zs.fu.at' (t _ _ am);have ae:=fv.app d.zs.fu.ok c;refine ad ?_;refine⟨_,rfl,_,rfl,_,rfl,_,rfl,.mk X q2 (n:Int) rfl S λdu br an a3=>?_⟩;have B:=af.same an;refine⟨_,rfl,Jw (E:=E0) (C:=86161) B.zs.fu ai a3 (PY b2 n).1 (PY b2 n).2 cp A0 (λ_ _=>.inr A3) A3 A0 λf2 bp dc ax aq ac b4=>?_⟩;have aj:=B.fr ax aq ac;exact M _ _ ⟨f2,bp,rfl,⟨aj.zs.mono A3,aj.sm,aj.nn⟩,ae.app B.zs.fu.ok ac,b4.fv λu v=>(U.st hb u v).symm⟩
     ·refine Bv ?_;intro c1 cb cx ad c5;refine⟨_,rfl,_,rfl,_,rfl,_,rfl,.mk t1 q1 (n:Int) rfl (Y.sm _ _ ar) λdn ah t a2=>?_⟩;have d:=Y.same t;obtain⟨dr,bo⟩:=d.zs.fu.g0;refine⟨_,rfl,Jw (E:=E0) (C:=4833) d.zs.fu (Nh bo d.zs.fu.ok) a2 (sk_ok q1 n).1 (sk_ok q1 n).2 (sk_li U.cs.l1) A0 (λ_ _=>.inr A3) A3 A0 λf1 a6 ab D I c ai=>?_⟩;have af:=d.fr D I c;have bi:=c.few;have S:FO ab X q2:=D.tup d.zs.fu.at' (t _ _ am);have ae:=fv.app d.zs.fu.ok c;refine ad ?_;refine⟨_,rfl,_,rfl,_,rfl,_,rfl,.mk X q2 (n:Int) rfl S λdu br an a3=>?_⟩;have B:=af.same an;refine Jw (E:=E0) (C:=86161) (s:=0) B.zs.fu ai a3 (PY b2 n).1 (PY b2 n).2 cp A3 (λ_ _=>.inr A3) A3 A0 λf2 bp dc ax aq ac b4=>?_;have aj:=B.fr ax aq ac;exact M _ _ ⟨f2,bp,rfl,⟨aj.zs.mono A3,aj.sm,aj.nn⟩,ae.app B.zs.fu.ok ac,b4.fv λu v=>(U.sf (T7.mpr hb) u v).symm⟩
    ·rintro σ' H9 ⟨a0,G9,rfl,Y9,ch,dd⟩;refine ay ?_;refine Bv ?_;intro c1 cb cx ad c5;have tq:∀{x y:Nat},x=y->decide (V.int (x:Int)=V.int (y:Int))=true:=λ{x y} e=>by rw[e];exact Z7 rfl
     refine⟨_,rfl,_,rfl,_,rfl,.mk p R mem pr g G9 Κ φ 300000 400000 r m f8 n rfl Y9.zs U.fin U.cl U.ask ch A3 (λ_ df dp ah d8 d3 O bc cf=>?_) (λnn=>absurd nr nn)⟩;refine ad ?_;have bj:=ch.app Y9.zs.fu.ok bc;have bf:=dd.app Y9.zs.fu.ok bc;obtain⟨rr,bn⟩:=O.fu.g0;have ed:df=a0:=cf.eq bn O.fu.ok bf λx y=>rfl;refine⟨_,rfl,.inl ⟨_,rfl,_,rfl,BJ ⟨_,rfl,_,rfl,rfl,_,rfl,ifT (tq ed) ?_⟩⟩⟩;refine⟨_,rfl,_,rfl,_,rfl,.mk p R mem pr g dp Κ φ 300000 _ r m f8 n rfl O U.fin U.cl U.ask bj A3 (λ_ de a6 ab ea d4 bh c ae=>?_) (λnn=>absurd nr nn)⟩;have cd:=bf.app O.fu.ok c;obtain⟨rr,bn⟩:=bh.fu.g0;have ed:de=a0:=ae.eq bn bh.fu.ok cd λx y=>rfl;refine⟨_,rfl,rfl,?_⟩;rw[tq ed];exact kq _
end
end J
namespace J
open PySem L2
theorem ar1{α:Type}:∀us:List α,us.length=1->∃a,us=[a]
 |[a],_=>⟨a,rfl⟩
theorem ar2{α:Type}:∀us:List α,us.length=2->∃b a,us=[b,a]
 |[b,a],_=>⟨b,a,rfl⟩
theorem ar3{α:Type}:∀us:List α,us.length=3->∃c b a,us=[c,b,a]
 |[c,b,a],_=>⟨c,b,a,rfl⟩
theorem ar4{α:Type}:∀us:List α,us.length=4->∃d c b a,us=[d,c,b,a]
 |[d,c,b,a],_=>⟨d,c,b,a,rfl⟩
theorem ar5{α:Type}:∀us:List α,us.length=5->∃d b c a e,us=[d,b,c,a,e]
 |[d,b,c,a,e],_=>⟨d,b,c,a,e,rfl⟩
structure Fg(K:W.Frag)(x:Str)(st:Stmt)(f:Addr)(fd:FuncData):Prop where
 at_:W.nsIn K mainGlobals x=some (some (.ref f))
 fn:Fun K x x st f fd
structure Fm(K:W.Frag)(C:Addr)(m q:Str)(st:Stmt)(f:Addr)(fd:FuncData):Prop where
 me:Py K C m f
 fn:Fun K m q st f fd
structure Fi(K:W.Frag)(C:Addr)(q:Str)(st:Stmt)(f:Addr)(fd:FuncData):Prop where
 mk_:Mk K C f
 fn:Fun K "__init__" q st f fd
theorem bnd{K:W.Frag}{x q:Str}{c:Stmt}{f:Addr}{k:FuncData}{g:List Str}(F:Fun K x q c f k)(h:∀(kV i m:Value)(l:Option Addr)(d n:Value)(us:List Value),us.length=g.length->bindArgs (W.fnOf x q (LY c) (FW c) (Ak c) .none kV i m l d n) ⟨us,[]⟩=pure (g.zip us):=by intro _ _ _ _ _ _ us a;first|(obtain⟨b,rfl⟩:=ar1 us a;exact rfl)|(obtain⟨b,e,rfl⟩:=ar2 us a;exact rfl)|(obtain⟨b,e,j,rfl⟩:=ar3 us a;exact rfl)|(obtain⟨b,e,j,o,rfl⟩:=ar4 us a;exact rfl)|(obtain⟨b,e,j,o,p,rfl⟩:=ar5 us a;exact rfl)):Ch K k g []:=F.binds h
theorem fin{l:W.OpenLaw}{w:World}{K:W.Frag}{h:Heap}{mg:Str->Option Value}{fa:Addr}(X:K.In h)(G:h.Ns mainGlobals mg)(j2:mg "law" = some (.ref fa))
  {r:Addr} {A:Addr} {t:Addr} {g:Addr} {ah:Addr} {i:Addr} {f0:Addr} {d0:FuncData} {f1:Addr} {d1:FuncData} {f2:Addr} {d2:FuncData} {f3:Addr} {d3:FuncData} {f4:Addr} {d4:FuncData} {f5:Addr} {d5:FuncData} {f6:Addr} {d6:FuncData} {f7:Addr} {d7:FuncData} {f8:Addr} {d8:FuncData} {f9:Addr} {d9:FuncData} {kd:Addr} {jw:FuncData} {hu:Addr} {lk:FuncData} {km:Addr} {ia:FuncData} {kk:Addr} {j6:FuncData} {hg:Addr} {k0:FuncData} {k3:Addr} {kj:FuncData} {je:Addr} {hk:FuncData} {kw:Addr} {kt:FuncData} {it:Addr} {i3:FuncData} {ky:Addr} {k5:FuncData} {jn:Addr} {kg:FuncData} {hj:Addr} {k8:FuncData} {jb:Addr} {jc:FuncData} {ht:Addr} {hz:FuncData} {h6:Addr} {jp:FuncData} {ld:Addr} {jm:FuncData} {h3:Addr} {h2:FuncData} {kn:Addr} {ho:FuncData} {hq:Addr} {i5:FuncData} {io:Addr} {lb:FuncData} {k1:Addr} {kq:FuncData} {lc:Addr} {iy:FuncData} {i8:Addr} {iz:FuncData} {jv:Addr} {hy:FuncData} {i1:Addr} {h8:FuncData} {h1:Addr} {hi:FuncData} {k7:Addr} {h4:FuncData} {kz:Addr} {iw:FuncData} {jx:Addr} {j0:FuncData} {jj:Addr} {ik:FuncData} {jo:Addr} {iv:FuncData} {j7:Addr} {iu:FuncData} {kc:Addr} {ju:FuncData} {kh:Addr} {hx:FuncData} {ie:Addr} {j1:FuncData} {ic:Addr} {hm:FuncData} {ip:Addr} {i6:FuncData} {ks:Addr} {js:FuncData} {jz:Addr} {j3:FuncData} {ij:Addr} {hl:FuncData} {il:Addr} {ja:FuncData} {k6:Addr} {jy:FuncData} {kl:Addr} {ku:FuncData} {k2:Addr} {he:FuncData} {ig:Addr} {lh:FuncData} {jd:Addr} {hp:FuncData} {i2:Addr} {la:FuncData} {i4:Addr} {ki:FuncData} {li:Addr} {hh:FuncData} {ka:Addr} {ii:FuncData} {hw:Addr} {lj:FuncData} {j4:Addr} {k9:FuncData} {hs:Addr} {kr:FuncData} {hv:Addr} {h5:FuncData} {jf:Addr} {h9:FuncData} {jk:Addr} {jt:FuncData} {hf:Addr} {lf:FuncData} {i9:Addr} {ji:FuncData} {i7:Addr} {k4:FuncData} {ix:Addr} {ke:FuncData} {h0:Addr} {ko:FuncData} {ib:Addr} {iq:FuncData} {hr:Addr} {kf:FuncData} {j5:Addr} {jg:FuncData} {kb:Addr} {jq:FuncData} {j9:Addr} {jh:FuncData} {im:Addr} {lg:FuncData} {is:Addr} {h7:FuncData} {hn:Addr} {ir:FuncData} {i0:Addr} {ih:FuncData} {j8:Addr} {kx:FuncData} {cx:Tok} {au:Tok} {N:Tok} {O:Str} {H:Tok} {I:Str} {bw:Tok} {bx:Str} {bd:Tok} {da:Tok} {ab:Tok} {aa:Tok} {ag:Str} {U:Tok} {n:Addr} {D:Addr} {ai:Addr} {E:Addr} {M:Addr} {R:Addr} {Q:Addr} {bi:Addr} {d:Addr} {S:Addr} {a:Addr} {y:Addr} {aj:Addr} {bn:Addr}
  (cU:W.nsIn K mainGlobals "Amounts" = some (some (.ref r)))
  (cV:W.nsIn K mainGlobals "Places" = some (some (.ref A)))
  (cW:W.nsIn K mainGlobals "Clause" = some (some (.ref t)))
  (cZ:W.nsIn K mainGlobals "Grove" = some (some (.ref g)))
  (dA:W.nsIn K mainGlobals "Rule" = some (some (.ref ah)))
  (cY:W.nsIn K mainGlobals "Jumps" = some (some (.ref i)))
  (ce:Cls K r)
  (cv:Cls K A)
  (cw:Cls K t)
  (p:Cls K g)
  (ee:Cls K ah)
  (B:Cls K i)
  (bg:findIn K (.ref r) "state" = some none)
  (al:findIn K (.ref r) "numbers" = some none)
  (a4:findIn K (.ref A) "wanted" = some none)
  (b5:findIn K (.ref t) "cell" = some none)
  (Z:findIn K (.ref t) "conditions" = some none)
  (bo:findIn K (.ref t) "makes" = some none)
  (bp:findIn K (.ref g) "levels" = some none)
  (bz:findIn K (.ref g) "parts" = some none)
  (bc:findIn K (.ref g) "numbers" = some none)
  (b4:findIn K (.ref g) "bares" = some none)
  (ba:findIn K (.ref g) "amounts" = some none)
  (b0:findIn K (.ref g) "boxes" = some none)
  (ci:findIn K (.ref ah) "text" = some none)
  (br:findIn K (.ref ah) "clauses" = some none)
  (ca:findIn K (.ref i) "grove" = some none)
  (a2:findIn K (.ref i) "memories" = some none)
  (ch:findIn K (.ref i) "rule" = some none)
  (P:findIn K (.ref i) "known_squares" = some none)
  (V:findIn K (.ref i) "known_cells" = some none)
  (g0:Fg K "is_whole" Ic f0 d0)
  (g1:Fg K "is_state" Li f1 d1)
  (g2:Fg K "takes" QK f2 d2)
  (g3:Fg K "read_clause" Ep f3 d3)
  (g4:Fg K "read_state" Ia f4 d4)
  (g5:Fg K "read_wanted" Gd f5 d5)
  (g6:Fg K "read_condition" Ec f6 d6)
  (g7:Fg K "read_amounts" Fe f7 d7)
  (g8:Fg K "read_numbers" Fd f8 d8)
  (g9:Fg K "read_places" Eo f9 d9)
  (fc:Fg K "shifted_box" Gc kd jw)
  (eh:Fg K "least_box" CO hu lk)
  (fq:Fg K "lies_within" Ge km ia)
  (gy:Fg K "reach_of" Lh kk j6)
  (gb:Fg K "bare_field" Ie hg k0)
  (fw:Fg K "widened" Mm k3 kj)
  (et:Fg K "trimmed" Mn je hk)
  (e4:Fg K "middle_of" FQ kw kt)
  (ga:Fg K "is_bare_around" Ed it i3)
  (fk:Fg K "widened_over" Fc ky k5)
  (ek:Fg K "widened_to" GY jn kg)
  (gc:Fg K "box_of" Od hj k8)
  (dq:Fg K "jump" Tz jb jc)
  (er:Fg K "road" Ty ht hz)
  (fz:Fg K "check_leap" Id h6 jp)
  (ey:Fg K "level_for" Jc ld jm)
  (ei:Fg K "filled" Oc h3 h2)
  (ha:Fg K "check_box" Jd kn ho)
  (fp:Fg K "part_in" Mo hq i5)
  (eb:Fg K "mixed" Nq io lb)
  (fm:Fg K "mixed_quarters" CZ k1 kq)
  (gj:Fg K "split_stretch" EH lc iy)
  (fb:Fg K "clause_texts" Fj i8 iz)
  (gu:Fg K "read_rule" Jb jv hy)
  (e0:Fg K "deciding" Lk i1 h8)
  (hc:Fg K "becomes" Mp h1 hi)
  (fh:Fg K "shown_rule" GZ k7 h4)
  (e7:Fg K "nine_parts" Ib kz iw)
  (ej:Fg K "fours_of" Lj jx j0)
  (gr:Fg K "met_in_the_middle" Dl jj ik)
  (ev:Fg K "_law_at" Mq jo iv)
  (gl:Fg K "_law_whole" Ig j7 iu)
  (gi:Fg K "_law_mix" Ll kc ju)
  (fe:Fg K "_law_place" Ih kh hx)
  (e6:Fg K "_law_long" Jf ie j1)
  (e9:Fg K "_law_box_by" Gi ic hm)
  (hb:Fg K "_law_grown" Ii ip i6)
  (gq:Fg K "_law_shrunk" Gf ks js)
  (ge:Fg K "_law_common" Gh jz j3)
  (gm:Fg K "_law_far_box" Fl ij hl)
  (en:Fg K "_law_leaves" Gg il ja)
  (ec:Fg K "_law_word" Je k6 jy)
  (fu:Fg K "_law_refused" Fk kl ku)
  (e2:Fg K "law" YC k2 he)
  (e1:Fm K r "holds" "Amounts.holds" EI ig lh)
  (hd:Fm K A "holds" "Places.holds" DR jd hp)
  (gz:Fm K t "fits" "Clause.fits" Es i2 la)
  (gv:Fm K g "kept" "Grove.kept" Im i4 ki)
  (gp:Fm K g "linked" "Grove.linked" Fn li hh)
  (ep:Fm K g "check_square" "Grove.check_square" CQ ka ii)
  (fj:Fm K g "leaf" "Grove.leaf" Il hw lj)
  (ew:Fm K g "solid" "Grove.solid" Gm j4 k9)
  (gx:Fm K g "level_of" "Grove.level_of" Ef hs kr)
  (gg:Fm K g "state_of" "Grove.state_of" Ee hv h5)
  (e5:Fm K g "span" "Grove.span" Ik jf h9)
  (dy:Fm K g "boxed" "Grove.boxed" Er jk jt)
  (el:Fm K g "measured" "Grove.measured" Db hf lf)
  (gs:Fm K i "change" "Jumps.change" DS i9 ji)
  (ft:Fm K i "after" "Jumps.after" Gk i7 k4)
  (fo:Fm K i "check_jump" "Jumps.check_jump" Dx ix ke)
  (ea:Fm K i "reckoned" "Jumps.reckoned" Da h0 ko)
  (fy:Fm K i "fresh" "Jumps.fresh" BY ib iq)
  (e3:Fm K i "four_halfway" "Jumps.four_halfway" Bj hr kf)
  (ff:Fm K i "middle_after" "Jumps.middle_after" CP j5 jg)
  (ez:Fm K i "cell_after" "Jumps.cell_after" Ck kb jq)
  (e8:Fi K r "Amounts.__init__" Fo j9 jh)
  (gd:Fi K A "Places.__init__" Gj im lg)
  (fl:Fi K t "Clause.__init__" Gn is h7)
  (gh:Fi K g "Grove.__init__" Io hn ir)
  (gf:Fi K ah "Rule.__init__" FR i0 ih)
  (fg:Fi K i "Jumps.__init__" Ij j8 kx)
  (gt:W.nsIn K mainGlobals "all" = some none)
  (ed:W.nsIn K mainGlobals "bool" = some none)
  (c8:W.nsIn K mainGlobals "enumerate" = some none)
  (eu:W.nsIn K mainGlobals "int" = some none)
  (cn:W.nsIn K mainGlobals "isinstance" = some none)
  (fi:W.nsIn K mainGlobals "len" = some none)
  (em:W.nsIn K mainGlobals "max" = some none)
  (gw:W.nsIn K mainGlobals "min" = some none)
  (dw:W.nsIn K mainGlobals "range" = some none)
  (es:W.nsIn K mainGlobals "str" = some none)
  (du:W.nsIn K mainGlobals "tuple" = some none)
  (eo:W.nsIn K mainGlobals "zip" = some none)
  (dr:W.nsIn K mainGlobals "STATES" = some (some (.int 8 cx)))
  (cr:W.nsIn K mainGlobals "NEIGHBOURS" = some (some (.int 8 au)))
  (bq:W.nsIn K mainGlobals "STATE_FIGURES" = some (some (.str O N)))
  (bh:O=Str.ofString "01234567")
  (bf:W.nsIn K mainGlobals "AMOUNT_FIGURES" = some (some (.str I H)))
  (a1:I=Str.ofString "012345678")
  (db:W.nsIn K mainGlobals "ANY_SIGN" = some (some (.str bx bw)))
  (c4:bx=Str.ofString "*")
  (c2:W.nsIn K mainGlobals "TOP_LEVEL" = some (some (.int 48 bd)))
  (dv:W.nsIn K mainGlobals "LIMIT" = some (some (.int 1099511627776 da)))
  (cc:W.nsIn K mainGlobals "LEAST_LEVEL" = some (some (.int 1 ab)))
  (cf:W.nsIn K mainGlobals "CLAUSE_MARK" = some (some (.str ag aa)))
  (cb:ag=Str.ofString "; ")
  (b3:W.nsIn K mainGlobals "LEAST_JUMPED" = some (some (.int 2 U)))
  (ck:W.nsIn K mainGlobals "ValueError" = some none)
  (cd:W.nsIn K mainGlobals "FieldError" = some (some (.ref n)))
  (c5:W.nsIn K mainGlobals "NoNumber" = some (some (.ref D)))
  (dm:W.nsIn K mainGlobals "NoRule" = some (some (.ref ai)))
  (c7:W.nsIn K mainGlobals "Restless" = some (some (.ref E)))
  (c1:W.nsIn K mainGlobals "NoSquare" = some (some (.ref M)))
  (di:W.nsIn K mainGlobals "NoLevel" = some (some (.ref R)))
  (dg:W.nsIn K mainGlobals "NoState" = some (some (.ref Q)))
  (ds:W.nsIn K mainGlobals "NoBox" = some (some (.ref bi)))
  (dp:W.nsIn K mainGlobals "TooFar" = some (some (.ref d)))
  (dc:W.nsIn K mainGlobals "TooMany" = some (some (.ref S)))
  (de:W.nsIn K mainGlobals "NoSteps" = some (some (.ref a)))
  (ct:W.nsIn K mainGlobals "NoPattern" = some (some (.ref y)))
  (dl:W.nsIn K mainGlobals "NoName" = some (some (.ref aj)))
  (dt:W.nsIn K mainGlobals "NoRow" = some (some (.ref bn)))
  (dk:Mb K d)
  (dd:Mb K a)
  (cg:Mb K n)
  (c6:hasDictIn K d=true)
  (c3:findIn K (.ref d) "__getattribute__" = some (some (.builtin "BaseException.__getattribute__")))
  (c9:findIn K (.ref d) "__getattr__" = some none)
  (cz:findIn K (.ref d) "__class__" = some (some (.builtin "object.__class__")))
  (ef:specialIn K (.builtin "object.__class__") "__get__" = some (some (.builtin "getset_descriptor.__get__")))
  (eg:takesIn K (.builtin "object.__class__")=some true)
  (cy:mroIn K d (.type "object")=some true)
  (c0:mroIn K d (.type "BaseException")=some true)
  (dn:mroIn K d (.ref n)=some true)
  (dj:kitOne K (.ref d) (.type "ValueError")=some true)
  (ao:kitOne K (.ref d) (.ref D)=some false)
  (bj:kitOne K (.ref d) (.ref ai)=some false)
  (aq:kitOne K (.ref d) (.ref E)=some false)
  (an:kitOne K (.ref d) (.ref M)=some false)
  (a3:kitOne K (.ref d) (.ref R)=some false)
  (aw:kitOne K (.ref d) (.ref Q)=some false)
  (bv:kitOne K (.ref d) (.ref bi)=some false)
  (bm:kitOne K (.ref d) (.ref d)=some true)
  (ay:kitOne K (.ref d) (.ref S)=some false)
  (av:kitOne K (.ref d) (.ref a)=some false)
  (ae:kitOne K (.ref d) (.ref y)=some false)
  (bl:kitOne K (.ref d) (.ref aj)=some false)
  (bt:kitOne K (.ref d) (.ref bn)=some false)
  (cu:hasDictIn K a=true)
  (cj:findIn K (.ref a) "__getattribute__" = some (some (.builtin "BaseException.__getattribute__")))
  (co:findIn K (.ref a) "__getattr__" = some none)
  (cp:findIn K (.ref a) "__class__" = some (some (.builtin "object.__class__")))
  (cl:mroIn K a (.type "object")=some true)
  (cq:mroIn K a (.type "BaseException")=some true)
  (df:mroIn K a (.ref n)=some true)
  (dh:kitOne K (.ref a) (.type "ValueError")=some true)
  (ad:kitOne K (.ref a) (.ref D)=some false)
  (a0:kitOne K (.ref a) (.ref ai)=some false)
  (ac:kitOne K (.ref a) (.ref E)=some false)
  (af:kitOne K (.ref a) (.ref M)=some false)
  (ak:kitOne K (.ref a) (.ref R)=some false)
  (am:kitOne K (.ref a) (.ref Q)=some false)
  (a5:kitOne K (.ref a) (.ref bi)=some false)
  (az:kitOne K (.ref a) (.ref d)=some false)
  (as:kitOne K (.ref a) (.ref S)=some false)
  (ar:kitOne K (.ref a) (.ref a)=some true)
  (Y:kitOne K (.ref a) (.ref y)=some false)
  (ax:kitOne K (.ref a) (.ref aj)=some false)
  (bb:kitOne K (.ref a) (.ref bn)=some false)
  : ∃fd:FuncData,(∀(s:Shared)(v:Value),BindsTo s fd ⟨[v],[]⟩ [("_law_script",v)])/\∀base:Heap,K.In base->base.Ns mainGlobals mg->AJ l.prog w K mg base CX0 153 fa fd ["_law_script"] (UH K):=by
 have e:=j2.symm.trans (X7 X G e2.at_);cases e;have no:∀{x:Str},W.nsIn K mainGlobals x=some none->mg x=none:=λz=>W.mg_none_of X G z;subst cb;subst c4;subst a1;subst bh;have T:Top K mg (⟨r,A,t,g,ah,i,n,D,ai,E,M,R,Q,bi,d,S,a,y,aj,bn⟩:Ad):=⟨no gt,no ed,no c8,no eu,no cn,no fi,no em,no gw,no dw,no es,no du,no eo,⟨cx,X7 X G dr⟩,⟨au,X7 X G cr⟩,⟨N,X7 X G bq⟩,⟨H,X7 X G bf⟩,⟨bw,X7 X G db⟩,⟨bd,X7 X G c2⟩,⟨da,X7 X G dv⟩,⟨ab,X7 X G cc⟩,⟨aa,X7 X G cf⟩,⟨U,X7 X G b3⟩,X7 X G cU,ce,bg,al,X7 X G cV,cv,a4,X7 X G cW,cw,b5,Z,bo,X7 X G cZ,p,bp,bz,bc,b4,ba,b0,X7 X G dA,ee,ci,br,X7 X G cY,B,ca,a2,ch,P,V,no ck,X7 X G cd,X7 X G c5,X7 X G dm,X7 X G c7,X7 X G c1,X7 X G di,X7 X G dg,X7 X G ds,X7 X G dp,X7 X G dc,X7 X G de,X7 X G ct,X7 X G dl,X7 X G dt,dk,dd,cg,⟨c6,c3,c9,cz,ef,eg,cy,c0⟩,dn,dj,ao,bj,aq,an,a3,aw,bv,bm,ay,av,ae,bl,bt,⟨cu,cj,co,cp,ef,eg,cl,cq⟩,df,dh,ad,a0,ac,af,ak,am,a5,az,as,ar,Y,ax,bb⟩
 refine⟨he,λs v=>(by obtain⟨_,_,_,_,_,_,_,_,_,rfl,_⟩:=e2.fn.ex;exact .of_eq rfl),λbase _ _=>?_⟩;have j:∀{CX:CXT}{k:Nat}{x:Str}{st:Stmt}{f:Addr}{fd:FuncData}{ps:List Str}{sp:Sp},Fg K x st f fd->AJ l.prog w K mg base CX k f fd ps sp->Ch K fd ps []->Cal l.prog w K mg base CX k x ps sp:=λF o b=>⟨_,_,o,X7 X G F.at_,F.fn.kp,b⟩
 have u:∀{CX:CXT}{k:Nat}{C:Addr}{x q:Str}{st:Stmt}{f:Addr}{fd:FuncData}{ps:List Str}{sp:Sp},Fm K C x q st f fd->Cls K C->AJ l.prog w K mg base CX k f fd ps sp->Ch K fd ps []->BK l.prog w K mg base CX k C x ps sp:=λF c o b=>⟨⟨_,_,o,F.me,b⟩,c⟩
 have bu:∀{CX:CXT}{k:Nat}{C:Addr}{x q:Str}{st:Stmt}{f:Addr}{fd:FuncData}{ps:List Str}{sp:Sp},Fi K C q st f fd->mg x=some (.ref C)->AJ l.prog w K mg base CX k f fd ps sp->Ch K fd ps []->RP l.prog w K mg base CX k x C ps sp:=λF m o b=>⟨_,_,o,F.mk_,m,b⟩
 have a9:=j g0 (ok_iw g0.fn T) (bnd g0.fn);have b6:=j g1 (ok_is g1.fn T a9) (bnd g1.fn);have aM:=u gv p (ok_kept gv.fn T) (bnd gv.fn);have cT:=bu gh T.m_Grove (Zd gh.fn T aM) (bnd gh.fn)
 have a6:=u gp p (ok_link gp.fn T aM) (bnd gp.fn);have aC:=u ep p (ok_chk ep.fn T a9) (bnd ep.fn);have aR:=u fj p (ok_leaf fj.fn T b6) (bnd fj.fn);have a7:=u gx p (ok_lev gx.fn T aC) (bnd gx.fn);have aO:=u ew p (YU ew.fn T a9 aR a6) (bnd ew.fn);have aY:=u gg p (ok_sta gg.fn T a7) (bnd gg.fn);have aG:=j fc (YV fc.fn T) (bnd fc.fn);have aW:=j eh (YZ eh.fn T) (bnd eh.fn);have aS:=u dy p (Zg dy.fn el.fn T dy.me (bnd dy.fn) el.me (bnd el.fn) aG aW 49) (bnd dy.fn);have bR:=u e5 p (ok_span e5.fn T aC aS) (bnd e5.fn);have aD:=j fq (ok_lie fq.fn T) (bnd fq.fn);have aI:=j gy (YW gy.fn T a7) (bnd gy.fn);have b9:=j fw (ok_wid fw.fn T a7 a6) (bnd fw.fn);have bZ:=j e4 (ok_mid e4.fn T a6) (bnd e4.fn);have b7:=j ga (ok_ba ga.fn T) (bnd ga.fn);have aP:=j et (ok_trim et.fn T a7 b7 bZ) (bnd et.fn);have bC:=j fk (ok_wo fk.fn T aD aI b9) (bnd fk.fn);have bV:=j gb (Zh gb.fn T) (bnd gb.fn);have cB:=j ha (ok_chb ha.fn T) (bnd ha.fn);have cH:=j fp (ok_pi fp.fn T aI) (bnd fp.fn);have aH:=j gj (YT gj.fn T) (bnd gj.fn);have cE:=j eb (YY eb.fn fm.fn T (X7 X G eb.at_) (bnd eb.fn) (X7 X G fm.at_) (bnd fm.fn) aH a6 50) (bnd eb.fn);have aT:=j ei (ok_fill ei.fn T cB aD b6 bC aO a7 cH cE aP) (bnd ei.fn);have cF:=j gc (Zf gc.fn T bR aI aG) (bnd gc.fn);have cC:=j g2 (YS g2.fn) (bnd g2.fn);have cL:=bu e8 T.m_Amounts (Wi e8.fn T) (bnd e8.fn)
 have cP:=bu gd T.m_Places (Wg gd.fn T) (bnd gd.fn)
 have cQ:=bu fl T.m_Clause (Wh fl.fn T) (bnd fl.fn)
 have cM:=u e1 ce (TF e1.fn T) (bnd e1.fn);have cO:=u hd cv (TD hd.fn T cC) (bnd hd.fn);have bL:=u gz cw (ok_Fits gz.fn T cC cM cO) (bnd gz.fn);have cD:=j e0 (ok_dec e0.fn T bL) (bnd e0.fn);have bA:=j hc (ok_bec hc.fn T cD) (bnd hc.fn);have aJ:=j g4 (ok_rs g4.fn T) (bnd g4.fn);have aQ:=j g5 (ok_rw g5.fn T aJ) (bnd g5.fn);have bD:=j g8 (ok_rn g8.fn T) (bnd g8.fn);have bE:=j g7 (ok_ram g7.fn T aJ bD cL) (bnd g7.fn);have bM:=j g9 (ok_rpl g9.fn T aQ cP) (bnd g9.fn);have aZ:=j g6 (YX g6.fn T bE bM) (bnd g6.fn);have bN:=j g3 (ok_rc g3.fn T aJ aQ aZ cQ) (bnd g3.fn);have bF:=j fb (ok_ct fb.fn T) (bnd fb.fn);have cX:=bu gf T.m_Rule (ok_ri gf.fn T bF bN) (bnd gf.fn)
 have bI:=j gu (ok_rr gu.fn T cX bA) (bnd gu.fn);have bT:=j fh (ok_show fh.fn T) (bnd fh.fn);have bB:=u gs B (ok_chg gs.fn T bT) (bnd gs.fn);have cN:=bu fg T.m_Jumps (Zb fg.fn T bB) (bnd fg.fn)
 have aF:=u ez B (ok_cel ez.fn T aY aR bA) (bnd ez.fn);have aB:=u ff B (ok_mid2 ff.fn T a6 aF) (bnd ff.fn);have aK:=j e7 (ok_nine e7.fn T a6) (bnd e7.fn);have aN:=j ej (Ze ej.fn T) (bnd ej.fn);have aE:=j gr (ok_met gr.fn T a6) (bnd gr.fn);have aA:=u ea B (UV ea.fn e3.fn fy.fn T ea.me (bnd ea.fn) e3.me (bnd e3.fn) fy.me (bnd fy.fn) aB a6 aK aN aE 46) (bnd ea.fn);have aU:=u fo B (ok_cj fo.fn T a7 a9) (bnd fo.fn);have bK:=u ft B (Wf ft.fn T A3 aU aA) (bnd ft.fn);have a9:=j g0 (ok_iwx g0.fn T) (bnd g0.fn);have bU:=j fz (ok_chl fz.fn T a9 cF aD) (bnd fz.fn);have cA:=j ey (ok_lvf ey.fn T aI) (bnd ey.fn);have bS:=j ek (ok_wt ek.fn T a7 b9) (bnd ek.fn);have cS:=j er (ok_rdg er.fn T bU bV cA bS bK aP) (bnd er.fn);have cK:=j dq (Za dq.fn T cS aP) (bnd dq.fn);have a8:=j ev (ok_at ev.fn T) (bnd ev.fn);have bW:=j gl (ok_wh gl.fn T) (bnd gl.fn);have aV:=j gi (ok_lmix gi.fn T) (bnd gi.fn);have b8:=j fe (ok_pl fe.fn T aV) (bnd fe.fn);have bJ:=j e6 (ok_long e6.fn T aV) (bnd e6.fn);have aL:=j e9 (ok_bby e9.fn T a8 b8 bJ) (bnd e9.fn);have aX:=j hb (ok_gr hb.fn T) (bnd hb.fn);have bO:=j gq (ok_sh gq.fn T) (bnd gq.fn);have bQ:=j ge (ok_cm ge.fn T) (bnd ge.fn);have bH:=j gm (ok_fb gm.fn T a8 aL) (bnd gm.fn);have bP:=j en (ok_lvs en.fn T) (bnd en.fn);have bY:CalH l.prog w K mg base 1 "_law_word" FU (spWd K _):=⟨_,_,ok_wd ec.fn T,X7 X G ec.at_,ec.fn.kp,bnd ec.fn⟩
 have bG:=j fu (ok_rfj fu.fn T A3 cK bY) (bnd fu.fn);have kv:=Za (w:=w) (base:=base) dq.fn T cS aP;have dx:=Cal.mk ⟨_,_,AJ.down kv,(X7 X G dq.at_),dq.fn.kp,(bnd dq.fn)⟩;exact ok_law e2.fn T cT a8 bW aL bH aO bI cN aT bQ bP bG aX bO dx
theorem walk{l:W.OpenLaw}{q:Program}{b:List Str}{r:(Str->Option Value)->Heap->Prop}{e:World->Heap->Prop}{d:DefRec}{K:Params->W.Frag}(m:l.most=some 63)(c:d.params.defaults=[])
  (j:∀(w:World)(h:Heap),e w h->(K w.params).In h)
  (F:∀(w:World)(mg:Str->Option Value)(i:Addr)(h:Heap),(K w.params).In h->h.Ns mainGlobals mg->mg d.name=some (.ref i) ->
   ∃g:FuncData,(∀(s:Shared)(u:Value),BindsTo s g ⟨[u],[]⟩ [("_law_script",u)])/\∀base:Heap,(K w.params).In base->base.Ns mainGlobals mg->AJ l.prog w (K w.params) mg base CX0 153 i g ["_law_script"] (UH (K w.params))) :
  W.WalkO q b r e l.row.toRowW d [] (λf vs=>PySem.call f vs) :=
 L2.Ut (n:=63) (k:=153) (x:="_law_script") (CX:=λ_=>CX0) (sp:=λw=>UH (K w.params)) m A3 c ⟨rfl,by decide,by decide⟩ j F (λ_ _ a ns p _ o=>⟨a,ns,rfl,o,p,λ_=>rfl⟩) λ_ _ _ _ _ z=>z
end J
structure PySem.W.Fast:Prop where(tw5591246785089616061 tw1998675126520957182 tw17197549390976728620 tw8679502197239711313 tw600921629526025761 tw14798795628951424507 tw17987984519643708277 tw16508501692038946608 tw1685517028240250804 tw15121849893628069804 tw3581113779817491381 tw15915367657488643770 tw8723397735354507336 tw7339755856342761351 tw3055443045161631621 tw4910775517535977429 tw1534078554436459333 tw5832838784436968864 tw8407008060466693082 tw11659605685038455233 tw5601622472324613016 tw8060740414395792349 tw12401058818924486420 tw4406329465434784149 tw11731390782022832704 tw18044728265628431505 tw15021549686360430632 tw14328693307338441628 tw7734318333232541834 tw13188479111100762637 tw16629714793226092092 tw14082058562044234661 tw3129899216904010909 tw524970801558562413 tw4058445035930008415 tw6057641775304631324 tw16536236291152691074 tw5924973272187852728 tw9683758988715656218 tw15445385147255275409 tw14807657639371378884 tw3979340909054936444 tw5406660171580511411 tw13156511772214454216 tw5447858780665860859 tw13996456784487390290 tw2747165160256132358 tw7579470234394943061 tw15079252603022873521 tw13368403639589061985 tw3874711592025478801 tw1436610904094656364 tw17398492684400017256 tw16637323042326211042 tw1459431805929930949 tw3520400053477447725 tw6242945268630542672 tw16214839851573958937 tw18233701740329980348 tw4513732266099649451 tw16473795912357516241 tw6040396872754116718 tw1087591563637076486 tw8780626478871570118 tw10313336869869497454 tw11901842838766951611 tw10176317027198607051 tw10675160848224515917 tw4348179018973780358 tw14674421673474338640 tw10512361140136220555 tw17162419636346777739 tw15303745965983698429 tw1427702700854293987 tw15902005565070525637 tw14621928328305245766 tw18181689979089758312 tw17086670803258819692 tw7160520803774465231 tw3467410888407388455 tw16124818775279532132 tw2913259346893643668 tw14741235474299587388 tw5693348122420583331 tw1249051887023790571 tw9442841204833882252 tw15431067708693318102 tw8657180152506246812 tw9188670065120476668 tw10266136492453551137 tw16807169727297230271 tw7517649320725611642 tw8746292214380245069 tw3557825229470218041 tw2272191883967163243 tw5266369828348768958 tw10455273769260367252 tw9934970588586536679 tw5018172548885550139 tw724461054891100226 tw11191611851266115065 tw15013282141074813652 tw17015189665759497144 tw13018353664732100222 tw17728127139696304765 tw11695139642802071713 tw5668326406517890424 tw15503792362038746110 tw2375509614862726433 tw9373812156960274384 tw991049097829607735 tw5474561821999105724 tw15901189202090841237 tw1766080728527750885 tw431955400280746684 tw10431781011669628965 tw8733595484315917108 tw15299309976410023976 tw248962161580194487 tw3003277127760311403 tw4829345635430449872 tw1898954160825941621 tw14372514531158362185 tw16343397211534132755 tw10442840519622050223 tw18318420540217732181 tw18413651818801760598 tw6961486273605712560 tw154183120407548830 tw17796209853145637348 tw18387271786214948638 tw8413100452267423709 tw5999348219922808445 tw7057079602993612398 tw16113644509279828439 tw16488672844352697896 tw11512692339814773521 tw14387994087600502071 tw16116338640777982449 tw678244362530899775 tw17186136149727522792 tw15022483672179100167 tw3833823733775484318 tw16183205241765275376 tw13924891521277830468 tw9295410538888187430 tw18217505052978605198 tw10196177176935976569 tw15823197120719526650 tw9691681073318969917 tw1714734387689374335 tw13078210505209653626 tw6710476654067727466 tw355809601817961171 tw16468883180885407322 tw964037670541288761 tw8747319249047132303 tw16661169471495255639 tw10646676520282458607 tw6285032576367185243 tw3000843467962408498 tw9693910117985165723 tw17090612853527954876 tw6461783351535917798 tw5713115534632677407 tw12570366865700595486 tw6731783236722326095 tw6317380354216259980 tw5035513030786024786 tw276217370998125434 tw1265039585229139033 tw5511309740883905781 tw12664722362435495150 tw11621348373152906546 tw8605268274164841556 tw15879292843032641743 tw6961727615423926081 tw12951397774280591309 tw6967802151398243541 tw7060362161304225833 tw7175802314715629463 tw3017223656036789849 tw11920195402956041103 tw2826402181395707686 tw8099721688477236346 tw3147375551993628732 tw2927170583419179933 tw563686510829588586 tw17048228575386631112 tw10348691692256716357 tw7689052289077276763 tw15161453560277600633 tw3752226686508023442 tw8268198614603564282 tw11595466355480311118 tw8121352356917820206 tw584075572828797131 tw15303772627096824664 tw16082663039320397298 tw17957796831370730488 tw3292068910300699370 tw2160499640316784495 tw4820936065155997395 tw6270133912204410892 tw4881906717029410893 tw9471787856994606012 tw2713552836764805873 tw2314699391623841657 tw12933472283235892909 tw9299489278807900940 tw13807674766206148317 tw17633367103993889113 tw6803915154926764043 tw10001621204047867865 tw4435650316974358843 tw4366454897697476104 tw14816612910575927471 tw4386476837980960701 tw3868151940368586418 tw9227057734149978048 tw3578592504752556143 tw1467215008822259302 tw355536270900661440 tw14048164116591484678 tw2068134385479073696 tw7743220851608292732 tw13780163645540993074 tw2968859901597219147 tw11894267553975427781 tw17219690008694823446 tw13765166784062585729 tw6159657639849652323 tw1197061499540688849 tw1002463337930557148 tw2168335537388600054 tw9936903323925103509 tw7562116239976959052 tw5188830218615891398 tw12895497269150058575 tw7087408069995034705 tw14371368176696039449 tw14986335865540646722 tw5773160341541556417 tw14180812721749113586 tw5691634442352449987 tw12832096509457272353 tw1656956278821184269 tw1338622552885001108 tw12061647629867865619 tw15313578414224547850 tw4066341240546876017 tw5109459404835253018 tw17776951379434360134 tw10671016200125272052 tw12896586503941298000 tw502161693658713544 tw6921086417831912989 tw9285007678209371517 tw11446646933713764749 tw374946248414669388 tw12224565237447345810 tw4923014045171045011 tw7315234890101253485 tw13396835111359459386 tw870698547226389448 tw4768569533433552958 tw5048294635927942505 tw10479620081063199806 tw16858796081359445675 tw15144322257180448557 tw7544979238192470439 tw4061929488599343708 tw9127278126187956072 tw17992295912016982741 tw3776411946547537420 tw16039661167702909778 tw16366697076331699762 tw17519517976046972188 tw5515310626907822120 tw3849289470468089180 tw7312912638429542338 tw2717651039826915564 tw18027704825329951660 tw13817025511979606421 tw3792396551187496177 tw4341884843559067320 tw9493039205908737599 tw8088653128443420193 tw478663122635316421 tw18120806183716600594 tw8395838901971735298 tw573043035078449051 tw11954614050750547550 tw11794476557765750193 tw14680084459255603933 tw7750300257427705258 tw11772968125043155804 tw6611149531893448039 tw17048950442130021877 tw15126037389497835068 tw6946773113438139851 tw7976573970730239923 tw5155427896156728523 tw4433375048805427914 tw3501768721071661482 tw1799847472769344291 tw12058529498418662122 tw16791686626604731348 tw12921133608885330991 tw17868672594344255282 tw1433527083234554696 tw10044962743306347560 tw12683730591813820877 tw1730632333148028970 tw5089464327907404324 tw13685786059268784387 tw15901858148869809321 tw2583999270903469760 tw3027879184545273727 tw1243077678845313026 tw12417962000538153050 tw10448680321409167287 tw17905995825822229157 tw2293232143760047487 tw17443849285211533153 tw16036339670821637993 tw12824490899130604839 tw8619837979182071238 tw2473998242172822900 tw9451240718664686650 tw13990766396851950204 tw12692663742594374262 tw17419004441420342067 tw12096912249667142803 tw11309629920647910669 tw13403387102341540439 tw10422671394009422316 tw16961752644248045533 tw10105284026803662071 tw15818465133120831046 tw16013545736357434390 tw4878478303755186685 tw8270788125455309917 tw4787643483096578037 tw6927240384948075964 tw2112232249798917787 tw2505471646000845370 tw11629737989173075886 tw12814199250729843243 tw15289072881422670057 tw150731066160337316 tw1648472061941493260 tw2488000183068912295 tw383084642849211146 tw4155854181879994460 tw16348152934876951265 tw4348293930850812637 tw1105906445484369540 tw18161275362733288582 tw1401083398695788981 tw504945272760289802 tw6814782304467243450 tw492596388175658962 tw15578891320835171215 tw7487425383709772289 tw12690963663108476483 tw10468669444400202208 tw12116071329399064544 tw119218944121172525 tw13158058818987933390 tw6924958949808723459 tw13614910487986031196 tw7076065984223861495 tw14182755210373810099 tw4099130977248379547 tw1446521572749506066 tw16795252344204245553 tw8008988891962163567 tw5267253218245086676 tw15352264566699407 tw2173227823796125736 tw16626796134636115088 tw8357399112899919890 tw3560896830031656502 tw16775368696051184251 tw10330759388476420758 tw5078047547427429587 tw16510879197321050796 tw11659943964916284796 tw6824865965698557669 tw17884933836831814940 tw3864708415353299008 tw7591313831176257353 tw5388189576399505643 tw8032703087376232237 tw17155200556011950611 tw8093568455603634710 tw1591206407656704147 tw437375225109738526 tw11513380616806907927 tw14940738162279155404 tw17278157546889296638 tw18013286067342418252 tw8045793849121290633 tw16015880831539395294 tw15291054196894711324 tw3008244085800759012 tw4012094724665142827 tw6671943113604502498 tw9639167433646150707 tw6543895576362354456 tw14573443045174909339 tw6302010931198473234 tw7937603879370710851 tw914427059472950759 tw9818164538351601211 tw17697330037553456930 tw17482016802528812912 tw3410105360153402060 tw13994289710357075583 tw273231730149130213 tw14951208399574389949 tw11835433252021983028 tw17451114641562375547 tw1211002234674067057 tw6464896235327813719 tw5008411742176178320 tw14271595593664548636 tw12570440657586574057 tw9147246718417219082 tw5037113148846140346 tw18258802932554154163 tw5932966829720929864 tw14706170512669739509 tw2173693623594967153 tw13521708581304026052 tw1528126165075700310 tw496678810738075846 tw7891985201943881350 tw8915165103318126051 tw7783077832412773755 tw4787917050144604168 tw799400110783624913 tw2816416167088225201 tw1793231752718989612 tw6732492628492003133 tw2887341309676548678 tw15755581174102939632 tw16015319811864357292 tw6418968820070167890 tw14479942301874032986 tw4483967096016556017 tw4430514111359735361 tw16062987699030068425 tw10481782843924395586 tw17012502083932956381 tw17818066274326791033 tw9091348349246291935 tw11447188088080401555 tw1556942483230527820 tw5040253958408277295 tw4360061915751020198 tw93359161261919262 tw3213227128336735499 tw11960843121856341166 tw12068233279011843169 tw2462058364277886780 tw13697821193387297455 tw4162443448819106017 tw12341376447824625764 tw2197848736721607824 tw4876590218193838246 tw17840365744696285667 tw7868838757933235106 tw11861984625482162350 tw14529316794804891890 tw2432415024665811507 tw13585799400796333167 tw12479795552491527402 tw4319507300015409724 tw6102994808744649916 tw16947163961814435832 tw3261462420998125203 tw9956507628311608348 tw15083611529924614632 tw15636183502325393847 tw4872099570112617358 tw7785277482087501321 tw12115165070296389268 tw1156967461076977843 tw13475307696080288782 tw8024316977390079586 tw9556954094612840095 tw13726082226097623069 tw13933234182107747996 tw17494054902183674 tw11640375425202144517 tw11081848295266652935 tw4451459157153146124 tw7197997916174808001 tw4291388824255372404 tw1831383827082219279 tw9314689404286919355 tw1507804840852664849 tw17558462405860213458 tw11662758496331826142 tw15469756398785940882 tw5654171762912866665 tw16285744390102891942 tw15612376993549742771 tw9786661522889065271 tw9546111475160536635 tw10468779375173948951 tw14580264490534512281 tw14558450338539620683 tw15054295736230702122 tw13835432605868758928 tw13842705553625701551 tw6390521142775703002 tw13838035768328109538 tw2887440286388214107 tw483779531562278501 tw315613220741266248 tw15194365483144400188 tw13545767119482922181 tw11092836315674742020 tw1043352237553845008 tw16704715513207862945 tw13998163074029312301 tw12579726352015432891 tw11918151090334138297 tw12440239393426948508 tw7743496580628387330 tw3424067519359567716 tw13289049221955315459 tw2055030920776549188 tw16879395312034715956 tw14786803141758803525 tw12634602145587372544 tw15013595962868944525 tw6637809427196346 tw1030754310094577414 tw12725093011866022502 tw10396293822222763552 tw14460289017935755606 tw1962815596891406157 tw7544351351163638498 tw13505486229961957410 tw18388818435977868263 tw5392232595965328709 tw963070253907038233 tw9762169808868430068 tw7572053764730011585 tw13721312980623427144 tw17834680040182722211 tw87051556400008853 tw542288437432587877 tw2162636730642549349 tw18005948903470265767 tw4238514573919275715 tw7447788422758122920 tw6967716310021740983 tw8458103180032197201 tw8891803746846253578 tw16545312913914039996 tw538911259909057747 tw14741367916198835716 tw15177658868374834614 tw1792483480707263914 tw11244799701903865385 tw5381752225074430013 tw10412941508999129185 tw15541345311579166027 tw8306464022197522231 tw1604763825561801681 tw11838514724216766576 tw9662116716512837972 tw12111793915497997393 tw629922546725310983 tw18423854296385854281 tw9742017558152646063 tw7760415459117331501 tw11030676155969400232 tw4790317783345916771 tw8732959330114037788 tw8501155942178997143 tw14797855370720974935 tw14861540973612421722 tw15365992193778319166 tw15656930139598342143 tw2388174810083289198 tw2723717140399411023 tw12112811546104186481 tw12734413003460306113 tw10962564883331122382 tw16608251815243108297 tw9600942676435859537 tw1950519802141634125 tw5681263982292680795 tw14737059612357948433 tw5813732308095976565 tw5438284064252001867 tw11976879858066758635 tw542957748568216995 tw11364909861996658736 tw18142361107431662301 tw16027853364491019824 tw9609912482518115243 tw14871693277300550795 tw10762584962147781886 tw15719335954456251517 tw2700226066600059935 tw17480218933556473698 tw2239426925750474309 tw17600241435411813077 tw9393809370422269845 tw12939247276319811357 tw11103340086434851587 tw4090328061724424564 tw8985990758016300366 tw16189012139365713347 tw16570649012417353442 tw17377541976291481250 tw4246237165789685588 tw13349832707239279511 tw2391002970257056796 tw17624493380813143451 tw8058482441650598991 tw4492572620061615702 tw5222016623994189633 tw13976971028095353812 tw238879122212767068 tw17741240509163530091 tw75016690221759433 tw10052840547347655621 tw6480356072320383937 tw17432130902044759830 tw15452410121731336166 tw14128524820501532527 tw5759219215294867528 tw6733072393548312585 tw1467680699714754754 tw11530935502691778638 tw8863685203047997880 tw10163484825812518271 tw15984724894432062401 tw3178979183985396284 tw1921235517877510114 tw17158578496946830154 tw6736977436989029276 tw11886084306074021890 tw17278103511341160229 tw4664950466117472135 tw17120102424474563793:True)
open PySem PySem.W PyProof.Rows
set_option maxRecDepth 100000 in
set_option maxHeartbeats 0 in
theorem PySem.Challenge.cw_jumpfield_k58_whole_growing_boxes_holds : PySem.Challenge.rw_jumpfield_k58_whole_growing_boxes.Holds := by
 w_on; o_law; k_head; (case hw=>w_witness2)
 k_fill
 refine J.walk (l:=PySem.Challenge.rw_jumpfield_k58_whole_growing_boxes) rfl rfl (fun w h Y=>PySem.W.kIn_of Y) ?F
 case F =>
  intro w mg fa h KX G hmg;refine' J.fin KX G hmg ?h0 ?h1 ?h2 ?h3 ?h4 ?h5 ?h6 ?h7 ?h8 ?h9 ?h10 ?h11 ?h12 ?h13 ?h14 ?h15 ?h16 ?h17 ?h18 ?h19 ?h20 ?h21 ?h22 ?h23 ?h24 ?h25 ?h26 ?h27 ?h28 ?h29 ?h30 ?h31 ?h32 ?h33 ?h34 ?h35 ?h36 ?h37 ?h38 ?h39 ?h40 ?h41 ?h42 ?h43 ?h44 ?h45 ?h46 ?h47 ?h48 ?h49 ?h50 ?h51 ?h52 ?h53 ?h54 ?h55 ?h56 ?h57 ?h58 ?h59 ?h60 ?h61 ?h62 ?h63 ?h64 ?h65 ?h66 ?h67 ?h68 ?h69 ?h70 ?h71 ?h72 ?h73 ?h74 ?h75 ?h76 ?h77 ?h78 ?h79 ?h80 ?h81 ?h82 ?h83 ?h84 ?h85 ?h86 ?h87 ?h88 ?h89 ?h90 ?h91 ?h92 ?h93 ?h94 ?h95 ?h96 ?h97 ?h98 ?h99 ?h100 ?h101 ?h102 ?h103 ?h104 ?h105 ?h106 ?h107 ?h108 ?h109 ?h110 ?h111 ?h112 ?h113 ?h114 ?h115 ?h116 ?h117 ?h118 ?h119 ?h120 ?h121 ?h122 ?h123 ?h124 ?h125 ?h126 ?h127 ?h128 ?h129 ?h130 ?h131 ?h132 ?h133 ?h134 ?h135 ?h136 ?h137 ?h138 ?h139 ?h140 ?h141 ?h142 ?h143 ?h144 ?h145 ?h146 ?h147 ?h148 ?h149 ?h150 ?h151 ?h152 ?h153 ?h154 ?h155 ?h156 ?h157 ?h158 ?h159 ?h160 ?h161 ?h162 ?h163 ?h164 ?h165 ?h166 ?h167 ?h168 ?h169 ?h170 ?h171 ?h172 ?h173 ?h174 ?h175 ?h176 ?h177 ?h178 ?h179 ?h180 ?h181 ?h182 ?h183 ?h184 ?h185 ?h186 ?h187 ?h188 ?h189 ?h190 ?h191 ?h192 ?h193 ?h194 ?h195 ?h196 ?h197 ?h198 ?h199
  (case h0 | h1 | h2 | h3 | h4 | h5=>k_is)
  (case h6 | h7 | h8 | h9 | h10 | h11=>(refine' ⟨?_,?_,?_,?_⟩<;>k_is))
  (case h12 | h13 | h14 | h15 | h16 | h17 | h18 | h19 | h20 | h21 | h22 | h23 | h24 | h25 | h26 | h27 | h28 | h29 | h30=>k_is)
  (case h31 | h32 | h33 | h34 | h35 | h36 | h37 | h38 | h39 | h40 | h41 | h42 | h43 | h44 | h45 | h46 | h47 | h48 | h49 | h50 | h51 | h52 | h53 | h54 | h55 | h56 | h57 | h58 | h59 | h60 | h61 | h62 | h63 | h64 | h65 | h66 | h67 | h68 | h69 | h70 | h71 | h72 | h73 | h74 | h75 | h76 | h77 | h78 | h79 | h80 | h81 | h82 | h83 | h84=>(apply J.Fg.mk; k_is; apply L2.Ue<;>k_is))
  (case h85 | h86 | h87 | h88 | h89 | h90 | h91 | h92 | h93 | h94 | h95 | h96 | h97 | h98 | h99 | h100 | h101 | h102 | h103 | h104 | h105=>(apply J.Fm.mk; (apply L2.Py.mk<;>k_is); apply L2.Ue<;>k_is))
  (case h106 | h107 | h108 | h109 | h110 | h111=>(apply J.Fi.mk; (apply L2.Mk.mk<;>k_is); apply L2.Ue<;>k_is))
  (case h112 | h113 | h114 | h115 | h116 | h117 | h118 | h119 | h120 | h121 | h122 | h123 | h124 | h125 | h126=>k_is)
  (case h127=>decide +kernel)
  (case h128=>k_is)
  (case h129=>decide +kernel)
  (case h130=>k_is)
  (case h131=>decide +kernel)
  (case h132 | h133 | h134 | h135=>k_is)
  (case h136=>decide +kernel)
  (case h137 | h138 | h139 | h140 | h141 | h142 | h143 | h144 | h145 | h146 | h147 | h148 | h149 | h150 | h151 | h152=>k_is)
  (case h153 | h154 | h155=>(show PySem.W.excIn _ _ _ _=true; k_exc))
  (case h156 | h157 | h158 | h159 | h160 | h161 | h162 | h163 | h164=>k_is)
  (case h165 | h166 | h167 | h168 | h169 | h170 | h171 | h172 | h173 | h174 | h175 | h176 | h177 | h178=>kit_is)
  (case h179 | h180 | h181 | h182 | h183 | h184 | h185=>k_is)
  (case h186 | h187 | h188 | h189 | h190 | h191 | h192 | h193 | h194 | h195 | h196 | h197 | h198 | h199=>kit_is)
