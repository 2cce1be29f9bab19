import PyProof.Rows.All
import Wide.All
import OpenK.AllK
import Wide.FinOn
import Lean
import PyProof.EqAt
import PyProof.EqKinds
import PyProof.TupleCall
import PyProof.Rows.CatFin
import PyProof.StrLawsIn
import KE.IntTextLaws
import KE.IntTextText
import PyProof.StrLawsTight
import PyProof.StrLawsChain
import PyProof.Rows.StrLawsPart
import PyProof.Rows.StrFirst
import PyProof.Rows.ReprOcc
import PyProof.Rows.StrItems
import PyProof.SumAny
import PyProof.SeqI3
import PyProof.WalkInts
import PyProof.NeKinds
import KE.KDictLaws
import PyProof.DictIter
import PyProof.DictWalks
import PyProof.Rows.DictUnroll
import KE.KSortTup
import KE.KSortKey
import PyProof.Rows.FStr
import PySem.Challenge.RW_jumpfield_k56_whole_jumps_add_up
set_option Elab.async false
set_option linter.all false
set_option maxRecDepth 100000
set_option maxHeartbeats 8000000
theorem A0{p:Prop}(h:p:=by lia):p:=h
theorem A1{p:Prop}(h:p:=by decide +kernel):p:=h
theorem A3{p:Prop}(h:p:=by intro z; cases z):p:=h
theorem A4{p:Prop}(h:p:=by decide):p:=h
theorem A6{p:Prop}(h:p:=by simp):p:=h
theorem B0{p:Prop}(h:p:=by intro _ z; cases z):p:=h
theorem B1{p:Prop}(h:p:=by show (0:Int) < 3; decide):p:=h
theorem B2{p:Prop}(h:p:=by omega):p:=h
theorem B3{p:Prop}(h:p:=by show 0 < 1000; decide):p:=h
theorem B4{p:Prop}(h:p:=by show (0:Int) < 4; decide):p:=h
theorem B5{p:Prop}(h:p:=by show 1 < 1000; decide):p:=h
theorem B6{p:Prop}(h:p:=by show (0:Int) < 8; decide):p:=h
theorem B7{p:Prop}(h:p:=by show (0:Int) < 2; decide):p:=h
abbrev B8:=@List.length_map
abbrev B9:=@List.getElem?_eq_some_iff
abbrev C0:=@List.getElem?_map
abbrev C1:=@Nat.le_refl
abbrev C2:=@PySem.Heap.get?_push_of_some
abbrev C3:=@List.mem_cons
abbrev C4:=@List.length_append
abbrev C5:=@List.map_append
abbrev C6:=@List.mem_cons_of_mem
abbrev C7:=@List.mem_cons_self
abbrev C8:=@List.getElem?_eq_getElem
abbrev C9:=@Nat.le_trans
abbrev D0:=@Bool.false_ne_true
abbrev D1:=@List.mem_of_getElem?
abbrev D2:=@Option.map_eq_some_iff
abbrev D3:=@PySem.Heap.get?_push_size
abbrev D4:=@List.length_cons
abbrev D5:=@List.mem_map
abbrev D6:=@PySem.Heap.lt_size
abbrev D7:=@List.mem_singleton
abbrev D8:=@List.getD_eq_getElem?_getD
abbrev D9:=@List.mem_append
abbrev F0:=@List.not_mem_nil
abbrev F1:=@List.size_toArray
abbrev F2:=@Nat.lt_of_lt_of_le
abbrev F3:=@Int.eq_ofNat_of_zero_le
abbrev F4:=@Nat.pow_succ
abbrev F5:=@List.take_add_one
abbrev F6:=@Nat.lt_of_le_of_lt
abbrev F7:=@List.map_cons
abbrev F8:=@List.mem_range
abbrev F9:=@List.getElem?_of_mem
abbrev J0:=@List.take_length
abbrev J3:=@Nat.ne_of_lt
abbrev J6:=@List.getElem?_append_right
abbrev J7:=@Int.natCast_pow
abbrev J8:=@Int.toNat_natCast
abbrev J9:=@Nat.mul_le_mul_left
abbrev L5:=@List.length_take
abbrev L6:=@List.mem_append_right
abbrev L7:=@Nat.zero_le
abbrev L8:=@List.length_range
abbrev L9:=@Nat.mod_lt
abbrev M0:=@List.map_map
abbrev M4:=@List.getElem?_append_left
abbrev M5:=@Nat.zero_add
abbrev M6:=@Nat.pow_le_pow_right
abbrev M7:=@Int.natCast_add
abbrev M8:=@Nat.div_eq_of_lt
abbrev M9:=@List.length_replicate
abbrev N1:=@Nat.not_lt_zero
abbrev N3:=@Nat.div_add_mod
abbrev N4:=@List.nodup_cons
abbrev N5:=@Int.emod_lt_of_pos
abbrev N6:=@Nat.add_mul_div_left
abbrev N7:=@List.mem_flatMap
abbrev N8:=@List.getElem?_range
abbrev N9:=@Int.natCast_mul
abbrev O0:=@Nat.add_mul_mod_self_left
abbrev O1:=@Nat.mod_eq_of_lt
abbrev O2:=@Bool.false_eq_true
abbrev O3:=@Nat.lt_irrefl
abbrev O4:=@PySem.Heap.get?_none_of_le
abbrev O5:=@PySem.Heap.get?_update_ne
abbrev O6:=@List.sum_cons
abbrev O7:=@Nat.min_le_right
abbrev O8:=@Nat.le_of_not_lt
abbrev O9:=@List.lookup_cons
abbrev P0:=@PySem.Heap.size_push
abbrev P1:=@List.range_succ
abbrev P2:=@List.find?_cons
abbrev P3:=@Int.emod_nonneg
abbrev P4:=@List.nodup_append
abbrev P5:=@Nat.lt_succ_iff_lt_or_eq
abbrev P6:=@List.replicate_succ
abbrev P7:=@Int.toNat_of_nonneg
abbrev P8:=@Nat.succ_le_succ
abbrev P9:=@Bool.and_eq_true
abbrev Q0:=@Int.le_refl
abbrev Q4:=@Option.toList_some
abbrev Q5:=@Int.add_zero
abbrev Q6:=@Int.add_sub_cancel
abbrev Q7:=@Int.mul_assoc
abbrev Q8:=@List.length_singleton
abbrev Q9:=@List.getElem?_eq_none
abbrev R0:=@List.flatten_cons
abbrev R1:=@List.append_assoc
abbrev R3:=@Nat.le_succ
abbrev R4:=@List.nodup_iff_pairwise_ne
abbrev R5:=@Int.mul_add
abbrev R6:=@List.getElem_mem
abbrev R7:=@List.map_eq_nil_iff
abbrev R8:=@List.length_nil
abbrev R9:=@List.foldl_cons
abbrev S0:=@Bool.eq_iff_iff
abbrev S1:=@List.findIdx?_eq_some_iff_getElem
abbrev S2:=@List.nodup_nil
abbrev S3:=@Int.pow_succ
abbrev S4:=@Nat.le_add_right
abbrev S5:=@List.all_eq_true
abbrev S6:=@List.any_cons
abbrev S7:=@List.mem_append_left
abbrev S8:=@List.mem_filter
abbrev S9:=@List.append_nil
abbrev T0:=@List.length_pos_iff
abbrev T1:=@Array.length_toList
abbrev T3:=@Nat.ne_of_gt
abbrev T4:=@Nat.mul_comm
abbrev T5:=@Nat.lt_trans
abbrev T6:=@Nat.le_of_lt
abbrev T7:=@Nat.add_comm
abbrev T8:=@Int.zero_add
abbrev T9:=@Nat.sub_add_cancel
abbrev U0:=@Int.fdiv_eq_ediv_of_nonneg
abbrev U1:=@List.getElem?_zip_eq_some
abbrev U2:=@List.findIdx?_eq_none_iff
abbrev U3:=@Nat.pow_pos
abbrev U4:=@List.pairwise_map
abbrev U5:=@List.getElem?_take_of_lt
abbrev U6:=@Nat.lt_succ_self
abbrev U7:=@Nat.lt_of_not_le
abbrev U8:=@List.mem_reverse
abbrev U9:=@List.getElem?_replicate
abbrev V0:=@List.getElem?_cons_succ
abbrev V1:=@List.countP_cons
abbrev V2:=@List.any_eq_true
abbrev V3:=@Nat.succ_mul
abbrev V4:=@Nat.sub_self
abbrev V5:=@List.pairwise_lt_range
abbrev V6:=@PySem.Heap.get?_update_other
abbrev V7:=@Option.map_some
abbrev V8:=@List.length_zip
abbrev V9:=@Nat.div_lt_iff_lt_mul
abbrev W0:=@PySem.Heap.get?_update_self
abbrev W1:=@Nat.pow_lt_pow_right
abbrev W2:=@Nat.lt_one_iff
abbrev W3:=@List.mem_iff_getElem
abbrev W4:=@List.filterMap_cons
abbrev W5:=@Bool.and_true
abbrev W6:=@Nat.pos_of_ne_zero
abbrev W7:=@Nat.pow_zero
abbrev W8:=@Nat.lt_succ_of_lt
abbrev W9:=@List.map_nil
abbrev Y4:=@Bool.eq_false_iff
abbrev Y5:=@PySem.wpAny_bind
abbrev Y6:=@if_neg
abbrev Y7:=@decide_eq_true
abbrev Y8:=@if_pos
abbrev Y9:=@decide_eq_false
abbrev Z0:=@PySem.wpAny_pure
abbrev Z1:=@Ne.symm
abbrev Z2:=@Option.some.inj
abbrev Z3:=@PySem.F.plainAttrs_list
abbrev Z4:=@PySem.F.slot_list_append
abbrev Z5:=@PySem.F.type_list_append
abbrev Z6:=@PySem.PassesOwn.never
abbrev Z7:=@Classical.byContradiction
abbrev Z8:=@Int.ofNat.inj
abbrev Z9:=@PySem.Paired.length
abbrev X4:=@of_decide_eq_true
abbrev X5:=@PySem.W.mg_of
abbrev X6:=@congrArg
abbrev X7:=@or_false
abbrev X8:=@PyProof.Rows.boot_isinstance
abbrev X9:=@PyProof.Rows.boot_str
abbrev K0:=@PySem.W.kia_one
abbrev K1:=@PySem.F.plainAttrs_str
abbrev K2:=@PySem.wpAny_truthy_bool
abbrev K3:=@PyProof.Rows.boot_tuple
abbrev K4:=@PySem.boot_len
abbrev K5:=@PyProof.Rows.boot_int
abbrev K6:=@PySem.strLen_append
abbrev K7:=@PySem.mem_of_lookup
abbrev K8:=@PyProof.Rows.callWith_type1
abbrev K9:=@PySem.wpAny_mono
abbrev A0a:=@PySem.wpAny_field
abbrev A0b:=@PySem.Paired.snoc
abbrev A0c:=@PySem.wpAny_call_entry
abbrev A0d:=@PySem.wpAny_seqItems
abbrev A0e:=@PyProof.Rows.boot_min
abbrev A0f:=@PySem.F.slot_str_join
abbrev A0g:=@PySem.F.type_str_join
abbrev A0h:=@PySem.wpAny_typeNameOfWhole_keyiter
abbrev A1a:=@PySem.wpAny_Call_Name_kw
abbrev A1b:=@PySem.wpAny_setField_rec
abbrev A1c:=@PySem.wpAny_passesOwn
abbrev A1d:=@PySem.F.slot_dict_keyiterator_next
abbrev A1e:=@PySem.wpAny_holding
abbrev A1f:=@PySem.wpAny_newObj_type
abbrev A1g:=@if_false
abbrev A1h:=@PySem.F.slot_tuple_iterator_next
abbrev A2a:=@PySem.wpAny_attempt
abbrev A2b:=@PySem.wpAny_typeNameOf_keyiter
abbrev A2c:=@PySem.call_meets
abbrev A2d:=@PySem.wpAny_pyIter_list
abbrev A2e:=@if_true
abbrev A2f:=@PySem.Heap.SameBut.update
abbrev A2g:=@not_false_eq_true
abbrev A2h:=@List.Pairwise.imp_of_mem
abbrev A3a:=@PySem.Obj.data_mapFields
abbrev A3b:=@PySem.tupleKind_room_in1
abbrev A3c:=@PySem.F.slot_dict_get
abbrev A3d:=@PyProof.Rows.boot_max
abbrev A3e:=@not_or
abbrev A3f:=@PySem.W.plainGet_of
abbrev A3g:=@PySem.codeAny_mono
abbrev A3h:=@PySem.typeIs_str
abbrev A4a:=@PySem.wpAny_execs_nil
abbrev A4b:=@PySem.F.slot_zip_next
abbrev A4c:=@PySem.W.callWith_K
abbrev A4d:=@PySem.wpAny_setField
abbrev A4e:=@PySem.wpAny_updateSeq_pair
abbrev A4f:=@decide_eq_true_eq
abbrev A4g:=@PySem.wpAny_standAt
abbrev A4h:=@PySem.wpAny_onRaise
abbrev A5a:=@PySem.F.args_str_split_2
open PySem.W (instObj methodObj lookIn plainGet hasDictIn findIn handedIn isFn plainOver takerIn any_some makesIn emptyDict keepIn specialIn takesIn mroIn kitOne kitx_list kitx_dict notCls clsIn)
namespace L2
open PySem PySem.Spec PyProof.Rows
abbrev Key:=Sum Int Str
def PP:Key->Value->Bool
 |.inl k,v=>Value.isInt k v
 |.inr x,v=>Value.isStrOf x v
def keyH(w:World):Key->Int
 |.inl k=>hashInt k
 |.inr x=>hashStr w x
theorem Ce:∀{k:Key}{v:Value},PP k v=true->(∃i t,k=Sum.inl i/\v=Value.int i t)\/(∃x t,k=Sum.inr x/\v=Value.str x t)
 |.inl i,v,h=>by
  obtain⟨t,e⟩:=Value.isInt_shape (k:=i) (v:=v) h;exact .inl ⟨i,t,rfl,e⟩
 |.inr x,v,h=>by
  obtain⟨t,e⟩:=Value.isStrOf_shape (x:=x) (v:=v) h;exact .inr ⟨x,t,rfl,e⟩
theorem Wf(i:Int)(t:Tok):PP (.inl i) (.int i t)=true:=by simp[PP,Value.isInt]
theorem We(x:Str)(t:Tok):PP (.inr x) (.str x t)=true:=by simp[PP,Value.isStrOf]
theorem key_ll(a b:Int):decide ((Sum.inl a:Key)=Sum.inl b)=(a==b):=by
 by_cases e:a=b
 ·subst e;simp
 ·have h:¬(Sum.inl a:Key)=Sum.inl b:=λq=>e (Sum.inl.inj q);rw[Y9 h];exact(beq_eq_false_iff_ne.mpr e).symm
theorem key_rr(a b:Str):decide ((Sum.inr a:Key)=Sum.inr b)=decide (a=b):=by
 by_cases e:a=b
 ·subst e;simp
 ·have h:¬(Sum.inr a:Key)=Sum.inr b:=λq=>e (Sum.inr.inj q);rw[Y9 h,Y9 e]
theorem key_lr(a:Int)(b:Str):decide ((Sum.inl a:Key)=Sum.inr b)=false:=Y9 (λq=>nomatch q)
theorem key_rl(a:Str)(b:Int):decide ((Sum.inr a:Key)=Sum.inl b)=false:=Y9 (λq=>nomatch q)
def Co(prog:Program)(w:World):PySem.KeyKind prog w Key where
 is:=PP
 hash:=keyH w
 inj:=λv a b ha hb=>by
  rcases Ce ha with ⟨i,t,rfl,rfl⟩|⟨x,t,rfl,rfl⟩
  ·rcases Ce hb with ⟨j,u,rfl,e⟩|⟨y,u,rfl,e⟩
   ·injection e with e1 _;rw[e1]
   ·exact nomatch e
  ·rcases Ce hb with ⟨j,u,rfl,e⟩|⟨y,u,rfl,e⟩
   ·exact nomatch e
   ·injection e with e1 _;rw[e1]
 byValue:=λk v h=>by
  rcases Ce h with ⟨i,t,rfl,rfl⟩|⟨x,t,rfl,rfl⟩<;>rfl
 pyHash:=λhv h=>by
  rcases Ce hv with ⟨i,t,rfl,rfl⟩|⟨x,t,rfl,rfl⟩
  ·exact wpAny_pyHash_int h
  ·exact wpAny_pyHash_str h
 eqBool:=λhu hv h=>by
  rcases Ce hu with ⟨i,t,rfl,rfl⟩|⟨x,t,rfl,rfl⟩
  ·rcases Ce hv with ⟨j,u,rfl,rfl⟩|⟨y,u,rfl,rfl⟩
   ·rw[key_ll]at h;exact wpAny_eqBool_int h
   ·rw[key_lr]at h;exact SeqAt.EqAt.int_str i t y u _ _ _ _ h
  ·rcases Ce hv with ⟨j,u,rfl,rfl⟩|⟨y,u,rfl,rfl⟩
   ·rw[key_rl]at h;exact SeqAt.EqAt.str_int x t j u _ _ _ _ h
   ·rw[key_rr]at h;exact wpAny_eqBool_str h
 «strs»:=λk x t v h=>by
  rcases Ce h with ⟨i,u,rfl,e⟩|⟨y,u,rfl,e⟩
  ·exact nomatch e
  ·injection e with e1 _
   subst e1;cases v<;>rfl
theorem Sy(prog:Program)(w:World)(i:Int)(t:Tok):(Co prog w).is (.inl i) (.int i t)=true:=Wf i t
theorem Sx(prog:Program)(w:World)(x:Str)(t:Tok):(Co prog w).is (.inr x) (.str x t)=true:=We x t
inductive V where
 |non|bl (b:Bool)|int (i:Int)|str (x:Str)|byt (b:Array UInt8)|flt (b:UInt64)|ref (a:Addr)|ty (n:String)
 deriving DecidableEq
def AY:V->Value->Prop
 |.non,u=>u=Value.none
 |.bl b,u=>u=Value.bool b
 |.int i,u=>∃t,u=Value.int i t
 |.str x,u=>∃t,u=Value.str x t
 |.byt b,u=>∃t,u=Value.bytes b t
 |.flt b,u=>∃t,u=Value.float b t
 |.ref a,u=>u=Value.ref a
 |.ty n,u=>u=Value.type n
abbrev AM:List V->List Value->Prop:=Paired AY
theorem AM.length{xs:List V}{us:List Value}(r:AM xs us):xs.length=us.length:=Z9 r
theorem AM.get:∀{xs:List V}{us:List Value}{i:Nat}{x:V},AM xs us->xs[i]?=some x->∃u,us[i]?=some u/\AY x u
 |_,_,_,_,.nil,e=>by simp at e
 |_,_,0,_,.cons r _,e=>by simp at e;subst e;exact⟨_,rfl,r⟩
 |_,_,i+1,x,.cons _ t,e=>by
  obtain⟨u,h1,h2⟩:=AM.get (i:=i) (x:=x) t (by simpa using e);exact⟨u,by simpa using h1,h2⟩
theorem AM.set{x:V}{u:Value}(r:AY x u):∀{xs:List V}{us:List Value}(i:Nat),AM xs us->AM (xs.set i x) (us.set i u)
 |_,_,_,.nil=>.nil
 |_,_,0,.cons _ t=>.cons r t
 |_,_,i+1,.cons q t=>.cons q (AM.set r i t)
theorem AM.append:∀{xs ys:List V}{us ws:List Value},AM xs us->AM ys ws->AM (xs++ys) (us++ws)
 |_,_,_,_,.nil,s=>s
 |_,_,_,_,.cons r t,s=>.cons r (AM.append t s)
theorem AM.take:∀{xs:List V}{us:List Value}(n:Nat),AM xs us->AM (xs.take n) (us.take n)
 |_,_,0,_=>.nil
 |_,_,_+1,.nil=>.nil
 |_,_,n+1,.cons r t=>.cons r (AM.take n t)
theorem AM.drop:∀{xs:List V}{us:List Value}(n:Nat),AM xs us->AM (xs.drop n) (us.drop n)
 |_,_,0,r=>r
 |_,_,_+1,.nil=>.nil
 |_,_,n+1,.cons _ t=>AM.drop n t
theorem AM.none_of:∀{xs:List V}{us:List Value}{i:Nat},AM xs us->xs[i]?=none->us[i]?=none:=λ{xs us i} r e=>by
 have h1:=r.length;have h2:xs.length<=i:=List.getElem?_eq_none_iff.mp e;exact List.getElem?_eq_none_iff.mpr A0
def IN:Option V->Option Value->Prop
 |some v,some u=>AY v u
 |none,none=>True
 |_,_=>False
def KV{κ:Type}:List (κ×V)->List (κ×Value)->Prop:=Paired λ(p:κ×V)(q:κ×Value)=>p.1=q.1/\AY p.2 q.2
def kV:Key->V
 |.inl i=>.int i
 |.inr x=>.str x
inductive HO where
 |lst (xs:List V)
 |tup (xs:List V)
 |dK (kvs:List (Key×V))|dT (kvs:List (List Key×V))
 |set (S:Int->Bool) (n:Nat)
 |ins (C dx:Addr) (fs:List (Str×V))
 |own (x:Addr)
 |xd (fs:List (Str×V))
 |met (f x:Addr)
 |rng (lo hi:Int)
 |frz (o:Obj) (u:HO)
 |tbl (ps:Array Value)
 |ext (φ:Heap->Prop)
abbrev Hp:=Addr->Option HO
def upd(H:Hp)(a:Addr)(o:HO):Hp:=λb=>if b=a then some o else H b
theorem Af{H:Hp}{a:Addr}{o:HO}:upd H a o a=some o:=by unfold upd;rw[Y8 rfl]
theorem As{H:Hp}{a b:Addr}{o:HO}(h:b≠a):upd H a o b=H b:=by unfold upd;rw[Y6 h]
theorem FS{H:Hp}{a:Addr}{o u:HO}:upd (upd H a o) a u=upd H a u:=by
 funext b;unfold upd;split<;>rfl
theorem AE{H:Hp}{a b:Addr}{o u:HO}(h:H a=some o)(h':H b=some u)(d:o≠u):a≠b:=by
 intro e;subst e;rw[h]at h';exact d (Z2 h')
theorem Av{H:Hp}{a b:Addr}{o:HO}(h:H a=some o)(h':H b=none):a≠b:=by
 intro e;subst e;rw[h]at h';cases h'
section
variable(P:Program)(w:World)
def BJ(H:Hp)(h:Heap)(a:Addr):HO->Prop
 |.lst xs=>xs.length<=sizeLine/\∃(its:List Value)(n:Nat),AM xs its/\h.get? a=some {cls:=.type "list",data:=.seq its.toArray n}
 |.tup xs=>xs.length<=sizeLine/\∃its:List Value,AM xs its/\IsTup h a its.toArray
 |.dK kvs=>kvs.length<=sizeLine/\(a==sysModules)=false/\∃vs,KV kvs vs/\h.DictOf (Co P w) a vs
 |.dT kvs=>kvs.length<=sizeLine/\(a==sysModules)=false/\∃xs:List (List Key×Addr×Value),
   Paired (λ(p:List Key×V)(q:List Key×Addr×Value)=>p.1=q.1/\H q.2.1=some (.tup (p.1.map kV))/\AY p.2 q.2.2) kvs xs /\
   ∃o es ep,h.get? a=some o/\o.ExactDict/\o.data=.dict es ep/\es.toList=xs.map (entryOfKey (tupleKind (Co P w)))/\(xs.map (·.1)).Nodup
 |.set S n=>h.SetOf (intKind P w) a S n
 |.ins C dx fs=>H dx=some (.own a)/\fs.length<=1000/\dx≠a/\h.get? a=some (instObj C dx) /\
   ∃mA,h.Ns1 dx mA/\(∀f,IN (fs.lookup f) (mA f))/\PySem.Within mA (fs.map (·.1))
 |.own _=>∃o,h.get? a=some o
 |.xd fs=>∃mA,h.Ns1 a mA/\∀f,IN (fs.lookup f) (mA f)
 |.rng lo hi=>∃t u v,h.get? a=some {cls:=.type "range",data:=.fields #[.int lo t,.int hi u,.int 1 v]}
 |.frz o u=>h.get? a=some o/\BJ H h a u
 |.tbl ps=>h.get? a=some {cls:=.none,data:=.fields ps}
 |.met f x=>h.get? a=some (methodObj (.ref f) (.ref x))
 |.ext φ=>φ h/\(∃o,h.get? a=some o)/\∀h1 h2:Heap,φ h1->(∀o,h1.get? a=some o->h2.get? a=some o)->φ h2
def HOk(H:Hp)(h:Heap):Prop:=∀a o,H a=some o->BJ P w H h a o
end
section
variable{P:Program}{w:World}{H H':Hp}{h h':Heap}{a:Addr}{o:HO}
theorem BJ.lt(x:BJ P w H h a o):a<h.objs.size:=by
 cases o with
 |lst xs=>obtain⟨_,_,_,_,e⟩:=x;exact D6 e
 |tup xs=>obtain⟨_,_,_,p⟩:=x;exact p.lt
 |dK kvs=>obtain⟨_,_,_,_,o,_,_,e,_⟩:=x;exact D6 e
 |dT kvs=>obtain⟨_,_,_,_,o,_,_,e,_⟩:=x;exact D6 e
 |set S n=>obtain⟨o,_,_,_,e,_⟩:=x;exact D6 e
 |ins C dx fs=>obtain⟨_,_,_,e,_⟩:=x;exact D6 e
 |own y=>obtain⟨_,e⟩:=x;exact D6 e
 |xd fs=>obtain⟨_,⟨_,_,_,e,_⟩,_⟩:=x;exact D6 e
 |rng lo hi=>obtain⟨_,_,_,e⟩:=x;exact D6 e
 |frz ob u=>obtain⟨e,_⟩:=x;exact D6 e
 |tbl ps=>exact D6 (show h.get? a=some _ from x)
 |met f y=>exact D6 (show h.get? a=some _ from x)
 |ext φ=>obtain⟨_,⟨_,e⟩,_⟩:=x;exact D6 e
theorem Paired.mapP{α β:Type}{F G:α->β->Prop}:∀{l₁:List α}{l₂:List β},Paired F l₁ l₂->(∀a b,F a b->G a b)->Paired G l₁ l₂
 |_,_,.nil,_=>.nil
 |_,_,.cons r t,f=>.cons (f _ _ r) (Paired.mapP t f)
theorem BJ.stay(x:BJ P w H h a o)(k:∀b u,(b=a\/H b=some (.own a))->h.get? b=some u->h'.get? b=some u)
  (ho:∀b,H b=some (.own a)->H' b=some (.own a)) (ht:∀b xs,H b=some (.tup xs)->H' b=some (.tup xs)):BJ P w H' h' a o:=by
 induction o with
 |lst xs=>obtain⟨z,its,n,r,e⟩:=x;exact⟨z,its,n,r,k _ _ (.inl rfl) e⟩
 |tup xs=>obtain⟨z,its,r,ob,e,c⟩:=x;exact⟨z,its,r,ob,k _ _ (.inl rfl) e,c⟩
 |dK kvs=>obtain⟨z,y,vs,r,ob,es,ep,e,c⟩:=x;exact⟨z,y,vs,r,ob,es,ep,k _ _ (.inl rfl) e,c⟩
 |dT kvs =>
  obtain⟨z,y,xs,r,ob,es,ep,e,c⟩:=x;exact⟨z,y,xs,Paired.mapP r λp q z=>⟨z.1,ht _ _ z.2.1,z.2.2⟩,ob,es,ep,k _ _ (.inl rfl) e,c⟩
 |set S n=>obtain⟨ob,es,ep,t,e,c⟩:=x;exact⟨ob,es,ep,t,k _ _ (.inl rfl) e,c⟩
 |ins C dx fs =>
  obtain⟨d,z,ne,e,mA,⟨od,es,ep,e2,c⟩,r⟩:=x;exact⟨ho _ d,z,ne,k _ _ (.inl rfl) e,mA,⟨od,es,ep,k _ _ (.inr d) e2,c⟩,r⟩
 |own y=>obtain⟨ob,e⟩:=x;exact⟨ob,k _ _ (.inl rfl) e⟩
 |xd fs=>obtain⟨mA,⟨od,es,ep,e,c⟩,r⟩:=x;exact⟨mA,⟨od,es,ep,k _ _ (.inl rfl) e,c⟩,r⟩
 |rng lo hi=>obtain⟨t,u,v,e⟩:=x;exact⟨t,u,v,k _ _ (.inl rfl) e⟩
 |frz ob u ih=>obtain⟨e,q⟩:=x;exact⟨k _ _ (.inl rfl) e,ih q⟩
 |tbl ps =>
  have e:h.get? a=some {cls:=.none,data:=.fields ps}:=x;show h'.get? a=some {cls:=.none,data:=.fields ps};exact k a _ (.inl rfl) e
 |met f y =>
  have e:h.get? a=some (methodObj (.ref f) (.ref y)):=x;show h'.get? a=some (methodObj (.ref f) (.ref y));exact k a _ (.inl rfl) e
 |ext φ=>obtain⟨p,⟨o,e⟩,st⟩:=x;exact⟨st _ _ p λo q=>k _ _ (.inl rfl) q,⟨o,k _ _ (.inl rfl) e⟩,st⟩
theorem HOk.lt(x:HOk P w H h)(e:H a=some o):a<h.objs.size:=(x a o e).lt
theorem HOk.fresh(x:HOk P w H h)(e:h.objs.size<=a):H a=none:=by
 cases q:H a with
 |none=>rfl
 |some u=>exact absurd (F2 (x.lt q) e) (O3 _)
theorem HOk.kept(x:HOk P w H h)(k:∀b u,h.get? b=some u->h'.get? b=some u):HOk P w H h':=λa o e =>
 (x a o e).stay (λb u _ q=>k b u q) (λ_ q=>q) λ_ _ q=>q
theorem HOk.laid(x:HOk P w H h)(k:∀b u,h.get? b=some u->h'.get? b=some u)(hp:h.objs.size<=a)(new:BJ P w (upd H a o) h' a o):HOk P w (upd H a o) h':=λb u e=>by
 have hn:=x.fresh hp;by_cases hb:b=a
 ·subst hb;rw[Af]at e;cases e;exact new
 ·rw[As hb]at e;exact(x b u e).stay (λc v _ q=>k c v q) (λc q=>by rw[As (Av q hn)];exact q) λc xs q=>by rw[As (Av q hn)];exact q
end
def Rd(H:Hp)(a:Addr)(u:HO):Prop:=H a=some u\/∃o,H a=some (.frz o u)
theorem Rd.ok{P:Program}{w:World}{H:Hp}{h:Heap}{a:Addr}{u:HO}(r:Rd H a u)(x:HOk P w H h):BJ P w H h a u:=by
 rcases r with r|⟨o,r⟩
 ·exact x a u r
 ·obtain⟨_,q⟩:=x a _ r;exact q
def Mut:Option HO->Prop
 |some (.lst _)=>True
 |some (.dK _)=>True
 |some (.dT _)=>True
 |some (.set _ _)=>True
 |some (.ins _ _ _)=>True
 |some (.ext _)=>True
 |_=>False
section
variable{P:Program}{w:World}{H:Hp}{h h':Heap}{x e:Addr}{o':HO}
theorem HOk.write(ok:HOk P w H h)(mu:Mut (H x))(he:e=x\/H e=some (.own x))(k:∀b u,b≠e->h.get? b=some u->h'.get? b=some u)(heo:∃u,h'.get? e=some u)
  (new:BJ P w (upd H x o') h' x o'):HOk P w (upd H x o') h':=λb u q=>by
 have nown:∀c y,H c=some (.own y)->c≠x:=λc y r z=>by subst z;rw[r]at mu;exact mu
 have ntup:∀c xs,H c=some (.tup xs)->c≠x:=λc xs r z=>by subst z;rw[r]at mu;exact mu
 by_cases hb:b=x
 ·subst hb;rw[Af]at q;cases q;exact new
 ·rw[As hb]at q;by_cases hbe:b=e
  ·have q':H b=some (.own x):=by
    rcases he with z|z
    ·exact absurd (hbe.trans z) hb
    ·rw[hbe];exact z
   rw[q]at q';cases q';obtain⟨v,hv⟩:=heo;exact⟨v,by rw[hbe];exact hv⟩
  ·refine(ok b u q).stay (λc v hc r=>k c v ?_ r) (λc r=>by rw[As (nown c b r)];exact r) λc xs r=>by rw[As (ntup c xs r)];exact r
   rcases hc with rfl|hc
   ·exact hbe
   ·rintro rfl;rcases he with z|z
    ·exact nown c b hc z
    ·rw[hc]at z;cases z;exact hb rfl
end
structure Un(fs ex:List Addr)(H H':Hp)(h h':Heap):Prop where
 keep:∀b o,h.get? b=some o->H b=none->b∉fs->b∉ex->h'.get? b=some o
 slot:∀b o,h.get? b=some o->H b=none->b∈fs->b∉ex->∃sl,h'.get? b=some {o with slots:=sl}
 free:∀b o,h.get? b=some o->H b=none->b∉ex->H' b=none
 there:∀b o,h.get? b=some o->b∉ex->∃o',h'.get? b=some o'
 tups:∀b xs,H b=some (.tup xs)->H' b=some (.tup xs)
 frzs:∀b o u,H b=some (.frz o u)->H' b=some (.frz o u)
 tbls:∀b ps,H b=some (.tbl ps)->∃more,H' b=some (.tbl (ps++more))
section
variable{fs fs' ex ex':List Addr}{H H1 H2:Hp}{h h1 h2 h':Heap}{a x e:Addr}{o:HO}
theorem Un.any(u:Un fs ex H H1 h h1){b:Addr}{ob:Obj}(q:h.get? b=some ob)(n:H b=none)(hx:b∉ex):∃sl,h1.get? b=some {ob with slots:=sl}:=by
 by_cases hb:b∈fs
 ·exact u.slot b ob q n hb hx
 ·exact⟨ob.slots,u.keep b ob q n hb hx⟩
theorem Un.kept(k:∀b u,h.get? b=some u->h'.get? b=some u):Un fs ex H H h h' :=
 ⟨λb ob q _ _ _=>k b ob q,λb ob q _ _ _=>⟨ob.slots,k b ob q⟩,λ_ _ _ n _=>n,λb ob q _=>⟨ob,k b ob q⟩,λ_ _ q=>q,λ_ _ _ q=>q,λ_ ps q=>⟨#[],by rw[q];simp⟩⟩
theorem Un.refl:Un fs ex H H h h:=Un.kept λ_ _ q=>q
theorem Un.laid(k:∀b u,h.get? b=some u->h'.get? b=some u)(hp:h.objs.size<=a)(hn:H a=none):Un fs ex H (upd H a o) h h' where
 keep:=λb u q _ _ _=>k b u q
 slot:=λb u q _ _ _=>⟨u.slots,k b u q⟩
 free:=λb u q n _=>by rw[As (J3 (F2 (D6 q) hp))];exact n
 there:=λb u q _=>⟨u,k b u q⟩
 tups:=λb xs q=>by rw[As (Av q hn)];exact q
 frzs:=λb u xs q=>by rw[As (Av q hn)];exact q
 tbls:=λb ps q=>⟨#[],by rw[As (Av q hn),q];simp⟩
theorem Un.write(mu:Mut (H x))(he:e=x\/H e=some (.own x))(k:∀b u,b≠e->h.get? b=some u->h'.get? b=some u)(heo:∃u,h'.get? e=some u):Un fs ex H (upd H x o) h h':=by
 have hx:∀b,H b=none->b≠x:=λb n z=>by subst z;rw[n]at mu;exact mu
 have hb:∀b,H b=none->b≠e:=λb n z=>by
  subst z;rcases he with r|r
  ·exact hx b n r
  ·rw[n]at r;cases r
 have hm:∀b u,H b=some u->¬Mut (some u)->b≠x:=λb u q nm z=>by subst z;rw[q]at mu;exact nm mu
 refine⟨λb u q n _ _=>k b u (hb b n) q,λb u q n _ _=>⟨u.slots,k b u (hb b n) q⟩,λb u q n _=>by rw[As (hx b n)];exact n,λb u q _=>?_,
  λb xs q=>by rw[As (hm b _ q λz=>z)];exact q,λb u xs q=>by rw[As (hm b _ q λz=>z)];exact q,λb ps q=>⟨#[],by rw[As (hm b _ q λz=>z),q];simp⟩⟩
 by_cases hbe:b=e
 ·subst hbe;exact heo
 ·exact⟨u,k b u hbe q⟩
end
def trk(h:Heap)(H:Hp):List Addr:=(List.range h.objs.size).filter λa=>(H a).isSome
def Rf(h:Heap)(H:Hp):Heap:=PySem.W.hideAll h (trk h H)
theorem Wi(h:Heap)(H:Hp):(Rf h H).objs.size=h.objs.size:=PySem.W.hideAll_size _ _
theorem Zd{h:Heap}{H:Hp}{b:Addr}{o:Obj}(e:h.get? b=some o)(n:H b=none):(Rf h H).get? b=some o :=
 PySem.W.hideAll_get _ e λhm=>by
  have q:(H b).isSome=true:=(S8.mp hm).2;rw[n]at q;simp at q
theorem of_hidT{h:Heap}{H:Hp}{b:Addr}{o:Obj}(e:(Rf h H).get? b=some o):h.get? b=some o/\H b=none:=by
 have e':h.get? b=some o:=PySem.W.of_hideAll (trk h H) e;refine⟨e',?_⟩;cases q:H b with
 |none=>rfl
 |some x =>
  have hm:b∈trk h H:=S8.mpr ⟨F8.mpr (D6 e'),by simp[q]⟩;have z:(Rf h H).get? b=none:=PySem.W.hideAll_none (trk h H) hm;rw[z]at e;cases e
structure Mod(K:PySem.W.Frag)(mg:Str->Option Value)(base:Heap):Prop where
 kin:K.In base
 glob:base.Ns mainGlobals mg
 blt:∃mb,base.Ns builtinsNs mb/\∀x:Str,x≠"__name__" -> mb x=bootBuiltins x
 nolimit:base.NoLimit
structure Cx where
 prog:Program
 w:World
 K:PySem.W.Frag
 mg:Str->Option Value
 base:Heap
 A:Around
 N:List Str
 s₀:Shared
 H₀:Hp
 env:Env
 outer:List Env
 stack:List Env
 ex:List Addr
 fn:Str->Bool
 calm:Bool
 pn:List (Addr×Obj)
 xe:Value->Shared->Prop
def frs(l:List Env):List Addr:=l.filterMap (·.frame)
abbrev Cx.fs(X:Cx):List Addr:=frs X.outer
def Vis(sc:Scope)(x:Str):Prop:=sc.names.lookup x=some .local\/sc.names.lookup x=some .cell\/sc.names.lookup x=some .free
def Loc(sc:Scope)(x:Str):Prop:=sc.names.lookup x=some .local\/sc.names.lookup x=some .cell
def Look(env:Env)(h:Heap)(m:Str->Option Value)(x:Str)(u:Value):Prop :=
 (env.kindOf x=some .local/\m x=some u)\/((env.kindOf x=some .cell\/env.kindOf x=some .free)/\∃c,env.cells.lookup x=some c/\h.IsCell c (some u))
structure Cx.Ok(X:Cx):Prop where
 mod:Mod X.K X.mg X.base
 kind:X.env.scope.kind=.function
 glob:X.env.globals=mainGlobals
 blt:X.env.builtins=builtinsNs
 above:X.s₀.heap.objs.size<=X.env.locals
 inj:∀x y c,X.env.cells.lookup x=some c->X.env.cells.lookup y=some c->x=y
 has:∀x,(X.env.kindOf x=some .cell\/X.env.kindOf x=some .free)->∃c,X.env.cells.lookup x=some c
 cab:∀x c,X.fn x=true->X.env.cells.lookup x=some c->X.s₀.heap.objs.size<=c
 hd:X.calm=true->X.A.handled=none
 frames:X.A.frames=some X.stack
 stk:X.stack=X.outer\/(X.stack=X.env::X.outer/\X.env.frame=some X.env.locals)
 exf:∀b∈X.ex,b≠X.env.locals/\∀x c,X.env.cells.lookup x=some c->c≠b
 bs:∀b o,X.base.get? b=some o->X.s₀.heap.get? b=some o/\X.H₀ b=none
 bsz:X.base.objs.size<=X.s₀.heap.objs.size
 noex:∀b o,X.base.get? b=some o->b∉X.ex
 exfs:∀b∈X.ex,b∉X.fs
 funs:X.s₀.heap.FunFrames X.base X.outer
 frf:∀b∈X.fs,X.H₀ b=none
structure Inv(X:Cx)(pins:List (Addr×Obj))(σ:List (Option V))(H:Hp)(s:Shared):Prop where
 ok:X.Ok
 os:s.os=X.s₀.os
 bare:AllBare s.gens
 base:Un X.fs X.ex X.H₀ H X.s₀.heap s.heap
 loc:∃m,s.heap.Ns X.env.locals m/\∀(i:Nat)(x:Str)(v:V),X.N[i]?=some x->σ[i]?=some (some v)->Vis X.env.scope x->∃u,AY v u/\Look X.env s.heap m x u
 cell:∀x c,X.env.cells.lookup x=some c->∃v,s.heap.IsCell c v
 free:H X.env.locals=none
 freeC:∀x c,X.env.cells.lookup x=some c->H c=none
 pin:∀p∈X.pn++pins,s.heap.get? p.1=some p.2/\H p.1=none/\p.1≠X.env.locals/\p.1∉X.fs/\∀v,p.2.data≠.cell v
 hok:HOk X.prog X.w H s.heap
 len:σ.length=X.N.length
section
variable{X:Cx}{pins:List (Addr×Obj)}{σ:List (Option V)}{H H':Hp}{s:Shared}{h':Heap}
theorem Cx.Ok.nofr(ok:X.Ok){b:Addr}{o:Obj}(e:X.base.get? b=some o):b∉X.fs:=λhb=>by
 have:=(ok.funs.mem hb).1;rw[e]at this;cases this
theorem Inv.bs(I:Inv X pins σ H s):∀b o,X.base.get? b=some o->s.heap.get? b=some o/\H b=none:=λb o e =>
 ⟨I.base.keep b o (I.ok.bs b o e).1 (I.ok.bs b o e).2 (I.ok.nofr e) (I.ok.noex b o e),I.base.free b o (I.ok.bs b o e).1 (I.ok.bs b o e).2 (I.ok.noex b o e)⟩
theorem Inv.bk(I:Inv X pins σ H s):∀b o,X.base.get? b=some o->s.heap.get? b=some o:=λb o e=>(I.bs b o e).1
theorem Inv.mod(I:Inv X pins σ H s):Mod X.K X.mg X.base:=I.ok.mod
theorem Inv.kIn(I:Inv X pins σ H s):X.K.In s.heap:=I.ok.mod.kin.keeps I.bk
theorem Inv.lt(I:Inv X pins σ H s):X.env.locals<s.heap.objs.size:=let ⟨_,hn,_⟩:=I.loc;hn.lt
theorem Inv.sz(I:Inv X pins σ H s):X.s₀.heap.objs.size<=s.heap.objs.size:=C9 I.ok.above (T6 I.lt)
theorem Inv.nofs(I:Inv X pins σ H s){a:Addr}(h:s.heap.objs.size<=a):a∉X.fs:=λhb=>by
 obtain⟨_,o,ho,_⟩:=I.ok.funs.mem hb;exact absurd (F2 (D6 ho) (C9 I.sz h)) (O3 _)
theorem Inv.cne(I:Inv X pins σ H s):∀x c,X.env.cells.lookup x=some c->c≠X.env.locals:=λx c e z=>by
 obtain⟨v,o,ho,hd⟩:=I.cell x c e;obtain⟨m,⟨o',es,ep,ho',hd',_⟩,_⟩:=I.loc;rw[z,ho']at ho;cases ho;rw[hd']at hd;cases hd
theorem Inv.funs (I:Inv X pins σ H s):s.heap.FunFrames X.base X.outer:=by
 have all:∀(l:List Env),(∀b∈frs l,b∈X.fs)->X.s₀.heap.FunFrames X.base l->s.heap.FunFrames X.base l:=by
  intro l;induction l with
  |nil=>intro _ _;trivial
  |cons env r ih =>
   intro hs hl;obtain⟨hk,⟨L,o,hf,hn,ho,hd⟩,hr⟩:=hl;have hL:L∈X.fs:=hs L (by unfold frs;rw[W4,hf];exact C7);obtain⟨sl,e⟩:=I.base.slot L o ho (I.ok.frf L hL) hL λz=>I.ok.exfs L z hL;exact⟨hk,⟨L,_,hf,hn,e,hd⟩,ih (λb hb=>hs b (by unfold frs;rw[W4,hf];exact C6 _ hb)) hr⟩
 exact all X.outer (λ_ hb=>hb) I.ok.funs
theorem Inv.stack(I:Inv X pins σ H s):s.heap.FunFrames X.base X.stack:=by
 rcases I.ok.stk with e|⟨e,hf⟩
 ·rw[e];exact I.funs
 ·rw[e];obtain⟨m,hn,_⟩:=I.loc;refine .cons (by rw[I.ok.kind];decide) hf hn ?_ I.funs;exact O4 (C9 I.ok.bsz I.ok.above)
theorem Inv.stkSub(I:Inv X pins σ H s):∀b∈frs X.stack,b∈X.env.locals::X.fs:=λb hb=>by
 rcases I.ok.stk with e|⟨e,hf⟩
 ·rw[e]at hb;exact C6 _ hb
 ·rw[e]at hb;unfold frs at hb;rw[W4,hf]at hb;exact hb
theorem Inv.stkFree(I:Inv X pins σ H s):∀b∈frs X.stack,H b=none:=λb hb=>by
 rcases C3.mp (I.stkSub b hb)with e|hb
 ·rw[e];exact I.free
 ·obtain⟨_,o,ho,_⟩:=I.ok.funs.mem hb;exact I.base.free b o ho (I.ok.frf b hb) λz=>I.ok.exfs b z hb
theorem Inv.step{g':Array GenState}{t':Nat}{d':Drawn}{ch:List Addr}(I:Inv X pins σ H s)
  (hch:∀b∈ch,(b∈X.ex\/X.s₀.heap.objs.size<=b)/\b≠X.env.locals/\(∀x c,X.env.cells.lookup x=some c->c≠b)/\∀p∈X.pn++pins,p.1≠b)
  (keep:∀b o,b≠X.env.locals->b∉X.fs->b∉ch->s.heap.get? b=some o->H b=none->h'.get? b=some o)
  (slot:∀b o,b≠X.env.locals->b∈X.fs->b∉ch->s.heap.get? b=some o->H b=none->∃sl,h'.get? b=some {o with slots:=sl}) (free:∀b o,b∉ch->s.heap.get? b=some o->H b=none->H' b=none)
  (there:∀b o,b∉ch->s.heap.get? b=some o->∃o',h'.get? b=some o')
  (tups:∀b xs,H b=some (.tup xs)->H' b=some (.tup xs)) (frzs:∀b o u,H b=some (.frz o u)->H' b=some (.frz o u)) (tbls:∀b ps,H b=some (.tbl ps)->∃more,H' b=some (.tbl (ps++more)))
  (ns:∀m,s.heap.Ns X.env.locals m->h'.Ns X.env.locals m) (hok:HOk X.prog X.w H' h') (hg:AllBare g') :
  Inv X pins σ H' {s with heap:=h',gens:=g',drawn:=d',toks:=t'}:=by
 have neL:∀b o,X.s₀.heap.get? b=some o->b≠X.env.locals:=λb o e=>J3 (F2 (D6 e) I.ok.above);have neC:∀b o,X.s₀.heap.get? b=some o->b∉X.ex->b∉ch:=λb o e hx hb=>by
  rcases(hch b hb).1 with z|z
  ·exact hx z
  ·exact absurd (F2 (D6 e) z) (O3 _)
 have cellK:∀x c,X.env.cells.lookup x=some c->∀v,s.heap.IsCell c v->h'.IsCell c v:=λx c e v ⟨o,ho,hd⟩=>by
  have nch:c∉ch:=λz=>(hch c z).2.2.1 x c e rfl;by_cases hc:c∈X.fs
  ·obtain⟨sl,q⟩:=slot c o (I.cne x c e) hc nch ho (I.freeC x c e);exact⟨_,q,hd⟩
  ·exact⟨o,keep c o (I.cne x c e) hc nch ho (I.freeC x c e),hd⟩
 refine⟨I.ok,I.os,hg,⟨λb o e n hb hx=>?_,λb o e n hb hx=>?_,λb o e n hx=>?_,λb o e hx=>?_,λb xs e=>tups b xs (I.base.tups b xs e),λb o xs e=>frzs b o xs (I.base.frzs b o xs e),λb ps e=>?_⟩,?_,λx c e=>?_,?_,λx c e=>?_,λp hp=>?_,hok,I.len⟩
 ·exact keep b o (neL b o e) hb (neC b o e hx) (I.base.keep b o e n hb hx) (I.base.free b o e n hx)
 ·obtain⟨sl,e1⟩:=I.base.slot b o e n hb hx;obtain⟨sl',e2⟩:=slot b _ (neL b o e) hb (neC b o e hx) e1 (I.base.free b o e n hx);exact⟨sl',e2⟩
 ·obtain⟨o',e1⟩:=I.base.there b o e hx;exact free b o' (neC b o e hx) e1 (I.base.free b o e n hx)
 ·obtain⟨o',e1⟩:=I.base.there b o e hx;exact there b o' (neC b o e hx) e1
 ·obtain⟨m1,e1⟩:=I.base.tbls b ps e;obtain⟨m2,e2⟩:=tbls b _ e1;exact⟨m1++m2,by rw[e2,Array.append_assoc]⟩
 ·obtain⟨m,hn,hl⟩:=I.loc;refine⟨m,ns m hn,λi x v e1 e2 e3=>?_⟩;obtain⟨u,r,l⟩:=hl i x v e1 e2 e3;refine⟨u,r,?_⟩;rcases l with l|⟨k,c,e,z⟩
  ·exact .inl l
  ·exact .inr ⟨k,c,e,cellK x c e _ z⟩
 ·obtain⟨v,z⟩:=I.cell x c e;exact⟨v,cellK x c e v z⟩
 ·obtain⟨m,⟨o,_,_,ho,_⟩,_⟩:=I.loc;exact free _ o (λz=>(hch _ z).2.1 rfl) ho I.free
 ·obtain⟨v,o,ho,hd⟩:=I.cell x c e;exact free c o (λz=>(hch c z).2.2.1 x c e rfl) ho (I.freeC x c e)
 ·obtain⟨e,n,ne,nf,d⟩:=I.pin p hp;have nch:p.1∉ch:=λz=>(hch p.1 z).2.2.2 p hp rfl;exact⟨keep p.1 p.2 ne nf nch e n,free p.1 p.2 nch e n,ne,nf,d⟩
theorem Inv.un{t':Nat}(I:Inv X pins σ H s)(u:Un X.fs [] H H' s.heap h')(hok:HOk X.prog X.w H' h'):Inv X pins σ H' {s with heap:=h',toks:=t'}:=by
 obtain⟨m,⟨o,es,ep,ho,r⟩,_⟩:=id I.loc;obtain⟨sl,hL⟩:=u.any ho I.free A6;exact I.step (g':=s.gens) (d':=s.drawn) (ch:=[]) (λ_ z=>nomatch z) (λb o _ hb _ e n=>u.keep b o e n hb A6) (λb o _ hb _ e n=>u.slot b o e n hb A6) (λb o _ e n=>u.free b o e n A6) (λb o _ e=>u.there b o e A6) u.tups u.frzs u.tbls (λm' hm=>by
  obtain⟨o',es',ep',ho',r'⟩:=hm;rw[ho]at ho';cases ho';exact⟨_,es',ep',hL,r'⟩) hok I.bare
theorem Inv.call{g':Array GenState}{t':Nat}{d':Drawn}{ch:List Addr}(I:Inv X pins σ H s)(u:Un (frs X.stack) ch H H' s.heap h')(hok:HOk X.prog X.w H' h')(hg:AllBare g')
  (hch:∀b∈ch,(b∈X.ex\/X.s₀.heap.objs.size<=b)/\b≠X.env.locals/\(∀x c,X.env.cells.lookup x=some c->c≠b)/\∀p∈X.pn++pins,p.1≠b) :
  Inv X pins σ H' {s with heap:=h',gens:=g',drawn:=d',toks:=t'}:=by
 obtain⟨m,⟨o,es,ep,ho,r⟩,_⟩:=id I.loc;obtain⟨sl,hL⟩:=u.any ho I.free λz=>(hch _ z).2.1 rfl;exact I.step (ch:=ch) hch (λb o hL hb hc e n=>u.keep b o e n (λz=>(C3.mp (I.stkSub b z)).elim hL hb) hc) (λb o _ _ hc e n=>u.any e n hc) (λb o hc e n=>u.free b o e n hc) (λb o hc e=>u.there b o e hc) u.tups u.frzs u.tbls (λm' hm=>by
  obtain⟨o',es',ep',ho',r'⟩:=hm;rw[ho]at ho';cases ho';exact⟨_,es',ep',hL,r'⟩) hok hg
theorem Inv.turned{t':Nat}{it:Addr}(I:Inv X pins σ H s)(k:∀b o,b≠it->s.heap.get? b=some o->h'.get? b=some o)(hn:H it=none)(hL:it≠X.env.locals)
  (h1:it∈X.ex\/X.s₀.heap.objs.size<=it) (h2:∀x c,X.env.cells.lookup x=some c->c≠it) (h3:∀p∈X.pn++pins,p.1≠it):Inv X pins σ H {s with heap:=h',toks:=t'}:=by
 have nit:∀b u,H b=some u->b≠it:=λb u e z=>by rw[z,hn]at e;cases e
 refine I.step (g':=s.gens) (d':=s.drawn) (ch:=[it]) (λb hb=>?_) (λb o _ _ hc e _=>k b o (λz=>hc (by simp[z])) e) (λb o _ _ hc e _=>⟨o.slots,k b o (λz=>hc (by simp[z])) e⟩) (λ_ _ _ _ n=>n)
  (λb o hc e=>⟨o,k b o (λz=>hc (by simp[z])) e⟩) (λ_ _ e=>e) (λ_ _ _ e=>e) (λb ps e=>⟨#[],by rw[e];simp⟩) (λm hm=>?_) (λb u e=>?_) I.bare
 ·have e:b=it:=by simpa using hb
  subst e;exact⟨h1,hL,h2,h3⟩
 ·obtain⟨o,es,ep,ho,r⟩:=hm;exact⟨o,es,ep,k _ o (Z1 hL) ho,r⟩
 ·refine(I.hok b u e).stay (λc v hc q=>k c v ?_ q) (λ_ q=>q) λ_ _ q=>q;rcases hc with z|z
  ·rw[z];exact nit b u e
  ·exact nit c _ z
theorem Inv.tok(I:Inv X pins σ H s)(t:Nat):Inv X pins σ H {s with toks:=t}:=I.un (h':=s.heap) (t':=t) Un.refl I.hok
theorem Inv.kept{t':Nat}(I:Inv X pins σ H s)(k:∀b u,s.heap.get? b=some u->h'.get? b=some u):Inv X pins σ H {s with heap:=h',toks:=t'}:=I.un (Un.kept k) (I.hok.kept k)
theorem Inv.laid{a:Addr}{o:HO}{t':Nat}(I:Inv X pins σ H s)(k:∀b u,s.heap.get? b=some u->h'.get? b=some u)(hp:s.heap.objs.size<=a)(new:BJ X.prog X.w (upd H a o) h' a o) :
  Inv X pins σ (upd H a o) {s with heap:=h',toks:=t'}:=I.un (Un.laid k hp (I.hok.fresh hp)) (I.hok.laid k hp new)
theorem Inv.write{x e:Addr}{o:HO}{t':Nat}(I:Inv X pins σ H s)(mu:Mut (H x))(he:e=x\/H e=some (.own x))(k:∀b u,b≠e->s.heap.get? b=some u->h'.get? b=some u)(heo:∃u,h'.get? e=some u)
  (new:BJ X.prog X.w (upd H x o) h' x o):Inv X pins σ (upd H x o) {s with heap:=h',toks:=t'}:=I.un (Un.write mu he k heo) (I.hok.write mu he k heo new)
theorem Inv.weak{σ':List (Option V)}(I:Inv X pins σ H s)(hl:σ'.length=σ.length)(w:∀(i:Nat) v,σ'[i]?=some (some v)->σ[i]?=some (some v)):Inv X pins σ' H s :=
 ⟨I.ok,I.os,I.bare,I.base,let ⟨m,hn,hl'⟩:=I.loc;⟨m,hn,λi x v e1 e2 e3=>hl' i x v e1 (w i v e2) e3⟩,I.cell,I.free,I.freeC,I.pin,I.hok,hl.trans I.len⟩
theorem Inv.pins_of{pins':List (Addr×Obj)}(I:Inv X pins σ H s)(h:∀p∈pins',s.heap.get? p.1=some p.2/\H p.1=none/\p.1≠X.env.locals/\p.1∉X.fs/\∀v,p.2.data≠.cell v):Inv X pins' σ H s :=
 ⟨I.ok,I.os,I.bare,I.base,I.loc,I.cell,I.free,I.freeC,λp hp=>(D9.mp hp).elim (λz=>I.pin p (S7 _ z)) (h p),I.hok,I.len⟩
theorem Sh{N:List Str}(hN:N.Nodup){i j:Nat}{x:Str}(a:N[i]?=some x)(b:N[j]?=some x):i=j:=by
 obtain⟨h1,e1⟩:=B9.mp a;obtain⟨h2,e2⟩:=B9.mp b;exact(List.getElem_inj hN).mp (e1.trans e2.symm)
theorem PB{M:Model}{A:Around}{E:Value->Shared->Prop}{i:Nat}{x:Str}{v:V}{u:Value}{Q:Unit->Shared->Prop}(I:Inv X pins σ H s)(hN:X.N.Nodup)(hi:X.N[i]?=some x)(hx:Loc X.env.scope x)(r:AY v u)
  (h:∀s',Inv X pins (σ.set i (some v)) H s'->(∃a,Heap.SameBut a s.heap s'.heap/\(a=X.env.locals\/X.env.cells.lookup x=some a))->Q () s') (hf:X.fn x=true\/X.env.scope.names.lookup x=some .local:=by first|exact .inl rfl|exact .inr rfl|assumption):wpAny M A (storeName X.env x u) Q E s:=by
 obtain⟨m,hn,hl⟩:=id I.loc;have hcls:(X.env.scope.kind==.class || (X.env.scope.kind==.module && X.env.locals != X.env.globals))=false:=by rw[I.ok.kind];rfl
 have hiσ:i<σ.length:=by rw[I.len];exact(B9.mp hi).1
 have cne:=I.cne;have tracked:∀{a:Addr}{h':Heap},(∃o,s.heap.get? a=some o/\H a=none)->Heap.SameBut a s.heap h'->HOk X.prog X.w H h':=λ{a h'} ha hs b ob e=>by
  obtain⟨_,_,hfree⟩:=ha;refine(I.hok b ob e).stay (λc w' hc q=>(hs.2 c ?_).trans q) (λ_ q=>q) λ_ _ q=>q;rintro rfl;rcases hc with rfl|hc
  ·rw[hfree]at e;cases e
  ·rw[hfree]at hc;cases hc
 rcases hx with hk|hk
 ·refine wpAny_storeName_local hk hn (λh' hn' hs=>?_) hcls;obtain⟨oL,_,_,hoL,_⟩:=id hn;refine h _ ⟨I.ok,I.os,I.bare,⟨λb o e n hb hx=>?_,λb o e n hb hx=>?_,I.base.free,λb o e hx=>?_,I.base.tups,I.base.frzs,I.base.tbls⟩,⟨_,hn',λj y v' e1 e2 e3=>?_⟩,λy c e=>?_,I.free,I.freeC,λp hp=>?_,tracked ⟨oL,hoL,I.free⟩ hs,by simpa using I.len⟩ ⟨_,hs,.inl rfl⟩
  ·exact(hs.2 b (J3 (F2 (D6 e) I.ok.above))).trans (I.base.keep b o e n hb hx)
  ·obtain⟨sl,e1⟩:=I.base.slot b o e n hb hx;exact⟨sl,(hs.2 b (J3 (F2 (D6 e) I.ok.above))).trans e1⟩
  ·obtain⟨o',e1⟩:=I.base.there b o e hx;exact⟨o',(hs.2 b (J3 (F2 (D6 e) I.ok.above))).trans e1⟩
  ·by_cases hj:j=i
   ·subst hj;rw[hi]at e1;cases e1;rw[List.getElem?_set_self hiσ]at e2;cases e2;exact⟨u,r,.inl ⟨hk,by simp⟩⟩
   ·rw[List.getElem?_set_ne (Z1 hj)]at e2;obtain⟨u',r',q⟩:=hl j y v' e1 e2 e3;refine⟨u',r',?_⟩;rcases q with ⟨k,e⟩|⟨k,c,e,z⟩
    ·refine .inl ⟨k,?_⟩;have:y≠x:=λe=>hj (Sh hN e1 (e▸hi));simp[this,e]
    ·exact .inr ⟨k,c,e,z.sameBut hs (cne y c e)⟩
  ·obtain⟨w',z⟩:=I.cell y c e;exact⟨w',z.sameBut hs (cne y c e)⟩
  ·obtain⟨e,n,ne,nf,d⟩:=I.pin p hp;exact⟨(hs.2 p.1 ne).trans e,n,ne,nf,d⟩
 ·have hfn:X.fn x=true:=by
   rcases hf with z|z
   ·exact z
   ·rw[z]at hk;cases hk
  obtain⟨c,hc⟩:=I.ok.has x (.inl hk);obtain⟨w',z⟩:=I.cell x c hc;refine wpAny_storeName_cell I.ok.kind hk hc z (λh' hc' hs=>?_);obtain⟨oc,hoc,hocd⟩:=id z;refine h {s with heap:=h'} ⟨I.ok,I.os,I.bare,⟨λb o e n hb hx=>?_,λb o e n hb hx=>?_,I.base.free,λb o e hx=>?_,I.base.tups,I.base.frzs,I.base.tbls⟩,⟨m,hn.sameBut hs (Z1 (cne x c hc)),λj y v' e1 e2 e3=>?_⟩,λy c' e=>?_,I.free,I.freeC,λp hp=>?_,tracked ⟨oc,hoc,I.freeC x c hc⟩ hs,by simpa using I.len⟩ ⟨c,hs,.inr hc⟩
  ·exact(hs.2 b (J3 (F2 (D6 e) (I.ok.cab x c hfn hc)))).trans (I.base.keep b o e n hb hx)
  ·obtain⟨sl,e1⟩:=I.base.slot b o e n hb hx;exact⟨sl,(hs.2 b (J3 (F2 (D6 e) (I.ok.cab x c hfn hc)))).trans e1⟩
  ·obtain⟨o',e1⟩:=I.base.there b o e hx;exact⟨o',(hs.2 b (J3 (F2 (D6 e) (I.ok.cab x c hfn hc)))).trans e1⟩
  ·by_cases hj:j=i
   ·subst hj;rw[hi]at e1;cases e1;rw[List.getElem?_set_self hiσ]at e2;cases e2;exact⟨u,r,.inr ⟨.inl hk,c,hc,hc'⟩⟩
   ·rw[List.getElem?_set_ne (Z1 hj)]at e2;obtain⟨u',r',q⟩:=hl j y v' e1 e2 e3;refine⟨u',r',?_⟩;rcases q with q|⟨k,c',e,z'⟩
    ·exact .inl q
    ·refine .inr ⟨k,c',e,z'.sameBut hs ?_⟩;rintro rfl;exact hj (Sh hN e1 (I.ok.inj _ _ _ e hc▸hi))
  ·by_cases hcc:c'=c
   ·subst hcc;exact⟨_,hc'⟩
   ·obtain⟨w2,z2⟩:=I.cell y c' e;exact⟨w2,z2.sameBut hs hcc⟩
  ·obtain⟨e,n,ne,nf,d⟩:=I.pin p hp;refine⟨(hs.2 p.1 ?_).trans e,n,ne,nf,d⟩;intro q;rw[q,hoc]at e;have q':oc=p.2:=Z2 e;exact d w' (by rw[<-q'];exact hocd)
theorem RG{M:Model}{A:Around}{E:Value->Shared->Prop}{i:Nat}{x:Str}{v:V}{u:Value}{Q:Unit->Shared->Prop}(I:Inv X pins σ H s)(hN:X.N.Nodup)(hi:X.N[i]?=some x)(hx:Loc X.env.scope x)(r:AY v u)
  (h:∀s',Inv X pins (σ.set i (some v)) H s'->Q () s') (hf:X.fn x=true\/X.env.scope.names.lookup x=some .local:=by first|exact .inl rfl|exact .inr rfl|assumption):wpAny M A (storeName X.env x u) Q E s :=
 PB I hN hi hx r (λs' I' _=>h s' I') hf
theorem Inv.call'{s':Shared}{ch:List Addr}(I:Inv X pins σ H s)(ho:s'.os=s.os)(u:Un (frs X.stack) ch H H' s.heap s'.heap)(hok:HOk X.prog X.w H' s'.heap)(hg:AllBare s'.gens)
  (hch:∀b∈ch,(b∈X.ex\/X.s₀.heap.objs.size<=b)/\b≠X.env.locals/\(∀x c,X.env.cells.lookup x=some c->c≠b)/\∀p∈X.pn++pins,p.1≠b):Inv X pins σ H' s':=by
 obtain⟨h',g',d',t',o'⟩:=s';have e:o'=s.os:=ho;subst e;exact I.call (g':=g') (t':=t') (d':=d') u hok hg hch
end
abbrev XK:=Value->Option Addr->Hp->Prop
abbrev St:=List (Option V)
abbrev VK:=V->Hp->Prop
abbrev TE:=St->Hp->VK->Prop
abbrev TT:=St->Hp->(Bool->Hp->Prop)->Prop
abbrev TA:=St->Hp->(List V->Hp->Prop)->Prop
structure Md where
 nx:St->Hp->Prop
 rt:VK
 bk:St->Hp->Prop:=λ_ _=>False
 ct:St->Hp->Prop:=λ_ _=>False
abbrev TS:=Md->St->Hp->Prop
def EP(X:Cx)(pins:List (Addr×Obj))(σ:St)(Q:VK)(u:Value)(s':Shared):Prop:=∃v H',Inv X pins σ H' s'/\AY v u/\Q v H'
def TP(X:Cx)(pins:List (Addr×Obj))(σ:St)(Q:Bool->Hp->Prop)(b:Bool)(s':Shared):Prop:=∃H',Inv X pins σ H' s'/\Q b H'
def AP(X:Cx)(pins:List (Addr×Obj))(σ:St)(Q:List V->Hp->Prop)(us:List Value)(s':Shared):Prop:=∃vs H',Inv X pins σ H' s'/\AM vs us/\Q vs H'
def SP(X:Cx)(pins:List (Addr×Obj))(D:Md)(f:Flow)(s':Shared):Prop :=
 match f with
 |.next=>∃σ' H',Inv X pins σ' H' s'/\D.nx σ' H'
 |.brk=>∃σ' H',Inv X pins σ' H' s'/\D.bk σ' H'
 |.cont=>∃σ' H',Inv X pins σ' H' s'/\D.ct σ' H'
 |.ret u=>∃v σ' H',Inv X pins σ' H' s'/\AY v u/\D.rt v H'
def PE(X:Cx)(e:Expr)(t:TE):Prop :=
 ∀(pins:List (Addr×Obj))(s:Shared)(σ:St)(H:Hp)(Q:VK),Inv X pins σ H s->t σ H Q->wpAny (model X.prog X.w) X.A (eval e X.env) (EP X pins σ Q) X.xe s
def PT(X:Cx)(e:Expr)(t:TT):Prop :=
 ∀(pins:List (Addr×Obj))(s:Shared)(σ:St)(H:Hp)(Q:Bool->Hp->Prop),Inv X pins σ H s->t σ H Q->wpAny (model X.prog X.w) X.A (isTrue e X.env (eval e X.env)) (TP X pins σ Q) X.xe s
def PW(X:Cx)(e:Expr)(t:TT):Prop :=
 ∀(whole:Sem Value)(pins:List (Addr×Obj))(s:Shared)(σ:St)(H:Hp)(Q:Bool->Hp->Prop),Inv X pins σ H s->t σ H Q->wpAny (model X.prog X.w) X.A (isTrue e X.env whole) (TP X pins σ Q) X.xe s
theorem PW.pt{X:Cx}{e:Expr}{t:TT}(h:PW X e t):PT X e t:=h _
def PA(X:Cx)(es:List Expr)(t:TA):Prop :=
 ∀(pos:Pos)(pins:List (Addr×Obj))(s:Shared)(σ:St)(H:Hp)(Q:List V->Hp->Prop),Inv X pins σ H s->t σ H Q->wpAny (model X.prog X.w) X.A (spliced (backTo pos (starEach es X.env))) (AP X pins σ Q) X.xe s
def PS(X:Cx)(st:Stmt)(t:TS):Prop :=
 ∀(pins:List (Addr×Obj))(s:Shared)(σ:St)(H:Hp)(D:Md),Inv X pins σ H s->t D σ H->wpAny (model X.prog X.w) X.A (exec st X.env) (SP X pins D) X.xe s
def PSs(X:Cx)(st:List Stmt)(t:TS):Prop :=
 ∀(pins:List (Addr×Obj))(s:Shared)(σ:St)(H:Hp)(D:Md),Inv X pins σ H s->t D σ H->wpAny (model X.prog X.w) X.A (execs st X.env) (SP X pins D) X.xe s
theorem thn{α:Type}{t:Sem α}{Q Q':α->Shared->Prop}{M:Model}{A:Around}{E:Value->Shared->Prop}{s:Shared}(h:wpAny M A t Q E s)(hQ:∀a s,Q a s->Q' a s):wpAny M A t Q' E s:=K9 h hQ λ_ _ x=>x
section
variable{X:Cx}
def GE(i:Nat):TE:=fun σ H Q=>∃v,σ[i]?=some (some v)/\Q v H
def tC(v:V):TE:=λ_ H Q=>Q v H
theorem pe_var{i:Nat}{x:Str}{pos:Pos}(hN:X.N[i]?=some x)(hv:Vis X.env.scope x)(hd:(x==("__debug__" : Str))=false:=by decide)(hcd:(x==("__classdict__" : Str))=false:=by decide):PE X (.Name x pos) (GE i):=by
 intro pins s σ H Q I h;obtain⟨v,e,h⟩:=h;obtain⟨m,hn,hl⟩:=I.loc;obtain⟨u,r,l⟩:=hl i x v hN e hv;have fin:EP X pins σ Q u s:=⟨v,H,I,r,h⟩
 rcases l with ⟨hk,hm⟩|⟨hk,c,hc,hcell⟩
 ·exact wpAny_Name (wpAny_loadName_local I.ok.kind hk hn hm fin) hd
 ·rcases hk with hk|hk
  ·exact wpAny_Name (wpAny_loadName_cell I.ok.kind hk hc hcell fin) hd
  ·exact wpAny_Name (wpAny_loadName_free I.ok.kind hk hc hcell fin hcd) hd
theorem Ae{i j pos}:PE X (.Constant (.int i) j pos) (tC (.int i)):=λ_ _ _ H _ I h=>wpAny_Constant_int ⟨.int i,H,I.tok _,⟨_,rfl⟩,h⟩
theorem Se{b j pos}:PE X (.Constant (.bool b) j pos) (tC (.bl b)):=λ_ _ _ H _ I h=>Constant_bool ⟨.bl b,H,I,rfl,h⟩
theorem DC{j pos}:PE X (.Constant .none j pos) (tC .non):=λ_ _ _ H _ I h=>Constant_none ⟨.non,H,I,rfl,h⟩
theorem CN{x j pos}:PE X (.Constant (.str x) j pos) (tC (.str x)):=λ_ _ _ H _ I h=>Calls.Constant_str ⟨.str x,H,I.tok _,⟨_,rfl⟩,h⟩
def Gl(X:Cx)(x:Str):Prop:=X.env.kindOf x=some .globalImplicit
theorem NG{E:Value->Shared->Prop}{pins:List (Addr×Obj)}{s:Shared}{σ:St}{H:Hp}{x:Str}{u:Value}{pos:Pos}{Q:Value->Shared->Prop}(I:Inv X pins σ H s)(hg:Gl X x)(hm:X.mg x=some u)(h:Q u s)
  (hd:(x==("__debug__" : Str))=false:=by decide):wpAny (model X.prog X.w) X.A (eval (.Name x pos) X.env) Q E s :=
 Calls.Name_function_global I.ok.kind hg (Calls.loadGlobal_global (by rw[I.ok.glob];exact I.mod.glob.keeps I.bk) hm h) hd
theorem Jn{E:Value->Shared->Prop}{pins:List (Addr×Obj)}{s:Shared}{σ:St}{H:Hp}{x:Str}{u:Value}{pos:Pos}{Q:Value->Shared->Prop}(I:Inv X pins σ H s)(hg:Gl X x)(hm:X.mg x=none)(hv:bootBuiltins x=some u)(h:Q u s)
  (hn:x≠"__name__" := by decide) (hd:(x==("__debug__" : Str))=false:=by decide):wpAny (model X.prog X.w) X.A (eval (.Name x pos) X.env) Q E s:=by
 obtain⟨mb,h1,h2⟩:=I.mod.blt;exact Calls.Name_function_global I.ok.kind hg (Calls.loadGlobal_builtin (by rw[I.ok.glob];exact I.mod.glob.keeps I.bk) hm (by rw[I.ok.blt];exact h1.keeps I.bk) ((h2 x hn).trans hv) h) hd
theorem QG{x:Str}{v:V}{u:Value}{pos:Pos}(hg:Gl X x)(hm:X.mg x=some u)(r:AY v u)(hd:(x==("__debug__" : Str))=false:=by decide):PE X (.Name x pos) (tC v) :=
 λ_ _ _ H _ I h=>NG I hg hm ⟨v,H,I,r,h⟩ hd
theorem Ih{x:Str}{v:V}{u:Value}{pos:Pos}(hg:Gl X x)(hm:X.mg x=none)(hv:bootBuiltins x=some u)(r:AY v u)(hn:x≠"__name__" := by decide)(hd:(x==("__debug__" : Str))=false:=by decide):PE X (.Name x pos) (tC v) :=
 λ_ _ _ H _ I h=>Jn I hg hm hv ⟨v,H,I,r,h⟩ hn hd
variable{a b:Expr}{ta tb:TE}{pos:Pos}
def PC(X:Cx)(op:CmpOp)(a b:Expr)(t:TE):Prop :=
 ∀(pins:List (Addr×Obj))(s:Shared)(σ:St)(H:Hp)(Q:VK),Inv X pins σ H s->t σ H Q ->
  wpAny (model X.prog X.w) X.A (eval a X.env) (λv s₁=>wpAny (model X.prog X.w) X.A (eval b X.env) (λu s₂=>wpAny (model X.prog X.w) X.A (compareOp op v u) (EP X pins σ Q) X.xe s₂) X.xe s₁) X.xe s
def tB(t:TE):TT:=fun σ H Q=>t σ H λx H1=>∃c,x=.bl c/\Q c H1
theorem pt_cmp{op:CmpOp}{t:TE}(h:PC X op a b t)(h1:behindInMarks op b=false:=by first|exact nobehind _ A4 A4|rfl):PT X (.Compare a [op] [b] pos) (tB t):=by
 intro pins s σ H Q I hw;refine wpAny_isTrue_Compare1 (thn (h pins s σ H _ I hw) λv s1 h1=>thn h1 λu s2 h2=>thn h2 λc s3 ⟨x,H1,I1,r1,q1⟩=>?_) h1;obtain⟨d,rfl,q⟩:=q1;cases r1;exact K2 ⟨H1,I1,q⟩
theorem Da{e:Expr}{t:TE}(h:PE X e t)(he:∀whole,isTrue e X.env whole=(do let v <-whole;standAt e.pos;holding [v] (truthy v)):=by intro _;rfl):PT X e (tB t):=by
 intro pins s σ H Q I hw;refine isTrue_plain (thn (h pins s σ H _ I hw) λv s1 ⟨x,H1,I1,r1,q1⟩=>?_) (he _);obtain⟨d,rfl,q⟩:=q1;cases r1;exact K2 ⟨H1,I1,q⟩
variable{tA tB':TT}{rest:List Expr}
def tAnd(t u:TT):TT:=fun σ H Q=>t σ H λc H1=>if c=true then u σ H1 Q else Q false H1
def tOr(t u:TT):TT:=fun σ H Q=>t σ H λc H1=>if c=true then Q true H1 else u σ H1 Q
def tNot(t:TT):TT:=fun σ H Q=>t σ H λc H1=>Q (!c) H1
theorem Jw(ha:PT X a tA):PW X (.BoolOp .And [a] pos) tA:=by
 intro wh pins s σ H Q I h;refine isTrue_and (thn (ha pins s σ H Q I h) λc s1 e=>?_);cases c with
 |true=>exact isTrue_and_nil e
 |false=>exact e
theorem Mt(ha:PT X a tA):PW X (.BoolOp .Or [a] pos) tA:=by
 intro wh pins s σ H Q I h;refine isTrue_or (thn (ha pins s σ H Q I h) λc s1 e=>?_);cases c with
 |false=>exact isTrue_or_nil e
 |true=>exact e
theorem Mu(ha:PT X a tA)(hb:PW X (.BoolOp .And (b::rest) pos) tB'):PW X (.BoolOp .And (a::b::rest) pos) (tAnd tA tB'):=by
 intro wh pins s σ H Q I h;refine isTrue_and (thn (ha pins s σ H _ I h) λc s1 ⟨H1,I1,q1⟩=>?_);cases c with
 |true=>exact hb wh pins s1 σ H1 Q I1 q1
 |false=>exact⟨H1,I1,q1⟩
theorem On(ha:PT X a tA)(hb:PW X (.BoolOp .Or (b::rest) pos) tB'):PW X (.BoolOp .Or (a::b::rest) pos) (tOr tA tB'):=by
 intro wh pins s σ H Q I h;refine isTrue_or (thn (ha pins s σ H _ I h) λc s1 ⟨H1,I1,q1⟩=>?_);cases c with
 |true=>exact⟨H1,I1,q1⟩
 |false=>exact hb wh pins s1 σ H1 Q I1 q1
theorem DX(ha:PT X a tA):PT X (.UnaryOp .Not a pos) (tNot tA):=by
 intro pins s σ H Q I h;exact isTrue_not (ha pins s σ H (λc H1=>Q (!c) H1) I h)
def tAndV(ta tb:TE):TE:=fun σ H Q=>ta σ H λx H1=>∃c,x=.bl c/\if c=true then tb σ H1 Q else Q (.bl false) H1
def tOrV(ta tb:TE):TE:=fun σ H Q=>ta σ H λx H1=>∃c,x=.bl c/\if c=true then Q (.bl true) H1 else tb σ H1 Q
def tNotV(ta:TE):TE:=fun σ H Q=>ta σ H λx H1=>∃c,x=.bl c/\Q (.bl (!c)) H1
theorem Lf{op}{t:TE}(h:PE X a t):PE X (.BoolOp op [a] pos) t:=λpins s σ H Q I hw=>BoolOp_one (h pins s σ H Q I hw)
theorem Ii(ha:PE X a ta)(hb:PE X (.BoolOp .And (b::rest) pos) tb):PE X (.BoolOp .And (a::b::rest) pos) (tAndV ta tb):=by
 intro pins s σ H Q I h;refine BoolOp_and (thn (ha pins s σ H _ I h) λv s1 ⟨x,H1,I1,r1,q1⟩=>?_);obtain⟨c,rfl,q1⟩:=q1;cases r1;refine K2 ?_;cases c with
 |true=>exact hb pins s1 σ H1 Q I1 q1
 |false=>exact⟨.bl false,H1,I1,rfl,q1⟩
theorem pe_or(ha:PE X a ta)(hb:PE X (.BoolOp .Or (b::rest) pos) tb):PE X (.BoolOp .Or (a::b::rest) pos) (tOrV ta tb):=by
 intro pins s σ H Q I h;refine BoolOp_or (thn (ha pins s σ H _ I h) λv s1 ⟨x,H1,I1,r1,q1⟩=>?_);obtain⟨c,rfl,q1⟩:=q1;cases r1;refine K2 ?_;cases c with
 |false=>exact hb pins s1 σ H1 Q I1 q1
 |true=>exact⟨.bl true,H1,I1,rfl,q1⟩
theorem pe_not(ha:PE X a ta):PE X (.UnaryOp .Not a pos) (tNotV ta):=by
 intro pins s σ H Q I h;refine UnaryOp_ (thn (ha pins s σ H _ I h) λv s1 ⟨x,H1,I1,r1,q1⟩=>?_);obtain⟨c,rfl,q1⟩:=q1;cases r1;exact not_of (K2 ⟨.bl (!c),H1,I1,rfl,q1⟩)
end
def SqL(K:PySem.W.Frag)(H:Hp)(a:Addr)(xs:List V):Prop :=
 Rd H a (.lst xs) \/
  ∃(o:Obj)(its:Array Value)(n:Nat),K.lookup a=some o/\o.cls=.type "list" /\ o.dict=none/\o.data=.seq its n/\its.size<=sizeLine/\AM xs its.toList
def SqT(K:PySem.W.Frag)(H:Hp)(a:Addr)(xs:List V):Prop :=
 Rd H a (.tup xs) \/
  ∃(o:Obj)(its:Array Value)(n:Nat),K.lookup a=some o/\o.cls=.type "tuple" /\ o.data=.seq its n/\its.size<=sizeLine/\AM xs its.toList
def absV:Value->Option V
 |.none=>some .non
 |.bool b=>some (.bl b)
 |.int i _=>some (.int i)
 |.str x _=>some (.str x)
 |.bytes b _=>some (.byt b)
 |.float b _=>some (.flt b)
 |.ref a=>some (.ref a)
 |.type n=>some (.ty n)
 |_=>none
theorem AY.abs{x:V}{u:Value}(r:AY x u):absV u=some x:=by
 cases x with
 |non=>cases r;rfl
 |bl _=>cases r;rfl
 |int _=>obtain⟨t,rfl⟩:=r;rfl
 |str _=>obtain⟨t,rfl⟩:=r;rfl
 |byt _=>obtain⟨t,rfl⟩:=r;rfl
 |flt _=>obtain⟨t,rfl⟩:=r;rfl
 |ref _=>cases r;rfl
 |ty _=>cases r;rfl
theorem AY.inj{x y:V}{u:Value}(r:AY x u)(q:AY y u):x=y:=Z2 (r.abs.symm.trans q.abs)
theorem AM.inj:∀{xs ys:List V}{us:List Value},AM xs us->AM ys us->xs=ys
 |_,_,_,.nil,.nil=>rfl
 |_,_,_,.cons r t,.cons r' t'=>by rw[r.inj r',AM.inj t t']
section
variable{X:Cx}{pins:List (Addr×Obj)}{σ:St}{H:Hp}{s:Shared}{a:Addr}{xs ys:List V}
theorem SqL.of{K:PySem.W.Frag}(h:H a=some (.lst xs)):SqL K H a xs:=.inl (.inl h)
theorem SqT.of{K:PySem.W.Frag}(h:H a=some (.tup xs)):SqT K H a xs:=.inl (.inl h)
theorem Inv.list(I:Inv X pins σ H s)(h:SqL X.K H a xs):∃its:List Value,AM xs its/\PlainL s.heap a its.toArray/\xs.length<=sizeLine:=by
 rcases h with h|⟨o,its,n,hk,hc,hd,hs,hz,r⟩
 ·obtain⟨z,its,n,r,e⟩:=h.ok I.hok;exact⟨its,r,⟨_,n,e,rfl,rfl,rfl⟩,z⟩
 ·refine⟨its.toList,r,⟨o,n,I.kIn a o hk,hc,hd,by simpa using hs⟩,?_⟩;have e:=r.length;simp only[T1]at e;lia
theorem Inv.tuple(I:Inv X pins σ H s)(h:SqT X.K H a xs):∃its:List Value,AM xs its/\IsTup s.heap a its.toArray/\xs.length<=sizeLine:=by
 rcases h with h|⟨o,its,n,hk,hc,hs,hz,r⟩
 ·obtain⟨z,its,r,p⟩:=h.ok I.hok;exact⟨its,r,p,z⟩
 ·refine⟨its.toList,r,⟨o,I.kIn a o hk,hc,n,by simpa using hs⟩,?_⟩;have e:=r.length;simp only[T1]at e;lia
theorem Inv.list_inj(I:Inv X pins σ H s)(h:SqL X.K H a xs)(h':SqL X.K H a ys):xs=ys:=by
 obtain⟨its,r,⟨o,n,e,_,_,d⟩,_⟩:=I.list h;obtain⟨its',r',⟨o',n',e',_,_,d'⟩,_⟩:=I.list h';rw[e]at e';cases e';rw[d]at d';injection d' with d1 _
 have:its=its':=by simpa using X6 Array.toList d1
 subst this;exact r.inj r'
theorem Inv.tuple_inj(I:Inv X pins σ H s)(h:SqT X.K H a xs)(h':SqT X.K H a ys):xs=ys:=by
 obtain⟨its,r,⟨o,e,_,n,d⟩,_⟩:=I.tuple h;obtain⟨its',r',⟨o',e',_,n',d'⟩,_⟩:=I.tuple h';rw[e]at e';cases e';rw[d]at d';injection d' with d1 _
 have:its=its':=by simpa using X6 Array.toList d1
 subst this;exact r.inj r'
end
abbrev Cx.wish(X:Cx)(E:Value->Shared->Prop):Cx:={X with xe:=E}
abbrev Cx.nox(X:Cx):Cx:=X.wish λ_ _=>False
theorem Cx.Ok.wish{X:Cx}(ok:X.Ok)(E:Value->Shared->Prop):(X.wish E).Ok :=
 ⟨ok.mod,ok.kind,ok.glob,ok.blt,ok.above,ok.inj,ok.has,ok.cab,ok.hd,ok.frames,ok.stk,ok.exf,ok.bs,ok.bsz,ok.noex,ok.exfs,ok.funs,ok.frf⟩
theorem Cx.Ok.unwish{X:Cx}{E:Value->Shared->Prop}(ok:(X.wish E).Ok):X.Ok :=
 ⟨ok.mod,ok.kind,ok.glob,ok.blt,ok.above,ok.inj,ok.has,ok.cab,ok.hd,ok.frames,ok.stk,ok.exf,ok.bs,ok.bsz,ok.noex,ok.exfs,ok.funs,ok.frf⟩
section
variable{X:Cx}{pins:List (Addr×Obj)}{σ:St}{H:Hp}{s:Shared}{E:Value->Shared->Prop}
theorem Inv.wish(I:Inv X pins σ H s)(E:Value->Shared->Prop):Inv (X.wish E) pins σ H s:=⟨I.ok.wish E,I.os,I.bare,I.base,I.loc,I.cell,I.free,I.freeC,I.pin,I.hok,I.len⟩
theorem Inv.unwish(I:Inv (X.wish E) pins σ H s):Inv X pins σ H s:=⟨I.ok.unwish,I.os,I.bare,I.base,I.loc,I.cell,I.free,I.freeC,I.pin,I.hok,I.len⟩
theorem SP.unwish{D:Md}{f:Flow}{s':Shared}(h:SP (X.wish E) pins D f s'):SP X pins D f s':=by
 cases f with
 |next=>obtain⟨σ',H',I,q⟩:=h;exact⟨σ',H',I.unwish,q⟩
 |brk=>obtain⟨σ',H',I,q⟩:=h;exact⟨σ',H',I.unwish,q⟩
 |cont=>obtain⟨σ',H',I,q⟩:=h;exact⟨σ',H',I.unwish,q⟩
 |ret u=>obtain⟨v,σ',H',I,r,q⟩:=h;exact⟨v,σ',H',I.unwish,r,q⟩
theorem PSs.nox{st:List Stmt}{t:TS}(h:PSs X.nox st t):PSs X st t:=λpins s σ H D I hw =>
 K9 (h pins s σ H D (I.wish _) hw) (λ_ _ q=>q.unwish) λ_ _ z=>False.elim z
end
section
variable{X:Cx}{st:Stmt}{rest:List Stmt}{t u:TS}{e:Expr}{te:TE}{pos:Pos}
def tNext:TS:=λD σ H=>D.nx σ H
def tSeq(t u:TS):TS:=λD σ H=>t {D with nx:=u D} σ H
theorem AD:PSs X [] tNext:=λ_ _ σ H _ I h=>A4a ⟨σ,H,I,h⟩
theorem Ac(h1:PS X st t)(h2:PSs X rest u):PSs X (st::rest) (tSeq t u):=by
 intro pins s σ H D I h;refine wpAny_execs_cons (thn (h1 pins s σ H {D with nx:=u D} I h) λf s1 q=>?_);cases f with
 |next =>
  obtain⟨σ',H',I',q⟩:=q;exact h2 pins s1 σ' H' D I' q
 |ret v=>exact q
 |brk=>exact q
 |cont=>exact q
theorem Ag(h1:PS X st t):PSs X [st] t:=by
 intro pins s σ H D I h;refine wpAny_execs_cons (thn (h1 pins s σ H D I h) λf s1 q=>?_);cases f with
 |next=>exact A4a q
 |ret v=>exact q
 |brk=>exact q
 |cont=>exact q
theorem Inv.quiet{pins:List (Addr×Obj)}{σ:St}{H:Hp}{s:Shared}(I:Inv X pins σ H s):interactive X.env=false:=by simp[interactive,I.ok.kind]
def tDrop(te:TE):TS:=λD σ H=>te σ H λ_ H1=>D.nx σ H1
theorem BG(he:PE X e te)(hs:swapsWith e none pos.line X.env=pure false:=by rfl):PS X (.Expr e pos) (tDrop te):=by
 intro pins s σ H D I h;exact wpAny_Expr_any (thn (he pins s σ H _ I h) λv s1 ⟨x,H1,I1,r1,q1⟩=>⟨σ,H1,I1,q1⟩) I.quiet hs
def tRet(te:TE):TS:=λD σ H=>te σ H D.rt
theorem Aw(he:PE X e te):PS X (.Return (some e) pos) (tRet te):=by
 intro pins s σ H D I h;exact wpAny_Return_some (thn (he pins s σ H _ I h) λv s1 ⟨x,H1,I1,r1,q1⟩=>⟨x,σ,H1,I1,r1,q1⟩)
def tIfS(c:TT)(t u:TS):TS:=λD σ H=>c σ H λb H1=>if b=true then t D σ H1 else u D σ H1
theorem AQ{c:Expr}{a b:List Stmt}{tc:TT}(hc:PT X c tc)(ha:PSs X a t)(hb:PSs X b u):PS X (.If c a b pos) (tIfS tc t u):=by
 intro pins s σ H D I h;refine wpAny_If (thn (hc pins s σ H _ I h) λd s1 ⟨H1,I1,q1⟩=>?_);cases d with
 |true=>exact ha pins s1 σ H1 D I1 q1
 |false=>exact hb pins s1 σ H1 D I1 q1
def tNever:TS:=λ_ _ _=>False
theorem Bk:PS X st tNever:=λ_ _ _ _ _ _ h=>h.elim
end
abbrev TG:=V->St->Hp->(St->Hp->Prop)->Prop
abbrev TGs:=List V->St->Hp->(St->Hp->Prop)->Prop
def PG(X:Cx)(target:Expr)(t:TG):Prop :=
 ∀(pins:List (Addr×Obj))(s:Shared)(σ:St)(H:Hp)(v:V)(u:Value)(Q:St->Hp->Prop),Inv X pins σ H s->AY v u->t v σ H Q ->
  wpAny (model X.prog X.w) X.A (assign target X.env u) (λ_ s'=>∃σ' H',Inv X pins σ' H' s'/\Q σ' H') X.xe s
def PGs(X:Cx)(ts:List Expr)(t:TGs):Prop :=
 ∀(pins:List (Addr×Obj))(s:Shared)(σ:St)(H:Hp)(vs:List V)(us:List Value)(Q:St->Hp->Prop),Inv X pins σ H s->AM vs us->t vs σ H Q ->
  wpAny (model X.prog X.w) X.A (assignInOrder ((assignEach ts X.env).map (·.2)) us) (λ_ s'=>∃σ' H',Inv X pins σ' H' s'/\Q σ' H') X.xe s
abbrev TSet:=V->V->V->Hp->(Hp->Prop)->Prop
def PSet(X:Cx)(t:TSet):Prop :=
 ∀(pins:List (Addr×Obj))(s:Shared)(σ:St)(H:Hp)(o i v:V)(ov iv u:Value)(Q:Hp->Prop),Inv X pins σ H s->AY o ov->AY i iv->AY v u->t o i v H Q ->
  wpAny (model X.prog X.w) X.A (setItem ov iv u) (λ_ s'=>∃H',Inv X pins σ H' s'/\Q H') X.xe s
section
variable{X:Cx}{pos:Pos}
def OP(i:Nat):TG:=λv σ H Q=>Q (σ.set i (some v)) H
theorem Bn{i:Nat}{x:Str}(hN:X.N.Nodup)(hi:X.N[i]?=some x)(hx:Loc X.env.scope x)(hf:X.fn x=true\/X.env.scope.names.lookup x=some .local:=by first|exact .inl rfl|exact .inr rfl|assumption):PG X (.Name x pos) (OP i):=by
 intro pins s σ H v u Q I r h;exact wpAny_assign_Name (RG I hN hi hx r (λs' I'=>⟨_,H,I',h⟩) hf)
def gNil:TGs:=λvs σ H Q=>vs=[]/\Q σ H
def SF(t:TG)(u:TGs):TGs:=λvs σ H Q=>∃v r,vs=v::r/\t v σ H fun σ' H'=>u r σ' H' Q
theorem LD:PGs X [] gNil:=by
 intro pins s σ H vs us Q I r h;obtain⟨e,h⟩:=h;subst e;cases r;exact assignInOrder_nil ⟨σ,H,I,h⟩
theorem Ds{e:Expr}{es:List Expr}{t:TG}{u:TGs}(h1:PG X e t)(h2:PGs X es u)
  (hs:(assignEach (e::es) X.env).map (·.2)=assign e X.env::(assignEach es X.env).map (·.2):=by rfl):PGs X (e::es) (SF t u):=by
 intro pins s σ H vs us Q I r h;obtain⟨v,vr,e1,h⟩:=h;subst e1;cases r with
 |cons r rr =>
  rw[hs];refine assignInOrder_cons (thn (h1 pins s σ H _ _ _ I r h) λ_ s1 ⟨σ1,H1,I1,q1⟩=>?_);exact h2 pins s1 σ1 H1 _ _ Q I1 rr q1
def gTup(K:PySem.W.Frag)(n:Nat)(t:TGs):TG:=λv σ H Q=>∃a xs,v=.ref a/\SqT K H a xs/\xs.length=n/\t xs σ H Q
theorem Op{es:List Expr}{k:Nat}{t:TGs}{n:Nat}(hc:X.calm=true)(h:PGs X es t)
  (hn:(assignEach es X.env).length=n:=by rfl) (hst:(assignEach es X.env).findIdx? (·.1)=none:=by rfl):PG X (.Tuple es k pos) (gTup X.K n t):=by
 intro pins s σ H v u Q I r hw;obtain⟨a,xs,e1,hq,hl,hw⟩:=hw;subst e1;cases r;obtain⟨its,rv,ht,hz⟩:=I.tuple hq;refine assign_Tuple_tuple (I.ok.hd hc) ht (by simp[hn,<-hl,rv.length]) hst λh' hx=>?_;have I1:Inv X pins σ H {s with heap:=h'}:=I.kept (t':=s.toks) λb o e=>hx b o (J3 (D6 e)) e;exact h pins _ σ H xs _ Q I1 (by simpa using rv) hw
def gSub(to ti:TE)(t:TSet):TG:=λv σ H Q=>to σ H λo H1=>ti σ H1 λi H2=>t o i v H2 λH3=>Q σ H3
theorem pg_sub{o i:Expr}{to ti:TE}{t:TSet}(ho:PE X o to)(hi:PE X i ti)(hs:PSet X t)
  (ha:∀v,assign (.Subscript o i pos) X.env v=(do
   let ov <-holding [v] (eval o X.env);let iv <-holding [v,ov] (eval i X.env)
   standAt pos
   holding [v,ov,iv] (setItem ov iv v)
   release [v,ov,iv] []):=by intro _;rfl):PG X (.Subscript o i pos) (gSub to ti t):=by
 intro pins s σ H v u Q I r h;rw[ha];refine Y5 (A1e (thn (ho pins s σ H _ I h) λov s1 ⟨x,H1,I1,r1,q1⟩=>?_));refine Y5 (A1e (thn (hi pins s1 σ H1 _ I1 q1) λiv s2 ⟨y,H2,I2,r2,q2⟩=>?_));refine Y5 (A4g (Y5 (A1e (thn (hs pins s2 σ H2 x y v ov iv u _ I2 r1 r2 r q2) λ_ s3 ⟨H3,I3,q3⟩=>?_))));exact wpAny_release ⟨σ,H3,I3,q3⟩
def tAsg(te:TE)(g:TG):TS:=λD σ H=>te σ H λx H1=>g x σ H1 D.nx
theorem ps_asg{tg e:Expr}{te:TE}{g:TG}(he:PE X e te)(hg:PG X tg g)(hs:swapsWithSole [tg] e pos.line X.env=pure false:=by rfl)(hw:swappedStores [tg] e X.env=pure none:=by rfl)
  (h1:(assignEach [tg] X.env).map (·.2)=[assign tg X.env]:=by rfl):PS X (.Assign [tg] e pos) (tAsg te g):=by
 intro pins s σ H D I h;refine wpAny_Assign_stores (thn (he pins s σ H _ I h) λv s1 ⟨x,H1,I1,r1,q1⟩=>?_) hs hw;rw[h1];exact thn (hg pins s1 σ H1 x v _ I1 r1 q1) λ_ s2 q=>q
theorem Aq{i:Nat}{x:Str}{e:Expr}{te:TE}{pos':Pos}(hN:X.N.Nodup)(hi:X.N[i]?=some x)(hx:Loc X.env.scope x)(he:PE X e te)(hs:swapsWith e (some (.Name x pos')) pos.line X.env=pure false:=by rfl)(hf:X.fn x=true\/X.env.scope.names.lookup x=some .local:=by first|exact .inl rfl|exact .inr rfl|assumption) :
  PS X (.Assign [.Name x pos'] e pos) (tAsg te (OP i)):=by
 intro pins s σ H D I h;refine wpAny_Assign_Name (thn (he pins s σ H _ I h) λv s1 ⟨y,H1,I1,r1,q1⟩=>?_) hs;exact RG I1 hN hi hx r1 (λs2 I2=>⟨_,H1,I2,q1⟩) hf
end
section
variable{X:Cx}{pos:Pos}
def tWhile(c:TT)(tb:TS):TS:=λD σ H=>∃W:Nat->St->Hp->Prop,(∃m,W m σ H)/\∀m σ H,W m σ H ->
 c σ H λb H1=>if b=true then ∃N:St->Hp->Prop,(∀σ' H',N σ' H'->∃m',m'<m/\W m' σ' H')/\tb {D with nx:=N,ct:=N,bk:=D.nx} σ H1 else D.nx σ H1
theorem IV{c:Expr}{body:List Stmt}{tc:TT}{tb:TS}(hp:PassesOwn (model X.prog X.w) X.A X.env X.xe)(hc:PT X c tc)(hb:PSs X body tb):PS X (.While c body [] pos) (tWhile tc tb):=by
 intro pins s σ H D I h;obtain⟨W,⟨m0,w0⟩,turn⟩:=h;refine wpAny_While (codeAny_whileLoop (λn s'=>∃σ' H',Inv X pins σ' H' s'/\W n σ' H') ?_ m0 ⟨σ,H,I,w0⟩);rintro n s1 ⟨σ1,H1,I1,w1⟩;refine A1c hp (thn (hc pins s1 σ1 H1 _ I1 (turn n σ1 H1 w1)) λb s2 ⟨H2,I2,q2⟩=>?_);cases b with
 |true =>
  obtain⟨N,hN,q2⟩:=q2;rw[Y8 rfl];refine A1c hp (thn (hb pins s2 σ1 H2 _ I2 q2) λf s3 q3=>?_);cases f with
  |next =>
   obtain⟨σ3,H3,I3,n3⟩:=q3;obtain⟨m',hm,w3⟩:=hN σ3 H3 n3;exact⟨m',hm,σ3,H3,I3,w3⟩
  |cont =>
   obtain⟨σ3,H3,I3,n3⟩:=q3;obtain⟨m',hm,w3⟩:=hN σ3 H3 n3;exact⟨m',hm,σ3,H3,I3,w3⟩
  |brk=>exact q3
  |ret v=>exact q3
 |false =>
  rw[Y6 D0];exact A4a ⟨σ1,H2,I2,q2⟩
end
structure It where
 go:Nat->Hp->Prop
 yld:Nat->Hp->V->Hp->Prop
 stop:Nat->Hp->Prop
def Dw(X:Cx)(pins:List (Addr×Obj))(H:Hp)(b:Addr):Prop :=
 H b=none/\b≠X.env.locals/\b∉X.fs/\(b∈X.ex\/X.s₀.heap.objs.size<=b)/\(∀x c,X.env.cells.lookup x=some c->c≠b)/\∀p∈X.pn++pins,p.1≠b
theorem Inv.fpOk{X:Cx}{pins:List (Addr×Obj)}{σ:St}{H H':Hp}{s:Shared}{b:Addr}(I:Inv X pins σ H s)(hb:s.heap.objs.size<=b)(hn:H' b=none):Dw X pins H' b:=by
 refine⟨hn,T3 (F2 I.lt hb),I.nofs hb,.inr (C9 I.sz hb),λx c e z=>?_,λp hp z=>?_⟩
 ·obtain⟨v,q⟩:=I.cell x c e;exact absurd (F2 q.lt (by rw[z];exact hb)) (O3 _)
 ·exact absurd (F2 (D6 (I.pin p hp).1) (by rw[z];exact hb)) (O3 _)
structure Ps(P:Program)(w:World)(K:PySem.W.Frag)(tg:Expr)(J:It)(fp:List Addr)(it:Addr)(tn:Nat->Heap->Prop):Prop where
 mem:it∈fp
 obj:∀i h,tn i h->∀b∈fp,∃o,h.get? b=some o/\∀v,o.data≠.cell v
 keep:∀i h h',tn i h->(∀b∈fp,∀o,h.get? b=some o->h'.get? b=some o)->tn i h'
 item:∀(X:Cx),X.prog=P->X.w=w->X.K=K->X.calm=true->∀(i:Nat)(pins:List (Addr×Obj))(s:Shared)(σ:St)(H:Hp)(E:Value->Shared->Prop),Inv X pins σ H s->(∀b∈fp,Dw X pins H b)->tn i s.heap->J.go i H ->
  wpAny (model P w) X.A (pyNext (.ref it)) (λr s1=>∃u,r=some u /\
   wpAny (model P w) X.A (letOwnedTupleGo tg (.ref it) u) (λ_ s2=>∃x H',Inv X pins σ H' s2/\AY x u/\J.yld i H x H'/\tn (i+1) s2.heap/\∀b∈fp,H' b=none) E s1) E s
 done:∀(X:Cx),X.prog=P->X.w=w->X.K=K->X.calm=true->∀(i:Nat)(pins:List (Addr×Obj))(s:Shared)(σ:St)(H:Hp)(E:Value->Shared->Prop),Inv X pins σ H s->(∀b∈fp,Dw X pins H b)->tn i s.heap->J.stop i H ->
  wpAny (model P w) X.A (pyNext (.ref it)) (λr s1=>r=none/\Inv X pins σ H s1) E s
 self:∀(A:Around)(i:Nat)(s:Shared)(Q:Value->Shared->Prop)(E:Value->Shared->Prop),tn i s.heap->Q (.ref it) s->wpAny (model P w) A (pyIter (.ref it)) Q E s
abbrev TI:=St->Hp->(It->Hp->Prop)->Prop
def PIE(X:Cx)(pins:List (Addr×Obj))(σ:St)(tg:Expr)(R:It->Hp->Prop)(itv:Value)(s2:Shared):Prop :=
 ∃(it:Addr)(fp:List Addr)(tn:Nat->Heap->Prop)(J:It)(H':Hp),itv=.ref it/\Inv X pins σ H' s2/\Ps X.prog X.w X.K tg J fp it tn/\tn 0 s2.heap/\(∀b∈fp,Dw X pins H' b)/\R J H'
def PI(X:Cx)(tg iter:Expr)(wi:TI):Prop :=
 ∀(pins:List (Addr×Obj))(s:Shared)(σ:St)(H:Hp)(R:It->Hp->Prop),Inv X pins σ H s->wi σ H R ->
  wpAny (model X.prog X.w) X.A (eval iter X.env) (λv s1=>wpAny (model X.prog X.w) X.A (pyIter v) (PIE X pins σ tg R) X.xe s1) X.xe s
theorem SE{M:Model}{A:Around}{E:Value->Shared->Prop}{s:Shared}{tg:Expr}{it:Addr}{u:Value}{o:Obj}{n:String}{vs:Array Value}{Q:Unit->Shared->Prop}(ho:s.heap.get? it=some o)(hc:o.cls=.type n)(hd:o.data=.fields vs)
    (hn:["enumerate","zip","dict_itemiterator","dict_reverseitemiterator","odict_iterator","itertools.zip_longest","itertools.pairwise"].contains n=false) (hQ:Q () s):wpAny M A (letOwnedTupleGo tg (.ref it) u) Q E s:=by
  unfold letOwnedTupleGo;cases tg<;>first
    |exact Z0 hQ
    | (cases u<;>first
        |exact Z0 hQ
        | (refine Y5 (wpAny_load ho ?_)
           rw[hc,hd];show wpAny M A (if(["enumerate","zip","dict_itemiterator","dict_reverseitemiterator","odict_iterator","itertools.zip_longest","itertools.pairwise"].contains n && vs[0]?==some (rawInt _))=true then _ else _) Q E s;rw[Y6 (by intro h;rw[hn,Bool.false_and]at h;cases h)];exact Z0 hQ))
def Itl(K:PySem.W.Frag)(a:Addr):It :=
 ⟨λi H=>∃xs x,SqL K H a xs/\xs[i]?=some x,λi H x H'=>H'=H/\∀xs,SqL K H a xs->xs[i]?=some x,λi H=>∃xs,SqL K H a xs/\xs.length<=i⟩
def Itt(K:PySem.W.Frag)(a:Addr):It :=
 ⟨λi H=>∃xs x,SqT K H a xs/\xs[i]?=some x,λi H x H'=>H'=H/\∀xs,SqT K H a xs->xs[i]?=some x,λi H=>∃xs,SqT K H a xs/\xs.length<=i⟩
def Itr(lo:Int)(n:Nat):It:=⟨λi _=>i<n,λi H x H'=>H'=H/\x=.int (lo+i),λi _=>n<=i⟩
theorem VC{P:Program}{w:World}{K:PySem.W.Frag}{tg:Expr}(a it:Addr):Ps P w K tg (Itl K a) [it] it (λi h=>h.IsListIter it a i) where
 mem:=by simp
 obj:=λi h st b hb=>by
  have e:b=it:=by simpa using hb
  subst e;obtain⟨o,e,c,d⟩:=st;exact⟨o,e,λv z=>by rw[d]at z;cases z⟩
 keep:=λi h h' st k=>st.at λo e=>k it A6 o e
 item:=by
  intro X hP hw hK hc i pins s σ H E I hf st hg;subst hP hw hK;obtain⟨xs,x,hq,hx⟩:=hg;obtain⟨its,rv,p,hz⟩:=I.list hq;obtain⟨u,hu,ru⟩:=rv.get hx;obtain⟨f0,f1,f2,f3,f4,f5⟩:=hf it A6;refine wpAny_pyNext_list_item st p.isList (x:=u) (by simpa using hu) λh' st' sb=>?_;have I1:Inv X pins σ H {s with heap:=h'}:=I.turned (t':=s.toks) (λb o hb e=>(sb.2 b hb).trans e) f0 f1 f3 f4 f5;obtain⟨o,e,c,d⟩:=id st';exact⟨u,rfl,SE (s:={s with heap:=h'}) e c d A4 ⟨x,H,I1,ru,⟨rfl,λys hy=>by rw[I.list_inj hy hq];exact hx⟩,st',λb hb=>(hf b hb).1⟩⟩
 done:=by
  intro X hP hw hK hc i pins s σ H E I hf st hg;subst hP hw hK;obtain⟨xs,hq,hx⟩:=hg;obtain⟨its,rv,p,hz⟩:=I.list hq;obtain⟨f0,f1,f2,f3,f4,f5⟩:=hf it A6;have hl:=rv.length;exact wpAny_pyNext_list_end (I.ok.hd hc) st p.isList (by simp;lia) λh' eb=>⟨rfl,I.turned (t':=s.toks) (λb o hb e=>eb b o hb e) f0 f1 f3 f4 f5⟩
 self:=λ_ _ _ _ _ st h=>wpAny_pyIter_listiter st h
theorem Ta{P:Program}{w:World}{K:PySem.W.Frag}{tg:Expr}(a it:Addr):Ps P w K tg (Itt K a) [it] it (λi h=>h.IsTupleIter it a i) where
 mem:=by simp
 obj:=λi h st b hb=>by
  have e:b=it:=by simpa using hb
  subst e;obtain⟨o,e,c,d⟩:=st;exact⟨o,e,λv z=>by rw[d]at z;cases z⟩
 keep:=λi h h' st k=>st.at λo e=>k it A6 o e
 item:=by
  intro X hP hw hK hc i pins s σ H E I hf st hg;subst hP hw hK;obtain⟨xs,x,hq,hx⟩:=hg;obtain⟨its,rv,p,hz⟩:=I.tuple hq;obtain⟨u,hu,ru⟩:=rv.get hx;obtain⟨f0,f1,f2,f3,f4,f5⟩:=hf it A6;refine wpAny_pyNext_tuple_item st (show s.heap.IsTuple a its.toArray from p) (x:=u) (by simpa using hu) λh' st' sb=>?_;have I1:Inv X pins σ H {s with heap:=h'}:=I.turned (t':=s.toks) (λb o hb e=>(sb.2 b hb).trans e) f0 f1 f3 f4 f5;obtain⟨o,e,c,d⟩:=id st';exact⟨u,rfl,SE (s:={s with heap:=h'}) e c d A4 ⟨x,H,I1,ru,⟨rfl,λys hy=>by rw[I.tuple_inj hy hq];exact hx⟩,st',λb hb=>(hf b hb).1⟩⟩
 done:=by
  intro X hP hw hK hc i pins s σ H E I hf st hg;subst hP hw hK;obtain⟨xs,hq,hx⟩:=hg;obtain⟨its,rv,p,hz⟩:=I.tuple hq;obtain⟨f0,f1,f2,f3,f4,f5⟩:=hf it A6;have hl:=rv.length;exact wpAny_pyNext_tuple_end (I.ok.hd hc) st (show s.heap.IsTuple a its.toArray from p) (by simp;lia) λh' eb=>⟨rfl,I.turned (t':=s.toks) (λb o hb e=>eb b o hb e) f0 f1 f3 f4 f5⟩
 self:=λ_ _ _ _ _ st h=>wpAny_pyIter_tupleiter st h
theorem Tb{P:Program}{w:World}{K:PySem.W.Frag}{tg:Expr}(it:Addr)(lo:Int)(n:Nat):Ps P w K tg (Itr lo n) [it] it (λi h=>IsRangeIter h it (lo+(i:Nat)*1) ((n:Int)-(i:Nat)) 1) where
 mem:=by simp
 obj:=λi h st b hb=>by
  have e:b=it:=by simpa using hb
  subst e;exact⟨_,st,λv z=>by
   have z':Data.fields _=Data.cell v:=z;cases z'⟩
 keep:=λi h h' st k=>k it A6 _ st
 item:=by
  intro X hP hw hK hc i pins s σ H E I hf st hg;subst hP hw hK;obtain⟨f0,f1,f2,f3,f4,f5⟩:=hf it A6;have W:=Walks.range (prog:=X.prog) (w:=X.w) (I.ok.hd hc) it lo 1 n;refine W.item i s _ _ hg st λv h' tk hv st' kk=>?_;obtain⟨t,rfl⟩:=hv;have I1:Inv X pins σ H {s with heap:=h',toks:=tk}:=I.turned (λb o hb e=>kk b o (by simpa using hb) e) f0 f1 f3 f4 f5;refine⟨_,rfl,SE (s:={s with heap:=h',toks:=tk}) (n:="range_iterator") st' rfl rfl A4 ⟨.int (lo+i),H,I1,⟨t,?_⟩,⟨rfl,rfl⟩,st',λb hb=>(hf b hb).1⟩⟩;rw[Int.mul_one]
 done:=by
  intro X hP hw hK hc i pins s σ H E I hf st hg;subst hP hw hK;obtain⟨f0,f1,f2,f3,f4,f5⟩:=hf it A6;exact wpAny_pyNext_range_end (I.ok.hd hc) st (by have:n<=i:=hg;lia) λh' eb=>⟨rfl,I.turned (t':=s.toks) (λb o hb e=>eb b o hb e) f0 f1 f3 f4 f5⟩
 self:=λ_ _ _ _ _ st h=>wpAny_pyIter_rangeiter st h
section
variable{X:Cx}{tg:Expr}
def iList(K:PySem.W.Frag)(tl:TE):TI:=fun σ H R=>tl σ H λx H1=>∃a,x=.ref a/\(∃xs,SqL K H1 a xs)/\R (Itl K a) H1
def iTup(K:PySem.W.Frag)(tl:TE):TI:=fun σ H R=>tl σ H λx H1=>∃a,x=.ref a/\(∃xs,SqT K H1 a xs)/\R (Itt K a) H1
theorem BV{l:Expr}{tl:TE}(hl:PE X l tl):PI X tg l (iList X.K tl):=by
 intro pins s σ H R I h;refine thn (hl pins s σ H _ I h) λv s1 ⟨x,H1,I1,r1,q1⟩=>?_;obtain⟨a,e,⟨xs,hq⟩,q⟩:=q1;subst e;cases r1;obtain⟨its,rv,p,hz⟩:=I1.list hq;refine A2d p.isList ?_;refine⟨s1.heap.objs.size,[s1.heap.objs.size],_,_,H1,rfl,I1.kept (t':=s1.toks) λb o e=>C2 _ e,VC a _,⟨_,D3 _ rfl,rfl,rfl⟩,λb hb=>?_,q⟩;have e:b=s1.heap.objs.size:=by simpa using hb
 subst e;exact I1.fpOk (C1 _) (I1.hok.fresh (C1 _))
theorem To{l:Expr}{tl:TE}(hl:PE X l tl):PI X tg l (iTup X.K tl):=by
 intro pins s σ H R I h;refine thn (hl pins s σ H _ I h) λv s1 ⟨x,H1,I1,r1,q1⟩=>?_;obtain⟨a,e,⟨xs,hq⟩,q⟩:=q1;subst e;cases r1;obtain⟨its,rv,p,hz⟩:=I1.tuple hq;refine wpAny_pyIter_tuple (show s1.heap.IsTuple a its.toArray from p) ?_;refine⟨s1.heap.objs.size,[s1.heap.objs.size],_,_,H1,rfl,I1.kept (t':=s1.toks) λb o e=>C2 _ e,Ta a _,⟨_,D3 _ rfl,rfl,rfl⟩,λb hb=>?_,q⟩;have e:b=s1.heap.objs.size:=by simpa using hb
 subst e;exact I1.fpOk (C1 _) (I1.hok.fresh (C1 _))
theorem RY{pins:List (Addr×Obj)}{σ:St}{H:Hp}{s:Shared}{R:It->Hp->Prop}{E:Value->Shared->Prop}{lo hi:Int}{t u v:Tok}{tk:Nat}(I:Inv X pins σ H s)(h1:-(2^62)<=lo)(h2:lo<2^62)(h3:-(2^62)<=hi)(h4:hi<2^62)
  (q:R (Itr lo (hi-lo).toNat) H):wpAny (model X.prog X.w) X.A (pyIter (.ref s.heap.objs.size)) (PIE X pins σ tg R) E {s with heap:=s.heap.push {cls:=.type "range",data:=.fields #[.int lo t,.int hi u,.int 1 v]},toks:=tk}:=by
 refine wpAny_pyIter_range (IsRange.new ..) (small_one h1 h2 h3 h4) ?_;have I1:Inv X pins σ H {s with heap:=s.heap.push {cls:=.type "range",data:=.fields #[.int lo t,.int hi u,.int 1 v]},toks:=tk}:=I.kept λb o e=>C2 _ e;refine⟨(s.heap.push {cls:=.type "range",data:=.fields #[.int lo t,.int hi u,.int 1 v]}).objs.size,[(s.heap.push {cls:=.type "range",data:=.fields #[.int lo t,.int hi u,.int 1 v]}).objs.size],_,_,H,rfl,
  I1.kept (t':=tk) λb o e=>C2 _ e,Tb _ lo (hi-lo).toNat,?_,λb hb=>?_,q⟩
 ·have e1:lo+((0:Nat):Int)*1=lo:=by simp
  have e2:(((hi-lo).toNat:Nat):Int)-((0:Nat):Int)=Builtin.Range.rangeSize lo hi 1:=by rw[rangeSize_one];split<;>lia
  show IsRangeIter _ _ (lo+((0:Nat):Int)*1) ((((hi-lo).toNat:Nat):Int)-((0:Nat):Int)) 1;rw[e1,e2];exact D3 _ rfl
 ·have e:b=(s.heap.push {cls:=.type "range",data:=.fields #[.int lo t,.int hi u,.int 1 v]}).objs.size:=by simpa using hb
  subst e;exact I1.fpOk (C1 _) (I1.hok.fresh (C1 _))
def iRng1(ta:TA):TI:=fun σ H R=>ta σ H λvs H1=>∃j:Int,vs=[.int j]/\-(2^62)<=j/\j<2^62/\R (Itr 0 j.toNat) H1
def iRng2(ta:TA):TI:=fun σ H R=>ta σ H λvs H1=>∃i j:Int,vs=[.int i,.int j]/\(-(2^62)<=i/\i<2^62/\-(2^62)<=j/\j<2^62)/\R (Itr i (j-i).toNat) H1
theorem Di{a:Expr}{ta:TA}{p pos:Pos}(hg:Gl X "range")(hm:X.mg "range" = none)(ha:PA X [a] ta)(hs:starEach [a] X.env=[(false,eval a X.env)]:=by rfl):PI X tg (.Call (.Name "range" p) [a] [] pos) (iRng1 ta):=by
 intro pins s σ H R I h;refine Call_ (Jn I hg hm boot_range (K8 (thn (ha pos pins s σ H _ I h) λus s1 ⟨vs,H1,I1,r1,q1⟩=>?_) hs rfl));obtain⟨j,e,q1,q2,q⟩:=q1;subst e;cases r1 with
 |cons r rr =>
  cases rr;obtain⟨t,rfl⟩:=r;exact call_range_1 (RY I1 A0 A0 q1 q2 (by simpa using q))
theorem Mx{a b:Expr}{ta:TA}{p pos:Pos}(hg:Gl X "range")(hm:X.mg "range" = none)(ha:PA X [a,b] ta)(hs:starEach [a,b] X.env=[(false,eval a X.env),(false,eval b X.env)]:=by rfl)(hs2:starEach [b] X.env=[(false,eval b X.env)]:=by rfl) :
  PI X tg (.Call (.Name "range" p) [a,b] [] pos) (iRng2 ta):=by
 intro pins s σ H R I h;refine Call_ (Jn I hg hm boot_range (K8 (thn (ha pos pins s σ H _ I h) λus s1 ⟨vs,H1,I1,r1,q1⟩=>?_) (by rw[hs,hs2]) (by rw[hs2];rfl)));obtain⟨i,j,e,⟨q1,q2,q3,q4⟩,q⟩:=q1;subst e;cases r1 with
 |cons r rr =>
  cases rr with
  |cons r' rr =>
   cases rr;obtain⟨t,rfl⟩:=r;obtain⟨t',rfl⟩:=r';exact call_range_2 (RY I1 q1 q2 q3 q4 q)
def tFor(wi:TI)(g:TG)(tb:TS):TS:=λD σ H=>wi σ H λJ H1=>∃W:Nat->Nat->St->Hp->Prop,(∃m,W 0 m σ H1)/\∀i m σ H,W i m σ H ->
 (J.stop i H/\D.nx σ H)\/(J.go i H/\∃N:St->Hp->Prop,(∀σ' H',N σ' H'->∃m',m'<m/\W (i+1) m' σ' H')/\∀x H',J.yld i H x H'->g x σ H' fun σ2 H2=>tb {D with nx:=N,ct:=N,bk:=D.nx} σ2 H2)
def Mw(fp:List Addr)(h:Heap):List (Addr×Obj):=fp.filterMap λb=>(h.get? b).map λo=>(b,o)
theorem Iw{fp:List Addr}{h:Heap}{b:Addr}{o:Obj}(hb:b∈fp)(e:h.get? b=some o):(b,o)∈Mw fp h:=List.mem_filterMap.mpr ⟨b,hb,by rw[e];rfl⟩
theorem PH{fp:List Addr}{h:Heap}{p:Addr×Obj}(hp:p∈Mw fp h):p.1∈fp/\h.get? p.1=some p.2:=by
 obtain⟨b,hb,e⟩:=List.mem_filterMap.mp hp;cases q:h.get? b with
 |none=>rw[q]at e;cases e
 |some o =>
  rw[q]at e;have e':(b,o)=p:=Z2 e;subst e';exact⟨hb,q⟩
theorem Inv.pinned{pins:List (Addr×Obj)}{σ:St}{H:Hp}{s:Shared}{fp:List Addr}(I:Inv X pins σ H s)(hf:∀b∈fp,Dw X pins H b)(ho:∀b∈fp,∃o,s.heap.get? b=some o/\∀v,o.data≠.cell v):Inv X (pins++Mw fp s.heap) σ H s :=
 I.pins_of λp hp=>(D9.mp hp).elim (λz=>I.pin p (L6 _ z)) λz=>by
  obtain⟨hb,e⟩:=PH z;obtain⟨f0,f1,f2,_⟩:=hf p.1 hb;obtain⟨o,e',d⟩:=ho p.1 hb;rw[e]at e';cases e';exact⟨e,f0,f1,f2,d⟩
theorem Inv.unpinned{pins pl:List (Addr×Obj)}{σ:St}{H:Hp}{s:Shared}(I:Inv X (pins++pl) σ H s):Inv X pins σ H s:=I.pins_of λp hp=>I.pin p (L6 _ (S7 _ hp))
theorem Cy{iter:Expr}{body:List Stmt}{wi:TI}{g:TG}{tb:TS}{pos:Pos}(hp:PassesOwn (model X.prog X.w) X.A X.env X.xe)(hc:X.calm=true)(hi:PI X tg iter wi)(hg:PG X tg g)(hb:PSs X body tb)
  (hs:∀x,foldedSetIterable iter X.env x=pure x:=by intro _;rfl):PS X (.For tg iter body [] pos) (tFor wi g tb):=by
 intro pins s σ H D I h;refine wpAny_For (thn (hi pins s σ H _ I h) λv s1 h1=>thn h1 λitv s2 h2=>?_) hs;obtain⟨it,fp,tn,J,H2,e,I2,T,st2,f2,W,⟨m0,w0⟩,turn⟩:=h2;subst e;have stat:∀{H':Hp},(∀b∈fp,H' b=none)->∀b∈fp,Dw X pins H' b:=λhn b hb=>⟨hn b hb,(f2 b hb).2⟩
 refine codeAny_forLoop_any (λn s'=>∃i σ' H',Inv X pins σ' H' s'/\tn i s'.heap/\(∀b∈fp,H' b=none)/\W i n σ' H') ?_ m0 ⟨0,σ,H2,I2,st2,λb hb=>(f2 b hb).1,w0⟩;rintro n s3 ⟨i,σ3,H3,I3,st3,fr3,w3⟩;rcases turn i n σ3 H3 w3 with ⟨stop,qn⟩|⟨go,N,hN,step⟩
 ·refine A1c hp (thn (T.done X rfl rfl rfl hc i pins s3 σ3 H3 X.xe I3 (stat fr3) st3 stop) λr s4 ⟨hr,I4⟩=>?_);subst hr;exact A4a ⟨σ3,H3,I4,qn⟩
 ·refine A1c hp (thn (T.item X rfl rfl rfl hc i pins s3 σ3 H3 X.xe I3 (stat fr3) st3 go) λr s4 ⟨u,hr,h4⟩=>?_);subst hr;refine A1c hp (thn h4 λ_ s5 ⟨x,H5,I5,r5,y5,st5,fr5⟩=>?_);have I5':=I5.pinned (stat fr5) (T.obj _ _ st5);refine A1c hp (thn (hg _ s5 σ3 H5 x u _ I5' r5 (step x H5 y5)) λ_ s6 ⟨σ6,H6,I6,q6⟩=>?_);refine A1c hp (thn (hb _ s6 σ6 H6 _ I6 q6) λf s7 q7=>?_);have again:∀{σ7:St}{H7:Hp},Inv X (pins++Mw fp s5.heap) σ7 H7 s7->N σ7 H7->∃m,m<n/\∃i σ' H',Inv X pins σ' H' s7/\tn i s7.heap/\(∀b∈fp,H' b=none)/\W i m σ' H':=λ{σ7 H7} I7 n7=>by
   obtain⟨m',hm,w7⟩:=hN σ7 H7 n7;refine⟨m',hm,i+1,σ7,H7,I7.unpinned,T.keep _ _ _ st5 λb hb o e=>(I7.pin (b,o) (L6 _ (L6 _ (Iw hb e)))).1,λb hb=>?_,w7⟩;obtain⟨o,e,d⟩:=T.obj _ _ st5 b hb;exact(I7.pin (b,o) (L6 _ (L6 _ (Iw hb e)))).2.1
  cases f with
  |next=>obtain⟨σ7,H7,I7,n7⟩:=q7;exact again I7 n7
  |cont=>obtain⟨σ7,H7,I7,n7⟩:=q7;exact again I7 n7
  |brk=>obtain⟨σ7,H7,I7,q7⟩:=q7;exact⟨σ7,H7,I7.unpinned,q7⟩
  |ret v=>obtain⟨x7,σ7,H7,I7,r7,q7⟩:=q7;exact⟨x7,σ7,H7,I7.unpinned,r7,q7⟩
end
theorem LV{K:PySem.W.Frag}{a:Addr}{xs:List V}{g:TG}{tb:TS}{D:Md}{σ:St}{H:Hp}(Pv:Nat->St->Hp->Prop)(h0:Pv 0 σ H)(hl:∀i σ H,i<=xs.length->Pv i σ H->SqL K H a xs)
  (hs:∀i x σ H,xs[i]?=some x->Pv i σ H->g x σ H fun σ2 H2=>tb {D with nx:=Pv (i+1),ct:=Pv (i+1),bk:=D.nx} σ2 H2) (hd:∀σ H,Pv xs.length σ H->D.nx σ H) :
  ∃W:Nat->Nat->St->Hp->Prop,(∃m,W 0 m σ H)/\∀i m σ H,W i m σ H ->
   ((Itl K a).stop i H/\D.nx σ H)\/((Itl K a).go i H/\∃N:St->Hp->Prop,(∀σ' H',N σ' H'->∃m',m'<m/\W (i+1) m' σ' H')/\∀x H',(Itl K a).yld i H x H'->g x σ H' fun σ2 H2=>tb {D with nx:=N,ct:=N,bk:=D.nx} σ2 H2):=by
 refine⟨λi m σ H=>m=xs.length-i/\i<=xs.length/\Pv i σ H,⟨xs.length,by simp,L7 _,h0⟩,?_⟩;rintro i m σ H ⟨rfl,hi,p⟩;have q:=hl i σ H hi p;by_cases hlt:i<xs.length
 ·refine .inr ⟨⟨xs,xs[i],q,by simp[hlt]⟩,Pv (i+1),fun σ' H' p'=>⟨xs.length-(i+1),by lia,rfl,hlt,p'⟩,λx H' y=>?_⟩;obtain⟨e,y⟩:=y;subst e;exact hs i x σ _ (y xs q) p
 ·have e:i=xs.length:=by lia
  subst e;exact .inl ⟨⟨xs,q,C1 _⟩,hd σ H p⟩
theorem Dl{lo:Int}{n:Nat}{g:TG}{tb:TS}{D:Md}{σ:St}{H:Hp}(Pv:Nat->St->Hp->Prop)(h0:Pv 0 σ H)
  (hs:∀i σ H,i<n->Pv i σ H->g (.int (lo+i)) σ H fun σ2 H2=>tb {D with nx:=Pv (i+1),ct:=Pv (i+1),bk:=D.nx} σ2 H2) (hd:∀σ H,Pv n σ H->D.nx σ H) :
  ∃W:Nat->Nat->St->Hp->Prop,(∃m,W 0 m σ H)/\∀i m σ H,W i m σ H ->
   ((Itr lo n).stop i H/\D.nx σ H)\/((Itr lo n).go i H/\∃N:St->Hp->Prop,(∀σ' H',N σ' H'->∃m',m'<m/\W (i+1) m' σ' H')/\∀x H',(Itr lo n).yld i H x H'->g x σ H' fun σ2 H2=>tb {D with nx:=N,ct:=N,bk:=D.nx} σ2 H2):=by
 refine⟨λi m σ H=>m=n-i/\i<=n/\Pv i σ H,⟨n,by simp,L7 _,h0⟩,?_⟩;rintro i m σ H ⟨rfl,hi,p⟩;by_cases hlt:i<n
 ·refine .inr ⟨hlt,Pv (i+1),fun σ' H' p'=>⟨n-(i+1),by lia,rfl,hlt,p'⟩,λx H' y=>?_⟩;obtain⟨e,y⟩:=y;subst e y;exact hs i σ _ hlt p
 ·have e:i=n:=by lia
  subst e;exact .inl ⟨C1 _,hd σ H p⟩
abbrev R2:=V->V->Hp->VK->Prop
def OpR(X:Cx)(f:Value->Value->Sem Value)(r:R2):Prop :=
 ∀(pins:List (Addr×Obj))(s:Shared)(σ:St)(H:Hp)(x y:V)(v u:Value)(Q:VK),Inv X pins σ H s->AY x v->AY y u->r x y H Q ->
  wpAny (model X.prog X.w) X.A (f v u) (EP X pins σ Q) X.xe s
def UnR(X:Cx)(f:Value->Sem Value)(r:V->Hp->VK->Prop):Prop :=
 ∀(pins:List (Addr×Obj))(s:Shared)(σ:St)(H:Hp)(x:V)(v:Value)(Q:VK),Inv X pins σ H s->AY x v->r x H Q ->
  wpAny (model X.prog X.w) X.A (f v) (EP X pins σ Q) X.xe s
def FQ(X:Cx)(f:Value)(r:List V->Hp->VK->Prop):Prop :=
 ∀(pins:List (Addr×Obj))(s:Shared)(σ:St)(H:Hp)(xs:List V)(us:List Value)(Q:VK),Inv X pins σ H s->AM xs us->r xs H Q ->
  wpAny (model X.prog X.w) X.A (call f us) (EP X pins σ Q) X.xe s
def tOp(r:R2)(ta tb:TE):TE:=fun σ H Q=>ta σ H λx H1=>tb σ H1 λy H2=>r x y H2 Q
def tUn(r:V->Hp->VK->Prop)(ta:TE):TE:=fun σ H Q=>ta σ H λx H1=>r x H1 Q
def rI(C:Int->Int->Prop)(g:Int->Int->V):R2:=λx y H Q=>∃i j,x=.int i/\y=.int j/\C i j/\Q (g i j) H
def rI0(g:Int->Int->V):R2:=λx y H Q=>∃i j,x=.int i/\y=.int j/\Q (g i j) H
def rU(g:Int->V):V->Hp->VK->Prop:=λx H Q=>∃i,x=.int i/\Q (g i) H
section
variable{X:Cx}{a b c:Expr}{ta tb tc:TE}{pos:Pos}
theorem binT(ha:PE X a ta)(hb:PE X b tb){pins:List (Addr×Obj)}{s:Shared}{σ:St}{H:Hp}{R:V->V->Hp->Prop}(I:Inv X pins σ H s)
  (h:ta σ H λx H1=>tb σ H1 λy H2=>R x y H2) {Q:Value->Shared->Prop} {f:Value->Value->Sem Value}
  (hf:∀v u s2 x y H2,Inv X pins σ H2 s2->AY x v->AY y u->R x y H2->wpAny (model X.prog X.w) X.A (f v u) Q X.xe s2) :
  wpAny (model X.prog X.w) X.A (eval a X.env) (λv s₁=>wpAny (model X.prog X.w) X.A (eval b X.env) (λu s₂=>wpAny (model X.prog X.w) X.A (f v u) Q X.xe s₂) X.xe s₁) X.xe s:=by
 refine thn (ha pins s σ H _ I h) λv s1 ⟨x,H1,I1,r1,q1⟩=>?_;refine thn (hb pins s1 σ H1 _ I1 q1) λu s2 ⟨y,H2,I2,r2,q2⟩=>?_;exact hf v u s2 x y H2 I2 r1 r2 q2
theorem Ay{op:Operator}{r:R2}(ho:OpR X (binaryOp op) r)(ha:PE X a ta)(hb:PE X b tb):PE X (.BinOp a op b pos) (tOp r ta tb):=by
 intro pins s σ H Q I h;exact wpAny_BinOp (binT ha hb I h λv u s2 x y H2 I2 rx ry q=>ho pins s2 σ H2 x y v u Q I2 rx ry q)
theorem LE{op:UnaryOp}{r:V->Hp->VK->Prop}(ho:UnR X (unaryOp op) r)(ha:PE X a ta):PE X (.UnaryOp op a pos) (tUn r ta):=by
 intro pins s σ H Q I h;exact UnaryOp_ (thn (ha pins s σ H _ I h) λv s1 ⟨x,H1,I1,r1,q1⟩=>ho pins s1 σ H1 x v Q I1 r1 q1)
theorem opI{f:Value->Value->Sem Value}{C:Int->Int->Prop}{g:Int->Int->Int}
  (rule:∀(i j:Int)(t u:Tok)(s:Shared)(Q:Value->Shared->Prop)(E:Value->Shared->Prop),C i j->Q (.int (g i j) s.toks) {s with toks:=s.toks+1}->wpAny (model X.prog X.w) X.A (f (.int i t) (.int j u)) Q E s) :
  OpR X f (rI C λi j=>.int (g i j)):=by
 intro pins s σ H x y v u Q I rx ry h;obtain⟨i,j,rfl,rfl,hc,q⟩:=h;obtain⟨t,rfl⟩:=rx;obtain⟨t',rfl⟩:=ry;exact rule i j t t' s _ _ hc ⟨.int (g i j),H,I.tok _,⟨_,rfl⟩,q⟩
theorem opI0{f:Value->Value->Sem Value}{g:Int->Int->Int}
  (rule:∀(i j:Int)(t u:Tok)(s:Shared)(Q:Value->Shared->Prop)(E:Value->Shared->Prop),Q (.int (g i j) s.toks) {s with toks:=s.toks+1}->wpAny (model X.prog X.w) X.A (f (.int i t) (.int j u)) Q E s) :
  OpR X f (rI0 λi j=>.int (g i j)):=by
 intro pins s σ H x y v u Q I rx ry h;obtain⟨i,j,rfl,rfl,q⟩:=h;obtain⟨t,rfl⟩:=rx;obtain⟨t',rfl⟩:=ry;exact rule i j t t' s _ _ ⟨.int (g i j),H,I.tok _,⟨_,rfl⟩,q⟩
theorem opB0{f:Value->Value->Sem Value}{g:Int->Int->Bool}
  (rule:∀(i j:Int)(t u:Tok)(s:Shared)(Q:Value->Shared->Prop)(E:Value->Shared->Prop),Q (.bool (g i j)) s->wpAny (model X.prog X.w) X.A (f (.int i t) (.int j u)) Q E s) :
  OpR X f (rI0 λi j=>.bl (g i j)):=by
 intro pins s σ H x y v u Q I rx ry h;obtain⟨i,j,rfl,rfl,q⟩:=h;obtain⟨t,rfl⟩:=rx;obtain⟨t',rfl⟩:=ry;exact rule i j t t' s _ _ ⟨.bl (g i j),H,I,rfl,q⟩
def CDiv(i j:Int):Prop:=0<j/\j<1073741824
def CPow(i j:Int):Prop:=0<=j/\j<=1000000/\i.natAbs<2^64
def CMul(i j:Int):Prop:=(-(2^64)<i/\i<2^64)\/(-(2^64)<j/\j<2^64)
theorem CMul.ok{i j:Int}(h:CMul i j):IntMulOk i j:=by
 rcases h with ⟨h1,h2⟩|⟨h1,h2⟩
 ·exact .of_left (intBits_le_64 h1 h2)
 ·exact .of_right (intBits_le_64 h1 h2)
theorem SZ(k:Nat):(0:Int)<=2^k:=by
 rw[two_pow_cast];exact Int.natCast_nonneg _
theorem AL:OpR X (binaryOp .Add) (rI0 λi j=>.int (i+j)):=opI0 λ_ _ _ _ _ _ _ q=>add_int q
theorem BY:OpR X (binaryOp .Sub) (rI0 λi j=>.int (i-j)):=opI0 λ_ _ _ _ _ _ _ q=>sub_int q
theorem Es:OpR X (binaryOp .Mult) (rI CMul λi j=>.int (i*j)):=opI λ_ _ _ _ _ _ _ hc q=>mul_int q hc.ok
theorem CT:OpR X (binaryOp .FloorDiv) (rI CDiv λi j=>.int (i/j)):=opI λi j _ _ _ _ _ hc q=>by
 have h1:(0:Int)<j:=hc.1;have h2:j<1073741824:=hc.2;exact floordiv_int A0 (by rw[U0 i A0];exact q) (.inl (PyProof.noPylong_small A0))
theorem Bb:OpR X (binaryOp .Mod) (rI (λ_ j=>0<j) λi j=>.int (i%j)):=opI λi j _ _ _ _ _ hc q=>by
 have h1:(0:Int)<j:=hc;exact mod_int' A0 (by rw[Int.fmod_eq_emod_of_nonneg i A0];exact q)
theorem Yk:OpR X (binaryOp .Pow) (rI CPow λi j=>.int (i^j.toNat)):=opI λ_ _ _ _ _ _ _ hc q=>pow_int_small hc.1 hc.2.1 hc.2.2 q
theorem Li:OpR X (binaryOp .LShift) (rI CPow λi j=>.int (i*2^j.toNat)):=opI λ_ _ _ _ _ _ _ hc q=>lshift_int_small hc.1 hc.2.1 hc.2.2 q
theorem op_shr:OpR X (binaryOp .RShift) (rI (λ_ j=>0<=j) λi j=>.int (i/2^j.toNat)):=opI λi j _ _ _ _ _ hc q =>
 rshift_int hc (by rw[U0 i (SZ _)];exact q)
theorem op_and:OpR X (binaryOp .BitAnd) (rI0 λi j=>.int (Builtin.bitAnd i j)):=opI0 λ_ _ _ _ _ _ _ q=>and_int q
theorem unI{f:Value->Sem Value}{g:Int->Int}
  (rule:∀(i:Int)(t:Tok)(s:Shared)(Q:Value->Shared->Prop)(E:Value->Shared->Prop),Q (.int (g i) s.toks) {s with toks:=s.toks+1}->wpAny (model X.prog X.w) X.A (f (.int i t)) Q E s) :
  UnR X f (rU λi=>.int (g i)):=by
 intro pins s σ H x v Q I rx h;obtain⟨i,rfl,q⟩:=h;obtain⟨t,rfl⟩:=rx;exact rule i t s _ _ ⟨.int (g i),H,I.tok _,⟨_,rfl⟩,q⟩
theorem GO:UnR X (unaryOp .USub) (rU λi=>.int (-i)):=unI λ_ _ _ _ _ q=>neg_int q
end
def scal:V->V->Bool
 |.non,.non=>true|.non,.int _=>true|.int _,.non=>true|.non,.bl _=>true|.bl _,.non=>true|.non,.str _=>true|.str _,.non=>true
 |.int _,.int _=>true|.bl _,.bl _=>true|.str _,.str _=>true|.byt _,.byt _=>true
 |.int _,.str _=>true|.str _,.int _=>true|.bl _,.str _=>true|.str _,.bl _=>true
 |_,_=>false
def rEq:R2:=λx y H Q=>scal x y=true/\Q (.bl (decide (x=y))) H
def rNe:R2:=λx y H Q=>scal x y=true/\Q (.bl (!decide (x=y))) H
theorem Iz{i j:Int}:decide (V.int i=V.int j)=(i==j):=by
 rw[S0];simp
theorem Zu{i j:Bool}:decide (V.bl i=V.bl j)=(i==j):=by
 rw[S0];simp
theorem Vh{i j:Str}:decide (V.str i=V.str j)=(i==j):=by
 rw[S0];simp
theorem Vi{i j:Array UInt8}:decide (V.byt i=V.byt j)=(i.toList==j.toList):=by
 rw[S0];cases i;cases j;simp
section
variable{X:Cx}{a b c:Expr}{ta tb tc:TE}{pos:Pos}
theorem Bc{pins:List (Addr×Obj)}{σ:St}{H:Hp}{s:Shared}{Q:VK}{k k':Bool}(I:Inv X pins σ H s)(q:Q (.bl k) H)(e:k=k'):EP X pins σ Q (.bool k') s:=by
 subst e;exact⟨.bl k,H,I,rfl,q⟩
theorem Ct:OpR X (compareOp .Eq) rEq:=by
 intro pins s σ H x y v u Q I rx ry h;obtain⟨hs,q⟩:=h;cases x with
 |non =>
  cases rx;cases y with
  |non=>cases ry;exact PySem.EqNone.eq_none_none (Bc I q A6)
  |bl j=>cases ry;exact PySem.EqNone.eq_none_bool (Bc I q A6)
  |int j=>obtain⟨t',rfl⟩:=ry;exact PySem.EqNone.eq_none_int (Bc I q A6)
  |str j=>obtain⟨t',rfl⟩:=ry;exact PySem.EqNone.eq_none_str (Bc I q A6)
  |_=>exact absurd (show false=true from hs) D0
 |bl i =>
  cases rx;cases y with
  |non=>cases ry;exact PySem.EqNone.eq_bool_none (Bc I q A6)
  |bl j=>cases ry;exact eq_bool (Bc I q Zu)
  |str j=>obtain⟨t',rfl⟩:=ry;exact PySem.EqMixed.eq_bool_str (Bc I q A6)
  |_=>exact absurd (show false=true from hs) D0
 |int i =>
  obtain⟨t,rfl⟩:=rx;cases y with
  |non=>cases ry;exact PySem.EqNone.eq_int_none (Bc I q A6)
  |int j=>obtain⟨t',rfl⟩:=ry;exact eq_int (Bc I q Iz)
  |str j=>obtain⟨t',rfl⟩:=ry;exact PySem.EqMixed.eq_int_str (Bc I q A6)
  |_=>exact absurd (show false=true from hs) D0
 |str i =>
  obtain⟨t,rfl⟩:=rx;cases y with
  |non=>cases ry;exact PySem.EqNone.eq_str_none (Bc I q A6)
  |bl j=>cases ry;exact PySem.EqMixed.eq_str_bool (Bc I q A6)
  |int j=>obtain⟨t',rfl⟩:=ry;exact PySem.EqMixed.eq_str_int (Bc I q A6)
  |str j=>obtain⟨t',rfl⟩:=ry;exact eq_str (Bc I q Vh)
  |_=>exact absurd (show false=true from hs) D0
 |byt i =>
  obtain⟨t,rfl⟩:=rx;cases y with
  |byt j=>obtain⟨t',rfl⟩:=ry;exact PySem.W.eq_bytes (Bc I q Vi)
  |_=>exact absurd (show false=true from hs) D0
 |_=>cases y<;>exact absurd (show false=true from hs) D0
theorem JK:OpR X (compareOp .NotEq) rNe:=by
 intro pins s σ H x y v u Q I rx ry h;obtain⟨hs,q⟩:=h;cases x with
 |non =>
  cases rx;cases y with
  |non=>cases ry;exact PySem.EqNone.ne_none_none (Bc I q A6)
  |bl j=>cases ry;exact PySem.EqNone.ne_none_bool (Bc I q A6)
  |int j=>obtain⟨t',rfl⟩:=ry;exact PySem.EqNone.ne_none_int (Bc I q A6)
  |str j=>obtain⟨t',rfl⟩:=ry;exact PySem.EqNone.ne_none_str (Bc I q A6)
  |_=>exact absurd (show false=true from hs) D0
 |bl i =>
  cases rx;cases y with
  |non=>cases ry;exact PySem.EqNone.ne_bool_none (Bc I q A6)
  |bl j=>cases ry;exact ne_bool (Bc I q (X6 not Zu))
  |str j=>obtain⟨t',rfl⟩:=ry;exact PySem.EqMixed.ne_bool_str (Bc I q A6)
  |_=>exact absurd (show false=true from hs) D0
 |int i =>
  obtain⟨t,rfl⟩:=rx;cases y with
  |non=>cases ry;exact PySem.EqNone.ne_int_none (Bc I q A6)
  |int j=>obtain⟨t',rfl⟩:=ry;exact ne_int (Bc I q (X6 not Iz))
  |str j=>obtain⟨t',rfl⟩:=ry;exact PySem.EqMixed.ne_int_str (Bc I q A6)
  |_=>exact absurd (show false=true from hs) D0
 |str i =>
  obtain⟨t,rfl⟩:=rx;cases y with
  |non=>cases ry;exact PySem.EqNone.ne_str_none (Bc I q A6)
  |bl j=>cases ry;exact PySem.EqMixed.ne_str_bool (Bc I q A6)
  |int j=>obtain⟨t',rfl⟩:=ry;exact PySem.EqMixed.ne_str_int (Bc I q A6)
  |str j=>obtain⟨t',rfl⟩:=ry;exact ne_str (Bc I q (X6 not Vh))
  |_=>exact absurd (show false=true from hs) D0
 |byt i =>
  obtain⟨t,rfl⟩:=rx;cases y with
  |byt j=>obtain⟨t',rfl⟩:=ry;exact PySem.W.ne_bytes (Bc I q (X6 not Vi))
  |_=>exact absurd (show false=true from hs) D0
 |_=>cases y<;>exact absurd (show false=true from hs) D0
theorem GJ:OpR X (compareOp .Lt) (rI0 λi j=>.bl (decide (i<j))):=opB0 λ_ _ _ _ _ _ _ q=>lt_int q
theorem LI:OpR X (compareOp .LtE) (rI0 λi j=>.bl (decide (i<=j))):=opB0 λ_ _ _ _ _ _ _ q=>le_int q
theorem Sf:OpR X (compareOp .Gt) (rI0 λi j=>.bl (decide (j<i))):=opB0 λ_ _ _ _ _ _ _ q=>gt_int q
theorem VL:OpR X (compareOp .In) (λx y H Q=>∃i j,x=.str i/\y=.str j/\Q (.bl (!(Builtin.Str.occurrences j i 0 j.length 1).isEmpty)) H):=by
 intro pins s σ H x y v u Q I rx ry h;obtain⟨i,j,rfl,rfl,q⟩:=h;obtain⟨t,rfl⟩:=rx;obtain⟨t',rfl⟩:=ry;exact in_str (Bc I q rfl)
theorem Jg:OpR X (compareOp .Is) (λx y H Q=>y=.non/\Q (.bl (decide (x=.non))) H):=by
 intro pins s σ H x y v u Q I rx ry h;obtain⟨rfl,q⟩:=h;cases ry;refine is_none_gen (Bc I q ?_);cases x<;>first
  | (cases rx;rfl)
  | (obtain⟨t,rfl⟩:=rx;rfl)
theorem UM:OpR X (compareOp .IsNot) (λx y H Q=>y=.non/\Q (.bl (!decide (x=.non))) H):=by
 intro pins s σ H x y v u Q I rx ry h;obtain⟨rfl,q⟩:=h;cases ry;refine isnot_none_gen (Bc I q ?_);cases x<;>first
  | (cases rx;rfl)
  | (obtain⟨t,rfl⟩:=rx;rfl)
theorem LH:OpR X (compareOp .NotIn) (λx y H Q=>∃i j,x=.str i/\y=.str j/\Q (.bl (!(!(Builtin.Str.occurrences j i 0 j.length 1).isEmpty))) H):=by
 intro pins s σ H x y v u Q I rx ry h;obtain⟨i,j,rfl,rfl,q⟩:=h;obtain⟨t,rfl⟩:=rx;obtain⟨t',rfl⟩:=ry;exact notIn_str (Bc I q rfl)
theorem AF(b:Expr){op:CmpOp}(h:op≠.In:=by decide)(h2:op≠.NotIn:=by decide):behindInMarks op b=false:=by
 have e1:(op==CmpOp.In)=false:=by cases op<;>first|rfl|exact absurd rfl h
 have e2:(op==CmpOp.NotIn)=false:=by cases op<;>first|rfl|exact absurd rfl h2
 cases b<;>simp[behindInMarks,e1,e2]
theorem CQ{op:CmpOp}{r:R2}(ho:OpR X (compareOp op) r)(ha:PE X a ta)(hb:PE X b tb)(hm:behindInMarks op b=false):PE X (.Compare a [op] [b] pos) (tOp r ta tb):=by
 intro pins s σ H Q I h;exact wpAny_Compare1 (binT ha hb I h λv u s2 x y H2 I2 rx ry q=>ho pins s2 σ H2 x y v u Q I2 rx ry q) hm
def tTest(t:TE):TT:=fun σ H Q=>t σ H λx H'=>∃k,x=.bl k/\Q k H'
theorem AB{op:CmpOp}{r:R2}(ho:OpR X (compareOp op) r)(ha:PE X a ta)(hb:PE X b tb)(hm:behindInMarks op b=false):PT X (.Compare a [op] [b] pos) (tTest (tOp r ta tb)):=by
 intro pins s σ H Q I h;refine wpAny_isTrue_Compare1 (thn (ha pins s σ H _ I h) λv s1 ⟨x,H1,I1,r1,q1⟩=>thn (hb pins s1 σ H1 _ I1 q1) λu s2 ⟨y,H2,I2,r2,q2⟩ =>
  thn (ho pins s2 σ H2 x y v u _ I2 r1 r2 q2) λc s3 ⟨z,H3,I3,r3,k,e,q3⟩=>?_) hm
 subst e;cases r3;exact K2 ⟨H3,I3,q3⟩
def WF(r r':R2)(ta tb tc:TE):TE:=fun σ H Q=>ta σ H λx H1=>tb σ H1 λy H2=>r x y H2 λz H3=>∃k,z=.bl k /\
 (if k=true then tc σ H3 λw' H4=>r' y w' H4 Q else Q (.bl false) H3)
theorem Yh{op op':CmpOp}{r r':R2}(ho:OpR X (compareOp op) r)(ho':OpR X (compareOp op') r')(ha:PE X a ta)(hb:PE X b tb)(hc:PE X c tc)
  (hm:lastMarks [op,op'] [b,c]=false:=by with_unfolding_all rfl):PE X (.Compare a [op,op'] [b,c] pos) (WF r r' ta tb tc):=by
 intro pins s σ H Q I h;refine Compare_chain (thn (ha pins s σ H _ I h) λv s1 ⟨x,H1,I1,r1,q1⟩=>chain_link (thn (hb pins s1 σ H1 _ I1 q1) λu s2 ⟨y,H2,I2,r2,q2⟩ =>
  thn (ho pins s2 σ H2 x y v u _ I2 r1 r2 q2) λd s3 ⟨z,H3,I3,r3,k,e,q3⟩=>?_)) hm
 subst e;cases r3;refine K2 ?_;cases k with
 |false=>exact ite_ff ⟨.bl false,H3,I3,rfl,q3⟩
 |true=>exact ite_tt (chain_last (thn (hc pins s3 σ H3 _ I3 q3) λw' s4 ⟨z',H4,I4,r4,q4⟩=>ho' pins s4 σ H4 y z' u w' Q I4 r2 r4 q4))
theorem Sa{op op':CmpOp}{r r':R2}(ho:OpR X (compareOp op) r)(ho':OpR X (compareOp op') r')(ha:PE X a ta)(hb:PE X b tb)(hc:PE X c tc)
  (hm:lastMarks [op,op'] [b,c]=false:=by with_unfolding_all rfl):PT X (.Compare a [op,op'] [b,c] pos) (tTest (WF r r' ta tb tc)):=by
 intro pins s σ H Q I h;refine isTrue_chain (thn (ha pins s σ H _ I h) λv s1 ⟨x,H1,I1,r1,q1⟩=>test_link (thn (hb pins s1 σ H1 _ I1 q1) λu s2 ⟨y,H2,I2,r2,q2⟩ =>
  thn (ho pins s2 σ H2 x y v u _ I2 r1 r2 q2) λd s3 ⟨z,H3,I3,r3,k,e,q3⟩=>?_)) hm
 subst e;cases r3;refine K2 ?_;cases k with
 |false =>
  obtain⟨k',e',q'⟩:=q3;cases e';exact ite_ff ⟨H3,I3,q'⟩
 |true =>
  refine ite_tt (test_last (thn (hc pins s3 σ H3 _ I3 q3) λw' s4 ⟨z',H4,I4,r4,q4⟩=>thn (ho' pins s4 σ H4 y z' u w' _ I4 r2 r4 q4) λd' s5 ⟨z2,H5,I5,r5,k2,e2,q5⟩=>?_));subst e2;cases r5;exact K2 ⟨H5,I5,q5⟩
theorem ML:(sizeLine:Nat)<2^63:=by rw[sizeLine_eq];decide
theorem CA:OpR X (binaryOp .Add) (λx y H Q=>∃i j,x=.str i/\y=.str j/\i.length+j.length<=sizeLine/\Q (.str (i++j)) H):=by
 intro pins s σ H x y v u Q I rx ry h;obtain⟨i,j,rfl,rfl,hz,q⟩:=h;obtain⟨t,rfl⟩:=rx;obtain⟨t',rfl⟩:=ry;exact add_str (λt' tk=>⟨.str (i++j),H,I.tok _,⟨_,rfl⟩,q⟩) hz
theorem NP{x:V}{us:List Value}(r:AM [x] us):∃u,us=[u]/\AY x u:=by
 cases r with
 |cons r1 r2=>cases r2;exact⟨_,rfl,r1⟩
theorem vals2{x y:V}{us:List Value}(r:AM [x,y] us):∃u w',us=[u,w']/\AY x u/\AY y w':=by
 cases r with
 |cons r1 r2 =>
  cases r2 with
  |cons r3 r4=>cases r4;exact⟨_,_,rfl,r1,r3⟩
theorem Wr(hc:X.calm=true):FQ X (.builtin "max") (λxs H Q=>∃i j,xs=[.int i,.int j]/\Q (.int (if j > i then j else i)) H):=by
 intro pins s σ H xs us Q I r h;obtain⟨i,j,rfl,q⟩:=h;obtain⟨u,w',rfl,⟨t,rfl⟩,⟨t',rfl⟩⟩:=vals2 r;refine max_two_ints (I.ok.hd hc) λh' tk k=>⟨_,H,I.kept k,?_,q⟩
 by_cases hj:j > i
 ·rw[Y8 hj,Y8 hj];exact⟨_,rfl⟩
 ·rw[Y6 hj,Y6 hj];exact⟨_,rfl⟩
theorem MS(hc:X.calm=true):FQ X (.builtin "min") (λxs H Q=>∃i j,xs=[.int i,.int j]/\Q (.int (if j<i then j else i)) H):=by
 intro pins s σ H xs us Q I r h;obtain⟨i,j,rfl,q⟩:=h;obtain⟨u,w',rfl,⟨t,rfl⟩,⟨t',rfl⟩⟩:=vals2 r;refine min_two_ints (I.ok.hd hc) λh' tk k=>⟨_,H,I.kept k,?_,q⟩
 by_cases hj:j<i
 ·rw[Y8 hj,Y8 hj];exact⟨_,rfl⟩
 ·rw[Y6 hj,Y6 hj];exact⟨_,rfl⟩
theorem Ws:FQ X (.type "int") (λxs H Q=>(∃i,xs=[.int i]/\Q (.int i) H)\/∃k,xs=[.bl k]/\Q (.int (if k then 1 else 0)) H):=by
 intro pins s σ H xs us Q I r h;rcases h with ⟨i,rfl,q⟩|⟨k,rfl,q⟩
 ·obtain⟨u,rfl,t,rfl⟩:=NP r;exact call_int_int ⟨.int i,H,I,⟨_,rfl⟩,q⟩
 ·obtain⟨u,rfl,r1⟩:=NP r;cases r1;exact call_int_bool ⟨.int (if k then 1 else 0),H,I.tok _,⟨_,rfl⟩,q⟩
theorem CD:FQ X (.type "str") (λxs H Q=>∃i,xs=[.int i]/\i.natAbs.log2<1920/\Q (.str (toString i)) H):=by
 intro pins s σ H xs us Q I r h;obtain⟨i,rfl,hz,q⟩:=h;obtain⟨u,rfl,t,rfl⟩:=NP r;exact PySem.P.str_of_int hz ⟨.str _,H,I.tok _,⟨_,rfl⟩,q⟩
end
structure Uf(h:Heap)(x dx C:Addr)(mA:Str->Option Value):Prop where
 obj:h.get? x=some (instObj C dx)
 ns:h.Ns1 dx mA
 ne:dx≠x
theorem VZ{h:Heap}{dx:Addr}{mA:Str->Option Value}(n:h.Ns1 dx mA):∃od,h.get? dx=some od/\∀name,lookIn name od=some (mA name):=by
 obtain⟨o,es,ep,ho,hd,hk,_,hm⟩:=n;refine⟨o,ho,λname=>?_⟩;have e:=hm name;unfold nsFind findBy at e;rw[<-Array.find?_toList]at e;unfold lookIn;rw[hd];dsimp only;split
 ·rename_i y q;rw[q]at e;exact X6 some e
 ·rename_i q;rw[q]at e;have a:es.toList.any (·.refKey)=false:=by
   rw[List.any_eq_false];intro y hy;obtain⟨z,t,hkey⟩:=hk y (Array.mem_toList_iff.mp hy);simp[DictEntry.refKey,hkey]
  have a':¬es.toList.any (·.refKey)=true:=by rw[a];exact D0
  rw[Y6 a'];exact X6 some e
theorem Uf.look{h:Heap}{x dx C:Addr}{mA:Str->Option Value}(I:Uf h x dx C mA):∃od,PySem.W.InstAt h x (instObj C dx) C (some od)/\∀name,lookIn name od=some (mA name) :=
 let ⟨od,ho,hl⟩:=VZ I.ns
 ⟨od,⟨I.obj,rfl,rfl,ho⟩,hl⟩
section
variable{prog:Program}{w:World}{A:Around}{E:Value->Shared->Prop}{s:Shared}{K:PySem.W.Frag}{x dx C f:Addr}{mA:Str->Option Value}{name:Str}{v:Value}
theorem get_map{expr:Bool}{Q:Value->Shared->Prop}(X:K.In s.heap)(I:Uf s.heap x dx C mA)(hg:plainGet K C name=true)(hh:hasDictIn K C=true)
  (ha:findIn K (.ref C) name=some none) (hv:mA name=some v) (hv':handedIn v=true) (h:Q v {s with toks:=s.toks+1}) :
  wpAny (model prog w) A (getAttr (.ref x) name expr) Q E s:=by
 obtain⟨od,J,hl⟩:=I.look;exact PySem.W.get_value X J (A3f hg).1 (PySem.W.findObj_own hh ha rfl (by rw[hl,hv])) hv' h
theorem Zh{pl:Sem Bool}{Q:Value×List Value->Shared->Prop}(X:K.In s.heap)(I:Uf s.heap x dx C mA)(hg:plainGet K C name=true)
  (hf:findIn K (.ref C) name=some (some (.ref f))) (ht:isFn K (.ref f)=true) (hv:mA name=none) (h:Q (.ref f,[.ref x]) s) :
  wpAny (model prog w) A (getMethod (.ref x) name pl) Q E s:=by
 obtain⟨od,J,hl⟩:=I.look;exact PySem.W.method_fn X J (A3f hg).1 (A3f hg).2 hf (beq_iff_eq.mp ht) (by show(lookIn name od).map (·.isSome)=some false;rw[hl,hv];rfl) h
theorem set_map{ns:List Str}{Q:Unit->Shared->Prop}(X:K.In s.heap)(I:Uf s.heap x dx C mA)
  (hs:findIn K (.ref C) "__setattr__" = some (some (.builtin "object.__setattr__"))) (hp:plainOver K C=true) (ht:takerIn K C name=some none) (hh:hasDictIn K C=true)
  (hw:PySem.Within mA ns) (hsz:ns.length<=sizeLine)
  (h:∀h',Uf h' x dx C (λy=>if y=name then some v else mA y)->Heap.SameBut dx s.heap h'->Q () {s with heap:=h',toks:=s.toks+2}) :
  wpAny (model prog w) A (setAttr (.ref x) name v) Q E s:=by
 obtain⟨od,J,hl⟩:=I.look;refine PySem.W.set_plain X J hs (PySem.W.osa_open (s:={s with toks:=s.toks+1}) (r:=none) X J hp ht λb=>?_)
 obtain⟨cd,hc,hd'⟩:=any_some hh;have hx:s.heap.get? x=some ⟨.ref C,some dx,.plain,#[]⟩:=I.obj;refine Y5 (Z0 (Y5 (Y5 (wpAny_loadPart hx (Y5 (PySem.W.Looks.here (s:={s with toks:=s.toks+1}) (PySem.W.looks_clsIn X hc) ?_))))))
 rw[hd'];refine Z0 (a:=some dx) (Y5 (Z0 (Y5 ?_)));refine wpAny_nsSet1 (s:={s with toks:=s.toks+1}) I.ns λh' hn2 hs2=>?_;obtain⟨oD,esD,epD,hoD,hdD,hcD⟩:=hn2.count (PySem.Within.cons name v hw);refine Y5 (wpAny_lookBehind hoD (by rw[hdD];exact pastItsLine_dict (C9 hcD (by rw[D4];lia))) ?_);exact Z0 (h _ ⟨(hs2.2 _ (Z1 I.ne)).trans I.obj,hn2,I.ne⟩ hs2)
theorem YL{R:Result->Shared->Prop}{vs:List Value}{kw:List (Str×Value)}(X:K.In s.heap)(hm:makesIn K C=true)
  (hi:findIn K (.ref C) "__init__" = some (some (.ref f))) (hf:PySem.W.typeIn K (.ref f)=some (.type "function"))
  (h:codeAny (model prog w) (A.under (.builtin "type.__call__" ⟨.ref C::vs,kw⟩)) (.call (.ref f) ⟨.ref (s.heap.objs.size+1)::vs,kw⟩) (PySem.W.InitBack (s.heap.objs.size+1) R)
   {s with heap:=(s.heap.push emptyDict).push (instObj C s.heap.objs.size)}) :
  codeAny (model prog w) A (.call (.ref C) ⟨vs,kw⟩) R s:=by
 obtain⟨hh,g,d,t,os⟩:=s;exact PySem.W.make_core (PySem.W.makes_of X hm) (PySem.W.looks_findIn X hi) (λself=>PySem.W.bind_fn X self hf) (.inl rfl) h
end
def AS(f:Str)(v:V):List (Str×V)->List (Str×V)
 |[]=>[(f,v)]
 | (g,x)::r=>if g=f then(g,v)::r else(g,x)::AS f v r
theorem Ak(f g:Str)(v:V):∀fs:List (Str×V),(AS f v fs).lookup g=if g=f then some v else fs.lookup g
 |[]=>by
  show List.lookup g [(f,v)]=_;by_cases h:g=f
  ·have hb:(g==f)=true:=beq_iff_eq.mpr h;simp only[List.lookup,hb,Y8 h]
  ·have hb:(g==f)=false:=beq_eq_false_iff_ne.mpr h;simp only[List.lookup,hb,Y6 h]
 | (k,x)::r=>by
  have ih:=Ak f g v r;rw[show AS f v ((k,x)::r)=(if k=f then(k,v)::r else(k,x)::AS f v r)from rfl];by_cases hk:k=f
  ·rw[Y8 hk];by_cases h:g=k
   ·have hb:(g==k)=true:=beq_iff_eq.mpr h;simp only[List.lookup,hb,Y8 (h.trans hk)]
   ·have hb:(g==k)=false:=beq_eq_false_iff_ne.mpr h;simp only[List.lookup,hb,Y6 (λe:g=f=>h (e.trans hk.symm))]
  ·rw[Y6 hk];by_cases h:g=k
   ·have hb:(g==k)=true:=beq_iff_eq.mpr h;simp only[List.lookup,hb,Y6 (λe:g=f=>hk (h.symm.trans e))]
   ·have hb:(g==k)=false:=beq_eq_false_iff_ne.mpr h;simp only[List.lookup,hb];exact ih
theorem MN(f:Str)(v:V):∀fs:List (Str×V),f∈(AS f v fs).map (·.1)/\∀g,g∈fs.map (·.1)->g∈(AS f v fs).map (·.1)
 |[]=>⟨by simp[AS],λg h=>by simp at h⟩
 | (k,x)::r=>by
  obtain⟨i1,i2⟩:=MN f v r;rw[show AS f v ((k,x)::r)=(if k=f then(k,v)::r else(k,x)::AS f v r)from rfl];by_cases hk:k=f
  ·rw[Y8 hk];subst hk;exact⟨by simp,λg h=>by simpa using h⟩
  ·rw[Y6 hk];refine⟨?_,λg h=>?_⟩
   ·rw[F7];exact C6 _ i1
   ·rw[F7]at h⊢;rcases C3.mp h with e|e
    ·exact C3.mpr (.inl e)
    ·exact C6 _ (i2 g e)
theorem Bv(f:Str)(v:V):∀fs:List (Str×V),(AS f v fs).length<=fs.length+1
 |[]=>by simp[AS]
 | (k,x)::r=>by
  have ih:=Bv f v r;rw[show AS f v ((k,x)::r)=(if k=f then(k,v)::r else(k,x)::AS f v r)from rfl];by_cases hk:k=f
  ·rw[Y8 hk,D4,D4];lia
  ·rw[Y6 hk,D4,D4];lia
theorem IN.some_of{v:V}{o:Option Value}(r:IN (some v) o):∃u,o=some u/\AY v u:=by
 cases o with
 |none=>exact(show False from r).elim
 |some u=>exact⟨u,rfl,r⟩
theorem IN.none_of{o:Option Value}(r:IN none o):o=none:=by
 cases o with
 |none=>rfl
 |some u=>exact(show False from r).elim
theorem Wj{v:V}{u:Value}(r:AY v u):handedIn u=true:=by
 cases v with
 |non=>cases(show u=Value.none from r);rfl
 |bl b=>cases(show u=Value.bool b from r);rfl
 |int i=>obtain⟨t,e⟩:=(show ∃t,u=Value.int i t from r);cases e;rfl
 |str x=>obtain⟨t,e⟩:=(show ∃t,u=Value.str x t from r);cases e;rfl
 |byt b=>obtain⟨t,e⟩:=(show ∃t,u=Value.bytes b t from r);cases e;rfl
 |flt b=>obtain⟨t,e⟩:=(show ∃t,u=Value.float b t from r);cases e;rfl
 |ref a=>cases(show u=Value.ref a from r);rfl
 |ty n=>cases(show u=Value.type n from r);rfl
section
variable{P:Program}{w:World}{H H':Hp}{h h':Heap}{a C dx:Addr}{fs fs':List (Str×V)}
theorem NI(hok:HOk P w H h)(e:H a=some (.ins C dx fs)):∃mA,Uf h a dx C mA/\(∀f,IN (fs.lookup f) (mA f))/\PySem.Within mA (fs.map (·.1))/\fs.length<=1000/\H dx=some (.own a):=by
 obtain⟨d,z,ne,ob,mA,n,r,q⟩:=(show BJ P w H h a (.ins C dx fs)from hok a _ e)
 exact⟨mA,⟨ob,n,ne⟩,r,q,z,d⟩
end
structure Cls(K:PySem.W.Frag)(C:Addr):Prop where
 pg:plainGet K C Str.empty=true
 hd:hasDictIn K C=true
 po:plainOver K C=true
 sa:findIn K (.ref C) "__setattr__" = some (some (.builtin "object.__setattr__"))
theorem Cls.get{K:PySem.W.Frag}{C:Addr}(c:Cls K C)(f:Str):plainGet K C f=true:=c.pg
def BE(K:PySem.W.Frag)(C:Addr)(f:Str):Prop:=findIn K (.ref C) f=some none
theorem BE.taker{K:PySem.W.Frag}{C:Addr}{f:Str}(n:BE K C f):takerIn K C f=some none:=by
 unfold takerIn;rw[show findIn K (.ref C) f=some none from n];rfl
structure Pt(K:PySem.W.Frag)(C:Addr)(m:Str)(f:Addr):Prop where
 at_:findIn K (.ref C) m=some (some (.ref f))
 fn:isFn K (.ref f)=true
 kp:keepIn K (.ref f)=true
section
variable{X:Cx}{pins:List (Addr×Obj)}{σ:St}{H:Hp}{s:Shared}{a C dx:Addr}{fs:List (Str×V)}{f:Str}{v:V}{A:Around}{E:Value->Shared->Prop}
theorem TW{b:Bool}{Q:Value->Shared->Prop}(I:Inv X pins σ H s)(e:H a=some (.ins C dx fs))(c:Cls X.K C)(n:BE X.K C f)(l:fs.lookup f=some v)
  (h:∀u s',Inv X pins σ H s'->AY v u->Q u s'):wpAny (model X.prog X.w) A (getAttr (.ref a) f b) Q E s:=by
 obtain⟨mA,O,r,_,_,_⟩:=NI I.hok e;obtain⟨u,hu,ru⟩:=IN.some_of (v:=v) (o:=mA f) (by rw[<-l];exact r f);exact get_map I.kIn O (c.get f) c.hd n hu (Wj ru) (h u _ (I.tok _) ru)
theorem TV{m:Str}{g:Addr}{pl:Sem Bool}{Q:Value×List Value->Shared->Prop}(I:Inv X pins σ H s)(e:H a=some (.ins C dx fs))(c:Cls X.K C)(k:Pt X.K C m g)(l:fs.lookup m=none)
  (h:Q (.ref g,[.ref a]) s):wpAny (model X.prog X.w) A (getMethod (.ref a) m pl) Q E s:=by
 obtain⟨mA,O,r,_,_,_⟩:=NI I.hok e;have hn:mA m=none:=IN.none_of (by rw[<-l];exact r m);exact Zh I.kIn O (c.get m) k.at_ k.fn hn h
theorem Tj{y:V}{u:Value}{Q:Unit->Shared->Prop}(I:Inv X pins σ H s)(e:H a=some (.ins C dx fs))(c:Cls X.K C)(n:BE X.K C f)(hl:fs.length<1000)(ry:AY y u)
  (h:∀s',Inv X pins σ (upd H a (.ins C dx (AS f y fs))) s'->Q () s'):wpAny (model X.prog X.w) A (setAttr (.ref a) f u) Q E s:=by
 obtain⟨mA,O,r,wi,_,ho⟩:=NI I.hok e;have hz:(fs.map (·.1)).length<=sizeLine:=by rw[B8,sizeLine_eq];lia
 refine set_map I.kIn O c.sa c.po n.taker c.hd wi hz λh' O' sb=>h _ ?_;have hd:∃o,h'.get? dx=some o:=let ⟨o,_,_,e',_⟩:=O'.ns;⟨o,e'⟩;refine I.write (x:=a) (e:=dx) (by rw[e];exact True.intro) (.inr ho) (λb q hb z=>(sb.2 b hb).trans z) hd ?_;refine⟨by rw[As O.ne];exact ho,?_,O.ne,O'.obj,_,O'.ns,λg=>?_,λg hg=>?_⟩
 ·have:=Bv f y fs;lia
 ·show IN ((AS f y fs).lookup g) (if g=f then some u else mA g);rw[Ak];by_cases q:g=f
  ·rw[Y8 q,Y8 q];exact ry
  ·rw[Y6 q,Y6 q];exact r g
 ·by_cases q:g=f
  ·rw[q];exact(MN f y fs).1
  ·refine(MN f y fs).2 g (wi g λz=>hg ?_);show(if g=f then some u else mA g)=none;rw[Y6 q];exact z
theorem Inv.made(I:Inv X pins σ H s):Inv X pins σ (upd (upd H s.heap.objs.size (.own (s.heap.objs.size+1))) (s.heap.objs.size+1) (.ins C s.heap.objs.size []))
  {s with heap:=(s.heap.push emptyDict).push (instObj C s.heap.objs.size)}:=by
 have e1:(s.heap.push emptyDict).get? s.heap.objs.size=some emptyDict:=D3 s.heap rfl;have e2:((s.heap.push emptyDict).push (instObj C s.heap.objs.size)).get? (s.heap.objs.size+1)=some (instObj C s.heap.objs.size):=by
  have:=D3 (s.heap.push emptyDict) (o:=instObj C s.heap.objs.size) rfl
  rwa [P0]at this
 have e3:(s.heap.push emptyDict).Ns s.heap.objs.size (λ_=>none):=⟨emptyDict,#[],_,e1,rfl,(λe he=>absurd he A6),λ_=>rfl⟩
 have I1:=I.laid (a:=s.heap.objs.size) (o:=.own (s.heap.objs.size+1)) (h':=s.heap.push emptyDict) (t':=s.toks) (λb u q=>C2 _ q) (C1 _) ⟨_,e1⟩;refine I1.laid (a:=s.heap.objs.size+1) (o:=.ins C s.heap.objs.size []) (t':=s.toks) (λb u q=>C2 _ q) (Nat.le_of_eq (P0 _ _)) ?_;have ne:s.heap.objs.size≠s.heap.objs.size+1:=J3 (U6 _);refine⟨by rw[As ne,Af],L7 _,ne,e2,λ_=>none,(Heap.Ns1.of_empty e3).at λo q=>C2 _ q,λ_=>True.intro,λy hy=>absurd rfl hy⟩
theorem attr_of{prog:Program}{w:World}{env:Env}{e:Expr}{f:Str}{pos:Pos}{s:Shared}{Q:Value->Shared->Prop}(hb:attributeBase e f env (eval e env)=eval e env)
  (h:wpAny (model prog w) A (eval e env) (λo s₁=>wpAny (model prog w) A (getAttr o f true) Q E s₁) E s):wpAny (model prog w) A (eval (.Attribute e f pos) env) Q E s :=
 Attribute_any_ h (by rw[arm_eval_Attribute,hb])
end
def tFld(K:PySem.W.Frag)(ta:TE)(f:Str):TE:=fun σ H Q=>ta σ H λx H1=>∃a C dx fs v,x=.ref a/\H1 a=some (.ins C dx fs)/\Cls K C/\BE K C f/\fs.lookup f=some v/\Q v H1
def sFld(K:PySem.W.Frag)(ta tv:TE)(f:Str):TS:=λD σ H=>tv σ H λy H1=>ta σ H1 λx H2=>∃a C dx fs,x=.ref a/\H2 a=some (.ins C dx fs)/\Cls K C/\BE K C f/\fs.length<1000 /\
 D.nx σ (upd H2 a (.ins C dx (AS f y fs)))
section
variable{X:Cx}{o e value:Expr}{f:Str}{pos pos' tpos:Pos}{ta tv:TE}
theorem AC(he:PE X e ta)(hb:attributeBase e f X.env (eval e X.env)=eval e X.env):PE X (.Attribute e f pos) (tFld X.K ta f):=by
 intro pins s σ H Q I h;refine attr_of hb (thn (he pins s σ H _ I h) λu s1 ⟨x,H1,I1,rx,a,C,dx,fs,v,ex,ea,c,n,l,q⟩=>?_);subst ex;obtain rfl:u=Value.ref a:=rx;exact TW I1 ea c n l λu' s2 I2 ru=>⟨v,H1,I2,ru,q⟩
theorem Cz(ha:PE X o ta)(hv:PE X value tv)(hs:swapsWith value (some (.Attribute o f pos')) pos.line X.env=pure false):PS X (.Assign [.Attribute o f pos'] value pos) (sFld X.K ta tv f):=by
 intro pins s σ H D I h;refine plainObj_wpAny_Assign_Attribute (thn (hv pins s σ H _ I h) λu s1 ⟨y,H1,I1,ry,q⟩=>thn (ha pins s1 σ H1 _ I1 q) λov s2 ⟨x,H2,I2,rx,a,C,dx,fs,ex,ea,c,n,l,q2⟩=>?_) hs;subst ex;obtain rfl:ov=Value.ref a:=rx;exact Tj I2 ea c n l ry λs3 I3=>⟨σ,_,I3,q2⟩
end
section
variable{X:Cx}{pins:List (Addr×Obj)}{σ:St}{H:Hp}{s:Shared}{A:Around}{E:Value->Shared->Prop}{Q:Value->Shared->Prop}{c:Value}{b:Bool}
inductive MW(K:PySem.W.Frag)(H:Hp):V->Value->Prop where
 |non:MW K H .non (.type "NoneType")
 |bl (x:Bool):MW K H (.bl x) (.type "bool")
 |int (i:Int):MW K H (.int i) (.type "int")
 |str (x:Str):MW K H (.str x) (.type "str")
 |flt (x:UInt64):MW K H (.flt x) (.type "float")
 |lst {a:Addr} {xs:List V} (e:H a=some (.lst xs)):MW K H (.ref a) (.type "list")
 |frz {a:Addr} {o:Obj} {xs:List V} (e:H a=some (.frz o (.lst xs))):MW K H (.ref a) (.type "list")
 |tup {a:Addr} {xs:List V} (e:H a=some (.tup xs)):MW K H (.ref a) (.type "tuple")
 |dK {a:Addr} {kvs:List (Key×V)} (e:H a=some (.dK kvs)):MW K H (.ref a) (.type "dict")
 |dT {a:Addr} {kvs:List (List Key×V)} (e:H a=some (.dT kvs)):MW K H (.ref a) (.type "dict")
 |ins {a C dx:Addr} {fs:List (Str×V)} (e:H a=some (.ins C dx fs)) (cl:Cls K C) (ha:findIn K (.ref C) "__class__" = some (some (.builtin "object.__class__")))
   (hn:specialIn K (.builtin "object.__class__") "__get__" = some (some (.builtin "getset_descriptor.__get__"))) (htk:takesIn K (.builtin "object.__class__")=some true)
   (hm:mroIn K C (.type "object")=some true):MW K H (.ref a) (.ref C)
theorem Wg{x:V}{u t:Value}(I:Inv X pins σ H s)(rx:AY x u)(ty:MW X.K H x t)(e:kitOne X.K t c=some b)(h:∀tk,Q (.bool b) {s with toks:=tk}) :
  wpAny (model X.prog X.w) A (call (.builtin "isinstance") [u,c]) Q E s:=by
 cases ty with
 |non=>cases(show u=Value.none from rx);exact K0 PySem.W.kitx_none I.kIn True.intro e (λz=>nomatch z) h
 |bl y=>cases(show u=Value.bool y from rx);exact K0 PySem.W.kitx_bool I.kIn True.intro e (λz=>nomatch z) h
 |int i=>obtain⟨t,q⟩:=(show ∃t,u=Value.int i t from rx);cases q;exact K0 PySem.W.kitx_int I.kIn True.intro e (λz=>nomatch z) h
 |str y=>obtain⟨t,q⟩:=(show ∃t,u=Value.str y t from rx);cases q;exact K0 PySem.W.kitx_str I.kIn True.intro e (λz=>nomatch z) h
 |flt y=>obtain⟨t,q⟩:=(show ∃t,u=Value.float y t from rx);cases q;exact K0 PySem.W.kitx_float I.kIn True.intro e (λz=>nomatch z) h
 |@lst a xs ea =>
  cases(show u=Value.ref a from rx);obtain⟨_,_,n,_,h1⟩:=(show BJ X.prog X.w H s.heap a (.lst xs)from I.hok a _ ea)
  exact K0 kitx_list I.kIn ⟨_,h1,rfl⟩ e (λz=>nomatch z) h
 |@frz a ob xs ea =>
  cases(show u=Value.ref a from rx);obtain⟨_,_,_,n,_,h1⟩:=(show BJ X.prog X.w H s.heap a (.frz ob (.lst xs))from I.hok a _ ea)
  exact K0 kitx_list I.kIn ⟨_,h1,rfl⟩ e (λz=>nomatch z) h
 |@tup a xs ea =>
  cases(show u=Value.ref a from rx);obtain⟨_,_,_,p⟩:=(show BJ X.prog X.w H s.heap a (.tup xs)from I.hok a _ ea)
  obtain⟨o,h1,h2,_⟩:=p;exact K0 PySem.W.kitx_tuple I.kIn ⟨o,h1,h2⟩ e (λz=>nomatch z) h
 |@dK a kvs ea =>
  cases(show u=Value.ref a from rx);obtain⟨_,_,vs,_,p⟩:=(show BJ X.prog X.w H s.heap a (.dK kvs)from I.hok a _ ea)
  obtain⟨o,es,ep,h1,h2,_⟩:=p;exact K0 kitx_dict I.kIn ⟨o,h1,h2.1⟩ e (λz=>nomatch z) h
 |@dT a kvs ea =>
  cases(show u=Value.ref a from rx);obtain⟨_,_,xs,_,o,es,ep,h1,h2,_⟩:=(show BJ X.prog X.w H s.heap a (.dT kvs)from I.hok a _ ea)
  exact K0 kitx_dict I.kIn ⟨o,h1,h2.1⟩ e (λz=>nomatch z) h
 |@ins a C dx fs ea cl ha hn htk hm =>
  cases(show u=Value.ref a from rx);obtain⟨mA,O,_⟩:=NI I.hok ea;obtain⟨od,J,_⟩:=O.look;exact K0 (PySem.W.kitx_own (cl.get _) cl.hd ha hn htk hm) I.kIn J e (λz=>nomatch z) h
end
structure CO(k:Nat)(A:Around):Prop where
 hd:A.handled=none
 dp:A.depth+3*k+5<recursionLimit
 un:A.units+16*k+200<cLine
theorem CO.mono{j k:Nat}{A:Around}(r:CO k A)(h:j<=k):CO j A:=⟨r.hd,by have:=r.dp;lia,by have:=r.un;lia⟩
theorem CO.deeper{k:Nat}{A:Around}(r:CO (k+1) A)(env:Env):CO k (A.deeper env) :=
 ⟨r.hd,by have:=r.dp;show A.depth+1+3*k+5<_;lia,by have:=r.un;show A.units+3+16*k+200<_;lia⟩
theorem CO.in1{k:Nat}{A:Around}(r:CO (k+1) A):CO k A.in1 :=
 ⟨r.hd,by have:=r.dp;show A.depth+3*k+5<_;lia,by have:=r.un;show A.units+1+16*k+200<_;lia⟩
theorem TM{A:Around}{C:Addr}{us:List Value}{kw:List (Str×Value)}:(A.under (.builtin "type.__call__" ⟨.ref C::us,kw⟩)).depth=A.depth+1:=by
 first|rfl|simp[Around.under,Code.weight,Code.isCreation,Code.isGuard,Code.isCaller,Code.frames,Code.isFrame,guardIds]
theorem TL{A:Around}{C:Addr}{us:List Value}{kw:List (Str×Value)}:(A.under (.builtin "type.__call__" ⟨.ref C::us,kw⟩)).units=A.units+1:=by
 first|rfl|simp[Around.under,Code.cUnits,Code.frames,Code.isFrame]
theorem CO.make{k:Nat}{A:Around}(r:CO (k+1) A)(C:Addr)(us:List Value)(kw:List (Str×Value)):CO k (A.under (.builtin "type.__call__" ⟨.ref C::us,kw⟩)) :=
 ⟨r.hd,by have:=r.dp;rw[TM];lia,by have:=r.un;rw[TL];lia⟩
theorem CO.depth{k:Nat}{A:Around}(r:CO k A):A.depth<recursionLimit:=by have:=r.dp;lia
theorem CO.units{k:Nat}{A:Around}(r:CO k A):A.units+64<cLine:=by have:=r.un;lia
def Pb:TA:=λ_ H Q=>Q [] H
def CH(ta:TE)(tr:TA):TA:=fun σ H Q=>ta σ H λx H1=>tr σ H1 λxs H2=>Q (x::xs) H2
section
variable{X:Cx}{e:Expr}{es:List Expr}{te:TE}{t:TA}{pos:Pos}
theorem Ab:PA X [] Pb:=λ_ _ _ _ H Q I h=>Calls.spliced_nil ⟨[],H,I,.nil,h⟩
theorem Aa(ha:PE X e te)(hr:PA X es t)(hs:starEach (e::es) X.env=(false,eval e X.env)::starEach es X.env:=by rfl):PA X (e::es) (CH te t):=by
 intro pos pins s σ H Q I h;rw[hs];show wpAny _ _ (spliced ((false,eval e X.env)::backTo pos (starEach es X.env))) _ _ s;refine Calls.spliced_cons (thn (ha pins s σ H _ I h) λu s1 ⟨x,H1,I1,r1,q1⟩=>?_);exact thn (hr pos pins s1 σ H1 _ I1 q1) λus s2 ⟨xs,H2,I2,r2,q2⟩=>⟨x::xs,H2,I2,.cons r1 r2,q2⟩
def WD(t:TA):TE:=fun σ H Q=>t σ H λxs H1=>xs.length<=sizeLine/\∀p,H1 p=none->Q (.ref p) (upd H1 p (.tup xs))
def tLst(t:TA):TE:=fun σ H Q=>t σ H λxs H1=>xs.length<=sizeLine/\∀p,H1 p=none->Q (.ref p) (upd H1 p (.lst xs))
theorem EN{x1}(h:PA X es t):PE X (.Tuple es x1 pos) (WD t):=by
 intro pins s σ H Q I hq;refine wpAny_Tuple_spliced (thn (h pos pins s σ H _ I hq) λus s1 ⟨xs,H1,I1,r,z,q⟩=>⟨by rw[<-r.length];exact z,?_⟩);have hf:H1 s1.heap.objs.size=none:=I1.hok.fresh (C1 _);refine⟨.ref s1.heap.objs.size,upd H1 s1.heap.objs.size (.tup xs),I1.laid (t':=s1.toks) (λb u e=>C2 _ e) (C1 _) ?_,rfl,q _ hf⟩;exact⟨z,us,r,⟨_,D3 _ rfl,rfl,_,rfl⟩⟩
theorem BX(h:PA X es t):PE X (.List es pos) (tLst t):=by
 intro pins s σ H Q I hq;refine wpAny_List_spliced (thn (h pos pins s σ H _ I hq) λus s1 ⟨xs,H1,I1,r,z,q⟩=>⟨by rw[<-r.length];exact z,?_⟩);have hf:H1 s1.heap.objs.size=none:=I1.hok.fresh (C1 _);refine⟨.ref s1.heap.objs.size,upd H1 s1.heap.objs.size (.lst xs),I1.laid (t':=s1.toks) (λb u e=>C2 _ e) (C1 _) ?_,rfl,q _ hf⟩;exact⟨z,us,0,r,D3 _ rfl⟩
end
abbrev Sp:=List V->Hp->VK->XK->Prop
abbrev CXT:=List Env->Hp->Shared->XK->Value->Shared->Prop
structure Nw(P:Program)(w:World)(K:PySem.W.Frag)(mg:Str->Option Value)(base:Heap)(A:Around)(outer:List Env)(s:Shared)(H:Hp):Prop where
 frames:A.frames=some outer
 mod:Mod K mg base
 bs:∀b o,base.get? b=some o->s.heap.get? b=some o/\H b=none
 bsz:base.objs.size<=s.heap.objs.size
 funs:s.heap.FunFrames base outer
 frf:∀b∈frs outer,H b=none
 hok:HOk P w H s.heap
 bare:AllBare s.gens
def CE(outer:List Env)(P:Program)(w:World)(H:Hp)(s:Shared)(Q:VK)(u:Value)(s':Shared):Prop :=
 ∃v H',s'.os=s.os/\AllBare s'.gens/\Un (frs outer) [] H H' s.heap s'.heap/\HOk P w H' s'.heap/\AY v u/\Q v H'
def CR(CX:CXT)(outer:List Env)(P:Program)(w:World)(H:Hp)(s:Shared)(Q:VK)(E:XK)(r:Result)(s':Shared):Prop :=
 match r with
 |.ok (.ret u)=>CE outer P w H s Q u s'
 |.ok _=>False
 |.error e=>CX outer H s E e s'
structure AJ(P:Program)(w:World)(K:PySem.W.Frag)(mg:Str->Option Value)(base:Heap)(CX:CXT)(k:Nat)(f:Addr)(fd:FuncData)(ps:List Str)(sp:Sp):Prop where
 len:∀vs H Q E,sp vs H Q E->vs.length=ps.length
 run:∀(A:Around)(outer:List Env)(s:Shared)(H:Hp)(args:Args)(us:List Value)(vs:List V)(Q:VK)(E:XK),CO k A->Nw P w K mg base A outer s H->BindsTo s fd args (ps.zip us)->AM vs us->sp vs H Q E ->
  codeAny (model P w) A (.call (.ref f) args) (CR CX outer P w H s Q E) s
theorem AJ.imp{P:Program}{w:World}{K:PySem.W.Frag}{mg:Str->Option Value}{base:Heap}{CX:CXT}{k:Nat}{f:Addr}{fd:FuncData}{ps:List Str}{sp sp':Sp}(F:AJ P w K mg base CX k f fd ps sp)
  (h:∀vs H Q E,sp' vs H Q E->sp vs H Q E):AJ P w K mg base CX k f fd ps sp' :=
 ⟨λvs H Q E q=>F.len vs H Q E (h _ _ _ _ q),λA outer s H args us vs Q E hr he hb hv hs=>F.run A outer s H args us vs Q E hr he hb hv (h _ _ _ _ hs)⟩
theorem Nw.make{P:Program}{w:World}{K:PySem.W.Frag}{mg:Str->Option Value}{base:Heap}{A:Around}{outer:List Env}{s:Shared}{H:Hp}(e:Nw P w K mg base A outer s H)(C:Addr)(us:List Value)(kw:List (Str×Value)) :
  Nw P w K mg base (A.under (.builtin "type.__call__" ⟨.ref C::us,kw⟩)) outer s H:=⟨by first|exact e.frames|(simpa[Around.under,Code.envs,Code.isFrame,pushEnvs] using e.frames),e.mod,e.bs,e.bsz,e.funs,e.frf,e.hok,e.bare⟩
theorem Nw.in1{P:Program}{w:World}{K:PySem.W.Frag}{mg:Str->Option Value}{base:Heap}{A:Around}{outer:List Env}{s:Shared}{H:Hp}(e:Nw P w K mg base A outer s H) :
  Nw P w K mg base A.in1 outer s H:=⟨e.frames,e.mod,e.bs,e.bsz,e.funs,e.frf,e.hok,e.bare⟩
section
variable{X:Cx}{pins:List (Addr×Obj)}{σ:St}{H:Hp}{s s':Shared}
theorem Inv.env0(I:Inv X pins σ H s):Nw X.prog X.w X.K X.mg X.base X.A X.stack s H :=
 ⟨I.ok.frames,I.ok.mod,I.bs,C9 I.ok.bsz I.sz,I.stack,I.stkFree,I.hok,I.bare⟩
theorem Inv.after{Q:VK}{u:Value}(I:Inv X pins σ H s)(h:CE X.stack X.prog X.w H s Q u s'):EP X pins σ Q u s':=by
 obtain⟨v,H',os,bare,un,hok,r,q⟩:=h;obtain⟨hh,g,d,t,os'⟩:=s';obtain rfl:os'=s.os:=os;exact⟨v,H',I.call (h':=hh) (g':=g) (d':=d) (t':=t) (ch:=[]) un hok bare (λb z=>absurd z A6),r,q⟩
end
def tCall(sp:Sp)(dvs:List V)(E:XK)(t:TA):TE:=fun σ H Q=>t σ H λvs H1=>sp (vs++dvs) H1 Q E
def Uq(C:Addr)(m:Str)(sp:Sp)(dvs:List V)(E:XK)(ta:TE)(t:TA):TE:=fun σ H Q=>ta σ H λx H1=>∃a dx fs,x=.ref a/\H1 a=some (.ins C dx fs)/\fs.lookup m=none /\
 t σ H1 λvs H2=>sp (x::(vs++dvs)) H2 Q E
def Ur(C:Addr)(sp:Sp)(dvs:List V)(E:XK)(t:TA):TE:=fun σ H Q=>t σ H λvs H1=>∀x dx,H1 x=none->H1 dx=none->dx≠x ->
 sp (.ref x::(vs++dvs)) (upd (upd H1 dx (.own x)) x (.ins C dx [])) (λv H2=>v=.non/\Q (.ref x) H2) E
def CV(K:PySem.W.Frag)(fd:FuncData)(ps:List Str)(ds:List Value):Prop :=
 ∀(s:Shared)(us:List Value),K.In s.heap->(us++ds).length=ps.length->BindsTo s fd ⟨us,[]⟩ (ps.zip (us++ds))
theorem CV.all{K:PySem.W.Frag}{fd:FuncData}{ps:List Str}(h:∀us:List Value,us.length=ps.length->bindArgs fd ⟨us,[]⟩=pure (ps.zip us)):CV K fd ps []:=λs us _ hl=>by
 rw[S9]at hl⊢;exact .of_eq (h us hl)
def FP(CX:CXT)(X:Cx)(E:XK):Prop:=∀(pins:List (Addr×Obj))(σ:St)(H:Hp)(s:Shared)(e:Value)(s':Shared),Inv X pins σ H s->CX X.stack H s E e s'->X.xe e s'
section
variable{X:Cx}{CX:CXT}{k:Nat}{f C:Addr}{fd:FuncData}{ps:List Str}{sp:Sp}{dvs:List V}{ds:List Value}{E:XK}{x m:Str}{p pos apos:Pos}{e o:Expr}{es:List Expr}{ta:TE}{t:TA}
theorem WZ{pins:List (Addr×Obj)}{σ:St}{H:Hp}{s:Shared}{Q:VK}{us:List Value}{vs:List V}(F:AJ X.prog X.w X.K X.mg X.base CX k f fd ps sp)(hr:CO k X.A)(hb:CV X.K fd ps ds)(hd:AM dvs ds)(hx:FP CX X E)
  (I:Inv X pins σ H s) (r:AM vs us) (h:sp (vs++dvs) H Q E):wpAny (model X.prog X.w) X.A (call (.ref f) us) (EP X pins σ Q) X.xe s:=by
 have r2:AM (vs++dvs) (us++ds):=r.append hd;have hl:(us++ds).length=ps.length:=by rw[<-r2.length];exact F.len _ _ _ _ h
 refine wpAny_call (A3g (F.run X.A X.stack s H ⟨us,[]⟩ (us++ds) (vs++dvs) Q E hr I.env0 (hb s us I.kIn hl) r2 h) λr s' hq=>?_);cases r with
 |error e=>exact hx pins σ H s e s' I hq
 |ok fl =>
  cases fl with
  |ret u=>exact I.after hq
  |next=>exact False.elim hq
  |brk=>exact False.elim hq
  |cont=>exact False.elim hq
theorem pe_call(F:AJ X.prog X.w X.K X.mg X.base CX k f fd ps sp)(hr:CO k X.A)(hg:Gl X x)(hm:X.mg x=some (.ref f))(hk:keepIn X.K (.ref f)=true)(hb:CV X.K fd ps ds)(hd:AM dvs ds)(hx:FP CX X E)
  (ha:PA X (e::es) t) (hdb:(x==("__debug__" : Str))=false:=by decide) (he:starEach (e::es) X.env=(false,eval e X.env)::starEach es X.env:=by rfl) (hpl:(backTo pos (starEach es X.env)).any (·.1)=false:=by rfl) :
  PE X (.Call (.Name x p) (e::es) [] pos) (tCall sp dvs E t):=by
 intro pins s σ H Q I h;refine A1a (NG I hg hm ?_ hdb);refine A4c (h₀:=X.base) I.ok.mod.kin hk (thn (ha pos pins s σ H _ I h) λus s1 ⟨vs,H1,I1,r,q⟩=>⟨I1.kIn,?_⟩) he hpl;exact WZ F hr hb hd hx I1 r q
theorem pe_meth{pl:Sem Bool}(he:PE X o ta)(c:Cls X.K C)(hm:Pt X.K C m f)(F:AJ X.prog X.w X.K X.mg X.base CX k f fd ps sp)(hr:CO k X.A)(hb:CV X.K fd ps ds)(hd:AM dvs ds)(hx:FP CX X E)(ha:PA X (e::es) t)
  (hst:starEach (e::es) X.env=(false,eval e X.env)::starEach es X.env:=by rfl) (hpl:(backTo pos (starEach es X.env)).any (·.1)=false:=by rfl)
  (ht:eval (.Call (.Attribute o m apos) (e::es) [] pos) X.env=(do
   let ov <-eval o X.env
   standAt apos.atName
   let (f,first) <-holding [ov] (getMethod ov m pl)
   callWith pos f first (backTo pos (starEach (e::es) X.env)) (backToKw pos (keywordEach [] X.env))):=by rfl) :
  PE X (.Call (.Attribute o m apos) (e::es) [] pos) (Uq C m sp dvs E ta t):=by
 intro pins s σ H Q I h;refine PySem.W.methodCall_KW (pl:=pl) (thn (he pins s σ H _ I h) λu s1 ⟨x,H1,I1,rx,a,dx,fs,ex,ea,l,q⟩=>?_) ht;subst ex;obtain rfl:u=Value.ref a:=rx;refine TV I1 ea c hm l ?_;refine A4c (first:=[.ref a]) (h₀:=X.base) I.ok.mod.kin hm.kp (thn (ha pos pins s1 σ H1 _ I1 q) λus s2 ⟨vs,H2,I2,r,q2⟩=>⟨I2.kIn,?_⟩) hst hpl;exact WZ (us:=.ref a::us) (vs:=.ref a::vs) F hr hb hd hx I2 (.cons rfl r) q2
structure Mk(K:PySem.W.Frag)(C f:Addr):Prop where
 makes:makesIn K C=true
 init:findIn K (.ref C) "__init__" = some (some (.ref f))
 fn:isFn K (.ref f)=true
 kp:keepIn K (.ref C)=true
theorem RT{pins:List (Addr×Obj)}{σ:St}{H:Hp}{s:Shared}{Q:VK}{us:List Value}{vs:List V}(M:Mk X.K C f)(F:AJ X.prog X.w X.K X.mg X.base CX k f fd ps sp)(hr:CO (k+1) X.A)(hb:CV X.K fd ps ds)(hd:AM dvs ds)
  (hx:FP CX X E) (I:Inv X pins σ H s) (r:AM vs us)
  (h:∀x dx,H x=none->H dx=none->dx≠x->sp (.ref x::(vs++dvs)) (upd (upd H dx (.own x)) x (.ins C dx [])) (λv H2=>v=.non/\Q (.ref x) H2) E) :
  wpAny (model X.prog X.w) X.A (call (.ref C) us) (EP X pins σ Q) X.xe s:=by
 have hq:=h (s.heap.objs.size+1) s.heap.objs.size (I.hok.fresh (R3 _)) (I.hok.fresh (C1 _)) (J3 (U6 _));have I2:=Inv.made (C:=C) I;have r2:AM (V.ref (s.heap.objs.size+1)::(vs++dvs)) (Value.ref (s.heap.objs.size+1)::(us++ds)):=.cons rfl (r.append hd);have hl:(Value.ref (s.heap.objs.size+1)::us++ds).length=ps.length:=by
  have e:=r2.length;rw[F.len _ _ _ _ hq]at e;exact e.symm
 refine wpAny_call (YL (f:=f) I.kIn M.makes M.init (beq_iff_eq.mp M.fn) (A3g (F.run _ X.stack _ _ ⟨Value.ref (s.heap.objs.size+1)::us,[]⟩ (Value.ref (s.heap.objs.size+1)::(us++ds)) _ _ E (hr.make C us [])
  (I2.env0.make C us []) (hb _ (Value.ref (s.heap.objs.size+1)::us) I2.kIn hl) r2 hq) λr s' hq'=>?_))
 cases r with
 |error e=>exact hx pins σ _ _ e s' I2 hq'
 |ok fl =>
  cases fl with
  |ret u =>
   obtain⟨v,H',I3,rv,ev,q3⟩:=I2.after hq';subst ev;exact⟨rv,⟨V.ref (s.heap.objs.size+1),H',I3,rfl,q3⟩⟩
  |next=>exact False.elim hq'
  |brk=>exact False.elim hq'
  |cont=>exact False.elim hq'
theorem pe_make(M:Mk X.K C f)(F:AJ X.prog X.w X.K X.mg X.base CX k f fd ps sp)(hr:CO (k+1) X.A)(hg:Gl X x)(hm:X.mg x=some (.ref C))(hb:CV X.K fd ps ds)(hd:AM dvs ds)(hx:FP CX X E)
  (ha:PA X (e::es) t) (hdb:(x==("__debug__" : Str))=false:=by decide) (he:starEach (e::es) X.env=(false,eval e X.env)::starEach es X.env:=by rfl) (hpl:(backTo pos (starEach es X.env)).any (·.1)=false:=by rfl) :
  PE X (.Call (.Name x p) (e::es) [] pos) (Ur C sp dvs E t):=by
 intro pins s σ H Q I h;refine A1a (NG I hg hm ?_ hdb);refine A4c (h₀:=X.base) I.ok.mod.kin M.kp (thn (ha pos pins s σ H _ I h) λus s1 ⟨vs,H1,I1,r,q⟩=>⟨I1.kIn,?_⟩) he hpl;exact RT M F hr hb hd hx I1 r q
theorem Yg(M:Mk X.K C f)(F:AJ X.prog X.w X.K X.mg X.base CX k f fd ps sp)(hr:CO (k+1) X.A)(hg:Gl X x)(hm:X.mg x=some (.ref C))(hb:CV X.K fd ps ds)(hd:AM dvs ds)(hx:FP CX X E)
  (hdb:(x==("__debug__" : Str))=false:=by decide):PE X (.Call (.Name x p) [] [] pos) (Ur C sp dvs E Pb):=by
 intro pins s σ H Q I h;refine A1a (NG I hg hm ?_ hdb);exact PySem.W.callWith_K0 I.kIn M.kp (RT (us:=[]) M F hr hb hd hx I .nil h)
end
def PK(X:Cx)(kws:List Keyword)(t:TA):Prop :=
 ∀(pos:Pos)(pins:List (Addr×Obj))(s:Shared)(σ:St)(H:Hp)(Q:List V->Hp->Prop),Inv X pins σ H s->t σ H Q->wpAny (model X.prog X.w) X.A (evalAll ((backToKw pos (keywordEach kws X.env)).map (·.2))) (AP X pins σ Q) X.xe s
section
variable{X:Cx}{CX:CXT}{k:Nat}{f C:Addr}{fd:FuncData}{ps ks:List Str}{sp:Sp}{E:XK}{x m:Str}{p pos apos kpos:Pos}{e o:Expr}{es:List Expr}{kws:List Keyword}{te ta:TE}{t tk:TA}{nm:Option Str}
theorem pk_nil:PK X [] Pb:=λ_ _ _ _ H Q I h=>wpAny_evalAll_nil ⟨[],H,I,.nil,h⟩
theorem pk_cons(ha:PE X e te)(hr:PK X kws t):PK X (⟨nm,e,kpos⟩::kws) (CH te t):=by
 intro pos pins s σ H Q I h;show wpAny _ _ (evalAll ((do let v <-eval e X.env;standAt pos;pure v)::(backToKw pos (keywordEach kws X.env)).map (·.2))) _ _ s;refine wpAny_evalAll_cons (Y5 (thn (ha pins s σ H _ I h) λu s1 ⟨x,H1,I1,r1,q1⟩=>Y5 (A4g (Z0 ?_))));exact thn (hr pos pins s1 σ H1 _ I1 q1) λus s2 ⟨xs,H2,I2,r2,q2⟩=>⟨x::xs,H2,I2,.cons r1 r2,q2⟩
variable{g:List Value->List Value->List Value}{gV:List V->List V->List V}
end
structure Au(N P:List Str)(sc:Scope):Prop where
 kind:sc.kind=.function
 co:sc.isCoroutine=false
 gen:sc.isGenerator=false
 nd:N.Nodup
 pre:N.take P.length=P
 par:∀x∈P,sc.names.lookup x=some .local\/sc.names.lookup x=some .cell
 nofree:∀y∈sc.names,y.2≠.free
theorem Qf{kindOf:Str->Option NameKind}{x:Str}:∀{binds:List (Str×Value)}{m:Str->Option Value},(∀v,(x,v)∉binds)->bindL kindOf binds m x=m x
 |[],_,_=>rfl
 | (n,v)::r,m,h=>by
  unfold bindL;rw[Qf λw hw=>h w (C6 _ hw)];split
  ·have:x≠n:=by rintro rfl;exact h v C7
   simp[this]
  ·rfl
theorem Qh{kindOf:Str->Option NameKind}{x:Str}:∀{binds:List (Str×Value)}{m:Str->Option Value},(∀v,(x,v)∉binds)->bindC kindOf binds m x=m x
 |[],_,_=>rfl
 | (n,v)::r,m,h=>by
  unfold bindC;rw[Qh λw hw=>h w (C6 _ hw)];split
  ·rfl
  ·have:x≠n:=by rintro rfl;exact h v C7
   simp[this]
theorem Qg{kindOf:Str->Option NameKind}{x:Str}{v:Value}:∀{P:List Str}{vs:List Value}{i:Nat}{m:Str->Option Value},P.Nodup->P[i]?=some x->vs[i]?=some v->kindOf x=some .local ->
  bindL kindOf (P.zip vs) m x=some v
 |[],_,_,_,_,h,_,_=>by simp at h
 |_::_,[],_,_,_,_,h,_=>by simp at h
 |p::P,w::vs,0,m,nd,h1,h2,hk=>by
  simp at h1 h2;subst h1;subst h2;show bindL kindOf ((p,w)::P.zip vs) m p=_;unfold bindL;rw[Qf λv hv=>(N4.mp nd).1 (List.of_mem_zip hv).1,Y8 hk];simp
 |p::P,w::vs,i+1,m,nd,h1,h2,hk=>by
  show bindL kindOf ((p,w)::P.zip vs) m x=_;unfold bindL;exact Qg (i:=i) (N4.mp nd).2 (by simpa using h1) (by simpa using h2) hk
theorem Qi{kindOf:Str->Option NameKind}{x:Str}{v:Value}:∀{P:List Str}{vs:List Value}{i:Nat}{m:Str->Option Value},P.Nodup->P[i]?=some x->vs[i]?=some v->kindOf x≠some .local ->
  bindC kindOf (P.zip vs) m x=some v
 |[],_,_,_,_,h,_,_=>by simp at h
 |_::_,[],_,_,_,_,h,_=>by simp at h
 |p::P,w::vs,0,m,nd,h1,h2,hk=>by
  simp at h1 h2;subst h1;subst h2;show bindC kindOf ((p,w)::P.zip vs) m p=_;unfold bindC;rw[Qh λv hv=>(N4.mp nd).1 (List.of_mem_zip hv).1,Y6 hk];simp
 |p::P,w::vs,i+1,m,nd,h1,h2,hk=>by
  show bindC kindOf ((p,w)::P.zip vs) m x=_;unfold bindC;exact Qi (i:=i) (N4.mp nd).2 (by simpa using h1) (by simpa using h2) hk
def Na(N:List Str)(vs:List V):St:=vs.map some++List.replicate (N.length-vs.length) none
def Wp(CX:CXT)(P:Program)(w:World)(K:PySem.W.Frag)(mg:Str->Option Value)(base:Heap)(N:List Str)(qual:Str)(scope:Scope)(f:Addr)(cd:Value)(A:Around)(outer:List Env)(s:Shared)(H:Hp)(E:XK):Cx where
 prog:=P
 w:=w
 K:=K
 mg:=mg
 base:=base
 A:=A.deeper (envOfC qual scope s.heap.objs.size f cd)
 N:=N
 s₀:=s
 H₀:=H
 env:=envOfC qual scope s.heap.objs.size f cd
 outer:=outer
 stack:=envOfC qual scope s.heap.objs.size f cd::outer
 ex:=[]
 calm:=true
 fn:=λ_=>true
 pn:=[]
 xe:=λe s'=>wpAny (model P w) (A.deeper (envOfC qual scope s.heap.objs.size f cd)) (leaving (envOfC qual scope s.heap.objs.size f cd) e) (λ_ s''=>CX outer H s E e s'') (λe' s''=>CX outer H s E e' s'') s'
theorem SN{sc:Scope}{n:Nat}{x:Str}(h:sc.names.lookup x=some .cell):∃c,(cellsFrom n sc.names []).lookup x=some c:=by
 have q:=PySem.W.cellsFrom_some sc.names n [] (.inl h);exact Option.isSome_iff_exists.mp q
theorem Wh{CX:CXT}{P:Program}{w:World}{K:PySem.W.Frag}{mg:Str->Option Value}{base:Heap}{N ps:List Str}{qual:Str}{scope:Scope}{f:Addr}{cd:Value}{A:Around}{outer:List Env}{s s1:Shared}{H:Hp}{E:XK}{us:List Value}{vs:List V}
  (S:Au N ps scope) (hd:A.handled=none) (e0:Nw P w K mg base A outer s H) (hl:vs.length=ps.length) (r:AM vs us)
  (x:InCallC s s.heap.objs.size (bindL (envOfC qual scope s.heap.objs.size f cd).kindOf (ps.zip us) λ_=>none) (cellsFrom (s.heap.objs.size+1) scope.names []) (bindC (envOfC qual scope s.heap.objs.size f cd).kindOf (ps.zip us) λ_=>none) s1) :
  Inv (Wp CX P w K mg base N qual scope f cd A outer s H E) [] (Na N vs) H s1:=by
 have hpl:ps.length<=N.length:=by have:=X6 List.length S.pre;rw[L5]at this;lia
 obtain⟨h1,tk,rfl,hk⟩:=x.done;have noA:∀b:Addr,b∉(Wp CX P w K mg base N qual scope f cd A outer s H E).ex:=λb z=>absurd (show b∈([]:List Addr)from z) A6;refine⟨⟨e0.mod,S.kind,rfl,rfl,C1 _,λy z c h1 h2=>?_,λy hy=>?_,λy c _ h=>?_,λ_=>hd,Around.frames_deeper e0.frames,.inr ⟨rfl,rfl⟩,λb z=>absurd z (noA b),e0.bs,e0.bsz,λb _ _=>noA b,λb z=>absurd z (noA b),e0.funs,e0.frf⟩,
  rfl,e0.bare,Un.kept hk,⟨_,x.toInCall.ns,λi y v h1 h2 h3=>?_⟩,λy c h=>⟨_,x.cell y c h⟩,e0.hok.fresh (C1 _),λy c h=>?_,λp hp=>absurd (show p∈([]:List (Addr×Obj))from hp) A6,e0.hok.kept hk,?_⟩
 ·exact name_of_addr x.apart (K7 h1) (K7 h2)
 ·have hy:scope.names.lookup y=some .cell\/scope.names.lookup y=some .free:=hy;rcases hy with hy|hy
  ·exact SN hy
  ·exact absurd rfl (S.nofree _ (K7 hy))
 ·exact T6 (x.above y c (K7 h))
 ·have hi:i<vs.length:=by
   unfold Na at h2;by_cases hi:i<vs.length
   ·exact hi
   ·rw[J6 (by simpa using hi)]at h2;rw[U9]at h2;split at h2<;>cases h2
  have ha:vs[i]?=some v:=by
   unfold Na at h2;rw[M4 (by simpa using hi),C0]at h2;cases e:vs[i]? with
   |none=>rw[e]at h2;cases h2
   |some a=>rw[e]at h2;cases h2;rfl
  obtain⟨u,hu,rv⟩:=r.get ha;have hp:ps[i]?=some y:=by
   rw[<-S.pre,U5 A0];exact h1
  have ndP:ps.Nodup:=by rw[<-S.pre];exact S.nd.sublist (List.take_sublist _ _)
  refine⟨u,rv,?_⟩;rcases S.par y (D1 hp)with k|k
  ·exact .inl ⟨k,Qg ndP hp hu k⟩
  ·obtain⟨c,e⟩:=SN (n:=s.heap.objs.size+1) k;refine .inr ⟨.inl k,c,e,?_⟩;have q:=x.cell y c e;rw[Qi ndP hp hu (by show scope.names.lookup y≠_;rw[k];decide)]at q;exact q
 ·exact e0.hok.fresh (T6 (x.above y c (K7 h)))
 ·unfold Na;show _=N.length;rw[C4,B8,M9];lia
theorem fn_of{CX:CXT}{P:Program}{w:World}{K:PySem.W.Frag}{mg:Str->Option Value}{base:Heap}{k:Nat}{f:Addr}{name qual:Str}{params:Arguments}{body:List Stmt}{scope:Scope}{dV kV doc pm cdv ct oc:Value}{an od:Option Addr}
  {osl:Array (Option Value)} {N ps:List Str} {sp:Sp} (lk:K.lookup f=some ⟨oc,od,.func (PySem.W.fnOf name qual params body scope dV kV doc pm an cdv ct),osl⟩) (hcd:PySem.W.codeIn K cdv qual=true) (S:Au N ps scope)
  (len:∀vs H Q E,sp vs H Q E->vs.length=ps.length)
  (hbody:∀(A:Around)(outer:List Env)(s:Shared)(H:Hp)(vs:List V)(Q:VK)(E:XK),CO k (A.deeper (envOfC qual scope s.heap.objs.size f cdv))->sp vs H Q E ->
   ∃t,PSs (Wp CX P w K mg base N qual scope f cdv A outer s H E) body t/\t {nx:=λ_ H'=>Q .non H',rt:=Q} (Na N vs) H) :
  AJ P w K mg base CX (k+1) f (PySem.W.fnOf name qual params body scope dV kV doc pm an cdv ct) ps sp:=by
 refine⟨len,λA outer s H args us vs Q E hr e0 hb r hsp=>?_⟩;have hl:=len _ _ _ _ hsp;have KX:K.In s.heap:=e0.mod.kin.keeps λb o e=>(e0.bs b o e).1;have lim:s.heap.NoLimit:=e0.mod.nolimit.keeps λb o e=>(e0.bs b o e).1;have hkind:∀y∈ps.zip us,scope.names.lookup y.1=some .local\/(scope.names.lookup y.1=some .cell/\((cellsFrom (s.heap.objs.size+1) scope.names []).lookup y.1).isSome=true):=λ⟨n,v⟩ hy=>by
  rcases S.par n (List.of_mem_zip hy).1 with q|q
  ·exact .inl q
  ·exact .inr ⟨q,PySem.W.cellsFrom_some _ _ _ (.inl q)⟩
 refine codeAny_call_function hr.depth (KX _ _ lk) rfl S.co S.gen rfl (PySem.W.codeRec_of KX hcd) (hb _ _ _ _ ?_);refine wpAny_newFunctionEnv_cells S.kind hkind λenv he s1 x=>?_;subst he;refine⟨lim.keeps x.toInCall.keep,codeAny_func ?_⟩;obtain⟨t,ht,hq⟩:=hbody A outer s H vs Q E (hr.deeper _) hsp;have I:Inv (Wp CX P w K mg base N qual scope f cdv A outer s H E) [] (Na N vs) H s1:=Wh S hr.hd e0 hl r x;refine K9 (ht [] s1 (Na N vs) H _ I hq) (λfl s' hs=>?_) λe s' hs=>hs;have fin:∀{σ':St}{H':Hp}{v:V}{u:Value},Inv (Wp CX P w K mg base N qual scope f cdv A outer s H E) [] σ' H' s'->AY v u->Q v H'->CE outer P w H s Q u s' :=
  λ{σ' H' v u} J rv q=>⟨v,H',J.os,J.bare,J.base,J.hok,rv,q⟩
 cases fl with
 |ret u =>
  obtain⟨v,σ',H',J,rv,q⟩:=hs;exact fin J rv q
 |next =>
  obtain⟨σ',H',J,q⟩:=hs;exact fin (v:=V.non) (u:=Value.none) J rfl q
 |brk =>
  obtain⟨_,_,_,q⟩:=hs;exact False.elim q
 |cont =>
  obtain⟨_,_,_,q⟩:=hs;exact False.elim q
section
variable{X:Cx}{x:Str}{p pos:Pos}{e:Expr}{es:List Expr}{t:TA}{id T:String}{r:List V->Hp->VK->Prop}
def tCB(r:List V->Hp->VK->Prop)(t:TA):TE:=fun σ H Q=>t σ H λvs H1=>r vs H1 Q
theorem AR(hc:FQ X (.builtin id) r)(hg:Gl X x)(hm:X.mg x=none)(hv:bootBuiltins x=some (.builtin id))(ha:PA X (e::es) t)(hn:x≠"__name__" := by decide)(hdb:(x==("__debug__" : Str))=false:=by decide)
  (he:starEach (e::es) X.env=(false,eval e X.env)::starEach es X.env:=by rfl) (hpl:(backTo pos (starEach es X.env)).any (·.1)=false:=by rfl):PE X (.Call (.Name x p) (e::es) [] pos) (tCB r t):=by
 intro pins s σ H Q I h;refine A1a (Jn I hg hm hv ?_ hn hdb);exact PyProof.Rows.callWith_builtin1 (thn (ha pos pins s σ H _ I h) λus s1 ⟨vs,H1,I1,r1,q1⟩=>hc pins s1 σ H1 vs us Q I1 r1 q1) he hpl
theorem Ba(hc:FQ X (.type T) r)(hg:Gl X x)(hm:X.mg x=none)(hv:bootBuiltins x=some (.type T))(ha:PA X (e::es) t)(hn:x≠"__name__" := by decide)(hdb:(x==("__debug__" : Str))=false:=by decide)
  (he:starEach (e::es) X.env=(false,eval e X.env)::starEach es X.env:=by rfl) (hpl:(backTo pos (starEach es X.env)).any (·.1)=false:=by rfl):PE X (.Call (.Name x p) (e::es) [] pos) (tCB r t):=by
 intro pins s σ H Q I h;refine A1a (Jn I hg hm hv ?_ hn hdb);exact K8 (thn (ha pos pins s σ H _ I h) λus s1 ⟨vs,H1,I1,r1,q1⟩=>hc pins s1 σ H1 vs us Q I1 r1 q1) he hpl
end
end L2
namespace HT
open PySem PyProof.Rows
section
open PySem.SeqAt
open PySem.AutoSeq1 (wpAny_loadPart')
open PySem.MeetsSeq PySem.MeetsSeq2 PySem.MeetsSeq3
end
section
variable{prog:Program}{w:World}{A:Around}{E:Value->Shared->Prop}{s:Shared}
def sIx(n d:Nat):Option Int->Nat
 |none=>d
 |some v=>if v<0 then(v+(n:Int)).toNat else min v.toNat n
end
end HT
namespace L2
open PySem PySem.Spec PyProof.Rows
abbrev TO:=St->Hp->(Option Int->Hp->Prop)->Prop
def PO(X:Cx)(e:Option Expr)(t:TO):Prop :=
 ∀(pins:List (Addr×Obj))(s:Shared)(σ:St)(H:Hp)(Q:Option Int->Hp->Prop),Inv X pins σ H s->t σ H Q ->
  wpAny (model X.prog X.w) X.A (evalPart e X.env) (λu s'=>∃o H',Inv X pins σ H' s'/\IsPart u o/\Q o H') X.xe s
def tNoPart:TO:=λ_ H Q=>Q none H
def tPart(t:TE):TO:=fun σ H Q=>t σ H λx H1=>∃i,x=.int i/\Q (some i) H1
section
variable{X:Cx}{e:Expr}{te:TE}{lo hi:Option Expr}{tl th:TO}{pos p2:Pos}
theorem po_none:PO X none tNoPart:=by
 intro pins s σ H Q I h;rw[evalPart_none];exact Z0 ⟨none,H,I,.none,h⟩
theorem QF(h:PE X e te):PO X (some e) (tPart te):=by
 intro pins s σ H Q I hw;rw[evalPart_some];refine thn (h pins s σ H _ I hw) λu s1 ⟨x,H1,I1,r1,q1⟩=>?_;obtain⟨i,rfl,q⟩:=q1;obtain⟨t,rfl⟩:=r1;exact⟨some i,H1,I1,.int i t,q⟩
def SlR(X:Cx)(r:V->Option Int->Option Int->Hp->VK->Prop):Prop :=
 ∀(pins:List (Addr×Obj))(s:Shared)(σ:St)(H:Hp)(x:V)(v vl vu:Value)(lo hi:Option Int)(sl:Addr)(Q:VK),Inv X pins σ H s->AY x v->s.heap.IsSliceOf sl vl vu .none->IsPart vl lo->IsPart vu hi->r x lo hi H Q ->
  ∃T id,typeLookup (.type T) "__getitem__" = pure (some (.builtin id))/\s.TypeIs v T/\wpAny (model X.prog X.w) X.A (getItem v (.ref sl)) (EP X pins σ Q) X.xe s
def tSl(r:V->Option Int->Option Int->Hp->VK->Prop)(te:TE)(tl th:TO):TE:=fun σ H Q=>te σ H λx H1=>tl σ H1 λl H2=>th σ H2 λu H3=>r x l u H3 Q
theorem Sd{r:V->Option Int->Option Int->Hp->VK->Prop}(hr:SlR X r)(he:PE X e te)(hl:PO X lo tl)(hu:PO X hi th):PE X (.Subscript e (.Slice lo hi none p2) pos) (tSl r te tl th):=by
 intro pins s σ H Q I h;refine Subscript_ (thn (he pins s σ H _ I h) λv s1 ⟨x,H1,I1,r1,q1⟩=>?_);refine wpAny_Slice (thn (hl pins s1 σ H1 _ I1 q1) λvl s2 ⟨l,H2,I2,pl,q2⟩=>thn (hu pins s2 σ H2 _ I2 q2) λvu s3 ⟨u,H3,I3,pu,q3⟩=>?_);rw[evalPart_none];refine Z0 ?_;have I4:Inv X pins σ H3 {s3 with heap:=s3.heap.push {cls:=.type "slice",data:=.fields #[vl,vu,.none]} }:=I3.kept (t':=s3.toks) λb ob q=>C2 _ q;obtain⟨T,id,hT,ht,hg⟩:=hr pins {s3 with heap:=s3.heap.push {cls:=.type "slice",data:=.fields #[vl,vu,.none]} } σ H3 x v vl vu l u s3.heap.objs.size Q I4 r1 (Heap.IsSliceOf.new ..) pl pu q3;show wpAny (model X.prog X.w) X.A (subscriptTail e (.Slice lo hi none p2) v (.ref s3.heap.objs.size)) (EP X pins σ Q) X.xe {s3 with heap:=s3.heap.push {cls:=.type "slice",data:=.fields #[vl,vu,.none]} };exact tail_any (ops:=[.ref s3.heap.objs.size,v]) ht hT hg (by with_unfolding_all rfl)
def TZ(xs:List V)(lo hi:Option Int):List V:=(xs.drop (HT.sIx xs.length 0 lo)).take (HT.sIx xs.length xs.length hi-HT.sIx xs.length 0 lo)
theorem SH(xs:List V)(lo hi:Option Int):(TZ xs lo hi).length<=xs.length:=by
 unfold TZ;rw[L5,List.length_drop];lia
end
def ixN(n:Nat)(i:Int):Option Nat:=if 0<=i then(if i<n then some i.toNat else none)else if -(n:Int)<=i then some (i+n).toNat else none
def atI{α:Type}(xs:List α)(i:Int):Option α:=(ixN xs.length i).bind λj=>xs[j]?
theorem Vc{n:Nat}{i:Int}{j:Nat}(h:ixN n i=some j):seqIndex? i n=some j/\j<n/\-(n:Int)<=i/\i<n:=by
 unfold ixN at h;by_cases h0:0<=i
 ·rw[Y8 h0]at h;by_cases h1:i<n
  ·rw[Y8 h1]at h;have e:i.toNat=j:=Z2 h;exact⟨by rw[seqIndex_of h0 h1,e],by lia,by lia,h1⟩
  ·rw[Y6 h1]at h;cases h
 ·rw[Y6 h0]at h;by_cases h1:-(n:Int)<=i
  ·rw[Y8 h1]at h;have e:(i+n).toNat=j:=Z2 h;exact⟨by rw[seqIndex_neg A0 h1,e],by lia,h1,by lia⟩
  ·rw[Y6 h1]at h;cases h
theorem Rp{α:Type}{xs:List α}{i:Int}{v:α}(h:atI xs i=some v):∃j,seqIndex? i xs.length=some j/\xs[j]?=some v/\j<xs.length/\-(xs.length:Int)<=i/\i<xs.length:=by
 unfold atI at h;cases e:ixN xs.length i with
 |none=>rw[e]at h;cases h
 |some j =>
  rw[e]at h;obtain⟨h1,h2,h3,h4⟩:=Vc e;exact⟨j,h1,h,h2,h3,h4⟩
theorem Ai{α:Type}{xs:List α}{j:Nat}{v:α}(h:xs[j]?=some v):atI xs (j:Int)=some v:=by
 have hj:j<xs.length:=(B9.mp h).1;have e:ixN xs.length (j:Int)=some j:=by
  unfold ixN;rw[Y8 A0,Y8 A0];simp
 unfold atI;rw[e];exact h
def PlainIx(b:Expr):Prop:=∀o i,subscripted b false o i=operate [o,i] (getItem o i)
def IxR(X:Cx)(r:R2):Prop :=
 ∀(value slice:Expr)(pins:List (Addr×Obj))(s:Shared)(σ:St)(H:Hp)(x y:V)(v u:Value)(Q:VK),Inv X pins σ H s->AY x v->AY y u->r x y H Q ->
  subscripted slice false v u=operate [v,u] (getItem v u)->wpAny (model X.prog X.w) X.A (subscriptTail value slice v u) (EP X pins σ Q) X.xe s
def MtR(X:Cx)(id:String)(r:V->List V->Hp->VK->Prop):Prop :=
 ∀(pins:List (Addr×Obj))(s:Shared)(σ:St)(H:Hp)(x:V)(xs:List V)(v:Value)(us:List Value)(Q:VK),Inv X pins σ H s->AY x v->AM xs us->r x xs H Q ->
  wpAny (model X.prog X.w) X.A (call (.builtin id) (v::us)) (EP X pins σ Q) X.xe s
section
variable{X:Cx}{a b:Expr}{ta tb:TE}{pos:Pos}
theorem Aj{r:R2}(hr:IxR X r)(ha:PE X a ta)(hb:PE X b tb)(hs:PlainIx b):PE X (.Subscript a b pos) (tOp r ta tb):=by
 intro pins s σ H Q I h;exact Subscript_ (binT ha hb I h λv u s2 x y H2 I2 rx ry q=>hr a b pins s2 σ H2 x y v u Q I2 rx ry q (hs _ _))
def rIxL(K:PySem.W.Frag):R2:=λx y H Q=>∃p xs i v,x=.ref p/\y=.int i/\SqL K H p xs/\atI xs i=some v/\Q v H
def JG(K:PySem.W.Frag):R2:=λx y H Q=>∃p xs i v,x=.ref p/\y=.int i/\SqT K H p xs/\atI xs i=some v/\Q v H
def rIxS:R2:=λx y H Q=>∃z i c,x=.str z/\y=.int i/\z.length<=sizeLine/\atI z.cps.toList i=some c/\Q (.str ⟨#[c]⟩) H
theorem Ax:IxR X (rIxL X.K):=by
 intro value slice pins s σ H x y v u Q I rx ry h hs;obtain⟨p,xs,i,z,rfl,rfl,hq,he,q⟩:=h;cases rx;obtain⟨t,rfl⟩:=ry;obtain⟨its,r,pl,hz⟩:=I.list hq;obtain⟨j,h1,h2,h3,h4,h5⟩:=Rp he;obtain⟨w,ew,rw'⟩:=r.get h2;have hl:=r.length;have hn:=ML;have fin:EP X pins σ Q w s:=⟨z,H,I,rw',q⟩
 by_cases h0:0<=i
 ·have hj:i.toNat=j:=by
   rw[seqIndex_of h0 h5]at h1;exact Z2 h1
  exact item_listR pl.isList h0 A0 (by rw[hj];simpa using ew) fin hs
 ·have hj:(i+(its.toArray.size:Int)).toNat=j:=by
   rw[seqIndex_neg A0 h4]at h1;rw[F1,<-hl];exact Z2 h1
  exact subscriptTail_builtinR (x:=w) pl.isList.typeIs slot_list_getitem.lookup
   (wpAny_getItem_list_neg (Q:=λr s'=>r=w/\EP X pins σ Q r s') pl.isList A0 (by rw[F1]<;>lia) A0 (by rw[hj];simpa using ew) ⟨rfl,fin⟩) hs
theorem Am:IxR X (JG X.K):=by
 intro value slice pins s σ H x y v u Q I rx ry h hs;obtain⟨p,xs,i,z,rfl,rfl,hq,he,q⟩:=h;cases rx;obtain⟨t,rfl⟩:=ry;obtain⟨its,r,pl,hz⟩:=I.tuple hq;obtain⟨j,h1,h2,h3,h4,h5⟩:=Rp he;obtain⟨w,ew,rw'⟩:=r.get h2;have hl:=r.length;have hn:=ML;have fin:EP X pins σ Q w s:=⟨z,H,I,rw',q⟩
 exact subscriptTail_builtinR (x:=w) pl.typeIs slot_tuple_getitem.lookup
  (getItem_tuple (j:=j) (Q:=λr s'=>r=w/\EP X pins σ Q r s') pl A0 A0 (by rw[F1,<-hl];exact h1) (by simpa using ew) ⟨rfl,fin⟩) hs
theorem Zc:IxR X rIxS:=by
 intro value slice pins s σ H x y v u Q I rx ry h hs;obtain⟨z,i,c,rfl,rfl,hz,he,q⟩:=h;obtain⟨t,rfl⟩:=rx;obtain⟨t',rfl⟩:=ry;obtain⟨j,h1,h2,h3,h4,h5⟩:=Rp he;have hl:z.cps.toList.length=z.length:=by simp[Str.length]
 rw[hl]at h1 h4 h5;have hn:=ML;exact tail_any (A3h s z t) slot_str_getitem.lookup (getItem_str (c:=c) (by
  have e1:decide (i < -(2^63:Int))=false:=Y9 A0;have e2:decide (i ≥ 2^63)=false:=Y9 A0;rw[e1,e2,Bool.or_false]) (by rw[h1];simpa using h2) ⟨.str ⟨#[c]⟩,H,I.tok _,⟨_,rfl⟩,q⟩) hs
theorem TK(its:List Value)(n j:Nat)(u:Value):Obj.mapSeq (·.setIfInBounds j u) {cls:=.type "list",data:=.seq its.toArray n}={cls:=.type "list",data:=.seq (its.set j u).toArray n}:=by
 simp[Obj.mapSeq]
theorem Inv.lst{pins:List (Addr×Obj)}{σ:St}{H:Hp}{s:Shared}{p:Addr}{xs:List V}(I:Inv X pins σ H s)(h:H p=some (.lst xs)) :
  ∃(its:List Value)(n:Nat),AM xs its/\s.heap.get? p=some {cls:=.type "list",data:=.seq its.toArray n}/\xs.length<=sizeLine:=by
 obtain⟨z,its,n,r,e⟩:=I.hok p _ h;exact⟨its,n,r,e,z⟩
theorem Inv.lstUpd{pins:List (Addr×Obj)}{σ:St}{H:Hp}{s:Shared}{p:Addr}{xs ys:List V}{its its':List Value}{n n':Nat}{f:Obj->Obj}(I:Inv X pins σ H s)(h:H p=some (.lst xs))
  (ho:s.heap.get? p=some {cls:=.type "list",data:=.seq its.toArray n}) (hf:f {cls:=.type "list",data:=.seq its.toArray n}={cls:=.type "list",data:=.seq its'.toArray n'}) (r:AM ys its') (hz:ys.length<=sizeLine) (t:Nat) :
  Inv X pins σ (upd H p (.lst ys)) {s with heap:=s.heap.update p f,toks:=t}:=by
 have e:(s.heap.update p f).get? p=some {cls:=.type "list",data:=.seq its'.toArray n'}:=by
  rw[W0 f ho (by rw[hf]<;>rfl),hf]
 refine I.write (x:=p) (e:=p) (by rw[h];trivial) (.inl rfl) (λb u hb q=>(V6 _ _ (Z1 hb)).trans q) ⟨_,e⟩ ?_;exact⟨hz,its',n',r,e⟩
def rSetL:V->V->V->Hp->(Hp->Prop)->Prop:=λo i v H Q=>∃p xs k j,o=.ref p/\i=.int k/\H p=some (.lst xs)/\ixN xs.length k=some j/\Q (upd H p (.lst (xs.set j v)))
theorem WW:PSet X rSetL:=by
 intro pins s σ H o i v ov iv u Q I ro ri rv h;obtain⟨p,xs,k,j,rfl,rfl,hp,hj,q⟩:=h;cases ro;obtain⟨t,rfl⟩:=ri;obtain⟨its,n,r,ho,hz⟩:=I.lst hp;obtain⟨h1,h2,h3,h4⟩:=Vc hj;have hl:=r.length;have hn:=ML;have I':Inv X pins σ (upd H p (.lst (xs.set j v))) {s with heap:=s.heap.update p (Obj.mapSeq (·.setIfInBounds j u))} :=
  I.lstUpd hp ho (TK its n j u) (r.set rv j) (by rw[List.length_set];exact hz) s.toks
 by_cases h0:0<=k
 ·have hk:k.toNat=j:=by
   rw[seqIndex_of h0 h4]at h1;exact Z2 h1
  exact PySem.W.ki_setAt ho h0 A0 (by rw[F1,<-hl];exact h4) (by rw[hk];exact⟨_,I',q⟩)
 ·have hk:(k+(its.toArray.size:Int)).toNat=j:=by
   rw[seqIndex_neg A0 h3]at h1;rw[F1,<-hl];exact Z2 h1
  exact PySem.W.ki_setBack ho A0 (by rw[F1,<-hl];exact h3) A0 (by rw[hk];exact⟨_,I',q⟩)
theorem Qz(lo hi:Option Int)(n:Nat):(sliceBounds lo hi none n).1=((HT.sIx n 0 lo:Nat):Int)/\(sliceBounds lo hi none n).2.1=((HT.sIx n n hi:Nat):Int)/\(sliceBounds lo hi none n).2.2=1:=by
 refine⟨?_,?_,rfl⟩
 ·cases lo with
  |none=>simp[sliceBounds,HT.sIx]
  |some i =>
   simp only[sliceBounds,HT.sIx,Option.getD_none,show(1:Int) > 0 by decide,A2e];by_cases h:i<0
   ·simp only[h,A2e]<;>lia
   ·simp only[h,A1g]<;>lia
 ·cases hi with
  |none=>simp[sliceBounds,HT.sIx]
  |some i =>
   simp only[sliceBounds,HT.sIx,Option.getD_none,show(1:Int) > 0 by decide,A2e];by_cases h:i<0
   ·simp only[h,A2e]<;>lia
   ·simp only[h,A1g]<;>lia
theorem Pc(its:List Value)(lo hi:Option Int):slicePick its.toArray lo hi none=((its.drop (HT.sIx its.length 0 lo)).take (HT.sIx its.length its.length hi-HT.sIx its.length 0 lo)).toArray:=by
 obtain⟨h1,h2,h3⟩:=Qz lo hi its.toArray.size;unfold slicePick;rw[h1,h2,h3];simp only[sliceRange_one,pick_run,F1]<;>rfl
def rSlL(K:PySem.W.Frag):V->Option Int->Option Int->Hp->VK->Prop:=λx lo hi H Q=>∃a xs,x=.ref a/\SqL K H a xs/\∀p,H p=none->Q (.ref p) (upd H p (.lst (TZ xs lo hi)))
theorem UE:SlR X (rSlL X.K):=by
 intro pins s σ H x v vl vu lo hi sl Q I rx hs pl pu h;obtain⟨a,xs,rfl,hx,q⟩:=h;cases rx;obtain⟨its,r,ht,hz⟩:=I.list hx;have hlen:=r.length;refine⟨"list",_,slot_list_getitem.lookup,ht.isList.typeIs,?_⟩;refine wpAny_getItem_list_slice ht.isList hs pl pu .none A6 ?_ (by rw[F1]<;>lia);rw[Pc,<-hlen];refine⟨.ref s.heap.objs.size,_,I.laid (t':=s.toks) (o:=.lst (TZ xs lo hi)) (λb ob q=>C2 _ q) (C1 _) ?_,rfl,q _ (I.hok.fresh (C1 _))⟩;exact⟨C9 (SH xs lo hi) hz,_,0,(r.drop (HT.sIx xs.length 0 lo)).take (HT.sIx xs.length xs.length hi-HT.sIx xs.length 0 lo),D3 _ rfl⟩
def LX:V->Bool
 |.non=>true
 |.bl _=>true
 |.int _=>true
 |.str _=>true
 |_=>false
def eqV:V->V->Bool
 |.non,.non=>true
 |.bl a,.bl b=>a==b
 |.bl a,.int b=>(if a then 1 else 0)==b
 |.int a,.bl b=>a==(if b then 1 else 0)
 |.int a,.int b=>a==b
 |.str a,.str b=>a==b
 |_,_=>false
theorem eqAt_V{A:Around}{s:Shared}{y x:V}{u v:Value}(ry:AY y u)(rx:AY x v)(fy:LX y=true)(fx:LX x=true):SeqAt.EqAt A s u v (eqV y x):=by
 cases y with
 |non =>
  cases ry;cases x with
  |non=>cases rx;exact SeqAt.EqAt.same _
  |bl b=>cases rx;exact SeqAt.EqAt.none_bool b
  |int b=>obtain⟨t,rfl⟩:=rx;exact SeqAt.EqAt.none_int b t
  |str b=>obtain⟨t,rfl⟩:=rx;exact SeqAt.EqAt.none_str b t
  |_=>exact absurd (show false=true from fx) D0
 |bl a =>
  cases ry;cases x with
  |non=>cases rx;exact SeqAt.EqAt.bool_none a
  |bl b=>cases rx;exact SeqAt.EqAt.bool_bool a b
  |int b=>obtain⟨t,rfl⟩:=rx;exact SeqAt.EqAt.bool_int a b t
  |str b=>obtain⟨t,rfl⟩:=rx;exact SeqAt.EqAt.bool_str a b t
  |_=>exact absurd (show false=true from fx) D0
 |int a =>
  obtain⟨t',rfl⟩:=ry;cases x with
  |non=>cases rx;exact SeqAt.EqAt.int_none a t'
  |bl b=>cases rx;exact SeqAt.EqAt.int_bool a t' b
  |int b=>obtain⟨t,rfl⟩:=rx;exact SeqAt.EqAt.int_int a t' b t
  |str b=>obtain⟨t,rfl⟩:=rx;exact SeqAt.EqAt.int_str a t' b t
  |_=>exact absurd (show false=true from fx) D0
 |str a =>
  obtain⟨t',rfl⟩:=ry;cases x with
  |non=>cases rx;exact SeqAt.EqAt.str_none a t'
  |bl b=>cases rx;exact SeqAt.EqAt.str_bool a t' b
  |int b=>obtain⟨t,rfl⟩:=rx;exact SeqAt.EqAt.str_int a t' b t
  |str b=>obtain⟨t,rfl⟩:=rx;exact SeqAt.EqAt.str_str a t' b t
  |_=>exact absurd (show false=true from fx) D0
 |_=>exact absurd (show false=true from fy) D0
def eqU(x:V)(u:Value):Bool:=match u with
 |.none=>eqV .non x
 |.bool b=>eqV (.bl b) x
 |.int i _=>eqV (.int i) x
 |.str z _=>eqV (.str z) x
 |_=>false
theorem Zq{x y:V}{u:Value}(r:AY y u)(f:LX y=true):eqU x u=eqV y x:=by
 cases y with
 |non=>cases r;rfl
 |bl b=>cases r;rfl
 |int i=>obtain⟨t,rfl⟩:=r;rfl
 |str z=>obtain⟨t,rfl⟩:=r;rfl
 |_=>exact absurd (show false=true from f) D0
theorem Rs{x:V}:∀{xs:List V}{us:List Value},AM xs us->xs.all LX=true->us.any (eqU x)=xs.any λy=>eqV y x
 |_,_,.nil,_=>rfl
 |y::xs,u::us,.cons r t,f=>by
  rw[List.all_cons,P9]at f;rw[S6,S6,Zq r f.1,Rs t f.2]
theorem OH{A:Around}{s:Shared}{x:V}{v:Value}(rx:AY x v)(fx:LX x=true):∀{xs:List V}{us:List Value},AM xs us->xs.all LX=true->∀u∈us,SeqAt.EqAt A s u v (eqU x u)
 |_,_,.nil,_=>λu hu=>by cases hu
 |y::xs,u::us,.cons r t,f=>λu' hu=>by
  rw[List.all_cons,P9]at f;rcases C3.mp hu with rfl|hu
  ·rw[Zq r f.1];exact eqAt_V r rx f.1 fx
  ·exact OH rx fx t f.2 u' hu
def inV(x:V)(xs:List V):Bool:=xs.any λy=>eqV y x
def rIn(K:PySem.W.Frag)(neg:Bool):R2:=λx y H Q=>∃p xs,y=.ref p/\(SqL K H p xs\/SqT K H p xs)/\LX x=true/\xs.all LX=true/\Q (.bl (if neg then !inV x xs else inV x xs)) H
theorem MC:OpR X (compareOp .In) (rIn X.K false):=by
 intro pins s σ H x y v u Q I rx ry h;obtain⟨p,xs,rfl,hq,fx,fs,q⟩:=h;cases ry;rcases hq with hq|hq
 ·obtain⟨its,r,pl,hz⟩:=I.list hq;refine SeqAt.in_listAt (eqU x) pl.isList (λw hw=>OH rx fx r fs w (by simpa using hw)) ⟨.bl _,H,I,rfl,?_⟩;rw[show its.toArray.any (eqU x)=its.any (eqU x) by simp,Rs r fs];exact q
 ·obtain⟨its,r,pl,hz⟩:=I.tuple hq;refine SeqAt.in_tupleAt (eqU x) pl (λw hw=>OH rx fx r fs w (by simpa using hw)) ⟨.bl _,H,I,rfl,?_⟩;rw[show its.toArray.any (eqU x)=its.any (eqU x) by simp,Rs r fs];exact q
theorem Cf:FQ X (.builtin "len") (λxs H Q=>∃p ys,xs=[.ref p]/\(SqL X.K H p ys\/SqT X.K H p ys)/\Q (.int ys.length) H):=by
 intro pins s σ H xs us Q I r h;obtain⟨p,ys,rfl,hq,q⟩:=h;obtain⟨u,rfl,rx⟩:=NP r;cases rx;have hn:=ML;rcases hq with hq|hq
 ·obtain⟨its,r',pl,hz⟩:=I.list hq;have hlen:=r'.length;exact Calls.call_len_list pl.isList (by simp only[F1]<;>lia) ⟨.int ys.length,H,I.tok _,⟨s.toks+1,by rw[F1,hlen]⟩,q⟩
 ·obtain⟨its,r',pl,hz⟩:=I.tuple hq;have hlen:=r'.length;exact len_tuple pl (by simp only[F1]<;>lia) ⟨.int ys.length,H,I.tok _,⟨s.toks+1,by rw[F1,hlen]⟩,q⟩
theorem IB:FQ X (.builtin "len") (λxs H Q=>∃z,xs=[.str z]/\z.length<=sizeLine/\Q (.int z.length) H):=by
 intro pins s σ H xs us Q I r h;obtain⟨z,rfl,hz,q⟩:=h;obtain⟨u,rfl,t,rfl⟩:=NP r;have hn:=ML;exact len_str A0 ⟨.int z.length,H,I.tok _,⟨_,rfl⟩,q⟩
theorem Rn:FQ X (.type "list") (λxs H Q=>∃p ys,xs=[.ref p]/\(SqL X.K H p ys\/SqT X.K H p ys)/\∀l,H l=none->Q (.ref l) (upd H l (.lst ys))):=by
 intro pins s σ H xs us Q I r h;obtain⟨p,ys,rfl,hq,q⟩:=h;obtain⟨u,rfl,rx⟩:=NP r;cases rx;have fin:∀(its:List Value),AM ys its->ys.length<=sizeLine->∀(h':Heap)(c':Nat),(∀b o',s.heap.get? b=some o'->h'.get? b=some o') ->
   h'.get? s.heap.objs.size=some {cls:=.type "list",dict:=none,data:=.seq its.toArray c',slots:=#[]}->EP X pins σ Q (.ref s.heap.objs.size) {s with heap:=h'}:=λits r' hz h' c' kp e =>
  ⟨.ref s.heap.objs.size,_,I.laid (t':=s.toks) kp (C1 _) (show BJ X.prog X.w _ h' _ (.lst ys)from⟨hz,its,c',r',e⟩),rfl,q _ (I.hok.fresh (C1 _))⟩
 rcases hq with hq|hq
 ·obtain⟨its,r',pl,hz⟩:=I.list hq;have hlen:=r'.length;obtain⟨o,ho,hc,n,hd⟩:=pl.isList;exact call_list_seq p (.inl rfl) ho hc hd (λh' c' kp e=>fin its r' hz h' c' kp e) (by simp only[F1]<;>lia)
 ·obtain⟨its,r',pl,hz⟩:=I.tuple hq;have hlen:=r'.length;obtain⟨o,ho,hc,n,hd⟩:=pl;exact call_list_seq p (.inr rfl) ho hc hd (λh' c' kp e=>fin its r' hz h' c' kp e) (by simp only[F1]<;>lia)
theorem Ch:FQ X (.type "tuple") (λxs H Q=>∃p ys,xs=[.ref p]/\((SqL X.K H p ys/\∀l,H l=none->Q (.ref l) (upd H l (.tup ys)))\/(SqT X.K H p ys/\Q (.ref p) H))):=by
 intro pins s σ H xs us Q I r h;obtain⟨p,ys,rfl,h⟩:=h;obtain⟨u,rfl,rx⟩:=NP r;cases rx;rcases h with ⟨hq,q⟩|⟨hq,q⟩
 ·obtain⟨its,r',pl,hz⟩:=I.list hq;have hlen:=r'.length;refine call_tuple_list pl.isList (λh' kp=>?_) (by simp only[F1]<;>lia);have I1:Inv X pins σ H {s with heap:=h'}:=I.kept (t':=s.toks) kp
  have I2:Inv X pins σ (upd H h'.objs.size (.tup ys)) {s with heap:=h'.push {cls:=.type "tuple",data:=.seq its.toArray} } :=
   I1.laid (t':=s.toks) (λb o e=>C2 _ e) (C1 _) (show BJ X.prog X.w _ _ _ (.tup ys)from⟨hz,its,r',IsTup.new _ _⟩)
  exact⟨.ref h'.objs.size,_,I2,rfl,q _ (I1.hok.fresh (C1 _))⟩
 ·obtain⟨its,r',pl,hz⟩:=I.tuple hq;exact call_tuple_same pl ⟨.ref p,H,I,rfl,q⟩
def tyV(K:PySem.W.Frag)(T:String)(x:V)(H:Hp):Prop:=match x with
 |.str _=>T="str"
 |.int _=>T="int"
 |.ref p=>(T="list" /\ ∃xs,SqL K H p xs)\/(T="tuple" /\ ∃o,K.lookup p=some o/\o.cls=.type "tuple" /\ o.dict=none) \/
   (T="dict" /\ ((∃kvs,H p=some (.dK kvs))\/∃kvs,H p=some (.dT kvs)))\/(T="set" /\ ∃S n,H p=some (.set S n))
 |_=>False
theorem tyV_is{pins:List (Addr×Obj)}{σ:St}{H:Hp}{s:Shared}{T:String}{x:V}{v:Value}(I:Inv X pins σ H s)(r:AY x v)(ty:tyV X.K T x H) :
  s.TypeIs v T/\∀a,v=.ref a->∃ob,s.heap.get? a=some ob/\ob.dict=none:=by
 cases x with
 |str z =>
  obtain⟨t,rfl⟩:=r;cases(show T="str" from ty);exact⟨A3h s z t,λ_ e=>nomatch e⟩
 |int i =>
  obtain⟨t,rfl⟩:=r;cases(show T="int" from ty);exact⟨typeIs_int s i t,λ_ e=>nomatch e⟩
 |ref p =>
  cases r;rcases ty with ⟨rfl,xs,hq⟩|⟨rfl,o,hk,hc,hd⟩|⟨rfl,hk⟩|⟨rfl,S,n,hk⟩
  ·obtain⟨its,_,pl,_⟩:=I.list hq;refine⟨pl.isList.typeIs,λa e=>?_⟩;cases e;obtain⟨o,n,e,c,hd,_⟩:=pl;exact⟨o,e,hd⟩
  ·refine⟨⟨o,I.kIn p o hk,hc⟩,λa e=>?_⟩;cases e;exact⟨o,I.kIn _ o hk,hd⟩
  ·have z:∃o,s.heap.get? p=some o/\o.ExactDict:=by
    rcases hk with ⟨kvs,hk⟩|⟨kvs,hk⟩
    ·obtain⟨_,_,_,_,o,_,_,e,ex,_⟩:=I.hok p _ hk;exact⟨o,e,ex⟩
    ·obtain⟨_,_,_,_,o,_,_,e,ex,_⟩:=I.hok p _ hk;exact⟨o,e,ex⟩
   obtain⟨o,e,ex⟩:=z;refine⟨⟨o,e,ex.1⟩,λa e2=>?_⟩;cases e2;exact⟨o,e,ex.2.1⟩
  ·obtain⟨o,_,_,_,e,ex,_⟩:=I.hok p _ hk;refine⟨⟨o,e,ex.1⟩,λa e2=>?_⟩;cases e2;exact⟨o,e,ex.2.1⟩
 |_=>exact False.elim ty
def tBM(K:PySem.W.Frag)(T:String)(r:V->List V->Hp->VK->Prop)(to:TE)(t:TA):TE:=fun σ H Q=>to σ H λx H1=>tyV K T x H1/\t σ H1 λxs H2=>r x xs H2 Q
variable{o e:Expr}{es:List Expr}{to:TE}{t:TA}{name:Str}{apos cpos:Pos}{T id:String}{r:V->List V->Hp->VK->Prop}
theorem CS(pa:PlainAttrs T)(slot:Slot T name id)(hty:typeOf (.builtin id)=pure (.type "method_descriptor"))(hm:MtR X id r)(ho:PE X o to)(ha:PA X (e::es) t)
  (hbase:attributeBase o name X.env (eval o X.env)=eval o X.env:=by rfl)
  (hfew:((backTo cpos (starEach (e::es) X.env)).all (λx=>!x.1) && (backToKw cpos (keywordEach [] X.env)).all (λx=>x.1.isSome)
   && decide ((e::es).length+([]:List Keyword).length+(if([]:List Keyword).isEmpty then 0 else 1)<30))=true:=by rfl)
  (hline:(apos.endLine==cpos.line)=true:=by rfl) (hs:starEach (e::es) X.env=(false,eval e X.env)::starEach es X.env:=by rfl) (hplain:(backTo cpos (starEach es X.env)).any (·.1)=false:=by rfl) :
  PE X (.Call (.Attribute o name apos) (e::es) [] cpos) (tBM X.K T r to t):=by
 intro pins s σ H Q I h;refine wpAny_Call_method_late hbase hfew hline rfl (thn (ho pins s σ H _ I h) λv s1 ⟨x,H1,I1,r1,ty,q1⟩=>?_);obtain⟨h1,h2⟩:=tyV_is I1 r1 ty;refine⟨T,id,pa,slot,hty,h1,h2,?_⟩;have hA:=ha cpos pins s1 σ H1 _ I1 q1;rw[hs]at hA⊢;refine Calls.callWith_builtin (by show(false || (backTo cpos (starEach es X.env)).any (·.1))=false;rw[hplain]<;>rfl) (Calls.evalArgs_plain ?_);exact thn hA λus s2 ⟨vs,H2,I2,r2,q2⟩=>hm pins s2 σ H2 x vs v us Q I2 r1 r2 q2
end
def MtM(X:Cx)(id:String)(r:V->List V->Hp->VK->Prop):Prop :=
 ∀(pins:List (Addr×Obj))(s:Shared)(σ:St)(H:Hp)(x:V)(xs:List V)(v:Value)(us:List Value)(Q:VK),Inv X pins σ H s->AY x v->AM xs us->r x xs H Q ->
  wpAny (model X.prog X.w) X.A (call (.builtin id) (v::us)) (EP X pins σ Q) X.xe s
theorem AM.one:∀{x:V}{us:List Value},AM [x] us->∃u,us=[u]/\AY x u
 |_,_,.cons r .nil=>⟨_,rfl,r⟩
theorem AM.two:∀{x y:V}{us:List Value},AM [x,y] us->∃u v,us=[u,v]/\AY x u/\AY y v:=by
 intro x y us h;cases h with
 |cons r t=>cases t with
  |cons q t=>cases t;exact⟨_,_,rfl,r,q⟩
theorem AM.rep{xs:List V}{us:List Value}(h:AM xs us):∀k:Nat,AM (List.replicate k xs).flatten (List.replicate k us).flatten
 |0=>.nil
 |k+1=>by
  rw[P6,P6,R0,R0];exact AM.append h (AM.rep h k)
theorem PR(its:List Value):∀(k:Nat)(acc:List Value),
  List.foldl (λx1 x2=>x1++x2) acc.toArray (List.replicate k its.toArray)=(acc++(List.replicate k its).flatten).toArray
 |0,acc=>by simp
 |k+1,acc=>by
  have e:acc.toArray++its.toArray=(acc++its).toArray:=by simp
  have e2:(acc++its)++(List.replicate k its).flatten=acc++(List.replicate (k+1) its).flatten:=by
   rw[P6,R0,R1]
  rw[<-e2,<-PR its k (acc++its),<-e,P6,R9]
section
variable{X:Cx}{pins:List (Addr×Obj)}{σ:St}{H:Hp}{s:Shared}{l b:Addr}{xs ys zs:List V}
theorem Inv.lset{its its':List Value}{n:Nat}{f:Array Value->Array Value}{t':Nat}(I:Inv X pins σ H s)(hH:H l=some (.lst xs))
  (e:s.heap.get? l=some {cls:=.type "list",data:=.seq its.toArray n}) (hf:f its.toArray=its'.toArray) (hv:AM ys its') (hz:ys.length<=sizeLine) :
  Inv X pins σ (upd H l (.lst ys)) {s with heap:=s.heap.update l (Obj.mapSeq f),toks:=t'}:=by
 have q:=PySem.IsL.update e f;rw[hf]at q;refine I.write (x:=l) (e:=l) (by rw[hH];exact trivial) (.inl rfl) (λb' u hb hu=>(V6 s.heap (Obj.mapSeq f) (Z1 hb)).trans hu) ⟨_,q⟩ ?_;exact⟨hz,its',_,hv,q⟩
theorem Inv.lnew{its:List Value}{t':Nat}(I:Inv X pins σ H s)(hv:AM ys its)(hz:ys.length<=sizeLine) :
  Inv X pins σ (upd H s.heap.objs.size (.lst ys)) {s with heap:=s.heap.push {cls:=.type "list",data:=.seq its.toArray},toks:=t'} :=
 I.laid (λ_ _ q=>C2 _ q) (C1 _) ⟨hz,its,0,hv,D3 _ rfl⟩
theorem Inv.fresh(I:Inv X pins σ H s):H s.heap.objs.size=none:=I.hok.fresh (C1 _)
theorem Inv.lstM(I:Inv X pins σ H s)(hH:H l=some (.lst xs)):xs.length<=sizeLine/\∃(its:List Value)(n:Nat),AM xs its/\xs.length=its.length/\s.heap.get? l=some {cls:=.type "list",data:=.seq its.toArray n}:=by
 obtain⟨z,its,n,r,e⟩:=I.hok l _ hH;exact⟨z,its,n,r,r.length,e⟩
theorem YA{n:Nat}(h:n<=sizeLine):Builtin.List.listTooLong n=false:=by
 unfold Builtin.List.listTooLong;exact Y9 A0
end
section
variable{X:Cx}
def UK:V->List V->Hp->VK->Prop:=λx vs H Q=>∃l xs y,x=.ref l/\vs=[y]/\H l=some (.lst xs)/\xs.length<sizeLine/\Q .non (upd H l (.lst (xs++[y])))
theorem BD:MtM X "list.append" UK:=by
 intro pins s σ H x vs v us Q I rx rv h;obtain⟨l,xs,y,rfl,rfl,hH,hz,q⟩:=h;cases rx;obtain⟨u,rfl,ru⟩:=rv.one;obtain⟨z,its,n,r,hl,e⟩:=I.lstM hH;refine A2c F.slot_list_append ⟨_,e,rfl⟩ F.entry_list_append (F.args_list_append_2 _ _) (PySem.list_append l its.toArray n u (by rw[F1];lia)) ⟨e,?_⟩;refine⟨.non,_,I.lset (its':=its++[u]) hH e A6 (r.append (.cons ru .nil)) ?_,rfl,q⟩;rw[C4,Q8];lia
def rCat:R2:=λx y H Q=>∃l b xs zs,x=.ref l/\y=.ref b/\H l=some (.lst xs)/\H b=some (.lst zs)/\xs.length+zs.length<=sizeLine/\∀p,H p=none->Q (.ref p) (upd H p (.lst (xs++zs)))
theorem QJ:OpR X (binaryOp .Add) rCat:=by
 intro pins s σ H x y v u Q I rx ry h;obtain⟨l,b,xs,zs,rfl,rfl,hH,hB,hz,q⟩:=h;cases rx;cases ry;obtain⟨z,its,n,r,hl,e⟩:=I.lstM hH;obtain⟨z2,its2,n2,r2,hl2,e2⟩:=I.lstM hB;refine PySem.P.add_list e e2 ?_ (by rw[F1,F1];lia);have ea:its.toArray++its2.toArray=(its++its2).toArray:=by simp
 rw[ea];exact⟨.ref _,_,I.lnew (t':=s.toks) (r.append r2) (by rw[C4];lia),rfl,q _ I.fresh⟩
def rRep:R2:=λx y H Q=>∃l k xs,x=.ref l/\y=.int k/\H l=some (.lst xs)/\-(2^63)<=k/\k<2^63/\xs.length*k.toNat<=sizeLine /\
 ∀p,H p=none->Q (.ref p) (upd H p (.lst (List.replicate k.toNat xs).flatten))
theorem len_rep{α:Type}(xs:List α)(k:Nat):(List.replicate k xs).flatten.length=k*xs.length:=by
 induction k with
 |zero=>simp
 |succ k ih=>rw[P6,R0,C4,ih,V3,T7]
theorem op_rep:OpR X (binaryOp .Mult) rRep:=by
 intro pins s σ H x y v u Q I rx ry h;obtain⟨l,k,xs,rfl,rfl,hH,h1,h2,hz,q⟩:=h;cases rx;obtain⟨t,rfl⟩:=ry;obtain⟨z,its,n,r,hl,e⟩:=I.lstM hH;have hlen:its.toArray.size*k.toNat<=sizeLine:=by rw[F1,<-hl];exact hz
 have hcap:¬its.toArray.size*k.toNat > (2^63-1)/8:=by
  have:(sizeLine:Nat)<=(2^63-1)/8:=by decide
  lia
 have hfit:¬(!Builtin.List.listFitsIndex k)=true:=by
  rw[fitsIndex_both h1 h2];exact D0
 have hlong:¬Builtin.List.listTooLong (its.toArray.size*k.toNat)=true:=by
  rw[YA hlen];exact D0
 have hnew:List.foldl (λx1 x2=>x1++x2) #[] (List.replicate (if its.toArray.isEmpty=true then 0 else k.toNat) its.toArray)=(List.replicate k.toNat its).flatten.toArray:=by
  have f0:∀m:Nat,List.foldl (λx1 x2=>x1++x2) #[] (List.replicate m its.toArray)=(List.replicate m its).flatten.toArray:=λm=>by
   have:=PR its m [];rw[List.nil_append]at this;exact this
  rw[f0];cases its with
  |nil=>simp
  |cons a r'=>rw[Y6 A6]
 refine wpAny_binaryOp_repeat_ref (T:="list") (U:="int") A4 ⟨_,e,rfl⟩ (λs'=>typeIs_int s' k t) noFill_list_mul F.fills_int_mul F.slot_int_rmul repeat_list F.slot_int_index.lookup
  (A2c F.slot_int_rmul (typeIs_int s k t) F.entry_int_rmul (F.args_int_rmul_2 _ _) (int___rmul___int_list k t l its.toArray n)
   ⟨e,rfl,⟨_,e,rfl⟩,A2c F.slot_list_mul ⟨_,e,rfl⟩ F.entry_list_mul (F.args_list_mul_2 _ _) (AutoListH.list___mul___list_int_3 l its.toArray n k t hfit hcap hlong) ⟨e,?_⟩⟩)
 rw[hnew];exact⟨.ref _,_,I.lnew (t':=s.toks) (r.rep k.toNat) (by rw[len_rep,T4];exact hz),rfl,q _ I.fresh⟩
end
section
variable{prog:Program}{w:World}{A:Around}{E:Value->Shared->Prop}{s:Shared}
end
section
variable{X:Cx}
end
end L2
namespace Att
open PySem PySem.W PySem.Calls PyProof.Rows
theorem Nr{P:Params}{h:Heap}:∀(ns:List Int)(vs:List Value),WellAll P h vs (ns.map WData.int)->IntsAre vs ns:=by
 intro ns;induction ns with
 |nil =>
  intro vs w;rw[W9]at w;cases w;exact .nil
 |cons n ns ih =>
  intro vs w;rw[F7]at w;cases w with
  |cons a b =>
   cases a;exact .cons _ _ (ih _ b)
theorem VH{l:OpenLaw}{n:Nat}(hn:l.most=some n){P:Params}{h:Heap}{args:List WData}{vals:List Value}
  (hpre:l.row.toRowW.claim.pre args=true) (hwl:WellAll P h vals args) :
  ∃a vs ns,vals=[Value.ref a]/\args=[WData.list (ns.map WData.int)]/\h.get? a=some {cls:=.type "list",data:=.seq vs.toArray}/\IntsAre vs ns/\ns.length<=n:=by
 have hsh:WShape.hasAll [] args [.list .int]=true:=(pre_splitW hpre).1;have hc:l.pre.holds [] {args:=args}=true:=(pre_splitW hpre).2;obtain⟨d,r,rfl,h1,h2⟩:=hasAllW_cons hsh;obtain rfl:=hasAllW_nil h2;obtain⟨xs,rfl,h3⟩:=hasW_list h1;obtain⟨ns,rfl⟩:=items_int h3;have hlen:ns.length<=n:=by
  unfold OpenLaw.pre at hc;have h4:(WTm.not (.lt (.lit (.int (n:Int))) (.len (.arg 0)))).holds [] {args:=[.list (ns.map .int)]}=true:=by
   have h4:=(holds_andW hc).1;rw[hn]at h4;exact h4
  have h5:=condW_of h4 (w_not (w_lt w_lit (w_len_list (w_arg rfl))));rw[B8]at h5;refine O8 λq=>?_;have q':(n:Int)<((ns.length:Nat):Int):=by lia
  first
   | (rw[Y7 q']at h5;exact absurd h5 A4)
   | (simp at h5;lia)
 cases hwl with
 |cons w1 w2 =>
  cases w2;cases w1 with
  |list ho hall=>exact⟨_,_,ns,rfl,rfl,ho,Nr ns _ hall,hlen⟩
theorem VI(l:OpenLaw)(args:List WData):l.row.toRowW.claim.post args (.bool true) args=true :=
 postW_of (r:=l.row.toRowW) (X:=(true==true))
  (show WShape.has [] (.bool true) .bool=true by first|rfl|decide|simp[WShape.has,WShape.arms,WShape.armsAll])
  (show(WTm.eq .res (.lit (.bool true))).value [] {args:=args,res:=some (.bool true),after:=args}=some (.bool (true==true))from w_eq_bool (w_res rfl) w_lit) rfl
theorem SS{l:OpenLaw}{n:Nat}{q:Program}{loose:List Str}{XP:(Str->Option Value)->Heap->Prop}{YP:World->Heap->Prop}{d:DefRec}
  (hn:l.most=some n) (hdf:d.params.defaults=[])
  (call:∀(w:World)(s₀ s₁:Shared)(mg mb:Str->Option Value)(fa:Addr)(o:Obj)(pm cd doc:Value)(a:Addr)(vs:List Value)(ns:List Int),
   Ground q loose [] XP w s₀ mg mb s₁.heap->YP w s₁.heap ->
   s₁.heap.get? fa=some o->o.data=.func (docDef d.name d.params d.body d.scope pm cd doc)->s₁.heap.CodeRec cd d.name->mg d.name=some (.ref fa) ->
   s₁.heap.get? a=some {cls:=.type "list",data:=.seq vs.toArray}->IntsAre vs ns->ns.length<=n->s₁.gens=#[] ->
   codeAny (model l.prog w) callerA (.call (.ref fa) ⟨[.ref a],[]⟩) (λr s'=>r=.ok (.ret (.bool true))/\OldK s₁.heap s'.heap/\s'.os=s₁.os/\AllBare s'.gens) s₁) :
  WalkO q loose XP YP l.row.toRowW d [] (λf vs=>PySem.call f vs):=by
 intro w s₀ s₁ mg mb G Y fa o pm cd doc dV kV ho hd hcd hD hmg hg args vals as hpre hlay hrd hwl hlo;obtain rfl:dV=.none:=Dflts.none hD hdf;obtain rfl:kV=.none:=Dflts.noKw hD;obtain⟨a,vs,ns,rfl,rfl,hobj,hints,hlen⟩:=VH hn hpre hwl;refine enter_call (A3g (call w s₀ s₁ mg mb fa o pm cd doc a vs ns G Y ho (fd_plain hd) hcd hmg hobj hints hlen hg) λr s' hq=>?_);obtain⟨rfl,h2,h3,h4⟩:=hq;exact⟨.inl ⟨.bool true,.bool true,[],rfl,λ_=>rfl,.bool true,VI l _,λ_=>⟨List.Pairwise.nil,λ_ hm=>(nomatch hm)⟩⟩,h2,h3,h4⟩
section
variable{prog:Program}{w:World}{A:Around}{E:Value->Shared->Prop}{s:Shared}{K:Frag}
end
end Att
namespace L2
open PySem PySem.Spec PyProof.Rows
theorem Py:∀{vs:List Value}{ns:List Int},IntsAre vs ns->AM (ns.map V.int) vs
 |_,_,.nil=>.nil
 |_,_,.cons n t h=>.cons ⟨t,rfl⟩ (Py h)
def Only(H:Hp):Prop:=∀b,H b=none\/∃o xs,H b=some (.frz o (.lst xs))
theorem YS{P:Program}{w:World}{K:PySem.W.Frag}{mg mb:Str->Option Value}{CX:CXT}{k:Nat}{fa a:Addr}{fd:FuncData}{x:Str}{sp:Sp}{s₁:Shared}{vs:List Value}{ns:List Int}
  (KX:K.In s₁.heap) (hns:s₁.heap.Ns mainGlobals mg) (hb:s₁.heap.Ns builtinsNs mb) (hbb:∀x:Str,x≠"__name__" -> mb x=bootBuiltins x) (hlim:s₁.heap.NoLimit) (hg:s₁.gens=#[])
  (ha:s₁.heap.get? a=some {cls:=.type "list",data:=.seq vs.toArray}) (hi:IntsAre vs ns) (hl:ns.length<=sizeLine) (hr:CO k callerA)
  (F:∀base:Heap,K.In base->base.Ns mainGlobals mg->AJ P w K mg base CX k fa fd [x] sp) (hbind:∀(s:Shared)(u:Value),BindsTo s fd ⟨[u],[]⟩ [(x,u)])
  (hsp:∀H:Hp,Only H->SqL K H a (ns.map V.int)->sp [.ref a] H (λv _=>v=.bl true) λ_ _ _=>False)
  (hCX:∀H e s',CX [] H s₁ (λ_ _ _=>False) e s'->False) :
  codeAny (model P w) callerA (.call (.ref fa) ⟨[.ref a],[]⟩) (λr s'=>r=.ok (.ret (.bool true))/\OldK s₁.heap s'.heap/\s'.os=s₁.os/\AllBare s'.gens) s₁:=by
 have rv:=Py hi;have lenV:=hi.length;have core:∀H:Hp,Only H->SqL K H a (ns.map V.int)->HOk P w H s₁.heap->(∀b,H b≠none->b=a)->(H a≠none->K.lookup a=none) ->
   codeAny (model P w) callerA (.call (.ref fa) ⟨[.ref a],[]⟩) (λr s'=>r=.ok (.ret (.bool true))/\OldK s₁.heap s'.heap/\s'.os=s₁.os/\AllBare s'.gens) s₁:=by
  intro H hO hS hok hA hK;have base_of:∀{b:Addr}{o:Obj},s₁.heap.get? b=some o->H b=none->(Rf s₁.heap H).get? b=some o:=λe n=>Zd e n;have noA:∀{b:Addr}{o:Obj}{es:Array DictEntry}{ep:Nat},s₁.heap.get? b=some o->o.data=.dict es ep->H b=none:=λ{b o es ep} e d=>by
   cases q:H b with
   |none=>rfl
   |some u =>
    have e':b=a:=hA b (by rw[q];simp);subst e';rw[ha]at e;cases e;have d':Data.seq vs.toArray _=Data.dict es ep:=d;cases d'
  have nsK:∀{b:Addr}{m:Str->Option Value},s₁.heap.Ns b m->(Rf s₁.heap H).Ns b m:=λ{b m} ⟨o,es,ep,e,d,r⟩=>⟨o,es,ep,base_of e (noA e d),d,r⟩
  have hKb:K.In (Rf s₁.heap H):=λb o e=>base_of (KX b o e) (by
   cases q:H b with
   |none=>rfl
   |some u =>
    have e':b=a:=hA b (by rw[q];simp);subst e';rw[hK (by rw[q];simp)]at e;cases e)
  have hM:Mod K mg (Rf s₁.heap H):=⟨hKb,nsK hns,⟨mb,nsK hb,hbb⟩,let ⟨mc,h1,h2⟩:=hlim;⟨mc,nsK h1,h2⟩⟩
  have e0:Nw P w K mg (Rf s₁.heap H) callerA [] s₁ H:=⟨rfl,hM,λb o e=>of_hidT e,Nat.le_of_eq (Wi _ _),trivial,λb hb=>absurd (show b∈([]:List Addr)from hb) A6,hok,.of_eq hg⟩
  refine A3g ((F _ hKb (nsK hns)).run callerA [] s₁ H ⟨[.ref a],[]⟩ [.ref a] [.ref a] _ _ hr e0 (hbind s₁ (.ref a)) (.cons rfl .nil) (hsp H hO hS)) λr s' h=>?_;cases r with
  |error e=>exact(hCX H e s' h).elim
  |ok fl =>
   cases fl with
   |next=>exact False.elim h
   |brk=>exact False.elim h
   |cont=>exact False.elim h
   |ret u =>
    obtain⟨v,H',os,bare,un,hok',r',q⟩:=h;have q':v=.bl true:=q;subst q';obtain rfl:u=Value.bool true:=r';refine⟨rfl,OldK.of_keep λb o e=>?_,os,bare⟩;cases q:H b with
    |none=>exact un.keep b o e q (by intro z;exact absurd (show b∈([]:List Addr)from z) A6) A6
    |some u =>
     rcases hO b with z|⟨ob,xs,z⟩
     ·rw[q]at z;cases z
     ·have z2:=un.frzs b ob _ z;obtain⟨e1,_⟩:=hok b _ z;obtain⟨e2,_⟩:=hok' b _ z2;rw[e]at e1;cases e1;exact e2
 cases hk:K.lookup a with
 |some o =>
  have e:=KX a o hk;rw[ha]at e;cases e;refine core (λ_=>none) (λ_=>.inl rfl) (.inr ⟨_,vs.toArray,_,hk,rfl,rfl,rfl,by rw[F1,lenV];exact hl,by simpa using rv⟩) (λb u z=>by have z':(none:Option HO)=some u:=z;cases z') (λb z=>absurd rfl z) λz=>absurd rfl z
 |none =>
  refine core (λb=>if b=a then some (.frz {cls:=.type "list",data:=.seq vs.toArray} (.lst (ns.map V.int)))else none) (λb=>?_) (.inl (.inr ⟨{cls:=.type "list",data:=.seq vs.toArray},Y8 rfl⟩)) (λb u z=>?_) (λb z=>?_) λ_=>hk
  ·by_cases hb:b=a
   ·exact .inr ⟨_,_,Y8 hb⟩
   ·exact .inl (Y6 hb)
  ·by_cases hb:b=a
   ·have z':=(Y8 hb).symm.trans z;cases z';subst hb;exact⟨ha,by rw[B8];exact hl,vs,_,rv,ha⟩
   ·have z':=(Y6 hb).symm.trans z;cases z'
  ·by_cases hb:b=a
   ·exact hb
   ·exact absurd (Y6 hb) z
theorem Uh{l:PySem.W.OpenLaw}{n k:Nat}{q:Program}{loose:List Str}{XP:(Str->Option Value)->Heap->Prop}{YP:World->Heap->Prop}{d:DefRec}{K:Params->PySem.W.Frag}{CX:World->CXT}{sp:World->Sp}{x:Str}
  (hn:l.most=some n) (hn2:n<=sizeLine) (hdf:d.params.defaults=[]) (hr:CO k callerA)
  (hY:∀(w:World)(h:Heap),YP w h->(K w.params).In h)
  (F:∀(w:World)(mg:Str->Option Value)(fa:Addr)(h:Heap),(K w.params).In h->h.Ns mainGlobals mg->mg d.name=some (.ref fa) ->
   ∃fd:FuncData,(∀(s:Shared)(u:Value),BindsTo s fd ⟨[u],[]⟩ [(x,u)]) /\
    ∀base:Heap,(K w.params).In base->base.Ns mainGlobals mg->AJ l.prog w (K w.params) mg base (CX w) k fa fd [x] (sp w))
  (hsp:∀(w:World)(H:Hp)(a:Addr)(ns:List Int),ns.length<=n->Only H->SqL (K w.params) H a (ns.map V.int)->sp w [.ref a] H (λv _=>v=.bl true) λ_ _ _=>False)
  (hCX:∀(w:World)(H:Hp)(s:Shared)(e:Value)(s':Shared),CX w [] H s (λ_ _ _=>False) e s'->False) :
  PySem.W.WalkO q loose XP YP l.row.toRowW d [] (λf vs=>PySem.call f vs):=by
 refine Att.SS hn hdf λw s₀ s₁ mg mb fa o pm cd doc a vs ns G Y ho hd hcd hmg hobj hints hlen hg=>?_;have KX:=hY w _ Y;obtain⟨fd,hb,hF⟩:=F w mg fa _ KX G.T.g hmg;exact YS KX G.T.g G.T.b G.T.builtins G.T.nolimit hg hobj hints (C9 hlen hn2) hr hF hb (λH hO hS=>hsp w H a ns hlen hO hS) λH e s'=>hCX w H s₁ e s'
end L2
/- THE LAST THEOREM (shape;LID,My.* are yours):
 My.Adr: a structure of the addresses that your layer names (classes,functions);My.Txt K t: a structure (Prop) of the equations over K;
 My.txt_mk:{K} {implicit addresses ..} (e1:nsIn K mainGlobals "law" = some (some (.ref f))) (e2:K.lookup f=some ⟨oc,od,.func (fnOf "law" "law" params body scope dV kV doc pm an cdv ct),sl⟩) (e3:codeIn K cdv "law" = true) ..:∃t,My.Txt K t
set_option maxRecDepth 100000 in
set_option maxHeartbeats 0 in
theorem PySem.Challenge.cw_LID_holds:PySem.Challenge.rw_LID.Holds:=by
 w_on;o_law;k_head;(case hw=>w_witness2)
 k_fill
 refine L2.Uh (l:=PySem.Challenge.rw_LID) (n:=63) (k:=40) (x:="script") (CX:=λw=>..) (sp:=λ_=>My.sp_law) rfl A4 rfl ⟨rfl,by decide,by decide⟩ (λw h Y=>PySem.W.kIn_of Y) ?F ?S ?C
 case F =>
  intro w mg fa h KX G hmg;have T:∃t,My.Txt (L2.KOf KX) t:=by
   dsimp only[L2.KOf]                          
   (case e1=>PySem.W.k_is)                    
   (case e2=>PySem.W.k_is)
   ..
  obtain⟨t,T⟩:=T;have e0:=hmg.symm.trans (X5 KX G T.law);cases e0                                       
 case S=>exact λw H a ns hl hO hS=>..
 case C=>exact ..
(the tactic k_is has no namespace: write k_is) -/
namespace L2
open PySem PySem.Spec PyProof.Rows
def Bf(s:Stmt)(j:Nat):Stmt:=match s with
 |.ClassDef _ _ _ body _ _ _ _ _ _ _=>body.getD j (.Pass ⟨0,0,0,0⟩)
 |_=>.Pass ⟨0,0,0,0⟩
def LY(s:Stmt):Arguments:=match s with
 |.FunctionDef _ a _ _ _ _ _ _ _ _=>a
 |_=>{posonlyargs:=[],args:=[],vararg:=none,kwonlyargs:=[],kw_defaults:=[],kwarg:=none,defaults:=[]}
def JC(s:Stmt):List Stmt:=match s with
 |.FunctionDef _ _ b _ _ _ _ _ _ _=>b
 |_=>[]
def Ah(s:Stmt):Scope:=match s with
 |.FunctionDef _ _ _ _ _ _ sc _ _ _=>sc
 |_=>{kind:=.function,names:=[],isGenerator:=false,isCoroutine:=false}
abbrev CX0:CXT:=λ_ _ _ _ _ _=>False
abbrev E0:XK:=λ_ _ _=>False
theorem An{X:Cx}:FP CX0 X E0:=λ_ _ _ _ _ _ _ h=>h.elim
structure Fun(K:PySem.W.Frag)(x qual:Str)(st:Stmt)(f:Addr)(fd:FuncData):Prop where
 ex:∃(oc:Value)(od:Option Addr)(kV doc pm:Value)(an:Option Addr)(cdv ct:Value)(osl:Array (Option Value)),
  fd=PySem.W.fnOf x qual (LY st) (JC st) (Ah st) .none kV doc pm an cdv ct/\K.lookup f=some ⟨oc,od,.func fd,osl⟩/\PySem.W.codeIn K cdv qual=true
 kp:keepIn K (.ref f)=true
section
variable{P:Program}{w:World}{K:PySem.W.Frag}{mg:Str->Option Value}{base:Heap}
theorem Fun.ok{x qual:Str}{st:Stmt}{f:Addr}{fd:FuncData}{N ps:List Str}{k:Nat}{sp:Sp}(F:Fun K x qual st f fd)(S:Au N ps (Ah st))(len:∀vs H Q E,sp vs H Q E->vs.length=ps.length)
  (hbody:∀(cdv:Value)(A:Around)(outer:List Env)(s:Shared)(H:Hp)(vs:List V)(Q:VK)(E:XK),CO k (A.deeper (envOfC qual (Ah st) s.heap.objs.size f cdv))->sp vs H Q E ->
   ∃t,PSs (Wp CX0 P w K mg base N qual (Ah st) f cdv A outer s H E).nox (JC st) t/\t {nx:=λ_ H'=>Q .non H',rt:=Q} (Na N vs) H):AJ P w K mg base CX0 (k+1) f fd ps sp:=by
 obtain⟨oc,od,kV,doc,pm,an,cdv,ct,osl,rfl,lk,hcd⟩:=F.ex;refine fn_of lk hcd S len λA outer s H vs Q E hr hsp=>?_;obtain⟨t,h,q⟩:=hbody cdv A outer s H vs Q E hr hsp;exact⟨t,h.nox,q⟩
theorem Fun.binds{x qual:Str}{st:Stmt}{f:Addr}{fd:FuncData}{ps:List Str}(F:Fun K x qual st f fd)
  (h:∀(kV doc pm:Value)(an:Option Addr)(cdv ct:Value)(us:List Value),us.length=ps.length->bindArgs (PySem.W.fnOf x qual (LY st) (JC st) (Ah st) .none kV doc pm an cdv ct) ⟨us,[]⟩=pure (ps.zip us)):CV K fd ps []:=by
 obtain⟨oc,od,kV,doc,pm,an,cdv,ct,osl,rfl,lk,hcd⟩:=F.ex;exact .all (h kV doc pm an cdv ct)
theorem TX {x qual:Str} {st:Stmt} {f:Addr} {oc:Value} {od an:Option Addr} {osl:Array (Option Value)} {kV doc pm cdv ct:Value} (l:K.lookup f=some ⟨oc,od,.func (PySem.W.fnOf x qual (LY st) (JC st) (Ah st) .none kV doc pm an cdv ct),osl⟩)
  (c:PySem.W.codeIn K cdv qual=true) (k:keepIn K (.ref f)=true):Fun K x qual st f (PySem.W.fnOf x qual (LY st) (JC st) (Ah st) .none kV doc pm an cdv ct):=⟨⟨oc,od,kV,doc,pm,an,cdv,ct,osl,rfl,l,c⟩,k⟩
end
theorem FK{A:Around}{k:Nat}(hr:CO k A):A.units+1<cLine:=F6 (Nat.add_le_add_left (by decide:1<=64) _) hr.units
section
variable{X:Cx}
theorem pv(i:Nat){x:Str}{pos:Pos}(hN:X.N[i]?=some x:=by rfl)(hv:Vis X.env.scope x:=by first|exact Or.inl rfl|exact Or.inr (Or.inl rfl)|exact Or.inr (Or.inr rfl))(hd:(x==("__debug__" : Str))=false:=by decide)
  (hcd:(x==("__classdict__" : Str))=false:=by decide):PE X (.Name x pos) (GE i):=pe_var hN hv hd hcd
end
theorem Bo{A B:Prop}(h:B):if false=true then A else B:=by
 rw[Y6 D0];exact h
theorem Cp{A B:Prop}(h:A):if true=true then A else B:=by
 rw[Y8 rfl];exact h
theorem Gz{c A B:Prop}[Decidable c](h1:c->A)(h2:¬c->B):if c then A else B:=by
 by_cases h:c
 ·rw[Y8 h];exact h1 h
 ·rw[Y6 h];exact h2 h
theorem Vd{c A B:Prop}[Decidable c](hc:c)(h:B):if(!decide c)=true then A else B:=by
 rw[Y7 hc];exact Bo h
def Az(H H':Hp):Prop:=∀b o,H b=some o->H' b=some o
theorem Az.refl(H:Hp):Az H H:=λ_ _ h=>h
theorem Az.trans{H H1 H2:Hp}(a:Az H H1)(b:Az H1 H2):Az H H2:=λc o h=>b c o (a c o h)
theorem Az.seq{K:PySem.W.Frag}{H H':Hp}{a:Addr}{xs:List V}(e:Az H H')(h:SqL K H a xs):SqL K H' a xs:=by
 rcases h with (h|⟨o,h⟩)|h
 ·exact .inl (.inl (e _ _ h))
 ·exact .inl (.inr ⟨o,e _ _ h⟩)
 ·exact .inr h
def Vz(a D:Addr)(h:Heap):Prop:=∃o,h.get? a=some o/\o.cls=.ref D/\∃vs,o.data=.fields vs/\vs[2]?=some .none
theorem Vz.not{a D:Addr}{h:Heap}(x:Vz a D h):∃o,h.get? a=some o/\o.cls=.ref D/\notCls o=true:=by
 obtain⟨o,e,c,vs,d,_⟩:=x;exact⟨o,e,c,by unfold notCls;rw[d]⟩
section
variable{M:Model}{A:Around}{E:Value->Shared->Prop}{s:Shared}{b0:Heap}{env:Env}{outer:List Env}{L a T:Addr}{cls fl:Value}{Q:Unit->Shared->Prop}
end
section
variable{P:Program}{w:World}{K:PySem.W.Frag}{mg:Str->Option Value}{base:Heap}{N:List Str}{qual:Str}{scope:Scope}{f:Addr}{cd:Value}{A:Around}{outer:List Env}{s:Shared}{H:Hp}{E:XK}
end
section
variable{X:Cx}{C:Addr}{x:Str}{np cpos pos:Pos}{e:Expr}{es:List Expr}{t:TA}{E:XK}
end
section
variable{X:Cx}{CX:CXT}{k:Nat}{f:Addr}{fd:FuncData}{ps:List Str}{sp:Sp}{dvs:List V}{ds:List Value}{E:XK}{x:Str}{p pos:Pos}{e:Expr}{es:List Expr}{t:TA}{S:St->Prop}
end
def isExc(a D:Addr):HO:=.ext (Vz a D)
theorem Inv.track{X:Cx}{pins:List (Addr×Obj)}{σ:St}{H:Hp}{s:Shared}{a:Addr}{o:HO}(I:Inv X pins σ H s)(ha:H a=none)(h0:X.s₀.heap.get? a=none)(hb:X.base.get? a=none)(hL:X.env.locals≠a)(hc:∀x c,X.env.cells.lookup x=some c->c≠a)
  (hp:∀p,p∈X.pn++pins->p.1≠a) (hs:∀b,b∈X.fs->b≠a) (new:BJ X.prog X.w (upd H a o) s.heap a o):Inv X pins σ (upd H a o) s:=by
 have ne:∀b u,H b=some u->b≠a:=λb u q z=>by rw[z,ha]at q;cases q
 refine⟨I.ok,I.os,I.bare,⟨I.base.keep,I.base.slot,λb u q n x=>?_,I.base.there,λb xs q=>?_,λb u v q=>?_,λb ps q=>?_⟩,I.loc,I.cell,?_,λx c q=>?_,λp z=>?_,λb u q=>?_,I.len⟩
 ·rw[As (λz=>by rw[z,h0]at q;cases q)];exact I.base.free b u q n x
 ·have z:=I.base.tups b xs q;rw[As (ne _ _ z)];exact z
 ·have z:=I.base.frzs b u v q;rw[As (ne _ _ z)];exact z
 ·obtain⟨m,z⟩:=I.base.tbls b ps q;exact⟨m,by rw[As (ne _ _ z)];exact z⟩
 ·rw[As hL];exact I.free
 ·rw[As (hc x c q)];exact I.freeC x c q
 ·obtain⟨e,n,r⟩:=I.pin p z;exact⟨e,by rw[As (hp p z)];exact n,r⟩
 ·by_cases z:b=a
  ·subst z;rw[Af]at q;cases q;exact new
  ·rw[As z]at q;exact(I.hok b u q).stay (λc v _ r=>r) (λc r=>by rw[As (ne _ _ r)];exact r) λc xs r=>by rw[As (ne _ _ r)];exact r
section
variable{X:Cx}{C:Addr}{x n:Str}{np hpos pos:Pos}{i:Nat}{b₀:Stmt}{suite body:List Stmt}{S:St->Prop}{tb:XK->TS}{th:TS}
end
section
variable{P:Program}{w:World}{K:PySem.W.Frag}{mg:Str->Option Value}{base:Heap}
end
section
variable{X:Cx}{k:Nat}{f:Addr}{fd:FuncData}{ps:List Str}{sp:Sp}{x:Str}{p pos:Pos}{e:Expr}{es:List Expr}{t:TA}
end
section
variable{X:Cx}{tg:Expr}
def Its(x:Str):It:=⟨λi _=>i<x.cps.size,λi H v H'=>H'=H/\∃c,x.cps[i]?=some c/\v=.str ⟨#[c]⟩,λi _=>i=x.cps.size⟩
theorem Rz{P:Program}{w:World}{K:PySem.W.Frag}(it:Addr)(x:Str)(t:Tok)(T:String)(hn:["enumerate","zip","dict_itemiterator","dict_reverseitemiterator","odict_iterator","itertools.zip_longest","itertools.pairwise"].contains T=false)
  (W:∀A:Around,A.handled=none->Walks P w A it [it] [it] x.cps.size (SignAt x) (λi h=>h.IsStrIter it T x t i))
  (hself:∀(A:Around)(i:Nat)(s:Shared)(Q:Value->Shared->Prop)(E:Value->Shared->Prop),s.heap.IsStrIter it T x t i->Q (.ref it) s->wpAny (model P w) A (pyIter (.ref it)) Q E s):Ps P w K tg (Its x) [it] it (λi h=>h.IsStrIter it T x t i) where
 mem:=by simp
 obj:=λi h st b hb=>by
  have e:b=it:=by simpa using hb
  subst e;obtain⟨o,e,c,d⟩:=st;exact⟨o,e,λv z=>by rw[d]at z;cases z⟩
 keep:=λi h h' ⟨o,e,r⟩ k=>⟨o,k it A6 o e,r⟩
 item:=by
  intro X hP hw hK hc i pins s σ H E I hf st hg;subst hP hw hK;obtain⟨f0,f1,f2,f3,f4,f5⟩:=hf it A6;refine(W X.A (I.ok.hd hc)).item i s _ _ hg st λv h' tk hv st' kk=>?_;obtain⟨c,u,hc',rfl⟩:=hv;have I1:Inv X pins σ H {s with heap:=h',toks:=tk}:=I.turned (λb o hb e=>kk b o (by simpa using hb) e) f0 f1 f3 f4 f5;obtain⟨o,e,oc,od⟩:=id st';exact⟨_,rfl,SE (s:={s with heap:=h',toks:=tk}) e oc od hn ⟨.str ⟨#[c]⟩,H,I1,⟨u,rfl⟩,⟨rfl,c,hc',rfl⟩,st',λb hb=>(hf b hb).1⟩⟩
 done:=by
  intro X hP hw hK hc i pins s σ H E I hf st hg;subst hP hw hK;obtain⟨f0,f1,f2,f3,f4,f5⟩:=hf it A6;have z:i=x.cps.size:=hg;subst z;exact(W X.A (I.ok.hd hc)).done s _ _ st λh' tk kk=>⟨rfl,I.turned (λb o hb e=>kk b o (by simpa using hb) e) f0 f1 f3 f4 f5⟩
 self:=hself
def iStr(tl:TE):TI:=fun σ H R=>tl σ H λv H1=>∃x,v=.str x/\R (Its x) H1
theorem Yd{l:Expr}{tl:TE}(hl:PE X l tl):PI X tg l (iStr tl):=by
 intro pins s σ H R I h;refine thn (hl pins s σ H _ I h) λv s1 ⟨y,H1,I1,r1,q1⟩=>?_;obtain⟨x,rfl,q⟩:=q1;obtain⟨t,rfl⟩:=r1;have fp:∀b,b∈[s1.heap.objs.size]->Dw X pins H1 b:=λb hb=>by
  have e:b=s1.heap.objs.size:=by simpa using hb
  subst e;exact I1.fpOk (C1 _) (I1.hok.fresh (C1 _))
 cases ha:x.cps.all (· < 128)with
 |true =>
  refine wpAny_pyIter_ascii ha ?_;refine⟨s1.heap.objs.size,[s1.heap.objs.size],_,_,H1,rfl,I1.kept (t':=s1.toks) λb o e=>C2 _ e,Rz _ x t "str_ascii_iterator" A4 (λA hA=>Walks.strAscii hA _ x t) (λ_ _ _ _ _ st h=>wpAny_pyIter_striter_ascii st h),⟨_,D3 _ rfl,rfl,rfl⟩,fp,q⟩
 |false =>
  refine wpAny_pyIter_wide ha ?_;refine⟨s1.heap.objs.size,[s1.heap.objs.size],_,_,H1,rfl,I1.kept (t':=s1.toks) λb o e=>C2 _ e,Rz _ x t "str_iterator" A4 (λA hA=>Walks.strWide hA _ x t) (λ_ _ _ _ _ st h=>wpAny_pyIter_striter_wide st h),⟨_,D3 _ rfl,rfl,rfl⟩,fp,q⟩
theorem for_str{x:Str}{g:TG}{tb:TS}{D:Md}{σ:St}{H:Hp}(Pv:Nat->St->Hp->Prop)(h0:Pv 0 σ H)
  (hs:∀i c σ H,x.cps[i]?=some c->Pv i σ H->g (.str ⟨#[c]⟩) σ H fun σ2 H2=>tb {D with nx:=Pv (i+1),ct:=Pv (i+1),bk:=D.nx} σ2 H2) (hd:∀σ H,Pv x.cps.size σ H->D.nx σ H) :
  ∃W:Nat->Nat->St->Hp->Prop,(∃m,W 0 m σ H)/\∀i m σ H,W i m σ H ->
   ((Its x).stop i H/\D.nx σ H)\/((Its x).go i H/\∃N:St->Hp->Prop,(∀σ' H',N σ' H'->∃m',m'<m/\W (i+1) m' σ' H')/\∀v H',(Its x).yld i H v H'->g v σ H' fun σ2 H2=>tb {D with nx:=N,ct:=N,bk:=D.nx} σ2 H2):=by
 refine⟨λi m σ H=>m=x.cps.size-i/\i<=x.cps.size/\Pv i σ H,⟨x.cps.size,by simp,L7 _,h0⟩,?_⟩;rintro i m σ H ⟨rfl,hi,p⟩;by_cases hlt:i<x.cps.size
 ·refine .inr ⟨hlt,Pv (i+1),fun σ' H' p'=>⟨x.cps.size-(i+1),by lia,rfl,hlt,p'⟩,λv H' y=>?_⟩;obtain⟨e,c,hc,rfl⟩:=y;subst e;exact hs i c σ _ hc p
 ·have e:i=x.cps.size:=by lia
  subst e;exact .inl ⟨rfl,hd σ H p⟩
theorem GC:FQ X (.type "int") (λxs H Q=>∃x n,xs=[.str x]/\PySem.intText? x=some n/\x.length<=640/\Q (.int n) H):=by
 intro pins s σ H xs us Q I r h;obtain⟨x,n,rfl,hn,hl,q⟩:=h;cases r with
 |cons r1 r2 =>
  cases r2;obtain⟨t,rfl⟩:=r1;exact PySem.W.KIN.call_text hn hl ⟨.int n,H,I.tok _,⟨_,rfl⟩,q⟩
theorem SR(hc:X.calm=true):FQ X (.builtin "all") (λxs H Q=>∃(p:Addr)(bs:List Bool),xs=[.ref p]/\SqL X.K H p (bs.map V.bl)/\Q (.bl (bs.all id)) H):=by
 intro pins s σ H xs us Q I r h;obtain⟨p,bs,rfl,hq,q⟩:=h;cases r with
 |cons r1 r2 =>
  cases r2;cases(show _=Value.ref p from r1);obtain⟨its,rv,pl,hz⟩:=I.list hq;have hne:p≠s.heap.objs.size:=J3 (by obtain⟨o,n,e,_⟩:=pl;exact D6 e);refine call_all_walk (A2d pl.isList ?_);have vals:∀(i:Nat) v,its[i]?=some v->∃b,bs[i]?=some b/\v=.bool b:=λi v e=>by
   cases eb:bs[i]? with
   |none =>
    have:its[i]?=none:=rv.none_of (by rw[C0,eb];rfl);rw[e]at this;cases this
   |some b =>
    obtain⟨u,hu,ru⟩:=rv.get (i:=i) (x:=V.bl b) (by rw[C0,eb];rfl);rw[e]at hu;cases hu;exact⟨b,rfl,ru⟩
  refine⟨s.heap.objs.size,_,_,_,_,_,λi=>bs.getD i true,rfl,Walks.list (A:=X.A.in1) (I.ok.hd hc) s.heap.objs.size p hne its.toArray,⟨⟨_,D3 _ rfl,rfl,rfl⟩,?_⟩,?_,?_⟩
  ·exact pl.isList.at λo e=>C2 _ e
  ·intro i v s2 Q2 E2 hP hQ;obtain⟨b,eb,rfl⟩:=vals i v (by simpa using hP);have e2:bs.getD i true=b:=by rw[D8,eb];rfl
   have hQ:Q2 (bs.getD i true) s2:=hQ;rw[e2]at hQ;exact K2 hQ
  ·intro h' tk kk;have I2:Inv X pins σ H {s with heap:=h',toks:=tk}:=I.kept λb o e=>kk b o (by intro z;exact J3 (D6 e) (by simpa using z)) (C2 _ e);have len:its.toArray.size=bs.length:=by rw[F1,<-rv.length,B8]
   have e3:(List.range its.toArray.size).all (λi=>bs.getD i true)=bs.all id:=by
    rw[len,S0,S5,S5];constructor
    ·intro z b hb;obtain⟨i,hi,e⟩:=W3.mp hb;have:=z i (F8.mpr hi);rw[D8,C8 hi,e]at this;exact this
    ·intro z i hi;have hi':=F8.mp hi;rw[D8,C8 hi'];exact z _ (R6 hi')
   rw[e3];exact⟨.bl _,H,I2,rfl,q⟩
end
section
variable{X:Cx}{iter:Expr}{ti:TE}{x G:Str}{px px1 px2 cpos pos:Pos}{scope:Scope}{g:Str}
end
structure ZU(K:PySem.W.Frag)(D:Addr):Prop where
 hd:hasDictIn K D=true
 ga:findIn K (.ref D) "__getattribute__" = some (some (.builtin "BaseException.__getattribute__"))
 gt:findIn K (.ref D) "__getattr__" = some none
 cl:findIn K (.ref D) "__class__" = some (some (.builtin "object.__class__"))
 sp:specialIn K (.builtin "object.__class__") "__get__" = some (some (.builtin "getset_descriptor.__get__"))
 tk:takesIn K (.builtin "object.__class__")=some true
 mo:mroIn K D (.type "object")=some true
 mb:mroIn K D (.type "BaseException")=some true
section
variable{K:PySem.W.Frag}{prog:Program}{w:World}{A:Around}{E:Value->Shared->Prop}{s:Shared}{a D:Addr}{o:Obj}
open PySem.W Builtin Builtin.ObjectAttr Builtin.Getset_descriptor
theorem Zp{M:Model}{h:Heap}(X:K.In h)(f:ZU K D):Looks M h (find (.ref a) (.ref D) "__class__") (.bind (.builtin "getset_descriptor.__get__") (.builtin "object.__class__")) :=
 (looks_findIn X f.cl).andThen ((looks_specialIn X f.sp).andThen ((show Looks M h (dataDescriptor? (some (.builtin "object.__class__")) (some (.builtin "getset_descriptor.__get__"))) (some (.builtin "getset_descriptor.__get__",.builtin "object.__class__"))from(looks_takesIn X f.tk).andThen .now).andThen (Looks.tag .now)))
theorem exc_get{R:Result->Shared->Prop}{tp:Value}(X:K.In s.heap)(f:ZU K D)(he:s.heap.get? a=some o)(hc:o.cls=.ref D)(hq:R (.ok (.ret (.ref D))) s) :
  codeAny (model prog w) A (.call (.builtin "getset_descriptor.__get__") ⟨[.builtin "object.__class__",.ref a,tp],[]⟩) R s:=by
 obtain⟨h,g,d,t,os⟩:=s;have L0:Looks (model prog w) h (typeOf (.ref a)) (.ref D):=hc▸(Looks.ld he).andThen .now;have L1:=looks_mroIn (M:=model prog w) X f.mo;refine codeAny_call_builtin KF.slot_gs.plain KF.entry_gs (KF.slot_gs.check _ _ _ _ _ _ _ _ KF.type_class (KF.args_gs _ _ _) ?_);unfold Builtin.«getset_descriptor.__get__» descrGet;rw[dga_obj];refine Y5 (Z0 ?_);unfold descrGetter descrCheckInstance descrNameAndClass isInstance;simp only[KF.owner_class]
 repeat lk
 refine⟨Code.quiet_builtin _ A1,codeAny_builtin KF.entry_class ?_⟩;unfold Builtin.«object.__class__» shownTypeOf
 repeat lk
 exact hq
theorem Wl{Q:Option Value->Shared->Prop}(X:K.In s.heap)(f:ZU K D)(he:s.heap.get? a=some o)(hc:o.cls=.ref D)(hq:Q (some (.ref D)) {s with toks:=s.toks+1}) :
  wpAny (model prog w) A (getAttr? (.ref a) "__class__") Q E s:=by
 obtain⟨h,g,d,t,os⟩:=s;have L0:Looks (model prog w) h (typeOf (.ref a)) (.ref D):=hc▸(Looks.ld he).andThen .now;have L1:=looks_findIn (M:=model prog w) X f.ga;have L2:=looks_findIn (M:=model prog w) X f.gt;have L3:=Zp (M:=model prog w) (a:=a) X f;have L4:Looks (model prog w) h (isInstance (.ref a) (.type "BaseException")) true:=L0.andThen (looks_mroIn X f.mb);unfold getAttr? getAttrBy? getAttrBy;refine Y5 (wpAny_mkText (Y5 (A2a (A1e (Y5 (L0.at (Y5 (L1.at ?_))))))));dsimp only;have n0:(Value.builtin "BaseException.__getattribute__" == Value.builtin "object.__getattribute__")=false:=by decide +kernel
 rw[Y6 (by rw[n0,Bool.and_false];exact D0)];unfold getAttrByItsOwn hookBefore;rw[Y8 (by rfl)];refine Y5 (L2.at ?_);refine Y5 (A2a (A1e ?_));unfold callGetattribute;rw[Y6 A4];unfold boundAndCalled;refine Y5 (wpAny_of_eq (PySem.F.excAttr_ValueError.ga.bind (.ref a)) ?_);dsimp only;refine wpAny_call (codeAny_call_builtin PySem.F.excAttr_ValueError.ga.plain PySem.F.entry_bexc_ga ?_);have hk:builtinKind "BaseException.__getattribute__" = some .slot:=by decide +kernel
 have hsp:splitId "BaseException.__getattribute__" = some ("BaseException","__getattribute__"):=by decide +kernel
 have har:=PySem.F.args_bexc_ga (.ref a) (.str "__class__" t);simp only[checkBuiltinCall,hk,hsp];refine Y5 (L4.at ?_);rw[Y6 A4];refine wpAny_of_eq (a:=()) har ?_;unfold Builtin.«object.__getattribute__»;dsimp only at L3
 repeat ((fail_if_success (with_reducible show wpAny _ _ (call _ _) _ _ _));lk)
 refine wpAny_call (exc_get (s:=⟨h,g,d,t+1,os⟩) X f he hc ?_);dsimp only
 repeat lk
 exact hq
end
inductive TyX(K:PySem.W.Frag)(H:Hp):V->Value->Prop where
 |of {x:V} {t:Value} (h:MW K H x t):TyX K H x t
 |exc {a D:Addr} (e:H a=some (isExc a D)) (f:ZU K D):TyX K H (.ref a) (.ref D)
theorem YU{K:PySem.W.Frag}{a D:Addr}(f:ZU K D):PySem.W.KitX K (.ref a) (.ref D) (λh=>∃o,h.get? a=some o/\o.cls=.ref D/\notCls o=true) where
 ty:=λM h X ⟨o,e,c,_⟩=>c▸(PySem.W.Looks.ld e).andThen .now
 it:=λM h X _=>by
  obtain⟨cd,hc,_⟩:=any_some f.hd;unfold clsIn at hc;split at hc
  ·rename_i c' d' cd' sl' ho;intro A' Q' E' s' k q;unfold isType loadHead;exact Y5 (wpAny_loadPart (k _ _ (X _ _ ho)) (Z0 q))
  ·cases hc
 ne:=λh tp dd its n sl X htp=>by
  obtain⟨cd,hc,_⟩:=any_some f.hd;refine Y4.mpr λq=>?_;have e:D=tp:=Value.ref.inj (beq_iff_eq.mp q);subst e;unfold clsIn at hc;split at hc
  ·rename_i c' d' cd' sl' ho;have z:=(X _ _ ho).symm.trans htp;cases z
  ·cases hc
 ca:=λX ⟨o,e,c,_⟩ k=>Wl X f e c k
def clsV:V->Option Value
 |.ty n=>some (.type n)
 |.ref C=>some (.ref C)
 |_=>none
theorem FN{X:Cx}:FQ X (.builtin "isinstance") (λxs H Q=>∃x c cv t b,xs=[x,c]/\clsV c=some cv/\TyX X.K H x t/\kitOne X.K t cv=some b/\Q (.bl b) H):=by
 intro pins s σ H xs us Q I r h;obtain⟨x,c,cv,t,b,rfl,hc,ty,hk,q⟩:=h;cases r with
 |@cons _ u _ _ rx rr =>
  cases rr with
  |@cons _ v _ _ rc rn =>
   cases rn;have ev:v=cv:=by
    cases c with
    |ty n=>cases hc;exact rc
    |ref C=>cases hc;exact rc
    |_=>cases hc
   subst ev;cases ty with
   |of ty=>exact Wg I rx ty hk λtk=>⟨.bl b,H,I.tok tk,rfl,q⟩
   |@exc a D e f =>
    cases(show u=Value.ref a from rx);obtain⟨p,_,_⟩:=(show BJ X.prog X.w H s.heap a (isExc a D)from I.hok a _ e)
    exact K0 (YU f) I.kIn (Vz.not p) hk (λz=>nomatch z) λtk=>⟨.bl b,H,I.tok tk,rfl,q⟩
section
variable{X:Cx}{c:Expr}{a b:List Stmt}{tc:TT}{t u:TS}{pos:Pos}
def tIfJ(J:St->Hp->Prop)(tc:TT)(t u:TS):TS:=λD σ H=>(tc σ H λb H1=>if b=true then t {D with nx:=J} σ H1 else u {D with nx:=J} σ H1)/\∀σ' H',J σ' H'->D.nx σ' H'
theorem SP.nx{pins:List (Addr×Obj)}{D:Md}{J:St->Hp->Prop}{f:Flow}{s:Shared}(k:∀σ' H',J σ' H'->D.nx σ' H')(h:SP X pins {D with nx:=J} f s):SP X pins D f s:=by
 cases f with
 |next=>obtain⟨σ',H',I,q⟩:=h;exact⟨σ',H',I,k _ _ q⟩
 |brk=>exact h
 |cont=>exact h
 |ret v=>exact h
theorem ps_ifJ(J:St->Hp->Prop)(hc:PT X c tc)(ha:PSs X a t)(hb:PSs X b u):PS X (.If c a b pos) (tIfJ J tc t u):=by
 intro pins s σ H D I h;obtain⟨h,k⟩:=h;refine wpAny_If (thn (hc pins s σ H _ I h) λd s1 ⟨H1,I1,q1⟩=>?_);cases d with
 |true=>exact thn (ha pins s1 σ H1 _ I1 q1) λf s2 q=>q.nx k
 |false=>exact thn (hb pins s1 σ H1 _ I1 q1) λf s2 q=>q.nx k
end
def GB(env:Env)(a:List (Str×Addr))(x:Str×NameKind):List (Str×Addr):=if(x.2==NameKind.free)=true then(x.1,(env.cells.lookup x.1).getD 0)::a else a
def Ub(env:Env)(l:List (Str×NameKind)):List (Str×Addr):=l.foldl (GB env) []
theorem TY{α β:Type}{l:List α}{f:α->β->Sem (ForInStep β)}{g:β->α->β}(h:∀x∈l,∀b,f x b=pure (.yield (g b x))):∀b,forIn l b f=pure (l.foldl g b):=by
 induction l with
 |nil=>intro b;rfl
 |cons x l ih =>
  intro b;rw[List.forIn_cons,h x C7,pure_bind];exact ih (λy hy=>h y (C6 _ hy)) _
theorem OW{scope:Scope}{env:Env}(h:∀y∈scope.names,y.2=.free->∃c,env.cells.lookup y.1=some c):closureFor scope env=pure (Ub env scope.names):=by
 simp only[closureFor];rw[TY (g:=GB env) (λx hx c=>by
  obtain⟨n,k⟩:=x;by_cases hk:k=.free
  ·subst hk;obtain⟨a,ha⟩:=h _ hx rfl;have e:cellOf env n=pure a:=by unfold cellOf;rw[show env.cells.lookup n=some a from ha]
   simp only[GB,beq_self_eq_true,A2e,e,show env.cells.lookup n=some a from ha,Option.getD_some];rfl
  ·have hb:(k==NameKind.free)=false:=by simpa using hk
   simp only[GB,hb,O2,A1g])]
 rfl
theorem Qc(env:Env){y:Str}{c:Addr}:∀(l:List (Str×NameKind))(a:List (Str×Addr)),(l.foldl (GB env) a).lookup y=some c->a.lookup y=some c\/((y,NameKind.free)∈l/\c=(env.cells.lookup y).getD 0)
 |[],a,h=>.inl h
 | (n,k)::r,a,h=>by
  rw[R9]at h;rcases Qc env r _ h with z|⟨z,e⟩
  ·unfold GB at z;split at z
   ·rename_i hk;have hk':k=.free:=by simpa using hk
    rw[O9]at z;split at z
    ·rename_i hy;have hy':y=n:=by simpa using hy
     subst hy' hk';exact .inr ⟨C7,(Z2 z).symm⟩
    ·exact .inl z
   ·exact .inl z
  ·exact .inr ⟨C6 _ z,e⟩
theorem SM(env:Env){y:Str}:∀(l:List (Str×NameKind))(a:List (Str×Addr)),(∃c,a.lookup y=some c)->∃c,(l.foldl (GB env) a).lookup y=some c
 |[],_,h=>h
 | (n,k)::r,a,h=>by
  rw[R9];refine SM env r _ ?_;unfold GB;split
  ·rw[O9];split
   ·exact⟨_,rfl⟩
   ·exact h
  ·exact h
theorem Ua(env:Env){y:Str}:∀(l:List (Str×NameKind))(a:List (Str×Addr)),(y,NameKind.free)∈l->∃c,(l.foldl (GB env) a).lookup y=some c
 |[],_,h=>by simp at h
 | (n,k)::r,a,h=>by
  rw[R9];rcases C3.mp h with e|h
  ·cases e;refine SM env r _ ⟨(env.cells.lookup y).getD 0,?_⟩;unfold GB;simp only[beq_self_eq_true,A2e,O9]
  ·exact Ua env r _ h
theorem Om{env:Env}{y:Str}:∀{names:List (Str×NameKind)},(∀z∈names,z.2≠.cell) ->
  ((names.map λ(n,k)=>if(k==NameKind.free && env.scope.kind==.function && env.kindOf n==some .cell)then(n,NameKind.cell)else(n,k)).lookup y=some .cell \/
   (names.map λ(n,k)=>if(k==NameKind.free && env.scope.kind==.function && env.kindOf n==some .cell)then(n,NameKind.cell)else(n,k)).lookup y=some .free)->(y,NameKind.free)∈names
 |[],_,h=>by simp at h
 | (n,k)::r,hc,h=>by
  have ih:=@Om env y r (λz hz=>hc z (C6 _ hz));have h':List.lookup y ((if(k==NameKind.free && env.scope.kind==.function && env.kindOf n==some .cell)=true then(n,NameKind.cell)else(n,k))::(r.map λ(n,k)=>if(k==NameKind.free && env.scope.kind==.function && env.kindOf n==some .cell)then(n,NameKind.cell)else(n,k)))=some .cell \/
   List.lookup y ((if(k==NameKind.free && env.scope.kind==.function && env.kindOf n==some .cell)=true then(n,NameKind.cell)else(n,k))::(r.map λ(n,k)=>if(k==NameKind.free && env.scope.kind==.function && env.kindOf n==some .cell)then(n,NameKind.cell)else(n,k)))=some .free:=h
  clear h;by_cases hb:(k==NameKind.free && env.scope.kind==.function && env.kindOf n==some .cell)=true
  ·rw[Y8 hb]at h';have hk:k=.free:=by
    simp only[P9,beq_iff_eq]at hb;exact hb.1.1
   simp only[O9]at h';cases hy:y==n with
   |true =>
    have:y=n:=by simpa using hy
    subst this hk;exact C7
   |false =>
    rw[hy]at h';exact C6 _ (ih h')
  ·rw[Y6 hb]at h';simp only[O9]at h';cases hy:y==n with
   |true =>
    rw[hy]at h';have:y=n:=by simpa using hy
    subst this;rcases h' with z|z
    ·exact absurd (Z2 z) (hc (y,k) C7)
    ·cases Z2 z;exact C7
   |false =>
    rw[hy]at h';exact C6 _ (ih h')
theorem LB{env:Env}{y:Str}:∀{names:List (Str×NameKind)},names.lookup y=some .free ->
  ((names.map λ(n,k)=>if(k==NameKind.free && env.scope.kind==.function && env.kindOf n==some .cell)then(n,NameKind.cell)else(n,k)).lookup y=some .cell \/
   (names.map λ(n,k)=>if(k==NameKind.free && env.scope.kind==.function && env.kindOf n==some .cell)then(n,NameKind.cell)else(n,k)).lookup y=some .free)
 |[],h=>by simp at h
 | (n,k)::r,h=>by
  have ih:=@LB env y r;show List.lookup y ((if(k==NameKind.free && env.scope.kind==.function && env.kindOf n==some .cell)=true then(n,NameKind.cell)else(n,k))::(r.map λ(n,k)=>if(k==NameKind.free && env.scope.kind==.function && env.kindOf n==some .cell)then(n,NameKind.cell)else(n,k)))=some .cell \/
   List.lookup y ((if(k==NameKind.free && env.scope.kind==.function && env.kindOf n==some .cell)=true then(n,NameKind.cell)else(n,k))::(r.map λ(n,k)=>if(k==NameKind.free && env.scope.kind==.function && env.kindOf n==some .cell)then(n,NameKind.cell)else(n,k)))=some .free
  rw[O9]at h;by_cases hb:(k==NameKind.free && env.scope.kind==.function && env.kindOf n==some .cell)=true
  ·rw[Y8 hb];simp only[O9];cases hy:y==n with
   |true=>exact .inl rfl
   |false=>rw[hy]at h;exact ih h
  ·rw[Y6 hb];simp only[O9];cases hy:y==n with
   |true=>rw[hy]at h;exact .inr h
   |false=>rw[hy]at h;exact ih h
section
variable{prog:Program}{w:World}{A:Around}{R:Result->Shared->Prop}{s:Shared}
abbrev Um(ifs:List Expr)(env:Env):Sem Bool:=forIn ifs true λc r=>if r=true then do let ok <-isTrue c env (eval c env);pure (ForInStep.yield ok)else pure (ForInStep.yield r)
theorem SI{elt target iter:Expr}{ifs:List Expr}{scope:Scope}{pos:Pos}{it acc:Value}{env:Env}(I:Nat->Shared->Prop)
  (turn:∀n s,I n s->wpAny (model prog w) A (pyNext it) (λr s₁=>match r with
   |none=>R (.ok .next) s₁
   |some v=>wpAny (model prog w) A (letOwnedTupleGo target it v) (λ_ s₀=>wpAny (model prog w) A (assign target env v) (λ_ s₂ =>
     wpAny (model prog w) A (Um ifs env) (λok s₃ =>
      if ok=true then wpAny (model prog w) A (eval elt env) (λx s₄ =>
       wpAny (model prog w) A (call (.builtin "list.append") [acc,x]) (λ_ s₅=>∃m,m<n/\I m s₅) (λ_ _=>False) s₄) (λ_ _=>False) s₃
      else ∃m,m<n/\I m s₃) (λ_ _=>False) s₂) (λ_ _=>False) s₀) (λ_ _=>False) s₁) (λ_ _=>False) s)
  (n:Nat) (h:I n s):codeAny (model prog w) A (.compLoop (.ListComp elt [⟨target,iter,ifs,0⟩] scope pos) 0 it acc env) R s:=by
 refine codeAny_loop rfl I (λn s hI=>?_) n h;show wpAny _ A ((compTurn (.ListComp elt [⟨target,iter,ifs,0⟩] scope pos) 0 it acc env).onRaise (λx=>do noteFrame x env;theTreesLotGoes x)) _ _ s;refine wpAny_noted ?_;rw[compTurn_list];refine Y5 (A4g (Y5 (K9 (turn n s hI) (λr s₁ h₁=>?_) λ_ _ h'=>h'.elim)));cases r with
 |none=>exact Z0 h₁
 |some v =>
  refine Y5 (K9 h₁ (λ_ s₀ h₀=>?_) λ_ _ h'=>h'.elim);refine Y5 (K9 h₀ (λ_ s₂ h₂=>Y5 (K9 h₂ (λok s₃ h₃=>?_) λ_ _ h'=>h'.elim)) λ_ _ h'=>h'.elim);cases ok with
  |false=>exact Z0 ⟨rfl,h₃⟩
  |true =>
   exact Y5 (Y5 (K9 h₃ (λx s₄ h₄=>Y5 (K9 h₄ (λ_ s₅ h₅=>Z0 (Z0 ⟨rfl,h₅⟩)) λ_ _ h'=>h'.elim)) λ_ _ h'=>h'.elim))
end
def Nt(cs:List Nat)(σ:St):St:=cs.map λj=>(σ[j]?).getD none
def cxC(X:Cx)(scope:Scope)(N:List Str)(s:Shared)(H:Hp)(ex:List Addr):Cx :=
 {X with N:=N,s₀:=s,H₀:=H,env:=compEnvC scope (Ub X.env scope.names) s.heap.objs.size X.env,outer:=X.stack,stack:=X.stack,ex:=ex,fn:=λ_=>false,pn:=[],xe:=λ_ _=>False}
def PTs(X:Cx)(ifs:List Expr)(t:TT):Prop :=
 ∀(pins:List (Addr×Obj))(s:Shared)(σ:St)(H:Hp)(Q:Bool->Hp->Prop),Inv X pins σ H s->t σ H Q->wpAny (model X.prog X.w) X.A (Um ifs X.env) (TP X pins σ Q) X.xe s
def tYes:TT:=λ_ H Q=>Q true H
theorem BF{X:Cx}:PTs X [] tYes:=λ_ _ _ H _ I h=>wpAny_tests_nil ⟨H,I,h⟩
theorem pts_one{X:Cx}{c:Expr}{t:TT}(h:PT X c t):PTs X [c] t:=λpins s σ H Q I q=>wpAny_tests_one (h pins s σ H Q I q)
structure Bu(X:Cx)(scope:Scope)(N:List Str)(k:Nat)(cs:List Nat):Prop where
 cell:∀y∈scope.names,y.2≠.cell
 kind:scope.kind=.function
 names:∀y∈scope.names,y.2=.local->scope.names.lookup y.1=some .local
 free:∀y∈scope.names,y.2=.free->X.env.scope.names.lookup y.1=some .cell\/X.env.scope.names.lookup y.1=some .free
 len:N.length=k+cs.length
 cap:∀j,j<cs.length->∃x,N[k+j]?=some x/\X.N[cs.getD j 0]?=some x/\scope.names.lookup x=some .free
def Gd(k:Nat)(cs:List Nat)(g:TG)(tc:TT)(te:TE)(J:It)(σ:St)(H1:Hp)(fin:List V->Hp->Prop):Prop :=
 ∃W:Nat->Nat->List V->Hp->Prop,(∃m,W 0 m [] H1)/\∀i m acc H,W i m acc H ->
  (J.stop i H/\fin acc H)\/(J.go i H/\∃Nx:List V->Hp->Prop,(∀acc' H',Nx acc' H'->∃m',m'<m/\W (i+1) m' acc' H')/\∀x H',J.yld i H x H'->g x (List.replicate k none++Nt cs σ) H' fun σ2 H2=>(∃ts:St,ts.length=k/\σ2=ts++Nt cs σ)/\acc.length<sizeLine /\
   tc σ2 H2 λb H3=>if b=true then te σ2 H3 λv H4=>Nx (acc++[v]) H4 else Nx acc H3)
def tComp(k:Nat)(cs:List Nat)(wi:TI)(g:TG)(tc:TT)(te:TE):TE:=fun σ H Q=>wi σ H λJ H1=>Gd k cs g tc te J σ H1 λacc H2=>∀p,H2 p=none->Q (.ref p) (upd H2 p (.lst acc))
section
variable{X:Cx}{tg iter elt:Expr}{ifs:List Expr}{scope:Scope}{pos:Pos}{wi:TI}{g:TG}{tc:TT}{te:TE}{N:List Str}{k:Nat}{cs:List Nat}
theorem Inv.block{pins:List (Addr×Obj)}{σ:St}{H:Hp}{s s':Shared}{ex:List Addr}(S:Bu X scope N k cs)(I:Inv X pins σ H s)
  (hex:∀b∈ex,Dw X pins H b/\∃o,s.heap.get? b=some o) (hos:s'.os=s.os) (hg:AllBare s'.gens) (hk:∀b o,s.heap.get? b=some o->s'.heap.get? b=some o) (hn:∃m,s'.heap.Ns s.heap.objs.size m) :
  Inv (cxC X scope N s H ex) [] (List.replicate k none++Nt cs σ) H s':=by
 have lk:∀{x c},(Ub X.env scope.names).lookup x=some c->X.env.cells.lookup x=some c:=λ{x c} h=>by
  rcases Qc X.env _ _ h with z|⟨z,e⟩
  ·simp at z
  ·obtain⟨a,ha⟩:=I.ok.has x (S.free _ z rfl);rw[e,ha];rfl
 have nex:∀b,b∈ex->b≠s.heap.objs.size:=λb hb z=>by
  obtain⟨_,o,ho⟩:=hex b hb;exact absurd (D6 ho) (by rw[z];exact O3 _)
 refine⟨⟨I.ok.mod,S.kind,I.ok.glob,I.ok.blt,C1 _,λx y c h1 h2=>I.ok.inj x y c (lk h1) (lk h2),λx hx=>?_,λx c h _=>(nomatch h),I.ok.hd,I.ok.frames,.inl rfl,λb hb=>⟨nex b hb,λx c h=>?_⟩,I.bs,?_,λb o e hb=>?_,λb hb hf=>?_,I.stack,I.stkFree⟩,
  hos,hg,Un.kept hk,?_,λx c h=>?_,I.hok.fresh (C1 _),λx c h=>I.freeC x c (lk h),λp hp=>absurd (show p∈([]:List (Addr×Obj))from hp) A6,I.hok.kept hk,?_⟩
 ·exact Ua X.env _ _ (Om S.cell hx)
 ·exact(hex b hb).1.2.2.2.2.1 x c (lk h)
 ·exact C9 I.ok.bsz I.sz
 ·rcases(hex b hb).1.2.2.2.1 with z|z
  ·exact I.ok.noex b o e z
  ·exact absurd (F2 (D6 e) (C9 I.ok.bsz z)) (O3 _)
 ·rcases C3.mp (I.stkSub b hf)with z|z
  ·exact(hex b hb).1.2.1 z
  ·exact(hex b hb).1.2.2.1 z
 ·obtain⟨m,hm⟩:=hn;obtain⟨mo,hmo,hlo⟩:=I.loc;refine⟨m,hm,λi x v h1 h2 h3=>?_⟩;have hi:k<=i:=by
   by_cases z:i<k
   ·rw[M4 (by simpa using z),U9,Y8 z]at h2;cases h2
   ·lia
  obtain⟨j,rfl⟩:∃j,i=k+j:=⟨i-k,by lia⟩
  rw[J6 A6,M9,Nat.add_sub_cancel_left]at h2;unfold Nt at h2;rw[C0]at h2;have hj:j<cs.length:=by
   by_cases z:j<cs.length
   ·exact z
   ·rw[Q9 A0]at h2;cases h2
  obtain⟨x',e1,e2,e3⟩:=S.cap j hj;rw[show N[k+j]?=some x from h1]at e1;cases e1;rw[C8 hj]at h2;have h2':(σ[cs[j]]?).getD none=some v:=Z2 h2;rw[D8,C8 hj]at e2;have h4:σ[cs[j]]?=some (some v):=by
   cases q:σ[cs[j]]? with
   |none=>rw[q]at h2';cases h2'
   |some w=>rw[q]at h2';rw[show w=some v from h2']
  have kO:=S.free (x,.free) (K7 e3) rfl;obtain⟨u,ru,l⟩:=hlo _ x v e2 h4 (.inr kO);refine⟨u,ru,?_⟩;rcases l with ⟨z,_⟩|⟨_,c,hc',z⟩
  ·have z':X.env.scope.names.lookup x=some .local:=z;rcases kO with q|q<;>· rw[z']at q;cases q
  ·obtain⟨c',h5⟩:=Ua X.env _ [] (K7 e3);have h6:=lk h5;rw[hc']at h6;cases h6;obtain⟨o,ho,hd⟩:=z;exact .inr ⟨LB e3,c,h5,o,hk _ _ ho,hd⟩
 ·obtain⟨v,o,ho,hd⟩:=I.cell x c (lk h);exact⟨v,o,hk _ _ ho,hd⟩
 ·show(List.replicate k none++Nt cs σ).length=N.length;rw[C4,M9,S.len];unfold Nt;rw[B8]
end
structure ZD(C:Cx->Prop)(P:Program)(w:World)(K:PySem.W.Frag)(tg:Expr)(J:It)(fp:List Addr)(it:Addr)(tn:Nat->Heap->Prop):Prop where
 obj:∀i h,tn i h->∀b∈fp,∃o,h.get? b=some o/\∀v,o.data≠.cell v
 keep:∀i h h',tn i h->(∀b∈fp,∀o,h.get? b=some o->h'.get? b=some o)->tn i h'
 item:∀(X:Cx),C X->X.prog=P->X.w=w->X.K=K->∀(i:Nat)(pins:List (Addr×Obj))(s:Shared)(σ:St)(H:Hp)(E:Value->Shared->Prop),Inv X pins σ H s->(∀b∈fp,Dw X pins H b)->tn i s.heap->J.go i H ->
  wpAny (model P w) X.A (pyNext (.ref it)) (λr s1=>∃u,r=some u/\wpAny (model P w) X.A (letOwnedTupleGo tg (.ref it) u) (λ_ s2=>∃x H',Inv X pins σ H' s2/\AY x u/\J.yld i H x H'/\tn (i+1) s2.heap/\∀b∈fp,H' b=none) E s1) E s
 done:∀(X:Cx),C X->X.prog=P->X.w=w->X.K=K->∀(i:Nat)(pins:List (Addr×Obj))(s:Shared)(σ:St)(H:Hp)(E:Value->Shared->Prop),Inv X pins σ H s->(∀b∈fp,Dw X pins H b)->tn i s.heap->J.stop i H ->
  wpAny (model P w) X.A (pyNext (.ref it)) (λr s1=>r=none/\Inv X pins σ H s1) E s
 self:∀(A:Around)(i:Nat)(s:Shared)(Q:Value->Shared->Prop)(E:Value->Shared->Prop),tn i s.heap->Q (.ref it) s->wpAny (model P w) A (pyIter (.ref it)) Q E s
theorem Ps.q{P:Program}{w:World}{K:PySem.W.Frag}{tg:Expr}{J:It}{fp:List Addr}{it:Addr}{tn:Nat->Heap->Prop}(T:Ps P w K tg J fp it tn):ZD (λX=>X.calm=true) P w K tg J fp it tn :=
 ⟨T.obj,T.keep,λX c p w k=>T.item X p w k c,λX c p w k=>T.done X p w k c,T.self⟩
section
variable{X:Cx}{tg iter elt:Expr}{ifs:List Expr}{scope:Scope}{pos:Pos}{wi:TI}{g:TG}{tc:TT}{te:TE}{N:List Str}{k:Nat}{cs:List Nat}{fin:List V->Hp->Prop}
theorem Wq{pins:List (Addr×Obj)}{σ:St}{H2:Hp}{sD s1:Shared}{it D:Addr}{fp:List Addr}{tn:Nat->Heap->Prop}{J:It}{n0:Nat}{RR:Result->Shared->Prop}{Cq:Cx->Prop}(hc:∀s H ex,Cq (cxC X scope N s H ex))(S:Bu X scope N k cs)
  (hg:∀s H ex,PG (cxC X scope N s H ex) tg g) (ht:∀s H ex,PTs (cxC X scope N s H ex) ifs tc) (he:∀s H ex,PE (cxC X scope N s H ex) elt te)
  (ID:Inv X pins σ H2 sD) (hD:sD.heap.get? D=some {cls:=.type "list",data:=.seq ([]:List Value).toArray n0}) (hD0:X.s₀.heap.objs.size<=D) (fD:Dw X pins H2 D) (nfp:D∉fp)
  (T:ZD Cq X.prog X.w X.K tg J fp it tn) (st:tn 0 sD.heap) (f2:∀b∈fp,Dw X pins H2 b) (hb:Gd k cs g tc te J σ H2 fin)
  (hos:s1.os=sD.os) (hgn:AllBare s1.gens) (hk:∀b o,sD.heap.get? b=some o->s1.heap.get? b=some o) (hn:∃m,s1.heap.Ns sD.heap.objs.size m)
  (hRR:∀(H':Hp)(acc:List V)(s4:Shared),fin acc H'->H' D=none->Inv X pins σ (upd H' D (.lst acc)) s4->(∃m,s4.heap.Ns sD.heap.objs.size m)->Dw X pins (upd H' D (.lst acc)) sD.heap.objs.size->RR (.ok .next) s4) :
  codeAny (model X.prog X.w) X.A (.compLoop (.ListComp elt [⟨tg,iter,ifs,0⟩] scope pos) 0 (.ref it) (.ref D) (compEnvC scope (Ub X.env scope.names) sD.heap.objs.size X.env)) RR s1:=by
 obtain⟨W,⟨m0,w0⟩,turn⟩:=hb;have hobj:∀b,b∈D::fp->∃o,sD.heap.get? b=some o:=λb hb=>by
  rcases C3.mp hb with rfl|z
  ·exact⟨_,hD⟩
  ·obtain⟨o,e,_⟩:=T.obj _ _ st b z;exact⟨o,e⟩
 have hexx:∀b∈D::fp,Dw X pins H2 b/\∃o,sD.heap.get? b=some o:=λb hb=>⟨by
  rcases C3.mp hb with rfl|z
  ·exact fD
  ·exact f2 b z,hobj b hb⟩
 have neC:∀b,b∈D::fp->b≠sD.heap.objs.size:=λb hb z=>by
  obtain⟨o,e⟩:=hobj b hb;exact absurd (D6 e) (by rw[z];exact O3 _)
 have nfr:∀b,b∈D::fp->b∉frs X.stack:=λb hb hf=>by
  rcases C3.mp (ID.stkSub b hf)with z|z
  ·exact(hexx b hb).1.2.1 z
  ·exact(hexx b hb).1.2.2.1 z
 have I0:=ID.block S hexx hos hgn hk hn;have I0ok:=I0.ok;have cells:∀b,b∈D::fp->∀x c,(Ub X.env scope.names).lookup x=some c->c≠b:=λb hb x c h=>(I0ok.exf b hb).2 x c h;have fpok:∀{H':Hp}{pl:List (Addr×Obj)},(∀b∈fp,H' b=none)->(∀p∈pl,p.1=D)->∀b∈fp,Dw (cxC X scope N sD H2 (D::fp)) pl H' b:=λhn hp b hb =>
  ⟨hn b hb,neC b (.tail _ hb),nfr b (.tail _ hb),.inl (.tail _ hb),cells b (.tail _ hb),λp hp' z=>nfp (by
   have:=hp p hp';rw[<-this,z];exact hb)⟩
 refine SI (λn s'=>∃(i:Nat)(acc:List V)(its:List Value)(nn:Nat)(H':Hp),Inv (cxC X scope N sD H2 (D::fp)) [] (List.replicate k none++Nt cs σ) H' s'/\tn i s'.heap/\(∀b∈fp,H' b=none)/\H' D=none/\acc.length<=sizeLine/\AM acc its /\
  s'.heap.get? D=some {cls:=.type "list",data:=.seq its.toArray nn}/\W i n acc H') ?_ m0
  ⟨0,[],[],n0,H2,I0,T.keep _ _ _ st (λb _ o e=>hk b o e),λb hb=>(f2 b hb).1,fD.1,L7 _,.nil,hk _ _ hD,w0⟩
 rintro n s3 ⟨i,acc,its,nn,H3,I3,st3,fr3,nD3,hl3,v3,e3,w3⟩;have I3p:Inv (cxC X scope N sD H2 (D::fp)) [(D,{cls:=.type "list",data:=.seq its.toArray nn})] (List.replicate k none++Nt cs σ) H3 s3:=I3.pins_of λp hp=>by
  rw[D7]at hp;subst hp;exact⟨e3,nD3,neC D (.head _),nfr D (.head _),λv z=>by cases z⟩
 have one:∀p∈[((D,{cls:=.type "list",data:=.seq its.toArray nn}):Addr×Obj)],p.1=D:=λp hp=>by
  rw[D7]at hp;subst hp;rfl
 rcases turn i n acc H3 w3 with ⟨stop,qf⟩|⟨go,Nx,hNx,step⟩
 ·refine thn (T.done (cxC X scope N sD H2 (D::fp)) (hc _ _ _) rfl rfl rfl i _ s3 _ H3 _ I3p (fpok fr3 one) st3 stop) λr s4 ⟨hr,I4⟩=>?_;subst hr;have IX:Inv X pins σ H3 s4:=ID.call' (ch:=D::fp) I4.os I4.base I4.hok I4.bare λb hb=>⟨(hexx b hb).1.2.2.2.1,(hexx b hb).1.2.1,(hexx b hb).1.2.2.2.2.1,(hexx b hb).1.2.2.2.2.2⟩
  have p4:=(I4.pin (D,{cls:=.type "list",data:=.seq its.toArray nn}) (by show _∈[]++[_];simp)).1;have IY:Inv X pins σ (upd H3 D (.lst acc)) s4:=by
   refine IX.track nD3 (O4 hD0) (O4 (C9 ID.ok.bsz hD0)) (Z1 fD.2.1) fD.2.2.2.2.1 fD.2.2.2.2.2 (λb hb z=>fD.2.2.1 (z▸hb)) ?_;exact⟨hl3,its,nn,v3,p4⟩
  refine hRR H3 acc s4 qf nD3 IY ?_ (ID.fpOk (C1 _) ?_)
  ·obtain⟨m,hm,_⟩:=I4.loc;exact⟨m,hm⟩
  ·rw[As (Z1 (neC D (.head _)))];exact I4.free
 ·refine thn (T.item (cxC X scope N sD H2 (D::fp)) (hc _ _ _) rfl rfl rfl i _ s3 _ H3 (λ_ _=>False) I3p (fpok fr3 one) st3 go) λr s4 ⟨u,hr,h4⟩=>?_;subst hr;refine thn h4 λ_ s5 ⟨x,H5,I5,r5,y5,st5,fr5⟩=>?_;have I5':=I5.pinned (fpok fr5 one) (T.obj _ _ st5);refine thn (hg sD H2 (D::fp) _ s5 _ H5 x u _ I5' r5 (step x H5 y5)) λ_ s6 ⟨σ6,H6,I6,⟨ts,tl,eσ⟩,hz6,q6⟩=>?_;refine thn (ht sD H2 (D::fp) _ s6 σ6 H6 _ I6 q6) λb s7 ⟨H7,I7,q7⟩=>?_;have weak:∀{pl:List (Addr×Obj)}{H':Hp}{s':Shared},Inv (cxC X scope N sD H2 (D::fp)) pl σ6 H' s'->Inv (cxC X scope N sD H2 (D::fp)) [] (List.replicate k none++Nt cs σ) H' s':=λ{pl H' s'} J=>by
   refine(J.weak (σ':=List.replicate k none++Nt cs σ) ?_ λj v e=>?_).pins_of λp hp=>absurd hp A6
   ·rw[eσ,C4,C4,M9,tl]
   ·by_cases z:j<k
    ·rw[M4 (by simpa using z),U9,Y8 z]at e;cases e
    ·rw[J6 (by rw[M9];lia),M9]at e;rw[eσ,J6 A0,tl];exact e
  have later:∀{pl:List (Addr×Obj)}{σ':St}{H':Hp}{s':Shared},Inv (cxC X scope N sD H2 (D::fp)) (pl++Mw fp s5.heap) σ' H' s'->tn (i+1) s'.heap/\∀b∈fp,H' b=none:=λ{pl σ' H' s'} J =>
   ⟨T.keep _ _ _ st5 λb hb o e=>(J.pin (b,o) (L6 _ (L6 _ (Iw hb e)))).1,λb hb=>by
    obtain⟨o,e,_⟩:=T.obj _ _ st5 b hb;exact(J.pin (b,o) (L6 _ (L6 _ (Iw hb e)))).2.1⟩
  cases b with
  |false =>
   have q7':Nx acc H7:=by simpa using q7
   obtain⟨m',hm,w7⟩:=hNx _ _ q7';rw[Y6 D0];have p7:=I7.pin (D,{cls:=.type "list",data:=.seq its.toArray nn}) (L6 _ (S7 _ (D7.mpr rfl)));exact⟨m',hm,i+1,acc,its,nn,H7,weak I7,(later I7).1,(later I7).2,p7.2.1,hl3,v3,p7.1,w7⟩
  |true =>
   rw[Y8 rfl]at q7;rw[Y8 rfl];refine thn (he sD H2 (D::fp) _ s7 σ6 H7 _ I7 q7) λy s8 ⟨v,H8,I8,r8,q8⟩=>?_;obtain⟨m',hm,w8⟩:=hNx _ _ q8;have p8:=I8.pin (D,{cls:=.type "list",data:=.seq its.toArray nn}) (L6 _ (S7 _ (D7.mpr rfl)));have hlen:=v3.length;refine A2c F.slot_list_append ⟨_,p8.1,rfl⟩ F.entry_list_append (F.args_list_append_2 _ _) (PySem.list_append D its.toArray nn y (by rw[F1];lia)) ⟨p8.1,?_⟩;have q:=PySem.IsL.update p8.1 (·.push y);have eq:its.toArray.push y=(its++[y]).toArray:=by simp
   dsimp only at q;rw[eq]at q;have I8':Inv (cxC X scope N sD H2 (D::fp)) ([]++Mw fp s5.heap) σ6 H8 s8:=I8.pins_of λp hp=>I8.pin p (L6 _ (L6 _ hp));have I9:=I8'.turned (t':=s8.toks) (it:=D) (h':=s8.heap.update D (Obj.mapSeq (·.push y))) (λb o hb e=>(V6 s8.heap (Obj.mapSeq (·.push y)) (Z1 hb)).trans e) p8.2.1 (neC D (.head _)) (.inl (.head _)) (cells D (.head _))
    (λp hp z=>nfp (by
     have:=(PH (fp:=fp) (h:=s5.heap) (p:=p) (by simpa[cxC] using hp)).1;rw[z]at this;exact this))
   refine⟨m',hm,i+1,acc++[v],its++[y],_,H8,weak I9,(later I9).1,(later I9).2,p8.2.1,?_,v3.append (.cons r8 .nil),q,w8⟩;rw[C4,Q8];lia
theorem OV{pins:List (Addr×Obj)}{σ:St}{H2:Hp}{s2:Shared}{it:Addr}{fp:List Addr}{tn:Nat->Heap->Prop}{J:It}{RR:Value->Addr->Result->Shared->Prop}{E:Value->Shared->Prop}{Cq:Cx->Prop}(hc:∀s H ex,Cq (cxC X scope N s H ex))(S:Bu X scope N k cs)
  (hg:∀s H ex,PG (cxC X scope N s H ex) tg g) (ht:∀s H ex,PTs (cxC X scope N s H ex) ifs tc) (he:∀s H ex,PE (cxC X scope N s H ex) elt te)
  (I2:Inv X pins σ H2 s2) (T:ZD Cq X.prog X.w X.K tg J fp it tn) (st:tn 0 s2.heap) (f2:∀b∈fp,Dw X pins H2 b) (hb:Gd k cs g tc te J σ H2 fin)
  (hRR:∀(D C:Addr)(H':Hp)(acc:List V)(s4:Shared),fin acc H'->H' D=none->Inv X pins σ (upd H' D (.lst acc)) s4->(∃m,s4.heap.Ns C m)->Dw X pins (upd H' D (.lst acc)) C->RR (.ref D) C (.ok .next) s4) :
  wpAny (model X.prog X.w) X.A (newList []) (λacc s₃=>wpAny (model X.prog X.w) X.A (newFunctionEnv scope X.env.globals (Ub X.env scope.names) [] X.env.qual none .none (some X.env)) (λcenv s₄ =>
   codeAny (model X.prog X.w) X.A (.compStart (.ListComp elt [⟨tg,iter,ifs,0⟩] scope pos) 0 (.ref it) acc {cenv with scope:=relabel scope X.env}) (RR acc cenv.locals) s₄) E s₃) E s2:=by
 refine A1f (wpAny_newFunctionEnv S.cell (by intro y hy;simp at hy) (λh₁ hns₁ hsb₁=>?_) S.kind);dsimp only at hns₁ hsb₁⊢;have keepD:∀b o,s2.heap.get? b=some o->(s2.heap.push {cls:=.type "list",dict:=none,data:=.seq ([]:List Value).toArray}).get? b=some o:=λb o e=>C2 _ e;have ID:Inv X pins σ H2 {s2 with heap:=s2.heap.push {cls:=.type "list",dict:=none,data:=.seq ([]:List Value).toArray} }:=I2.kept (t':=s2.toks) keepD;have hD:(s2.heap.push {cls:=.type "list",dict:=none,data:=.seq ([]:List Value).toArray}).get? s2.heap.objs.size=some {cls:=.type "list",data:=.seq ([]:List Value).toArray}:=D3 _ rfl;have nfp:s2.heap.objs.size∉fp:=λz=>by
  obtain⟨o,e,_⟩:=T.obj _ _ st _ z;exact absurd (D6 e) (O3 _)
 have stD:tn 0 (s2.heap.push {cls:=.type "list",dict:=none,data:=.seq ([]:List Value).toArray}):=T.keep _ _ _ st λb _ o e=>keepD b o e;have hk:∀b o,(s2.heap.push {cls:=.type "list",dict:=none,data:=.seq ([]:List Value).toArray}).get? b=some o->h₁.get? b=some o:=λb o e=>hsb₁.extBut b o (J3 (D6 e)) (C2 _ e);have loop:∀s₃:Shared,s₃={s2 with heap:=h₁,toks:=s2.toks+([]:List (Str×Value)).length} ->
   codeAny (model X.prog X.w) X.A (.compLoop (.ListComp elt [⟨tg,iter,ifs,0⟩] scope pos) 0 (.ref it) (.ref s2.heap.objs.size) (compEnvC scope (Ub X.env scope.names) (s2.heap.push {cls:=.type "list",dict:=none,data:=.seq ([]:List Value).toArray}).objs.size X.env))
    (RR (.ref s2.heap.objs.size) (s2.heap.push {cls:=.type "list",dict:=none,data:=.seq ([]:List Value).toArray}).objs.size) s₃:=by
  rintro s₃ rfl;exact Wq (sD:={s2 with heap:=s2.heap.push {cls:=.type "list",dict:=none,data:=.seq ([]:List Value).toArray} }) hc S hg ht he ID hD I2.sz (I2.fpOk (C1 _) I2.fresh) nfp T stD f2 hb rfl I2.bare hk ⟨_,hns₁⟩ λH' acc s4=>hRR _ _ H' acc s4
 exact codeAny_compStart_list (loop _ rfl) (T.self _ 0 _ _ _ (T.keep _ _ _ stD λb _ o e=>hk b o e) (loop _ rfl))
theorem BW(hc:X.calm=true)(S:Bu X scope N k cs)(hi:PI X tg iter wi)(hg:∀s H ex,PG (cxC X scope N s H ex) tg g)(ht:∀s H ex,PTs (cxC X scope N s H ex) ifs tc)(he:∀s H ex,PE (cxC X scope N s H ex) elt te)
  (hs:∀x,foldedSetIterable iter X.env x=pure x:=by intro _;rfl):PE X (.ListComp elt [⟨tg,iter,ifs,0⟩] scope pos) (tComp k cs wi g tc te):=by
 intro pins s σ H Q I h;rw[eval_ListComp];refine wpAny_comprehension_free (use:=none) rfl hs (OW λy hy hf=>I.ok.has _ (S.free y hy hf)) S.kind S.names (thn (hi pins s σ H _ I h) λv s1 h1=>thn h1 λitv s2 h2=>?_);obtain⟨it,fp,tn,J,H2,rfl,I2,T,st2,f2,hb⟩:=h2;refine OV (RR:=λacc C=>compPost (model X.prog X.w) X.A X.xe none (EP X pins σ Q) acc C) (Cq:=λX=>X.calm=true) (λ_ _ _=>hc) S hg ht he I2 T.q st2 f2 hb λD C H' acc s4 qf nD J4 hn fC=>?_;obtain⟨m,hm⟩:=hn;refine⟨m,hm,λh' sb=>⟨.ref D,upd H' D (.lst acc),?_,rfl,qf D nD⟩⟩;exact J4.turned (t':=s4.toks) (it:=C) (λb o hb e=>(sb.2 b hb).trans e) fC.1 fC.2.1 fC.2.2.2.1 fC.2.2.2.2.1 fC.2.2.2.2.2
def WE(i k:Nat)(cs:List Nat)(wi:TI)(g:TG)(tc:TT)(te:TE):TS:=λD σ H=>wi σ H λJ H1=>Gd k cs g tc te J σ H1 λacc H2=>∀p,H2 p=none->D.nx (σ.set i (some (.ref p))) (upd H2 p (.lst acc))
theorem Ie{i:Nat}{y:Str}{py spos:Pos}(hc:X.calm=true)(hN:X.N.Nodup)(hi':X.N[i]?=some y)(hy:X.env.scope.names.lookup y=some .local)(S:Bu X scope N k cs)(hi:PI X tg iter wi)
  (hg:∀s H ex,PG (cxC X scope N s H ex) tg g) (ht:∀s H ex,PTs (cxC X scope N s H ex) ifs tc) (he:∀s H ex,PE (cxC X scope N s H ex) elt te)
  (hsw:swapsWith (.ListComp elt [⟨tg,iter,ifs,0⟩] scope pos) (some (.Name y py)) spos.line X.env=pure true:=by rfl) (hs:∀x,foldedSetIterable iter X.env x=pure x:=by intro _;rfl) :
  PS X (.Assign [.Name y py] (.ListComp elt [⟨tg,iter,ifs,0⟩] scope pos) spos) (WE i k cs wi g tc te):=by
 intro pins s σ H D I h;rw[exec_Assign_Name_used _ _ _ _ hsw];refine Y5 (A4g (Y5 ?_));show wpAny _ X.A (do let _ <-comprehension (.ListComp elt [⟨tg,iter,ifs,0⟩] scope pos) scope X.env _ (newList []) false (eval iter X.env) (some (assign (.Name y py) X.env))) _ _ s;refine Y5 (K9 (wpAny_comprehension_free (use:=some (assign (.Name y py) X.env)) (Q:=λ_ s'=>SP X pins D .next s') rfl hs (OW λy hy hf=>I.ok.has _ (S.free y hy hf)) S.kind S.names
  (thn (hi pins s σ H _ I h) λv s1 h1=>thn h1 λitv s2 h2=>?_)) (λ_ s' hq=>Z0 (Z0 hq)) λ_ _ e=>e)
 obtain⟨it,fp,tn,J,H2,rfl,I2,T,st2,f2,hb⟩:=h2;refine OV (RR:=λacc C=>compPost (model X.prog X.w) X.A X.xe (some (assign (.Name y py) X.env)) (λ_ s'=>SP X pins D .next s') acc C) (Cq:=λX=>X.calm=true) (λ_ _ _=>hc) S hg ht he I2 T.q st2 f2 hb λL C H' acc s4 qf nD J4 hn fC=>?_;obtain⟨m,hm⟩:=hn;show wpAny _ X.A (assign (.Name y py) X.env (.ref L)) _ _ _;refine wpAny_assign_Name (PB J4 hN hi' (.inl hy) (v:=.ref L) rfl (λs5 J5 hsb=>?_) (.inr hy));obtain⟨a,sb,ha⟩:=hsb;have nCa:C≠a:=by
  rcases ha with z|z
  ·rw[z];exact fC.2.1
  ·exact λq=>fC.2.2.2.2.1 y a z q.symm
 refine⟨m,hm.sameBut sb nCa,λh' sb'=>⟨σ.set i (some (.ref L)),upd H' L (.lst acc),?_,qf L nD⟩⟩;exact J5.turned (t':=s5.toks) (it:=C) (λb o hb e=>(sb'.2 b hb).trans e) fC.1 fC.2.1 fC.2.2.2.1 fC.2.2.2.2.1 fC.2.2.2.2.2
end
section
variable{K:PySem.W.Frag}{k:Nat}{cs:List Nat}{g:TG}{tc:TT}{te:TE}{σ:St}{H:Hp}{fin:List V->Hp->Prop}
abbrev Bt(k:Nat)(cs:List Nat)(g:TG)(tc:TT)(te:TE)(σ:St)(x:V)(acc:List V)(H:Hp)(Nx:List V->Hp->Prop):Prop :=
 g x (List.replicate k none++Nt cs σ) H fun σ2 H2=>(∃ts:St,ts.length=k/\σ2=ts++Nt cs σ)/\acc.length<sizeLine/\tc σ2 H2 λb H3=>if b=true then te σ2 H3 λv H4=>Nx (acc++[v]) H4 else Nx acc H3
theorem De{a:Addr}{xs:List V}(Pv:Nat->List V->Hp->Prop)(h0:Pv 0 [] H)(hl:∀i acc H,i<=xs.length->Pv i acc H->SqL K H a xs)
  (hs:∀i x acc H,xs[i]?=some x->Pv i acc H->Bt k cs g tc te σ x acc H (Pv (i+1))) (hd:∀acc H,Pv xs.length acc H->fin acc H):Gd k cs g tc te (Itl K a) σ H fin:=by
 refine⟨λi m acc H=>m=xs.length-i/\i<=xs.length/\Pv i acc H,⟨xs.length,by simp,L7 _,h0⟩,?_⟩;rintro i m acc H ⟨rfl,hi,p⟩;have q:=hl i acc H hi p;by_cases hlt:i<xs.length
 ·refine .inr ⟨⟨xs,xs[i],q,by simp[hlt]⟩,Pv (i+1),λacc' H' p'=>⟨xs.length-(i+1),by lia,rfl,hlt,p'⟩,λx H' y=>?_⟩;obtain⟨e,y⟩:=y;subst e;exact hs i x acc _ (y xs q) p
 ·have e:i=xs.length:=by lia
  subst e;exact .inl ⟨⟨xs,q,C1 _⟩,hd acc H p⟩
theorem Ro{a:Addr}{xs:List V}(Pv:Nat->List V->Hp->Prop)(h0:Pv 0 [] H)(hl:∀i acc H,i<=xs.length->Pv i acc H->SqT K H a xs)
  (hs:∀i x acc H,xs[i]?=some x->Pv i acc H->Bt k cs g tc te σ x acc H (Pv (i+1))) (hd:∀acc H,Pv xs.length acc H->fin acc H):Gd k cs g tc te (Itt K a) σ H fin:=by
 refine⟨λi m acc H=>m=xs.length-i/\i<=xs.length/\Pv i acc H,⟨xs.length,by simp,L7 _,h0⟩,?_⟩;rintro i m acc H ⟨rfl,hi,p⟩;have q:=hl i acc H hi p;by_cases hlt:i<xs.length
 ·refine .inr ⟨⟨xs,xs[i],q,by simp[hlt]⟩,Pv (i+1),λacc' H' p'=>⟨xs.length-(i+1),by lia,rfl,hlt,p'⟩,λx H' y=>?_⟩;obtain⟨e,y⟩:=y;subst e;exact hs i x acc _ (y xs q) p
 ·have e:i=xs.length:=by lia
  subst e;exact .inl ⟨⟨xs,q,C1 _⟩,hd acc H p⟩
theorem MU{lo:Int}{n:Nat}(Pv:Nat->List V->Hp->Prop)(h0:Pv 0 [] H)(hs:∀i acc H,i<n->Pv i acc H->Bt k cs g tc te σ (.int (lo+i)) acc H (Pv (i+1)))(hd:∀acc H,Pv n acc H->fin acc H):Gd k cs g tc te (Itr lo n) σ H fin:=by
 refine⟨λi m acc H=>m=n-i/\i<=n/\Pv i acc H,⟨n,by simp,L7 _,h0⟩,?_⟩;rintro i m acc H ⟨rfl,hi,p⟩;by_cases hlt:i<n
 ·refine .inr ⟨hlt,Pv (i+1),λacc' H' p'=>⟨n-(i+1),by lia,rfl,hlt,p'⟩,λx H' y=>?_⟩;obtain⟨e,y⟩:=y;subst e y;exact hs i acc _ hlt p
 ·have e:i=n:=by lia
  subst e;exact .inl ⟨C1 _,hd acc H p⟩
end
section
variable{prog:Program}{w:World}{A:Around}{E:Value->Shared->Prop}{s:Shared}
theorem LK{I t:Addr}{k:Nat}{vs:Array Value}{v:Value}{Q:Value->Shared->Prop}(hI:s.heap.IsTupleIter I t k)(hV:s.heap.IsTuple t vs)(hv:vs[k]?=some v)
  (q:∀g,g.IsTupleIter I t (k+1)->Heap.SameBut I s.heap g->Q v {s with heap:=g}):wpAny (model prog w) A (Builtin.SmallTypes.nextOf (.ref I)) Q E s:=by
 obtain⟨oI,eI,cI,dI⟩:=id hI;obtain⟨oV,eV,_,nV,dV⟩:=hV;unfold Builtin.SmallTypes.nextOf;refine Y5 (wpAny_callSpecial?_slot (name:=Str.ofString "__next__") hI.typeIs A1h (A0c A1h hI.typeIs F.entry_tuple_iterator_next ?_ (F.args_tuple_iterator_next_1 _)));show wpAny _ _ (field (.ref I) 0 >>= _) _ _ s;refine Y5 (A0a eI dI (x:=.ref t) rfl ?_);show wpAny _ _ (if(Value.ref t==Value.none)=true then _ else _) _ _ s;rw[Y6 (λz:(Value.ref t==Value.none)=true=>D0 z)];show wpAny _ _ (field (.ref I) 1 >>= _) _ _ s;refine Y5 (A0a eI dI (x:=.int k 0) rfl ?_);show wpAny _ _ (seqItems? (.ref t) >>= _) _ _ s;refine Y5 (A0d eV dV ?_);simp only[J8,hv];refine Y5 (A4d eI dI A6 (Z0 ⟨v,rfl,Z0 (q _ ?_ (A2f ..))⟩));exact⟨_,W0 _ eI (Obj.isFreed_of_fields (A3a dI _)),(Obj.cls_mapFields ..).trans cI,by rw[A3a dI];simp[rawInt]⟩
theorem MD{I t:Addr}{k:Nat}{vs:Array Value}{Q:Value->Shared->Prop}(hA:A.handled=none)(hI:s.heap.IsTupleIter I t k)(hV:s.heap.IsTuple t vs)(hv:vs[k]?=none)
  (q:∀g e,Heap.ExtBut I s.heap g->(∃o,g.get? e=some o/\o.cls=.type "StopIteration")->E (.ref e) {s with heap:=g}):wpAny (model prog w) A (Builtin.SmallTypes.nextOf (.ref I)) Q E s:=by
 obtain⟨oI,eI,cI,dI⟩:=id hI;obtain⟨oV,eV,_,nV,dV⟩:=hV;unfold Builtin.SmallTypes.nextOf;refine Y5 (wpAny_callSpecial?_slot (name:=Str.ofString "__next__") hI.typeIs A1h (A0c A1h hI.typeIs F.entry_tuple_iterator_next ?_ (F.args_tuple_iterator_next_1 _)));show wpAny _ _ (field (.ref I) 0 >>= _) _ _ s;refine Y5 (A0a eI dI (x:=.ref t) rfl ?_);show wpAny _ _ (if(Value.ref t==Value.none)=true then _ else _) _ _ s;rw[Y6 (λz:(Value.ref t==Value.none)=true=>D0 z)];show wpAny _ _ (field (.ref I) 1 >>= _) _ _ s;refine Y5 (A0a eI dI (x:=.int k 0) rfl ?_);show wpAny _ _ (seqItems? (.ref t) >>= _) _ _ s;refine Y5 (A0d eV dV ?_);simp only[J8,hv];refine Y5 (wpAny_rule (Y5 (A4d eI dI A6 ?_)));show wpAny _ _ (newExc (.type "StopIteration") [] >>= _) _ _ _;refine Y5 ?_;simp only[newExc,newTuple];refine Y5 (A1f ?_ (by size_fits));refine Y5 (m:=firstArgMember _ _) (wpAny_of_eq (a:=Value.none) (by first|rfl|(simp only[firstArgMember];rfl)) (A1f ?_ (by size_fits)));simp only[raiseNew];refine Y5 (wpAny_handled ?_)
 first|rw[show A.in1.handled=none from hA]|rw[hA]
 refine Y5 (Z0 (wpAny_throw (q _ _ (((A2f ..).extBut.push _).push _) ⟨_,D3 _ rfl,rfl⟩)))
def Cu:Bool->Heap->Addr->Addr->Nat->Prop
 |true,h,I,l,k=>h.IsTupleIter I l k
 |false,h,I,l,k=>h.IsListIter I l k
def DK:Bool->Heap->Addr->Array Value->Prop
 |true,h,l,vs=>h.IsTuple l vs
 |false,h,l,vs=>h.IsList l vs
def SqX(K:PySem.W.Frag):Bool->Hp->Addr->List V->Prop
 |true,H,a,xs=>SqT K H a xs
 |false,H,a,xs=>SqL K H a xs
theorem Cu.move{b:Bool}{h g:Heap}{I l:Addr}{k:Nat}(x:Cu b h I l k)(e:∀o,h.get? I=some o->g.get? I=some o):Cu b g I l k:=by
 cases b with
 |true=>obtain⟨o,ho,r⟩:=x;exact⟨o,e _ ho,r⟩
 |false=>obtain⟨o,ho,r⟩:=x;exact⟨o,e _ ho,r⟩
theorem Cu.there{b:Bool}{h:Heap}{I l:Addr}{k:Nat}(x:Cu b h I l k):∃o,h.get? I=some o/\∀v,o.data≠.cell v:=by
 cases b with
 |true=>obtain⟨o,ho,_,d⟩:=x;exact⟨o,ho,λv z=>by rw[d]at z;cases z⟩
 |false=>obtain⟨o,ho,_,d⟩:=x;exact⟨o,ho,λv z=>by rw[d]at z;cases z⟩
theorem DK.move{b:Bool}{h g:Heap}{l:Addr}{vs:Array Value}(x:DK b h l vs)(e:∀o,h.get? l=some o->g.get? l=some o):DK b g l vs:=by
 cases b with
 |true=>obtain⟨o,ho,r⟩:=x;exact⟨o,e _ ho,r⟩
 |false=>obtain⟨o,ho,r⟩:=x;exact⟨o,e _ ho,r⟩
theorem DA{b:Bool}{I l:Addr}{k:Nat}{vs:Array Value}{v:Value}{Q:Value->Shared->Prop}(hI:Cu b s.heap I l k)(hV:DK b s.heap l vs)(hv:vs[k]?=some v)
  (q:∀g,Cu b g I l (k+1)->Heap.SameBut I s.heap g->Q v {s with heap:=g}):wpAny (model prog w) A (Builtin.SmallTypes.nextOf (.ref I)) Q E s:=by
 cases b with
 |true=>exact LK hI hV hv q
 |false=>exact wpAny_nextOf_list_item hI hV hv q
theorem FH{b:Bool}{I l:Addr}{k:Nat}{vs:Array Value}{Q:Value->Shared->Prop}(hA:A.handled=none)(hI:Cu b s.heap I l k)(hV:DK b s.heap l vs)(hv:vs[k]?=none)
  (q:∀g e,Heap.ExtBut I s.heap g->(∃o,g.get? e=some o/\o.cls=.type "StopIteration")->E (.ref e) {s with heap:=g}):wpAny (model prog w) A (Builtin.SmallTypes.nextOf (.ref I)) Q E s:=by
 cases b with
 |true=>exact MD hA hI hV hv q
 |false=>exact wpAny_nextOf_list_end hA hI hV hv q
theorem Fs{b:Bool}{l:Addr}{vs:Array Value}{Q:Value->Shared->Prop}(hV:DK b s.heap l vs)
  (q:∀g,Cu b g s.heap.objs.size l 0->g.objs.size=s.heap.objs.size+1->(∀c o,s.heap.get? c=some o->g.get? c=some o)->Q (.ref s.heap.objs.size) {s with heap:=g}):wpAny (model prog w) A (pyIter (.ref l)) Q E s:=by
 cases b with
 |true=>exact wpAny_pyIter_tuple hV (q _ ⟨_,D3 _ rfl,rfl,rfl⟩ (P0 ..) λc o e=>C2 _ e)
 |false=>exact A2d hV (q _ ⟨_,D3 _ rfl,rfl,rfl⟩ (P0 ..) λc o e=>C2 _ e)
structure VA(z U O i j l m:Addr):Prop where
 nd:[z,U,O,i,j].Nodup
 l:l∉[z,O,i,j]
 m:m∉[z,O,i,j]
theorem Wx{b c:Bool}{z U O i j l m:Addr}{k:Nat}{xs ys:Array Value}{x y p q:Value}{Q:Value->Shared->Prop}(D:VA z U O i j l m)(hZ:IsZip s.heap z U O .none)(hU:IsPair s.heap U (.ref i) (.ref j))(hO:IsPair s.heap O p q)
  (hi:Cu b s.heap i l k) (hj:Cu c s.heap j m k) (hl:DK b s.heap l xs) (hm:DK c s.heap m ys) (hx:xs[k]?=some x) (hy:ys[k]?=some y)
  (fin:∀g,IsZip g z U O (rawInt s.heap.objs.size)->IsPair g O x y->Cu b g i l (k+1)->Cu c g j m (k+1)->IsPair g s.heap.objs.size x y->g.objs.size=s.heap.objs.size+1 ->
   (∀a o,a∉[z,O,i,j]->s.heap.get? a=some o->g.get? a=some o)->Q (.ref s.heap.objs.size) {s with heap:=g}) :
  wpAny (model prog w) A (Builtin.«zip.__next__» ⟨[.ref z],[]⟩) (λr s'=>∃v,r=.done (.ret v)/\Q v s') E s:=by
 obtain⟨nd,nl,nm⟩:=D;simp only[N4,C3,F0,X7,A3e,S2,and_true,A2g]at nd nl nm;obtain⟨⟨zU,zO,zi,zj⟩,⟨UO,Ui,Uj⟩,⟨Oi,Oj⟩,ij⟩:=nd;obtain⟨lz,lO,li,lj⟩:=nl;obtain⟨mz,mO,mi,mj⟩:=nm;show wpAny _ _ (field (.ref z) 2 >>= _) _ _ _;refine Y5 (A0a hZ rfl (x:=.bool false) rfl ?_);show wpAny _ _ (field (.ref z) 3 >>= _) _ _ _;refine Y5 (A0a hZ rfl (x:=.ref U) rfl (Y5 (A0d hU rfl ?_)));show wpAny _ _ (Builtin.SmallTypes.ownedTupleIsFree (.ref z) >>= _) _ _ _;refine Y5 ?_;unfold Builtin.SmallTypes.ownedTupleIsFree;refine Y5 (A0a hZ rfl (x:=.none) rfl (Z0 ?_));simp only[A2e];refine Y5 (wpAny_rule (Y5 (A0a hZ rfl (x:=.ref O) rfl (Y5 (A1b hZ A6 λh1 hZ1 s1=>?_)))));replace hZ1:IsZip h1 z U O .ellipsis:=hZ1;refine Y5 ?_;simp only[List.zipIdx_cons,List.zipIdx_nil,List.forIn_cons,List.forIn_nil];refine Y5 (Y5 (A4h ?_));show wpAny _ _ (Builtin.SmallTypes.nextOf (.ref i) >>= _) _ _ _;refine Y5 (DA (hi.move λo e=>s1.extBut _ _ (Z1 zi) e) (hl.move λo e=>s1.extBut _ _ lz e) hx λh2 hi2 s2=>Z0 ?_);have hO2:IsPair h2 O p q:=s2.extBut _ _ Oi (s1.extBut _ _ (Z1 zO) hO);refine Y5 (A0d hO2 rfl (Y5 (A4e hO2 λh3 hO3 s3=>?_)));replace hO3:IsPair h3 O x q:=hO3;refine Y5 (wpAny_letGo (Z0 (Y5 (Y5 (A4h ?_)))));show wpAny _ _ (Builtin.SmallTypes.nextOf (.ref j) >>= _) _ _ _;refine Y5 (DA (hj.move λo e=>s3.extBut _ _ (Z1 Oj) (s2.extBut _ _ (Z1 ij) (s1.extBut _ _ (Z1 zj) e))) (hm.move λo e=>s3.extBut _ _ mO (s2.extBut _ _ mi (s1.extBut _ _ mz e))) hy λh4 hj4 s4=>Z0 ?_);have hO4:IsPair h4 O x q:=s4.extBut _ _ Oj hO3;refine Y5 (A0d hO4 rfl (Y5 (A4e hO4 λh5 hO5 s5=>?_)));replace hO5:IsPair h5 O x y:=hO5;refine Y5 (wpAny_letGo (Z0 (Z0 (Y5 (A0d hO5 rfl (Y5 (wpAny_newTuple ?_)))))));have sz:h5.objs.size=s.heap.objs.size:=by rw[s5.1,s4.1,s3.1,s2.1,s1.1]
 have hZ5:IsZip h5 z U O .ellipsis:=s5.extBut _ _ zO (s4.extBut _ _ zj (s3.extBut _ _ zO (s2.extBut _ _ zi hZ1)));have kp:∀a o,a∉[z,O,i,j]->s.heap.get? a=some o->h5.get? a=some o:=λa o ha e=>by
  simp only[C3,F0,X7,A3e]at ha;exact s5.extBut _ _ ha.2.1 (s4.extBut _ _ ha.2.2.2 (s3.extBut _ _ ha.2.1 (s2.extBut _ _ ha.2.2.1 (s1.extBut _ _ ha.1 e))))
 have hi5:Cu b h5 i l (k+1):=hi2.move λo e=>s5.extBut _ _ (Z1 Oi) (s4.extBut _ _ ij (s3.extBut _ _ (Z1 Oi) e));have hj5:Cu c h5 j m (k+1):=hj4.move λo e=>s5.extBut _ _ (Z1 Oj) e;have zlt:z<h5.objs.size:=D6 hZ5;show wpAny _ _ (Builtin.SmallTypes.ownedTupleHandOut (.ref z) (.ref h5.objs.size) >>= _) _ _ _;refine Y5 ?_;unfold Builtin.SmallTypes.ownedTupleHandOut;have hZ6:IsZip (h5.push {cls:=.type "tuple",data:=.seq #[x,y]}) z U O .ellipsis:=C2 _ hZ5;refine Y5 (A1b hZ6 A6 λh7 hZ7 s7=>?_);replace hZ7:IsZip h7 z U O (rawInt h5.objs.size):=hZ7;refine A1b hZ7 A6 λh8 hZ8 s8=>?_;replace hZ8:IsZip h8 z U O (rawInt h5.objs.size):=hZ8;have up:∀a o,a≠z->h5.get? a=some o->h8.get? a=some o:=λa o na e=>s8.extBut _ _ na (s7.extBut _ _ na (C2 _ e));have hT:IsPair h8 h5.objs.size x y:=s8.extBut _ _ (T3 zlt) (s7.extBut _ _ (T3 zlt) (D3 _ rfl));have sz8:h8.objs.size=h5.objs.size+1:=by rw[s8.1,s7.1,P0]
 rw[sz]at hZ8 hT sz8;refine Z0 ⟨_,rfl,?_⟩;show Q (.ref h5.objs.size) _;rw[sz];refine fin h8 hZ8 (up _ _ (Z1 zO) hO5) (hi5.move λo e=>up _ o (Z1 zi) e) (hj5.move λo e=>up _ o (Z1 zj) e) hT sz8 λa o ha e=>up a o ?_ (kp a o ha e);simp only[C3,F0,X7,A3e]at ha;exact ha.1
theorem Ww{b c:Bool}{z U O i j l m:Addr}{k:Nat}{xs ys:Array Value}{p q:Value}{Q:Fin->Shared->Prop}(hA:A.handled=none)(D:VA z U O i j l m)(hZ:IsZip s.heap z U O .none)(hU:IsPair s.heap U (.ref i) (.ref j))(hO:IsPair s.heap O p q)
  (hi:Cu b s.heap i l k) (hj:Cu c s.heap j m k) (hl:DK b s.heap l xs) (hm:DK c s.heap m ys) (hend:xs[k]?=none\/ys[k]?=none)
  (fin:∀g e,(∀a o,a∉[z,O,i,j]->s.heap.get? a=some o->g.get? a=some o)->(∃o,g.get? e=some o/\o.cls=.type "StopIteration")->E (.ref e) {s with heap:=g}) :
  wpAny (model prog w) A (Builtin.«zip.__next__» ⟨[.ref z],[]⟩) Q E s:=by
 obtain⟨nd,nl,nm⟩:=D;simp only[N4,C3,F0,X7,A3e,S2,and_true,A2g]at nd nl nm;obtain⟨⟨zU,zO,zi,zj⟩,⟨UO,Ui,Uj⟩,⟨Oi,Oj⟩,ij⟩:=nd;obtain⟨lz,lO,li,lj⟩:=nl;obtain⟨mz,mO,mi,mj⟩:=nm;show wpAny _ _ (field (.ref z) 2 >>= _) _ _ _;refine Y5 (A0a hZ rfl (x:=.bool false) rfl ?_);show wpAny _ _ (field (.ref z) 3 >>= _) _ _ _;refine Y5 (A0a hZ rfl (x:=.ref U) rfl (Y5 (A0d hU rfl ?_)));show wpAny _ _ (Builtin.SmallTypes.ownedTupleIsFree (.ref z) >>= _) _ _ _;refine Y5 ?_;unfold Builtin.SmallTypes.ownedTupleIsFree;refine Y5 (A0a hZ rfl (x:=.none) rfl (Z0 ?_));simp only[A2e];refine Y5 (wpAny_rule (Y5 (A0a hZ rfl (x:=.ref O) rfl (Y5 (A1b hZ A6 λh1 hZ1 s1=>?_)))));replace hZ1:IsZip h1 z U O .ellipsis:=hZ1;refine Y5 ?_;simp only[List.zipIdx_cons,List.zipIdx_nil,List.forIn_cons,List.forIn_nil];refine Y5 (Y5 (A4h ?_));show wpAny _ _ (Builtin.SmallTypes.nextOf (.ref i) >>= _) _ _ _;have out:∀{a:Addr},a∉[z,O,i,j]->a≠z/\a≠O/\a≠i/\a≠j:=λha=>by simpa only[C3,F0,X7,A3e] using ha
 cases hx:xs[k]? with
 |none =>
  refine Y5 (FH hA (hi.move λo e=>s1.extBut _ _ (Z1 zi) e) (hl.move λo e=>s1.extBut _ _ lz e) hx λh2 e s2 he=>?_);obtain⟨oe,hoe,hce⟩:=he;have hZ2:IsZip h2 z U O .ellipsis:=s2 _ _ zi hZ1;have ez:e≠z:=λt=>by subst t;rw[hZ2]at hoe;cases hoe;simp at hce
  exact A1b hZ2 A6 λh3 _ s3=>fin h3 e (λa o ha t=>s3.extBut _ _ (out ha).1 (s2 _ _ (out ha).2.2.1 (s1.extBut _ _ (out ha).1 t))) ⟨oe,s3.extBut _ _ ez hoe,hce⟩
 |some x =>
  have hy:ys[k]?=none:=by
   rcases hend with t|t
   ·rw[hx]at t;cases t
   ·exact t
  refine Y5 (DA (hi.move λo e=>s1.extBut _ _ (Z1 zi) e) (hl.move λo e=>s1.extBut _ _ lz e) hx λh2 hi2 s2=>Z0 ?_);have hO2:IsPair h2 O p q:=s2.extBut _ _ Oi (s1.extBut _ _ (Z1 zO) hO);refine Y5 (A0d hO2 rfl (Y5 (A4e hO2 λh3 hO3 s3=>?_)));refine Y5 (wpAny_letGo (Z0 (Y5 (Y5 (A4h ?_)))));show wpAny _ _ (Builtin.SmallTypes.nextOf (.ref j) >>= _) _ _ _;refine Y5 (FH hA (hj.move λo e=>s3.extBut _ _ (Z1 Oj) (s2.extBut _ _ (Z1 ij) (s1.extBut _ _ (Z1 zj) e))) (hm.move λo e=>s3.extBut _ _ mO (s2.extBut _ _ mi (s1.extBut _ _ mz e))) hy λh4 e s4 he=>?_);obtain⟨oe,hoe,hce⟩:=he;have hZ4:IsZip h4 z U O .ellipsis:=s4 _ _ zj (s3.extBut _ _ zO (s2.extBut _ _ zi hZ1));have ez:e≠z:=λt=>by subst t;rw[hZ4]at hoe;cases hoe;simp at hce
  exact A1b hZ4 A6 λh5 _ s5=>fin h5 e (λa o ha t=>s5.extBut _ _ (out ha).1 (s4 _ _ (out ha).2.2.2 (s3.extBut _ _ (out ha).2.1 (s2.extBut _ _ (out ha).2.2.1 (s1.extBut _ _ (out ha).1 t))))) ⟨oe,s5.extBut _ _ ez hoe,hce⟩
theorem Wy(g2:Heap)(n:Nat)(e2:g2.objs.size=n+2)(i j:Value):∃g5,g5=((g2.push {cls:=.type "tuple",data:=.seq #[i,j]}).push {cls:=.type "tuple",data:=.seq #[.none,.none]}).push
   {cls:=.type "zip",data:=.fields #[.none,.bool false,.bool false,.ref g2.objs.size,.ref (g2.push {cls:=.type "tuple",data:=.seq #[i,j]}).objs.size]} /\
  IsZip g5 (n+4) (n+2) (n+3) .none/\IsPair g5 (n+2) i j/\IsPair g5 (n+3) .none .none/\(∀a o,g2.get? a=some o->g5.get? a=some o) /\
  ((g2.push {cls:=.type "tuple",data:=.seq #[i,j]}).push {cls:=.type "tuple",data:=.seq #[.none,.none]}).objs.size=n+4:=by
 have e3:(g2.push {cls:=.type "tuple",data:=.seq #[i,j]}).objs.size=n+3:=by rw[P0,e2]
 have e4:((g2.push {cls:=.type "tuple",data:=.seq #[i,j]}).push {cls:=.type "tuple",data:=.seq #[.none,.none]}).objs.size=n+4:=by rw[P0,e3]
 refine⟨_,rfl,?_,?_,?_,λa o e=>C2 _ (C2 _ (C2 _ e)),e4⟩
 ·have q:=D3 ((g2.push {cls:=.type "tuple",data:=.seq #[i,j]}).push {cls:=.type "tuple",data:=.seq #[.none,.none]}) (o:={cls:=.type "zip",data:=.fields #[.none,.bool false,.bool false,.ref g2.objs.size,.ref (g2.push {cls:=.type "tuple",data:=.seq #[i,j]}).objs.size]}) rfl;rw[e4]at q;show _=some _;rw[q,e2,e3]
 ·have q:=C2 {cls:=.type "zip",data:=.fields #[.none,.bool false,.bool false,.ref g2.objs.size,.ref (g2.push {cls:=.type "tuple",data:=.seq #[i,j]}).objs.size]} (C2 {cls:=.type "tuple",data:=.seq #[.none,.none]} (D3 g2 (o:={cls:=.type "tuple",data:=.seq #[i,j]}) rfl));rw[<-e2];exact q
 ·have q:=C2 {cls:=.type "zip",data:=.fields #[.none,.bool false,.bool false,.ref g2.objs.size,.ref (g2.push {cls:=.type "tuple",data:=.seq #[i,j]}).objs.size]} (D3 (g2.push {cls:=.type "tuple",data:=.seq #[i,j]}) (o:={cls:=.type "tuple",data:=.seq #[.none,.none]}) rfl);rw[<-e3];exact q
theorem VY{b c:Bool}(l m:Addr)(xs ys:Array Value):Meets (Builtin.«zip.__new__» ⟨[.type "zip",.ref l,.ref m],[]⟩) (λ_ R s=>DK b s.heap l xs/\DK c s.heap m ys /\
   ∀g,IsZip g (s.heap.objs.size+4) (s.heap.objs.size+2) (s.heap.objs.size+3) .none->IsPair g (s.heap.objs.size+2) (.ref s.heap.objs.size) (.ref (s.heap.objs.size+1))->IsPair g (s.heap.objs.size+3) .none .none ->
    Cu b g s.heap.objs.size l 0->Cu c g (s.heap.objs.size+1) m 0->(∀a o,s.heap.get? a=some o->g.get? a=some o)->R (.ok (.ret (.ref (s.heap.objs.size+4)))) {s with heap:=g}) :=
 .of_wp λprog w A R s h=>by
  obtain⟨hp,g,d,tk,os⟩:=s;obtain⟨hl,hm,h⟩:=h;have hsub:=sub_zip
  wp_walk using Fs hl
  intro g1 i1 z1 k1;have hm1:DK c (Shared.heap ⟨g1,g,d,tk,os⟩) m ys:=hm.move λo e=>k1 _ o e
  wp_walk using Fs hm1
  intro g2 i2 z2 k2
  wp_walk
  refine⟨_,rfl,?_⟩;have e1:g1.objs.size=hp.objs.size+1:=z1;have e2:g2.objs.size=hp.objs.size+2:=by rw[show g2.objs.size=g1.objs.size+1 from z2,e1]
  obtain⟨g5,e5,a1,a2,a3,k5,s5⟩:=Wy g2 hp.objs.size e2 (.ref hp.objs.size) (.ref g1.objs.size);have a2':IsPair g5 (hp.objs.size+2) (.ref hp.objs.size) (.ref (hp.objs.size+1)):=by rw[<-e1];exact a2
  have i2':Cu c g2 (hp.objs.size+1) m 0:=by rw[<-e1];exact i2
  have key:=h g5 a1 a2' a3 ((i1.move λo e=>k2 _ o e).move λo e=>k5 _ o e) (i2'.move λo e=>k5 _ o e) λa o e=>k5 _ _ (k2 _ _ (k1 _ _ e));dsimp only at key;rw[e5,<-s5]at key;exact key
theorem Inv.turnedL{X:Cx}{pins:List (Addr×Obj)}{σ:St}{H:Hp}{s:Shared}{g:Heap}{tk:Nat}{ch:List Addr}(I:Inv X pins σ H s)(k:∀b o,b∉ch->s.heap.get? b=some o->g.get? b=some o)(hch:∀b∈ch,Dw X pins H b):Inv X pins σ H {s with heap:=g,toks:=tk}:=by
 have nch:∀b u,H b=some u->b∉ch:=λb u e z=>by rw[(hch b z).1]at e;cases e
 refine I.step (g':=s.gens) (d':=s.drawn) (ch:=ch) (λb hb=>⟨(hch b hb).2.2.2.1,(hch b hb).2.1,(hch b hb).2.2.2.2.1,(hch b hb).2.2.2.2.2⟩) (λb o _ _ hc e _=>k b o hc e) (λb o _ _ hc e _=>⟨o.slots,k b o hc e⟩) (λ_ _ _ _ n=>n)
  (λb o hc e=>⟨o,k b o hc e⟩) (λ_ _ e=>e) (λ_ _ _ e=>e) (λb ps e=>⟨#[],by rw[e];simp⟩) (λm hm=>?_) (λb u e=>?_) I.bare
 ·obtain⟨o,es,ep,ho,r⟩:=hm;exact⟨o,es,ep,k _ o (λz=>(hch _ z).2.1 rfl) ho,r⟩
 ·refine(I.hok b u e).stay (λc v hc q=>k c v ?_ q) (λ_ q=>q) λ_ _ q=>q;rcases hc with z|z
  ·rw[z];exact nch b u e
  ·exact nch c _ z
theorem Inv.pair{X:Cx}{pins:List (Addr×Obj)}{σ:St}{H:Hp}{s:Shared}{g:Heap}{tk n:Nat}{ch:List Addr}{x y:V}{u v:Value}(I:Inv X pins σ H s)(k:∀b o,b∉ch->s.heap.get? b=some o->g.get? b=some o)(hch:∀b∈ch,Dw X pins H b)
  (rx:AY x u) (ry:AY y v) (e:g.get? s.heap.objs.size=some {cls:=.type "tuple",data:=.seq #[u,v] n}):H s.heap.objs.size=none/\Inv X pins σ (upd H s.heap.objs.size (.tup [x,y])) {s with heap:=g,toks:=tk}:=by
 have f:=I.fpOk (C1 _) I.fresh;refine⟨f.1,(I.turnedL (tk:=tk) k hch).track f.1 (O4 I.sz) (O4 (C9 I.ok.bsz I.sz)) (Z1 f.2.1) f.2.2.2.2.1 f.2.2.2.2.2 (λb hb z=>f.2.2.1 (z▸hb)) ?_⟩;exact⟨by show 2<=sizeLine;decide,[u,v],.cons rx (.cons ry .nil),_,e,rfl,n,rfl⟩
theorem Inv.sq{X:Cx}{pins:List (Addr×Obj)}{σ:St}{H:Hp}{s:Shared}{b:Bool}{a:Addr}{xs:List V}(I:Inv X pins σ H s)(h:SqX X.K b H a xs):∃its:List Value,AM xs its/\DK b s.heap a its.toArray:=by
 cases b with
 |true =>
  obtain⟨its,r,p,_⟩:=I.tuple h;exact⟨its,r,p⟩
 |false =>
  obtain⟨its,r,p,_⟩:=I.list h;exact⟨its,r,p.isList⟩
theorem Inv.sq_inj{X:Cx}{pins:List (Addr×Obj)}{σ:St}{H:Hp}{s:Shared}{b:Bool}{a:Addr}{xs ys:List V}(I:Inv X pins σ H s)(h:SqX X.K b H a xs)(h':SqX X.K b H a ys):xs=ys:=by
 cases b with
 |true=>exact I.tuple_inj h h'
 |false=>exact I.list_inj h h'
def Itz(K:PySem.W.Frag)(b c:Bool)(l m:Addr):It :=
 ⟨λi H=>∃xs ys x y,SqX K b H l xs/\SqX K c H m ys/\xs[i]?=some x/\ys[i]?=some y,
  λi H v H'=>∃(T:Addr)(x y:V),v=.ref T/\H T=none/\H'=upd H T (.tup [x,y])/\(∀xs,SqX K b H l xs->xs[i]?=some x)/\∀ys,SqX K c H m ys->ys[i]?=some y,
  λi H=>∃xs ys,SqX K b H l xs/\SqX K c H m ys/\(xs.length<=i\/ys.length<=i)⟩
def ZipTn(b c:Bool)(z U O i j l m:Addr)(k:Nat)(h:Heap):Prop:=IsZip h z U O .none/\IsPair h U (.ref i) (.ref j)/\(∃p q,IsPair h O p q)/\Cu b h i l k/\Cu c h j m k
theorem WB{P:Program}{w:World}{K:PySem.W.Frag}{es:List Expr}{n:Nat}{tpos:Pos}{b c:Bool}{z U O i j l m:Addr}(D:VA z U O i j l m):Ps P w K (.Tuple es n tpos) (Itz K b c l m) [z,U,O,i,j] z (ZipTn b c z U O i j l m) where
 mem:=by simp
 obj:=λk h st a ha=>by
  obtain⟨hZ,hU,⟨p,q,hO⟩,hi,hj⟩:=st;simp only[C3,F0,X7]at ha;rcases ha with rfl|rfl|rfl|rfl|rfl
  ·exact⟨_,hZ,λv t=>by cases t⟩
  ·exact⟨_,hU,λv t=>by cases t⟩
  ·exact⟨_,hO,λv t=>by cases t⟩
  ·exact hi.there
  ·exact hj.there
 keep:=λk h h' st kp=>by
  obtain⟨hZ,hU,⟨p,q,hO⟩,hi,hj⟩:=st;exact⟨kp z A6 _ hZ,kp U A6 _ hU,⟨p,q,kp O A6 _ hO⟩,hi.move λo e=>kp i A6 o e,hj.move λo e=>kp j A6 o e⟩
 item:=by
  intro X hP hw hK hc k pins s σ H E I hf st hg;subst hP hw hK;obtain⟨hZ,hU,⟨p,q,hO⟩,hi,hj⟩:=st;obtain⟨xs,ys,x,y,sx,sy,hx,hy⟩:=hg;obtain⟨us,ru,ou⟩:=I.sq sx;obtain⟨vs,rv,ov⟩:=I.sq sy;obtain⟨u,hu,rxu⟩:=ru.get hx;obtain⟨v,hv,ryv⟩:=rv.get hy;have hT:s.TypeIs (.ref z) "zip" := ⟨_,hZ,rfl⟩
  unfold pyNext;refine Y5 (A2a (wpAny_callSpecial?_slot (name:=Str.ofString "__next__") hT A4b (A0c A4b hT F.entry_zip_next (Wx D hZ hU hO hi hj ou ov (by simpa using hu) (by simpa using hv) λg gZ gO gi gj gT gs gk=>Z0 ⟨_,rfl,?_⟩) (F.args_zip_next_1 _))));refine wpAny_letOwnedTupleGo_zip (s:={s with heap:=g}) gZ λg2 gZ2 sb=>?_;obtain⟨nd,nl,nm⟩:=D;simp only[N4,C3,F0,X7,A3e,S2,and_true,A2g]at nd;obtain⟨⟨zU,zO,zi,zj⟩,⟨UO,Ui,Uj⟩,⟨Oi,Oj⟩,ij⟩:=nd;have zlt:z<s.heap.objs.size:=D6 hZ;have kk:∀a o,a∉[z,O,i,j]->s.heap.get? a=some o->g2.get? a=some o:=λa o ha e=>(sb.2 a (λt=>ha (by simp[t]))).trans (gk a o ha e);have fch:∀a∈[z,O,i,j],Dw X pins H a:=λa ha=>hf a (by
   simp only[C3,F0,X7]at ha⊢;rcases ha with t|t|t|t<;>simp[t])
  obtain⟨nT,J⟩:=I.pair (tk:=s.toks) kk fch rxu ryv ((sb.2 _ (T3 zlt)).trans gT);refine⟨.ref s.heap.objs.size,_,J,rfl,⟨_,x,y,rfl,nT,rfl,λxs' q'=>by rw[I.sq_inj q' sx];exact hx,λys' q'=>by rw[I.sq_inj q' sy];exact hy⟩,⟨gZ2,kk U _ ?_ hU,⟨u,v,(sb.2 O (Z1 zO)).trans gO⟩,gi.move λo e=>(sb.2 i (Z1 zi)).trans e,gj.move λo e=>(sb.2 j (Z1 zj)).trans e⟩,λa ha=>?_⟩
  ·simp only[C3,F0,X7,A3e];exact⟨Z1 zU,UO,Ui,Uj⟩
  ·have e:=(hf a ha).1;have lt:a≠s.heap.objs.size:=by
    simp only[C3,F0,X7]at ha;rcases ha with t|t|t|t|t<;>subst t
    ·exact J3 zlt
    ·exact J3 (D6 hU)
    ·exact J3 (D6 hO)
    ·obtain⟨o,e,_⟩:=hi.there;exact J3 (D6 e)
    ·obtain⟨o,e,_⟩:=hj.there;exact J3 (D6 e)
   rw[As lt];exact e
 done:=by
  intro X hP hw hK hc k pins s σ H E I hf st hg;subst hP hw hK;obtain⟨hZ,hU,⟨p,q,hO⟩,hi,hj⟩:=st;obtain⟨xs,ys,sx,sy,hend⟩:=hg;obtain⟨us,ru,ou⟩:=I.sq sx;obtain⟨vs,rv,ov⟩:=I.sq sy;have lu:=ru.length;have lv:=rv.length;have hT:s.TypeIs (.ref z) "zip" := ⟨_,hZ,rfl⟩
  have he:us.toArray[k]?=none\/vs.toArray[k]?=none:=hend.imp (λt=>by simp;lia) (λt=>by simp;lia);unfold pyNext;refine Y5 (A2a (wpAny_callSpecial?_slot (name:=Str.ofString "__next__") hT A4b (A0c A4b hT F.entry_zip_next (Ww (I.ok.hd hc) D hZ hU hO hi hj ou ov he λg e gk ge=>?_) (F.args_zip_next_1 _))));obtain⟨o,ho,hcl⟩:=ge;refine Y5 (wpAny_isInstance (T:="StopIteration") (b:=true) ⟨o,ho,hcl⟩ isSubtype_stop (Z0 ⟨rfl,?_⟩));exact I.turnedL (tk:=s.toks) gk λa ha=>hf a (by
   simp only[C3,F0,X7]at ha⊢;rcases ha with t|t|t|t<;>simp[t])
 self:=λ_ _ _ _ _ st h=>wpAny_pyIter_zip st.1 h
end
theorem DK.obj{b:Bool}{h:Heap}{l:Addr}{vs:Array Value}(x:DK b h l vs):∃o,h.get? l=some o:=by
 cases b with
 |true=>obtain⟨o,e,_⟩:=x;exact⟨o,e⟩
 |false=>obtain⟨o,e,_⟩:=x;exact⟨o,e⟩
theorem Wm(g1:Heap)(n:Nat)(e1:g1.objs.size=n+1):∃g2,g2=g1.push {cls:=.type "enumerate",data:=.fields #[.none,.bool false,.ref n,rawInt 0,.none,.none]}/\IsEnum g2 (n+1) n 0 .none/\∀a o,g1.get? a=some o->g2.get? a=some o:=by
 refine⟨_,rfl,?_,λa o e=>C2 _ e⟩;have q:=D3 g1 (o:={cls:=.type "enumerate",data:=.fields #[.none,.bool false,.ref n,rawInt 0,.none,.none]}) rfl;rw[e1]at q;exact q
set_option maxHeartbeats 1000000 in
theorem TJ{b:Bool}(l:Addr)(xs:Array Value):Meets (Builtin.«enumerate.__new__» ⟨[.type "enumerate",.ref l],[]⟩) (λ_ R s=>DK b s.heap l xs /\
   ∀g,IsEnum g (s.heap.objs.size+1) s.heap.objs.size 0 .none->Cu b g s.heap.objs.size l 0->(∀a o,s.heap.get? a=some o->g.get? a=some o)->R (.ok (.ret (.ref (s.heap.objs.size+1)))) {s with heap:=g}) :=
 .of_wp λprog w A R s h=>by
  obtain⟨hp,g,d,tk,os⟩:=s;obtain⟨hl,h⟩:=h;obtain⟨ol,eol⟩:=hl.obj;have hsub:=sub_enumerate;have fin:∀g1,Cu b g1 hp.objs.size l 0->g1.objs.size=hp.objs.size+1->(∀c o,hp.get? c=some o->g1.get? c=some o)->∃v,Fin.done (Flow.ret (.ref g1.objs.size))=Fin.done (Flow.ret v)/\R (.ok (.ret v)) ⟨g1.push {cls:=.type "enumerate",data:=.fields #[.none,.bool false,.ref hp.objs.size,rawInt 0,.none,.none]},g,d,tk,os⟩:=λg1 i1 z1 k1=>by
   obtain⟨g2,e2,a1,k2⟩:=Wm g1 hp.objs.size z1;refine⟨_,rfl,?_⟩;have key:=h g2 a1 (i1.move λo e=>k2 _ o e) λa o e=>k2 _ _ (k1 _ _ e);dsimp only at key;rw[e2,<-z1]at key;exact key
  wp_walk using AutoSeq1.wpAny_loadPart' eol
  refine wpAny_stack_any λst=>Z0 ?_;split
  ·rename_i c' _ _ _ _ _;cases(c'==Value.type "enumerate")
   ·wp_walk using AutoSeq1.wpAny_loadPart' eol,Fs hl
    intro g1 i1 z1 k1
    wp_walk
    exact fin g1 i1 z1 k1
   ·wp_walk using AutoSeq1.wpAny_loadPart' eol,Fs hl
    intro g1 i1 z1 k1
    wp_walk
    exact fin g1 i1 z1 k1
  ·wp_walk using AutoSeq1.wpAny_loadPart' eol,Fs hl
   intro g1 i1 z1 k1
   wp_walk
   exact fin g1 i1 z1 k1
theorem PY{prog:Program}{w:World}{A:Around}{b:Bool}(hA:A.handled=none)(I l:Addr)(ne:l≠I)(vs:Array Value) :
  Draws prog w A I [I,l] vs.size (λk v=>vs[k]?=some v) (λk h=>Cu b h I l k/\DK b h l vs) where
 live:=λ_ _ st=>let ⟨o,ho,_⟩:=st.1.there;⟨o,ho⟩
 frame:=λ_ _ _ st hk=>⟨st.1.move λo e=>hk I A6 o e,st.2.move λo e=>hk l A6 o e⟩
 item:=λk s Q E hi st hQ=>DA st.1 st.2 (v:=vs[k]) (by simp[hi]) λg hI sb=>hQ _ g s.toks (by simp[hi]) ⟨hI,st.2.move λo e=>(sb.2 l ne).trans e⟩ sb
 done:=λs Q E st hE=>FH hA st.1 st.2 A6 hE
def Ite(K:PySem.W.Frag)(b:Bool)(l:Addr):It :=
 ⟨λi H=>∃xs x,SqX K b H l xs/\xs[i]?=some x,
  λi H v H'=>∃(T:Addr)(x:V),v=.ref T/\H T=none/\H'=upd H T (.tup [.int i,x])/\∀xs,SqX K b H l xs->xs[i]?=some x,
  λi H=>∃xs,SqX K b H l xs/\xs.length=i⟩
theorem VD{P:Program}{w:World}{K:PySem.W.Frag}{es:List Expr}{n:Nat}{tpos:Pos}{b:Bool}{e I l:Addr}(eI:e≠I)(le:l≠e)(lI:l≠I) :
  Ps P w K (.Tuple es n tpos) (Ite K b l) [e,I] e (λk h=>(∃old,IsEnum h e I k old)/\Cu b h I l k) where
 mem:=by simp
 obj:=λk h st a ha=>by
  obtain⟨⟨old,he⟩,hI⟩:=st;simp only[C3,F0,X7]at ha;rcases ha with rfl|rfl
  ·exact⟨_,he,λv t=>by cases t⟩
  ·exact hI.there
 keep:=λk h h' st kp=>by
  obtain⟨⟨old,he⟩,hI⟩:=st;exact⟨⟨old,kp e A6 _ he⟩,hI.move λo t=>kp I A6 o t⟩
 item:=by
  intro X hP hw hK hc k pins s σ H E J hf st hg;subst hP hw hK;obtain⟨⟨old,he⟩,hI⟩:=st;obtain⟨xs,x,sx,hx⟩:=hg;obtain⟨us,ru,ou⟩:=J.sq sx;have lu:=ru.length;have hk:k<xs.length:=(B9.mp hx).1;refine wpAny_pyNext_enum_itemD (PY (b:=b) (A:=X.A.in1) (J.ok.hd hc) I l lI us.toArray) he ⟨hI,ou⟩ (by simp;lia) eI (by simp[eI,Z1 le]) λu g tk hu gE gS gT gs gk=>⟨_,rfl,?_⟩
  obtain⟨u',hu',rxu⟩:=ru.get hx;have eu:u=u':=by
   have:us[k]?=some u:=by simpa using hu
   rw[hu']at this;exact(Z2 this).symm
  subst eu;refine wpAny_letOwnedTupleGo_enum (s:={s with heap:=g,toks:=tk+1}) gE λg2 gE2 sb=>?_;have elt:e<s.heap.objs.size:=D6 he;have kk:∀a o,a∉[e,I]->s.heap.get? a=some o->g2.get? a=some o:=λa o ha t=>(sb.2 a (λz=>ha (by simp[z]))).trans (gk a o (λz=>ha (by simp[z])) (λz=>ha (by simp[z])) t);obtain⟨nT,J2⟩:=J.pair (tk:=tk+1) (x:=.int k) (u:=.int k tk) kk hf ⟨tk,rfl⟩ rxu ((sb.2 _ (T3 elt)).trans gT);refine⟨.ref s.heap.objs.size,_,J2,rfl,⟨_,x,rfl,nT,rfl,λxs' q'=>by rw[J.sq_inj q' sx];exact hx⟩,⟨⟨_,by simpa using gE2⟩,gS.1.move λo t=>(sb.2 I (Z1 eI)).trans t⟩,λa ha=>?_⟩;have t:=(hf a ha).1;have lt:a≠s.heap.objs.size:=by
   simp only[C3,F0,X7]at ha;rcases ha with z|z<;>subst z
   ·exact J3 elt
   ·obtain⟨o,t,_⟩:=hI.there;exact J3 (D6 t)
  rw[As lt];exact t
 done:=by
  intro X hP hw hK hc k pins s σ H E J hf st hg;subst hP hw hK;obtain⟨⟨old,he⟩,hI⟩:=st;obtain⟨xs,sx,hend⟩:=hg;obtain⟨us,ru,ou⟩:=J.sq sx;have lu:=ru.length;have ek:k=us.toArray.size:=by simp;lia
  refine wpAny_pyNext_enum_endD (PY (b:=b) (A:=X.A.in1) (J.ok.hd hc) I l lI us.toArray) he ⟨ek▸hI,ou⟩ λg gk=>⟨rfl,?_⟩
  exact J.turnedL (tk:=s.toks) (ch:=[e,I]) (λa o ha t=>gk a o (λz=>ha (by simp[z])) t) hf
 self:=λA i s Q E st h=>by
  obtain⟨⟨old,he⟩,_⟩:=st;exact wpAny_pyIter_enum he h
section
variable{X:Cx}{es:List Expr}{n:Nat}{tpos p pos:Pos}{e1 e2:Expr}{t:TA}
def iZip(b c:Bool)(K:PySem.W.Frag)(t:TA):TI:=fun σ H R=>t σ H λvs H1=>∃(l m:Addr),vs=[.ref l,.ref m]/\(∃xs,SqX K b H1 l xs)/\(∃ys,SqX K c H1 m ys)/\R (Itz K b c l m) H1
theorem DK.lt{b:Bool}{h:Heap}{l:Addr}{vs:Array Value}(x:DK b h l vs):l<h.objs.size:=by
 cases b with
 |true=>obtain⟨o,e,_⟩:=x;exact D6 e
 |false=>obtain⟨o,e,_⟩:=x;exact D6 e
theorem apart5(n l m:Nat)(hl:l<n)(hm:m<n):VA (n+4) (n+2) (n+3) n (n+1) l m:=by
 refine⟨(show([n+4,n+2,n+3,n,n+1]:List Nat).Nodup from ?_),(show l∉([n+4,n+3,n,n+1]:List Nat)from ?_),(show m∉([n+4,n+3,n,n+1]:List Nat)from ?_)⟩
 ·simp only[N4,C3,F0,X7,A3e,S2,and_true,A2g];lia
 ·simp only[C3,F0,X7,A3e];lia
 ·simp only[C3,F0,X7,A3e];lia
theorem pi_zip(b c:Bool)(hg:Gl X "zip")(hm:X.mg "zip" = none)(ha:PA X [e1,e2] t)(hs:starEach [e1,e2] X.env=[(false,eval e1 X.env),(false,eval e2 X.env)]:=by rfl)(hs2:starEach [e2] X.env=[(false,eval e2 X.env)]:=by rfl) :
  PI X (.Tuple es n tpos) (.Call (.Name "zip" p) [e1,e2] [] pos) (iZip b c X.K t):=by
 intro pins s σ H R I h;refine Call_ (Jn I hg hm PyProof.Rows.boot_zip (K8 (thn (ha pos pins s σ H _ I h) λus s1 ⟨vs,H1,I1,r1,q1⟩=>?_) (by rw[hs,hs2]) (by rw[hs2];rfl)));obtain⟨l,m,rfl,⟨xs,sx⟩,⟨ys,sy⟩,q⟩:=q1;obtain⟨u,v,rfl,ru,rv⟩:=r1.two;cases(show u=Value.ref l from ru);cases(show v=Value.ref m from rv);obtain⟨ul,_,ol⟩:=I1.sq sx;obtain⟨um,_,om⟩:=I1.sq sy;refine callType_new F.called_zip A4 (F.typeCall_zip_2 _ _) (F.newCall_zip_2 _ _) (λobj=>F.args_object_init_3 obj _ _) F.entry_zip_new (VY (b:=b) (c:=c) l m ul.toArray um.toArray) ⟨ol,om,λg gZ gU gO gi gj gk=>?_⟩;refine⟨⟨_,gZ,rfl⟩,wpAny_pyIter_zip (s:={s1 with heap:=g}) gZ ?_⟩;have ll:=ol.lt;have lm:=om.lt;have hA:=apart5 s1.heap.objs.size l m ll lm;refine⟨s1.heap.objs.size+4,_,_,_,H1,rfl,I1.kept (t':=s1.toks) gk,WB hA,⟨gZ,gU,⟨_,_,gO⟩,gi,gj⟩,λa ha=>?_,q⟩;have le:s1.heap.objs.size<=a:=by
  simp only[C3,F0,X7]at ha;rcases ha with t|t|t|t|t<;>rw[t]<;>first|exact C1 _|exact S4 _ _
 exact I1.fpOk le (I1.hok.fresh le)
def iEnum(b:Bool)(K:PySem.W.Frag)(t:TA):TI:=fun σ H R=>t σ H λvs H1=>∃(l:Addr),vs=[.ref l]/\(∃xs,SqX K b H1 l xs)/\R (Ite K b l) H1
theorem ND(b:Bool)(hg:Gl X "enumerate")(hm:X.mg "enumerate" = none)(ha:PA X [e1] t)(hs:starEach [e1] X.env=[(false,eval e1 X.env)]:=by rfl) :
  PI X (.Tuple es n tpos) (.Call (.Name "enumerate" p) [e1] [] pos) (iEnum b X.K t):=by
 intro pins s σ H R I h;refine Call_ (Jn I hg hm PyProof.Rows.boot_enumerate (K8 (thn (ha pos pins s σ H _ I h) λus s1 ⟨vs,H1,I1,r1,q1⟩=>?_) hs rfl));obtain⟨l,rfl,⟨xs,sx⟩,q⟩:=q1;obtain⟨u,rfl,ru⟩:=r1.one;cases(show u=Value.ref l from ru);obtain⟨ul,_,ol⟩:=I1.sq sx;refine callType_new F.called_enumerate A4 (F.typeCall_enumerate_1 _) (F.newCall_enumerate_1 _) (λobj=>F.args_object_init_2 obj _) F.entry_enumerate_new (TJ (b:=b) l ul.toArray) ⟨ol,λg gE gi gk=>?_⟩;refine⟨⟨_,gE,rfl⟩,wpAny_pyIter_enum (s:={s1 with heap:=g}) gE ?_⟩;have ll:=ol.lt;refine⟨s1.heap.objs.size+1,_,_,_,H1,rfl,I1.kept (t':=s1.toks) gk,VD (e:=s1.heap.objs.size+1) (I:=s1.heap.objs.size) (l:=l) (Nat.succ_ne_self _) (J3 (W8 ll)) (J3 ll),⟨⟨_,gE⟩,gi⟩,λa ha=>?_,q⟩;have le:s1.heap.objs.size<=a:=by
  simp only[C3,F0,X7]at ha;rcases ha with t|t<;>rw[t]<;>first|exact C1 _|exact S4 _ _
 exact I1.fpOk le (I1.hok.fresh le)
end
section
variable{K:PySem.W.Frag}{b c:Bool}{l m:Addr}{xs ys:List V}{σ:St}{H:Hp}
theorem SD{K:PySem.W.Frag}{i j:Nat}{T:Addr}{x y:V}{σ:St}{H:Hp}{Q:St->Hp->Prop}(h:H T=some (.tup [x,y]))(q:Q ((σ.set i (some x)).set j (some y)) H):gTup K 2 (SF (OP i) (SF (OP j) gNil)) (.ref T) σ H Q :=
 ⟨T,_,rfl,SqT.of h,rfl,x,_,rfl,y,_,rfl,rfl,q⟩
theorem LW{g:TG}{tb:TS}{D:Md}(Pv:Nat->St->Hp->Prop)(h0:Pv 0 σ H)(hl:∀i σ H,i<=xs.length->Pv i σ H->SqX K b H l xs)
  (hs:∀i x σ H T,xs[i]?=some x->Pv i σ H->H T=none->g (.ref T) σ (upd H T (.tup [.int i,x])) fun σ2 H2=>tb {D with nx:=Pv (i+1),ct:=Pv (i+1),bk:=D.nx} σ2 H2) (hd:∀σ H,Pv xs.length σ H->D.nx σ H) :
  ∃W:Nat->Nat->St->Hp->Prop,(∃m,W 0 m σ H)/\∀i m σ H,W i m σ H ->
   ((Ite K b l).stop i H/\D.nx σ H)\/((Ite K b l).go i H/\∃N:St->Hp->Prop,(∀σ' H',N σ' H'->∃m',m'<m/\W (i+1) m' σ' H')/\∀x H',(Ite K b l).yld i H x H'->g x σ H' fun σ2 H2=>tb {D with nx:=N,ct:=N,bk:=D.nx} σ2 H2):=by
 refine⟨λi m σ H=>m=xs.length-i/\i<=xs.length/\Pv i σ H,⟨xs.length,by simp,L7 _,h0⟩,?_⟩;rintro i m σ H ⟨rfl,hi,p⟩;have q:=hl i σ H hi p;by_cases hlt:i<xs.length
 ·refine .inr ⟨⟨xs,xs[i],q,by simp[hlt]⟩,Pv (i+1),fun σ' H' p'=>⟨xs.length-(i+1),by lia,rfl,hlt,p'⟩,λx H' y=>?_⟩;obtain⟨T,z,rfl,nT,rfl,hz⟩:=y;exact hs i z σ _ T (hz xs q) p nT
 ·have e:i=xs.length:=by lia
  subst e;exact .inl ⟨⟨xs,q,rfl⟩,hd σ H p⟩
variable{k:Nat}{cs:List Nat}{g:TG}{tc:TT}{te:TE}{fin:List V->Hp->Prop}
theorem blk_zip(Pv:Nat->List V->Hp->Prop)(h0:Pv 0 [] H)(hl:∀i acc H,Pv i acc H->SqX K b H l xs/\SqX K c H m ys)
  (hs:∀i x y acc H T,xs[i]?=some x->ys[i]?=some y->Pv i acc H->H T=none->Bt k cs g tc te σ (.ref T) acc (upd H T (.tup [x,y])) (Pv (i+1))) (hd:∀acc H,Pv (min xs.length ys.length) acc H->fin acc H):Gd k cs g tc te (Itz K b c l m) σ H fin:=by
 refine⟨λi n acc H=>n=min xs.length ys.length-i/\i<=min xs.length ys.length/\Pv i acc H,⟨min xs.length ys.length,by simp,L7 _,h0⟩,?_⟩;rintro i n acc H ⟨rfl,hi,p⟩;obtain⟨qx,qy⟩:=hl i acc H p;by_cases hlt:i<min xs.length ys.length
 ·have lx:i<xs.length:=by lia
  have ly:i<ys.length:=by lia
  refine .inr ⟨⟨xs,ys,xs[i],ys[i],qx,qy,by simp[lx],by simp[ly]⟩,Pv (i+1),λacc' H' p'=>⟨min xs.length ys.length-(i+1),by lia,rfl,hlt,p'⟩,λx H' y=>?_⟩;obtain⟨T,z,z',rfl,nT,rfl,hz,hz'⟩:=y;exact hs i z z' acc _ T (hz xs qx) (hz' ys qy) p nT
 ·have e:i=min xs.length ys.length:=by lia
  subst e;exact .inl ⟨⟨xs,ys,qx,qy,by lia⟩,hd acc H p⟩
theorem blk_str{x:Str}(Pv:Nat->List V->Hp->Prop)(h0:Pv 0 [] H)(hs:∀i ch acc H,x.cps.toList[i]?=some ch->Pv i acc H->Bt k cs g tc te σ (.str ⟨#[ch]⟩) acc H (Pv (i+1)))(hd:∀acc H,Pv x.cps.toList.length acc H->fin acc H):Gd k cs g tc te (Its x) σ H fin:=by
 have e0:x.cps.toList.length=x.cps.size:=by simp
 refine⟨λi m acc H=>m=x.cps.size-i/\i<=x.cps.size/\Pv i acc H,⟨x.cps.size,by simp,L7 _,h0⟩,?_⟩;rintro i m acc H ⟨rfl,hi,p⟩;by_cases hlt:i<x.cps.size
 ·refine .inr ⟨hlt,Pv (i+1),λacc' H' p'=>⟨x.cps.size-(i+1),by lia,rfl,hlt,p'⟩,λv H' y=>?_⟩;obtain⟨e,ch,hch,rfl⟩:=y;subst e;exact hs i ch acc _ (by simpa using hch) p
 ·have e:i=x.cps.size:=by lia
  subst e;exact .inl ⟨rfl,hd acc H (by rw[e0];exact p)⟩
end
theorem PE.or{X:Cx}{e:Expr}{t u:TE}(h:PE X e t)(h':PE X e u):PE X e (fun σ H Q=>t σ H Q\/u σ H Q):=by
 intro pins s σ H Q I q;rcases q with q|q
 ·exact h pins s σ H Q I q
 ·exact h' pins s σ H Q I q
theorem rm{a b:Nat}{A:Around}(h:CO b A)(hle:a<=b:=by first|decide|lia):CO a A:=h.mono hle
structure Cal(P:Program)(w:World)(K:PySem.W.Frag)(mg:Str->Option Value)(base:Heap)(CX:CXT)(k:Nat)(x:Str)(ps:List Str)(sp:Sp):Prop where
 ex:∃(f:Addr)(fd:FuncData),AJ P w K mg base CX k f fd ps sp/\mg x=some (.ref f)/\keepIn K (.ref f)=true/\CV K fd ps []
structure BZ(P:Program)(w:World)(K:PySem.W.Frag)(mg:Str->Option Value)(base:Heap)(CX:CXT)(k:Nat)(C:Addr)(m:Str)(ps:List Str)(sp:Sp):Prop where
 ex:∃(f:Addr)(fd:FuncData),AJ P w K mg base CX k f fd ps sp/\Pt K C m f/\CV K fd ps []
 cl:Cls K C
structure Rw(P:Program)(w:World)(K:PySem.W.Frag)(mg:Str->Option Value)(base:Heap)(CX:CXT)(k:Nat)(x:Str)(C:Addr)(ps:List Str)(sp:Sp):Prop where
 ex:∃(f:Addr)(fd:FuncData),AJ P w K mg base CX k f fd ps sp/\Mk K C f/\mg x=some (.ref C)/\CV K fd ps []
section
variable{X:Cx}{CX:CXT}{k:Nat}{C:Addr}{ps:List Str}{sp:Sp}{E:XK}{x m:Str}{p pos apos:Pos}{e o:Expr}{es:List Expr}{ta:TE}{t:TA}
theorem Ar(c:Cal X.prog X.w X.K X.mg X.base CX k x ps sp)(hr:CO k X.A)(hg:Gl X x)(hx:FP CX X E)(ha:PA X (e::es) t)(hdb:(x==("__debug__" : Str))=false:=by decide)
  (he:starEach (e::es) X.env=(false,eval e X.env)::starEach es X.env:=by rfl) (hpl:(backTo pos (starEach es X.env)).any (·.1)=false:=by rfl):PE X (.Call (.Name x p) (e::es) [] pos) (tCall sp [] E t):=by
 obtain⟨f,fd,F,hm,hk,hb⟩:=c.ex;exact pe_call F hr hg hm hk hb .nil hx ha hdb he hpl
theorem AG{pl:Sem Bool}(he:PE X o ta)(c:BZ X.prog X.w X.K X.mg X.base CX k C m ps sp)(hr:CO k X.A)(hx:FP CX X E)(ha:PA X (e::es) t)
  (hst:starEach (e::es) X.env=(false,eval e X.env)::starEach es X.env:=by rfl) (hpl:(backTo pos (starEach es X.env)).any (·.1)=false:=by rfl)
  (ht:eval (.Call (.Attribute o m apos) (e::es) [] pos) X.env=(do
   let ov <-eval o X.env;standAt apos.atName;let (f,first) <-holding [ov] (getMethod ov m pl);callWith pos f first (backTo pos (starEach (e::es) X.env)) (backToKw pos (keywordEach [] X.env))):=by rfl):PE X (.Call (.Attribute o m apos) (e::es) [] pos) (Uq C m sp [] E ta t):=by
 obtain⟨f,fd,F,hm,hb⟩:=c.ex;exact pe_meth he c.cl hm F hr hb .nil hx ha hst hpl ht
theorem Jx(c:Rw X.prog X.w X.K X.mg X.base CX k x C ps sp)(hr:CO (k+1) X.A)(hg:Gl X x)(hx:FP CX X E)(ha:PA X (e::es) t)(hdb:(x==("__debug__" : Str))=false:=by decide)
  (he:starEach (e::es) X.env=(false,eval e X.env)::starEach es X.env:=by rfl) (hpl:(backTo pos (starEach es X.env)).any (·.1)=false:=by rfl):PE X (.Call (.Name x p) (e::es) [] pos) (Ur C sp [] E t):=by
 obtain⟨f,fd,F,M,hm,hb⟩:=c.ex;exact pe_make M F hr hg hm hb .nil hx ha hdb he hpl
theorem Yi(c:Rw X.prog X.w X.K X.mg X.base CX k x C ps sp)(hr:CO (k+1) X.A)(hg:Gl X x)(hx:FP CX X E)(hdb:(x==("__debug__" : Str))=false:=by decide):PE X (.Call (.Name x p) [] [] pos) (Ur C sp [] E Pb):=by
 obtain⟨f,fd,F,M,hm,hb⟩:=c.ex;exact Yg M F hr hg hm hb .nil hx hdb
theorem Cb{i:Int}(hg:Gl X x)(hm:∃tk,X.mg x=some (.int i tk))(hd:(x==("__debug__" : Str))=false:=by decide):PE X (.Name x pos) (tC (.int i)):=by
 obtain⟨tk,hm⟩:=hm;exact QG hg hm ⟨tk,rfl⟩ hd
theorem NE{z:Str}(hg:Gl X x)(hm:∃tk,X.mg x=some (.str z tk))(hd:(x==("__debug__" : Str))=false:=by decide):PE X (.Name x pos) (tC (.str z)):=by
 obtain⟨tk,hm⟩:=hm;exact QG hg hm ⟨tk,rfl⟩ hd
theorem pe_gref{a:Addr}(hg:Gl X x)(hm:X.mg x=some (.ref a))(hd:(x==("__debug__" : Str))=false:=by decide):PE X (.Name x pos) (tC (.ref a)):=QG hg hm rfl hd
end
def cOk(So:Scope)(No:List Str)(scope:Scope)(N:List Str)(k:Nat)(cs:List Nat):Bool :=
 scope.names.all (λy=>y.2 != .cell) && (scope.kind==.function && (scope.names.all (λy=>y.2 != .local || scope.names.lookup y.1==some .local) && (scope.names.all (λy=>y.2 != .free || (So.names.lookup y.1==some .cell || So.names.lookup y.1==some .free)) &&
  (N.length==k+cs.length && (List.range cs.length).all λj=>match N[k+j]?,No[cs.getD j 0]? with
   |some x,some y=>x==y && scope.names.lookup x==some .free
   |_,_=>false))))
theorem Bu.of{X:Cx}{So:Scope}{No:List Str}{scope:Scope}{N:List Str}{k:Nat}{cs:List Nat}(hS:X.env.scope=So)(hN:X.N=No)(h:cOk So No scope N k cs=true):Bu X scope N k cs:=by
 subst hS hN;unfold cOk at h;simp only[P9,S5,bne_iff_ne,ne_eq,Bool.or_eq_true,beq_iff_eq,F8]at h;obtain⟨h1,h2,h3,h4,h5,h6⟩:=h;refine⟨h1,h2,λy hy e=>?_,λy hy e=>?_,h5,λj hj=>?_⟩
 ·rcases h3 y hy with z|z
  ·exact absurd e z
  ·exact z
 ·rcases h4 y hy with z|z
  ·exact absurd e z
  ·exact z
 ·have z:=h6 j hj;split at z
  ·rename_i x y e1 e2;simp only[P9,beq_iff_eq]at z;obtain⟨z1,z2⟩:=z;subst z1;exact⟨x,e1,e2,z2⟩
  ·cases z
theorem Gc{σ:St}{H:Hp}{A B:Hp->Prop}(h:A H):tYes σ H λb H3=>if b=true then A H3 else B H3:=by
 show if true=true then A H else B H;exact Cp h
theorem NO{tb:TE}{σ:St}{H:Hp}{Q:VK}{b1 b2:Bool}(h2:b1=true->∀Q':VK,Q' (.bl b2) H->tb σ H Q')(q:Q (.bl (b1 && b2)) H):∃c,V.bl b1=.bl c/\if c=true then tb σ H Q else Q (.bl false) H:=by
 cases b1 with
 |true=>exact⟨true,rfl,Cp (h2 rfl Q q)⟩
 |false=>exact⟨false,rfl,Bo q⟩
theorem WC{u:TT}{σ:St}{H:Hp}{Q:Bool->Hp->Prop}{b1 b2:Bool}(h2:b1=true->∀Q':Bool->Hp->Prop,Q' b2 H->u σ H Q')(q:Q (b1 && b2) H):if b1=true then u σ H Q else Q false H:=by
 cases b1 with
 |true=>exact Cp (h2 rfl Q q)
 |false=>exact Bo q
section
variable{X:Cx}{scope:Scope}{N:List Str}{s:Shared}{H:Hp}{ex:List Addr}{x y:Str}{px py pos:Pos}{k:Nat}
theorem AW{i:Nat}(hN:N.Nodup)(hi:N[i]?=some x)(hl:(relabel scope X.env).names.lookup x=some .local):PG (cxC X scope N s H ex) (.Name x pos) (OP i):=Bn (X:=cxC X scope N s H ex) hN hi (.inl hl) (.inr hl)
theorem Yf{i j:Nat}(hc:X.calm=true)(hN:N.Nodup)(hi:N[i]?=some x)(hj:N[j]?=some y)(hl:(relabel scope X.env).names.lookup x=some .local)(hm:(relabel scope X.env).names.lookup y=some .local) :
  PG (cxC X scope N s H ex) (.Tuple [.Name x px,.Name y py] k pos) (gTup X.K 2 (SF (OP i) (SF (OP j) gNil))) :=
 Op (X:=cxC X scope N s H ex) hc (Ds (AW hN hi hl) (Ds (AW hN hj hm) LD))
end
theorem AM.strs:∀(l:List Str)(k:Nat),AM (l.map V.str) (strsFrom k l)
 |[],_=>.nil
 |x::r,k=>.cons ⟨k,rfl⟩ (AM.strs r (k+1))
section
variable{X:Cx}
theorem Su:MtR X "str.split" (λx xs H Q=>∃a b,x=.str a/\xs=[.str b]/\(b.length==0)=false/\a.length<=100000/\∀p,H p=none->Q (.ref p) (upd H p (.lst ((Txt.split a b).map V.str)))):=by
 intro pins s σ H x xs v us Q I rx r h;obtain⟨a,b,rfl,rfl,hb,ha,q⟩:=h;obtain⟨t,rfl⟩:=rx;obtain⟨u,rfl,hu⟩:=r.one;obtain⟨tb,rfl⟩:=hu;have big:a.length+2<=sizeLine:=C9 (Nat.add_le_add_right ha 2) A4;have fin:∀(its:List Value)(tk:Nat),AM ((Txt.split a b).map V.str) its->EP X pins σ Q (.ref s.heap.objs.size) {s with heap:=s.heap.push {cls:=.type "list",data:=.seq its.toArray},toks:=tk}:=λits tk hv =>
  ⟨.ref _,_,I.lnew (t':=tk) hv (by rw[B8];exact C9 (split_le a b) big),rfl,q _ I.fresh⟩
 by_cases h1:(decide (a.length<b.length) || decide (Builtin.Str.strKind a<Builtin.Str.strKind b))=true
 ·refine A2c F.slot_str_split (A3h _ _ _) F.entry_str_split (A5a _ _) (meets_str_split_cannot_occur a b t tb h1) ?_;refine fin _ s.toks ?_;unfold Txt.split;rw[Y8 h1];exact .cons ⟨t,rfl⟩ .nil
 ·have h1':=Y4.mpr h1;by_cases h2:(Builtin.Str.occurrences a b 0 a.length (a.length+1)).isEmpty=true
  ·refine A2c F.slot_str_split (A3h _ _ _) F.entry_str_split (A5a _ _) (meets_str_split_not_found a b t tb h1' hb h2) ?_;refine fin _ s.toks ?_;unfold Txt.split;rw[Y6 h1,Y8 h2];exact .cons ⟨t,rfl⟩ .nil
  ·have e:Txt.split a b=Builtin.Str.partsBetween a (Builtin.Str.occurrences a b 0 a.length (a.length+1)) b.length:=by
    unfold Txt.split;rw[Y6 h1,Y6 h2]
   refine A2c F.slot_str_split (A3h _ _ _) F.entry_str_split (A5a _ _) (meets_str_split_sep a b t tb h1' hb (Y4.mpr h2) A0 (by rw[<-e];exact C9 (split_le a b) big)) ?_;refine fin _ _ ?_;rw[e];exact AM.strs _ _
theorem QX:MtR X "str.partition" (λx xs H Q=>∃a b,x=.str a/\xs=[.str b]/\(b.length==0)=false/\a.length<=100000/\∀p,H p=none->Q (.ref p) (upd H p (.tup [.str (Txt.partition a b).1,.str (Txt.partition a b).2.1,.str (Txt.partition a b).2.2]))):=by
 intro pins s σ H x xs v us Q I rx r h;obtain⟨a,b,rfl,rfl,hb,ha,q⟩:=h;obtain⟨t,rfl⟩:=rx;obtain⟨u,rfl,hu⟩:=r.one;obtain⟨tb,rfl⟩:=hu;have fin:∀(its:List Value)(tk:Nat),AM [.str (Txt.partition a b).1,.str (Txt.partition a b).2.1,.str (Txt.partition a b).2.2] its->EP X pins σ Q (.ref s.heap.objs.size) {s with heap:=s.heap.push {cls:=.type "tuple",data:=.seq its.toArray},toks:=tk}:=λits tk hv =>
  ⟨.ref _,_,I.laid (t':=tk) (o:=.tup [.str (Txt.partition a b).1,.str (Txt.partition a b).2.1,.str (Txt.partition a b).2.2]) (λ_ _ e=>C2 _ e) (C1 _) ⟨by show 3<=sizeLine;decide,its,hv,_,D3 _ rfl,rfl,_,rfl⟩,rfl,q _ I.fresh⟩
 refine A2c F.slot_str_partition (A3h _ _ _) F.entry_str_partition (F.args_str_partition_2 _ _) (meets_str_partition a b t tb hb (C9 ha A4)) ?_;show EP X pins σ Q _ _;cases e:Builtin.Str.occurrences a b 0 a.length 1 with
 |nil =>
  refine fin _ _ ?_;unfold Txt.partition;rw[e];exact .cons ⟨_,rfl⟩ (.cons ⟨_,rfl⟩ (.cons ⟨_,rfl⟩ .nil))
 |cons i l =>
  refine fin _ _ ?_;unfold Txt.partition;rw[e];exact .cons ⟨_,rfl⟩ (.cons ⟨_,rfl⟩ (.cons ⟨_,rfl⟩ .nil))
theorem AM.tstrs:∀{l:List Str}{its:List Value},AM (l.map V.str) its->∃ts:List (Str×Tok),its=strValues ts/\ts.map (·.1)=l
 |[],_,.nil=>⟨[],rfl,rfl⟩
 |x::r,_,.cons ⟨t,e⟩ rr=>by
  obtain⟨ts,e1,e2⟩:=AM.tstrs rr;subst e e1;exact⟨(x,t)::ts,rfl,by rw[F7,e2]⟩
theorem LN:MtR X "str.join" (λx xs H Q=>∃(sep:Str)(p:Addr)(l:List Str),x=.str sep/\xs=[.ref p]/\SqL X.K H p (l.map V.str)/\JoinOk sep l=true/\Q (.str (Str.join sep l)) H):=by
 intro pins s σ H x xs v us Q I rx r h;obtain⟨sep,p,l,rfl,rfl,hl,hok,q⟩:=h;obtain⟨t,rfl⟩:=rx;obtain⟨u,rfl,hu⟩:=r.one;cases(show u=Value.ref p from hu);obtain⟨its,rv,pl,_⟩:=I.list hl;obtain⟨ts,rfl,e⟩:=AM.tstrs rv;refine SC.join (texts:=l) pl.isList e hok λt' k=>⟨.str _,H,I.tok k,⟨t',rfl⟩,?_⟩
 have:Txt.join sep l=Str.join sep l:=StrLaws.glued_eq_join sep l;rw[this];exact q
theorem SJ(n:Int):∀{ns:List Int}{its:List Value},AM (ns.map V.int) its->its.countP (λy=>match y with|.int i _=>i==n|_=>false)=ns.countP (· == n)
 |[],_,.nil=>rfl
 |x::r,_,.cons ⟨t,e⟩ rr=>by
  subst e;rw[V1,V1,SJ n rr]
theorem WA{ns:List Int}{its:List Value}(h:AM (ns.map V.int) its){y:Value}(hy:y∈its):∃i t,y=.int i t:=by
 induction ns generalizing its with
 |nil=>cases h;simp at hy
 |cons n r ih =>
  cases h with
  |cons q qq =>
   obtain⟨t,e⟩:=q;rcases C3.mp hy with z|z
   ·exact⟨n,t,z.trans e⟩
   ·exact ih qq z
theorem YG:MtR X "list.count" (λx xs H Q=>∃(l:Addr)(ns:List Int)(n:Int),x=.ref l/\xs=[.int n]/\H l=some (.lst (ns.map V.int))/\Q (.int (ns.countP (· == n):Nat)) H):=by
 intro pins s σ H x xs v us Q I rx r h;obtain⟨l,ns,n,rfl,rfl,hH,q⟩:=h;cases rx;obtain⟨u,rfl,hu⟩:=r.one;obtain⟨tk,rfl⟩:=hu;obtain⟨z,its,k,rv,hl,e⟩:=I.lstM hH;refine A2c F.slot_list_count ⟨_,e,rfl⟩ F.entry_list_count (F.args_list_count_2 _ _) (MeetsSeq.list_count l its.toArray k (.int n tk) (λy=>match y with|.int i _=>i==n|_=>false) (λy hy=>?_)) ⟨e,?_⟩
 ·obtain⟨i,t,rfl⟩:=WA rv (by simpa using hy);exact PySem.MeetsSeq.EqGives.int i n t tk
 ·refine⟨.int _,H,I.tok _,⟨_,rfl⟩,?_⟩;have:(List.countP (λy=>match y with|Value.int i _=>i==n|_=>false) its.toArray.toList)=ns.countP (· == n):=SJ n (by simpa using rv);rw[this];exact q
end
end L2
namespace L2
open PySem
section
variable{X:Cx}{es es':List Expr}{t t':TA}{pos:Pos}
theorem AK{i:Int}{j}(hr:PA X es t):PA X (.Constant (.int i) j pos::es) (CH (tC (.int i)) t):=Aa Ae hr
theorem Mz{z:Str}{j}(hr:PA X es t):PA X (.Constant (.str z) j pos::es) (CH (tC (.str z)) t):=Aa CN hr
theorem Tq(h:PA X es' t')(hr:PA X es t):PA X (.List es' pos::es) (CH (tLst t') t):=Aa (BX h) hr
theorem Bz{x1}(h:PA X es' t')(hr:PA X es t):PA X (.Tuple es' x1 pos::es) (CH (WD t') t):=Aa (EN h) hr
theorem AZ{op:Operator}{r:R2}{a b:Expr}{ta tb:TE}(ho:OpR X (binaryOp op) r)(ha:PE X a ta)(hb:PE X b tb)(hr:PA X es t):PA X (.BinOp a op b pos::es) (CH (tOp r ta tb) t):=Aa (Ay ho ha hb) hr
theorem JA{K:PySem.W.Frag}(h:X.K=K):IxR X (JG K):=h▸Am
theorem Zb{K:PySem.W.Frag}(h:X.K=K):IxR X (rIxL K):=h▸Ax
end
theorem Be{P:Prop}(h:∀G:Prop,(P->G)->G):P:=h P id
theorem xq1{α:Sort _}{a:α}{P Q:α->Prop}(h:P a)(k:Q a):∃x,P x/\Q x:=⟨a,h,k⟩
theorem xq2{α β:Sort _}{a:α}{b:β}{P Q R:α->β->Prop}(h:P a b)(h':Q a b)(k:R a b):∃x y,P x y/\Q x y/\R x y:=⟨a,b,h,h',k⟩
theorem xq3{α β γ:Sort _}{a:α}{b:β}{c:γ}{P Q R S:α->β->γ->Prop}(h:P a b c)(h':Q a b c)(h'':R a b c)(k:S a b c):∃x y z,P x y z/\Q x y z/\R x y z/\S x y z:=⟨a,b,c,h,h',h'',k⟩
theorem xq4{α β γ δ:Sort _}{a:α}{b:β}{c:γ}{d:δ}{P Q R S T:α->β->γ->δ->Prop}(h:P a b c d)(h':Q a b c d)(h'':R a b c d)(h3:S a b c d)(k:T a b c d):∃x y z w,P x y z w/\Q x y z w/\R x y z w/\S x y z w/\T x y z w:=⟨a,b,c,d,h,h',h'',h3,k⟩
theorem xq5{K:PySem.W.Frag}{f:Str}{H:Hp}{a C dx:Addr}{fs:List (Str×V)}{v:V}{Q:V->Prop}(h:H a=some (.ins C dx fs))(h2:Cls K C)(h3:BE K C f)(h4:fs.lookup f=some v)(k:Q v):∃b C dx fs w,V.ref a=.ref b/\H b=some (.ins C dx fs)/\Cls K C/\BE K C f/\fs.lookup f=some w/\Q w:=⟨a,C,dx,fs,v,rfl,h,h2,h3,h4,k⟩
theorem xw2{α β:Sort _}{a:α}{b:β}{P:α->Prop}{Q:α->β->Prop}{K:α->β->Prop}(h1:P a)(h2:Q a b)(k:K a b):∃x0,P x0/\∃x1,Q x0 x1/\K x0 x1:=⟨a,h1,b,h2,k⟩
theorem xw3{α β γ:Sort _}{a:α}{b:β}{c:γ}{P:α->Prop}{Q:α->β->Prop}{R:α->β->γ->Prop}{K:α->β->γ->Prop}(h1:P a)(h2:Q a b)(h3:R a b c)(k:K a b c):∃x0,P x0/\∃x1,Q x0 x1/\∃x2,R x0 x1 x2/\K x0 x1 x2:=⟨a,h1,b,h2,c,h3,k⟩
theorem xwb{α β γ:Sort _}{a:α}{b:β}{c:γ}{P:α->Prop}{Q:α->β->γ->Prop}{R:α->β->γ->Prop}{K:α->β->γ->Prop}(h1:P a)(h2:Q a b c)(h3:R a b c)(k:K a b c):∃x0,P x0/\∃x1 x2,Q x0 x1 x2/\R x0 x1 x2/\K x0 x1 x2:=⟨a,h1,b,c,h2,h3,k⟩
theorem xwm{α β γ δ:Sort _}{a:α}{b:β}{c:γ}{d:δ}{P:α->Prop}{Q:α->β->γ->δ->Prop}{R:α->β->γ->δ->Prop}{S:α->β->γ->δ->Prop}{K:α->β->γ->δ->Prop}(h1:P a)(h2:Q a b c d)(h3:R a b c d)(h4:S a b c d)(k:K a b c d):∃x0,P x0/\∃x1 x2 x3,Q x0 x1 x2 x3/\R x0 x1 x2 x3/\S x0 x1 x2 x3/\K x0 x1 x2 x3:=⟨a,h1,b,c,d,h2,h3,h4,k⟩
theorem xwi{α β γ δ ε:Sort _}{a:α}{b:β}{c:γ}{d:δ}{e:ε}{P:α->Prop}{Q:α->β->γ->δ->ε->Prop}{R:α->β->γ->δ->ε->Prop}{S:α->β->γ->δ->ε->Prop}{T:α->β->γ->δ->ε->Prop}{K:α->β->γ->δ->ε->Prop}(h1:P a)(h2:Q a b c d e)(h3:R a b c d e)(h4:S a b c d e)(h5:T a b c d e)(k:K a b c d e):∃x0,P x0/\∃x1 x2 x3 x4,Q x0 x1 x2 x3 x4/\R x0 x1 x2 x3 x4/\S x0 x1 x2 x3 x4/\T x0 x1 x2 x3 x4/\K x0 x1 x2 x3 x4:=⟨a,h1,b,c,d,e,h2,h3,h4,h5,k⟩
theorem xwf{α β γ δ ε ζ:Sort _}{a:α}{b:β}{c:γ}{d:δ}{e:ε}{f:ζ}{P:α->Prop}{Q:α->β->γ->δ->ε->ζ->Prop}{R:α->β->γ->δ->ε->ζ->Prop}{S:α->β->γ->δ->ε->ζ->Prop}{T:α->β->γ->δ->ε->ζ->Prop}{U:α->β->γ->δ->ε->ζ->Prop}{K:α->β->γ->δ->ε->ζ->Prop}(h1:P a)(h2:Q a b c d e f)(h3:R a b c d e f)(h4:S a b c d e f)(h5:T a b c d e f)(h6:U a b c d e f)(k:K a b c d e f):∃x0,P x0/\∃x1 x2 x3 x4 x5,Q x0 x1 x2 x3 x4 x5/\R x0 x1 x2 x3 x4 x5/\S x0 x1 x2 x3 x4 x5/\T x0 x1 x2 x3 x4 x5/\U x0 x1 x2 x3 x4 x5/\K x0 x1 x2 x3 x4 x5:=⟨a,h1,b,c,d,e,f,h2,h3,h4,h5,h6,k⟩
theorem xwn{α β γ δ ε:Sort _}{a:α}{b:β}{c:γ}{d:δ}{e:ε}{P:α->Prop}{Q:α->β->γ->δ->Prop}{R:α->β->γ->δ->Prop}{S:α->β->γ->δ->Prop}{T:α->β->γ->δ->ε->Prop}{K:α->β->γ->δ->ε->Prop}(h1:P a)(h2:Q a b c d)(h3:R a b c d)(h4:S a b c d)(h5:T a b c d e)(k:K a b c d e):∃x0,P x0/\∃x1 x2 x3,Q x0 x1 x2 x3/\R x0 x1 x2 x3/\S x0 x1 x2 x3/\∃x4,T x0 x1 x2 x3 x4/\K x0 x1 x2 x3 x4:=⟨a,h1,b,c,d,h2,h3,h4,e,h5,k⟩
theorem xwj{α β γ δ ε ζ:Sort _}{a:α}{b:β}{c:γ}{d:δ}{e:ε}{f:ζ}{P:α->Prop}{Q:α->β->Prop}{R:α->β->γ->δ->ε->ζ->Prop}{S:α->β->γ->δ->ε->ζ->Prop}{T:α->β->γ->δ->ε->ζ->Prop}{U:α->β->γ->δ->ε->ζ->Prop}{K:α->β->γ->δ->ε->ζ->Prop}(h1:P a)(h2:Q a b)(h3:R a b c d e f)(h4:S a b c d e f)(h5:T a b c d e f)(h6:U a b c d e f)(k:K a b c d e f):∃x0,P x0/\∃x1,Q x0 x1/\∃x2 x3 x4 x5,R x0 x1 x2 x3 x4 x5/\S x0 x1 x2 x3 x4 x5/\T x0 x1 x2 x3 x4 x5/\U x0 x1 x2 x3 x4 x5/\K x0 x1 x2 x3 x4 x5:=⟨a,h1,b,h2,c,d,e,f,h3,h4,h5,h6,k⟩
theorem Bw{A B:TS}{D:Md}{σ:St}{H:Hp}(h:let r:=B D;let s:=σ;∀k:St->Hp->Prop,(∀{σ H},r σ H->k σ H)->let E:Md:={D with nx:=k};A E s H):tSeq A B D σ H:=h _ λz=>z
end L2
namespace Nu
open PySem PySem.NumText PyProof.Rows
theorem ext{a b:Str}(h:a.cps.toList=b.cps.toList):a=b:=by
 obtain⟨⟨l⟩⟩:=a;obtain⟨⟨r⟩⟩:=b;cases h;rfl
theorem len(x:Str):x.length=x.cps.toList.length:=by simp[Str.length]
end Nu
namespace Tx
open PySem PySem.Builtin PySem.Builtin.Str PyProof.Rows
theorem CC(a b:Str):(a++b).cps.toList=a.cps.toList++b.cps.toList:=cps_toList_append a b
def jl(sep:List Nat):List (List Nat)->List Nat
 |[]=>[]
 |[x]=>x
 |x::y::r=>x++sep++jl sep (y::r)
theorem EH(sep:Str):∀ts:List Str,(Str.join sep ts).cps.toList=jl sep.cps.toList (ts.map λt=>t.cps.toList)
 |[]=>rfl
 |[x]=>rfl
 |x::y::r=>by
  have e:Str.join sep (x::y::r)=x++sep++Str.join sep (y::r):=rfl;rw[e,CC,CC,EH sep (y::r)];rfl
theorem Rq{c:Nat}:∀{x y A B:List Nat},c∉x->c∉y->x++c::A=y++c::B->x=y/\A=B
 |[],[],A,B,_,_,h=>⟨rfl,by simpa using h⟩
 |[],y::ys,A,B,_,hy,h=>by
  simp at h;exact absurd (by rw[h.1];exact C7) hy
 |x::xs,[],A,B,hx,_,h=>by
  simp at h;exact absurd (by rw[<-h.1];exact C7) hx
 |x::xs,y::ys,A,B,hx,hy,h=>by
  simp at h;obtain⟨e,h⟩:=h;obtain⟨e2,e3⟩:=Rq (x:=xs) (y:=ys) (λz=>hx (C6 _ z)) (λz=>hy (C6 _ z)) h;exact⟨by rw[e,e2],e3⟩
theorem TU(c:Nat)(s:List Nat):∀(as bs:List (List Nat)),as≠[]->bs≠[]->(∀t∈as,c∉t)->(∀t∈bs,c∉t)->jl (c::s) as=jl (c::s) bs->as=bs
 |[],_,h,_,_,_,_=>absurd rfl h
 |_,[],_,h,_,_,_=>absurd rfl h
 |[x],[y],_,_,_,_,e=>by
  have e':x=y:=e;rw[e']
 |[x],y::z::r,_,_,ha,_,e=>by
  have e':x=y++c::s++jl (c::s) (z::r):=e;exact absurd (by rw[e'];simp) (ha x C7)
 |x::z::r,[y],_,_,_,hb,e=>by
  have e':x++c::s++jl (c::s) (z::r)=y:=e;exact absurd (by rw[<-e'];simp) (hb y C7)
 |x::x2::r,y::y2::r',_,_,ha,hb,e=>by
  have e':x++c::(s++jl (c::s) (x2::r))=y++c::(s++jl (c::s) (y2::r')):=by
   have:x++c::s++jl (c::s) (x2::r)=y++c::s++jl (c::s) (y2::r'):=e
   simpa using this
  obtain⟨e1,e2⟩:=Rq (ha x C7) (hb y C7) e';have e3:=List.append_cancel_left e2;rw[e1,TU c s (x2::r) (y2::r') A6 A6 (λt ht=>ha t (C6 _ ht)) (λt ht=>hb t (C6 _ ht)) e3]
theorem PM {as bs:List Str} (h:as.map (λt=>t.cps.toList)=bs.map λt=>t.cps.toList):as=bs:=by
 induction as generalizing bs with
 |nil=>cases bs with|nil=>rfl|cons=>simp at h
 |cons a r ih =>
  cases bs with
  |nil=>simp at h
  |cons b q =>
   simp at h;rw[Nu.ext (a:=a) (b:=b) (by simpa using h.1),ih (by simpa using h.2)]
theorem RJ(c:Nat)(ts:List Str)(hne:ts≠[])(hf:∀t∈ts,c∉t.cps.toList):Txt.split (Str.join ⟨#[c]⟩ ts) ⟨#[c]⟩=ts:=by
 refine PM (TU c [] _ _ ?_ ?_ ?_ ?_ ?_)
 ·intro h;have:=split_pos (Str.join ⟨#[c]⟩ ts) ⟨#[c]⟩;have h2:(Txt.split (Str.join ⟨#[c]⟩ ts) ⟨#[c]⟩).length=0:=by simpa using X6 List.length h
  lia
 ·simpa using hne
 ·intro t ht;obtain⟨p,hp,rfl⟩:=D5.mp ht;exact StrLaws.split_free _ c p hp
 ·intro t ht;obtain⟨p,hp,rfl⟩:=D5.mp ht;exact hf p hp
 ·have h:=X6 (λz:Str=>z.cps.toList) (StrLaws.join_split (Str.join ⟨#[c]⟩ ts) ⟨#[c]⟩);rw[EH,EH]at h;exact h
theorem Ij(c:Nat)(a b:Str)(h:c∉a.cps.toList):Txt.partition (a++⟨#[c]⟩++b) ⟨#[c]⟩=(a,⟨#[c]⟩,b):=by
 have hin:c∈(a++⟨#[c]⟩++b).cps.toList:=by rw[CC,CC];simp
 have hs:=StrLaws.partition_sum (a++⟨#[c]⟩++b) ⟨#[c]⟩;have hh:=partition_head (a++⟨#[c]⟩++b) ⟨#[c]⟩;have ho:=StrLaws.found_one (a++⟨#[c]⟩++b) c;rw[Y7 hin]at ho;have hp2:(Txt.partition (a++⟨#[c]⟩++b) ⟨#[c]⟩).2.1=⟨#[c]⟩:=by
  unfold Txt.partition;cases e:occurrences (a++⟨#[c]⟩++b) ⟨#[c]⟩ 0 (a++⟨#[c]⟩++b).length 1 with
  |nil=>rw[e]at ho;simp at ho
  |cons i l=>rfl
 have hp1:c∉(Txt.partition (a++⟨#[c]⟩++b) ⟨#[c]⟩).1.cps.toList:=by
  rcases hh with ⟨_,no⟩|⟨i,e,hA,no⟩
  ·obtain⟨j,hj⟩:=F9 hin;exact absurd ((StrLaws.subAt_one _ c j).mpr hj) (no j)
  ·rw[e];exact StrLaws.part_free _ c 0 i (by have:i+1<=_:=hA.1;lia) λk _ hk=>no k hk
 have e:(Txt.partition (a++⟨#[c]⟩++b) ⟨#[c]⟩).1.cps.toList++(Txt.partition (a++⟨#[c]⟩++b) ⟨#[c]⟩).2.1.cps.toList++(Txt.partition (a++⟨#[c]⟩++b) ⟨#[c]⟩).2.2.cps.toList=a.cps.toList++[c]++b.cps.toList:=by
  have e0:=X6 (λz:Str=>z.cps.toList) hs;rw[CC,CC,CC,CC]at e0;exact e0
 rw[hp2]at e;have e':(Txt.partition (a++⟨#[c]⟩++b) ⟨#[c]⟩).1.cps.toList++c::(Txt.partition (a++⟨#[c]⟩++b) ⟨#[c]⟩).2.2.cps.toList=a.cps.toList++c::b.cps.toList:=by simpa using e
 obtain⟨e1,e2⟩:=Rq hp1 h e';exact Prod.ext (Nu.ext e1) (Prod.ext hp2 (Nu.ext e2))
theorem Ec{n:Int}(h0:0<=n)(h1:n<=9):(Str.ofString (toString n))=(⟨#[48+n.toNat]⟩:Str):=by
 obtain⟨m,rfl⟩:=F3 h0;exact(show ∀m:Nat,m<10->(Str.ofString (toString (m:Int)))=(⟨#[48+(m:Int).toNat]⟩:Str) by decide +kernel) m A0
end Tx
namespace Tx
open PySem PySem.Builtin PySem.Builtin.Str PyProof.Rows
theorem TR:∀ts:List (List Nat),jl [] ts=ts.flatten
 |[]=>rfl
 |[x]=>by simp[jl]
 |x::y::r=>by
  show x++[]++jl [] (y::r)=_;rw[TR (y::r)];simp
theorem Vg(sep:Str)(m:Nat):∀(l:List Str)(acc:Nat),(∀t∈l,t.length<=m)->l.foldl (λa t=>a+t.length+sep.length) acc<=acc+l.length*(m+sep.length)
 |[],acc,_=>by simp
 |t::r,acc,h=>by
  have h1:=h t C7;have h2:=Vg sep m r (acc+t.length+sep.length) λz hz=>h z (C6 _ hz);rw[R9,D4,V3];lia
theorem LR{sep:Str}{l:List Str}(m:Nat)(h:∀t∈l,t.length<=m)(hs:l.length*(m+sep.length)<=100000):JoinOk sep l=true:=by
 unfold JoinOk;have h2:=Vg sep m l 0 h;have e:l.toArray.foldl (λa t=>a+t.length+sep.length) 0=l.foldl (λa t=>a+t.length+sep.length) 0:=by simp
 rw[e];have:tooLong (l.foldl (λa t=>a+t.length+sep.length) 0)=false:=by
  unfold tooLong;refine Y9 ?_;have:(100000:Nat)<=sizeLine:=by decide
  lia
 rw[this];rfl
theorem app_len(a b:Str):(a++b).length=a.length+b.length:=by
 rw[Nu.len,Nu.len,Nu.len,CC,C4]
end Tx
namespace Tx
open PySem PySem.Builtin PySem.Builtin.Str PyProof.Rows
theorem ZA(x:Str)(c d k:Nat)(h1:x.cps.toList[k]?=some c)(h2:x.cps.toList[k+1]?=some d):StrLaws.At x ⟨#[c,d]⟩ x.length k:=by
 have l:k+1<x.cps.toList.length:=(B9.mp h2).1;refine⟨?_,?_⟩
 ·show k+2<=x.length;rw[Nu.len];lia
 ·rw[StrLaws.subAt_eq];show((x.cps.toList.drop k).take 2==[c,d])=true;have e1:x.cps.toList.drop k=c::d::x.cps.toList.drop (k+2):=by
   rw[List.drop_eq_getElem_cons A0,(B9.mp h1).2,List.drop_eq_getElem_cons l,(B9.mp h2).2]
  rw[e1];simp
def Led(c d:Nat)(l:List Nat):Prop:=∀k:Nat,l[k]?=some c->l[k+1]?=some d
theorem Ot{x:Str}{c d a b:Nat}(hx:Led c d x.cps.toList)(hb:b<=x.length)(hn:∀k,a<=k->k<b->¬StrLaws.At x ⟨#[c,d]⟩ x.length k):c∉(strSub x a b).cps.toList:=by
 intro hm;rw[StrLaws.strSub_toList]at hm;obtain⟨j,hj⟩:=F9 hm;have hlt:j<b-a:=by
  have h1:j<((x.cps.toList.drop a).take (b-a)).length:=(B9.mp hj).1;rw[L5]at h1;lia
 rw[U5 hlt,List.getElem?_drop]at hj;exact hn (a+j) A0 A0 (ZA x c d (a+j) hj (hx _ hj))
theorem Nd{x:Str}{c d:Nat}(hx:Led c d x.cps.toList):∀(cuts:List Nat)(a f:Nat),StrLaws.ChainG x ⟨#[c,d]⟩ x.length a cuts f->(∀k,f<=k->¬StrLaws.At x ⟨#[c,d]⟩ x.length k)->∀p∈StrLaws.partsFrom x 2 a cuts,c∉p.cps.toList
 |[],a,f,h,hn,p,hp=>by
  have e:f=a:=h;subst e;rw[D7.mp hp];exact Ot hx (C1 _) λk h1 _=>hn k h1
 |g::r,a,f,h,hn,p,hp=>by
  rcases C3.mp hp with rfl|hp'
  ·exact Ot hx (by have:g+2<=_:=h.2.1.1;lia) h.2.2.1
  ·exact Nd hx r _ f h.2.2.2 hn p hp'
theorem kind_le(x:Str):¬Builtin.Str.strKind x<Builtin.Str.strKind (⟨#[59,32]⟩:Str):=by
 have e:Builtin.Str.strKind (⟨#[59,32]⟩:Str)=1:=by simp[Builtin.Str.strKind]
 rw[e];unfold Builtin.Str.strKind;split
 ·decide
 ·split<;>decide
theorem RK{x:Str}(hx:Led 59 32 x.cps.toList):∀p∈Txt.split x ⟨#[59,32]⟩,59∉p.cps.toList:=by
 obtain⟨f,hG,hn⟩:=StrLaws.occ_tight x ⟨#[59,32]⟩ A4;have whole:59∈x.cps.toList->∃k,StrLaws.At x ⟨#[59,32]⟩ x.length k:=λhm=>by
  obtain⟨j,hj⟩:=F9 hm;exact⟨j,ZA x 59 32 j hj (hx j hj)⟩
 unfold Txt.split;split
 ·rename_i hc;intro p hp;rw[D7.mp hp];intro hm;obtain⟨k,hk⟩:=whole hm;have h2:k+2<=x.length:=hk.1;rw[Bool.or_eq_true,A4f,A4f]at hc;rcases hc with h|h
  ·have h3:x.length<2:=h;lia
  ·exact kind_le x h
 ·split
  ·rename_i he;intro p hp;rw[D7.mp hp];intro hm;obtain⟨k,hk⟩:=whole hm;rw[List.isEmpty_iff.mp he]at hG;have ef:f=0:=hG;exact hn k A0 hk
  ·rw[StrLaws.partsBetween_eq];exact Nd hx _ 0 f hG hn
theorem YR{c d:Nat}(hcd:c≠d):∀ts:List (List Nat),(∀t∈ts,c∉t)->Led c d (jl [c,d] ts)
 |[],_=>λk h=>by simp[jl]at h
 |[x],hf=>λk h=>absurd (D1 (show x[k]?=some c from h)) (hf x C7)
 |x::y::r,hf=>λk h=>by
  have ih:=YR hcd (y::r) λt ht=>hf t (C6 _ ht);have e:jl [c,d] (x::y::r)=x++(c::d::jl [c,d] (y::r)):=by
   show x++[c,d]++jl [c,d] (y::r)=_;simp
  rw[e]at h⊢;by_cases h1:k<x.length
  ·rw[M4 h1]at h;exact absurd (D1 h) (hf x C7)
  ·rw[J6 A0]at h;rw[J6 A0];obtain⟨m,hm⟩:∃m,k-x.length=m:=⟨_,rfl⟩
   rw[show k+1-x.length=m+1 by lia];rw[hm]at h;cases m with
   |zero=>rfl
   |succ m =>
    cases m with
    |zero =>
     have:some d=some c:=h;exact absurd (Z2 this).symm hcd
    |succ m =>
     rw[V0,V0]at h⊢;exact ih m h
theorem RI(ts:List Str)(hne:ts≠[])(hf:∀t∈ts,59∉t.cps.toList):Txt.split (Str.join ⟨#[59,32]⟩ ts) ⟨#[59,32]⟩=ts:=by
 have led:Led 59 32 (Str.join ⟨#[59,32]⟩ ts).cps.toList:=by
  rw[EH];refine YR A4 _ λt ht=>?_;obtain⟨p,hp,rfl⟩:=D5.mp ht;exact hf p hp
 refine PM (TU 59 [32] _ _ ?_ ?_ ?_ ?_ ?_)
 ·intro h;have:=split_pos (Str.join ⟨#[59,32]⟩ ts) ⟨#[59,32]⟩;have h2:(Txt.split (Str.join ⟨#[59,32]⟩ ts) ⟨#[59,32]⟩).length=0:=by simpa using X6 List.length h
  lia
 ·simpa using hne
 ·intro t ht;obtain⟨p,hp,rfl⟩:=D5.mp ht;exact RK led p hp
 ·intro t ht;obtain⟨p,hp,rfl⟩:=D5.mp ht;exact hf p hp
 ·have h:=X6 (λz:Str=>z.cps.toList) (StrLaws.join_split (Str.join ⟨#[59,32]⟩ ts) ⟨#[59,32]⟩);rw[EH,EH]at h;exact h
end Tx
namespace L2
open PySem PySem.Spec PyProof.Rows
section
variable{κ:Type}[DecidableEq κ]
def BM(kvs:List (κ×V))(k:κ):Option V:=(kvs.find? λkv=>decide (kv.1=k)).map (·.2)
def EE(kvs:List (κ×V))(k:κ)(v:V):List (κ×V) :=
 if(kvs.any λkv=>decide (kv.1=k))=true then kvs.map (λkv=>if kv.1=k then(kv.1,v)else kv)else kvs++[(k,v)]
theorem BO{p:κ×V}{r:List (κ×V)}{k:κ}(e:p.1=k):BM (p::r) k=some p.2:=by simp[BM,P2,e]
theorem BB{p:κ×V}{r:List (κ×V)}{k:κ}(e:¬p.1=k):BM (p::r) k=BM r k:=by simp[BM,P2,e]
theorem IP(k:κ):∀kvs:List (κ×V),(kvs.any λkv=>decide (kv.1=k))=(BM kvs k).isSome
 |[]=>rfl
 |p::r=>by
  rw[S6];by_cases e:p.1=k
  ·simp only[BO e,Y7 e,Bool.true_or,Option.isSome_some]
  ·rw[BB e,Y9 e,Bool.false_or];exact IP k r
theorem Ry(k j:κ)(y:V):∀kvs:List (κ×V),BM (kvs.map λkv=>if kv.1=k then(kv.1,y)else kv) j=(BM kvs j).map λx=>if j=k then y else x
 |[]=>rfl
 |p::r=>by
  have ih:=Ry k j y r;rw[F7];by_cases h:p.1=k
  ·rw[Y8 h];by_cases e:p.1=j
   ·rw[BO (p:=(p.1,y)) e,BO e,V7,Y8 (e.symm.trans h)]
   ·rw[BB (p:=(p.1,y)) e,BB e,ih]
  ·rw[Y6 h];by_cases e:p.1=j
   ·rw[BO (p:=p) e,BO e,V7,Y6 (λz=>h (e.trans z))]
   ·rw[BB (p:=p) e,BB e,ih]
theorem Pz(k j:κ)(y:V):∀kvs:List (κ×V),BM kvs k=none->BM (kvs++[(k,y)]) j=if j=k then some y else BM kvs j
 |[],_=>by
  by_cases e:k=j
  ·rw[Y8 e.symm];exact BO (p:=(k,y)) e
  ·rw[Y6 (λz=>e z.symm)];exact BB (p:=(k,y)) e
 |p::r,hn=>by
  rw[List.cons_append];have hk:¬p.1=k:=λz=>by rw[BO z]at hn;cases hn
  rw[BB hk]at hn;have ih:=Pz k j y r hn;by_cases e:p.1=j
  ·rw[BO e,BO e,Y6 (λz=>hk (e.trans z))]
  ·rw[BB e,BB e,ih]
theorem Ll(kvs:List (κ×V))(k j:κ)(y:V):BM (EE kvs k y) j=if j=k then some y else BM kvs j:=by
 unfold EE;by_cases a:(kvs.any λkv=>decide (kv.1=k))=true
 ·rw[Y8 a,Ry];rw[IP]at a;by_cases e:j=k
  ·obtain⟨x,hx⟩:=Option.isSome_iff_exists.mp a;rw[Y8 e,e,hx,V7,Y8 rfl]
  ·rw[Y6 e];cases BM kvs j with
   |none=>rfl
   |some x=>rw[V7,Y6 e]
 ·rw[Y6 a];refine Pz k j y kvs ?_;rw[IP]at a;cases q:BM kvs k with
  |none=>rfl
  |some x=>rw[q]at a;exact(a rfl).elim
theorem Ga(kvs:List (κ×V))(k:κ)(v:V):(EE kvs k v).length<=kvs.length+1:=by
 unfold EE;split
 ·rw[B8];lia
 ·rw[C4,D4,R8];lia
theorem LC{kvs:List (κ×V)}{k:κ}(v:V)(h:BM kvs k=none):EE kvs k v=kvs++[(k,v)]:=by
 unfold EE;rw[IP,h];exact Y6 A4
theorem IN.isSome_eq{o:Option V}{u:Option Value}(r:IN o u):o.isSome=u.isSome:=by
 cases o with
 |none=>cases u with
  |none=>rfl
  |some _=>exact(show False from r).elim
 |some _=>cases u with
  |none=>exact(show False from r).elim
  |some _=>rfl
theorem IN.getD{o:Option V}{u:Option Value}{d:V}{d':Value}(r:IN o u)(rd:AY d d'):AY (o.getD d) (u.getD d'):=by
 cases o with
 |none=>cases u with
  |none=>exact rd
  |some _=>exact(show False from r).elim
 |some _=>cases u with
  |none=>exact(show False from r).elim
  |some _=>exact r
theorem KV.val{kvs:List (κ×V)}{vs:List (κ×Value)}(r:KV kvs vs)(k:κ):IN (BM kvs k) (valueAt vs k):=by
 unfold KV at r;induction r with
 |nil=>exact True.intro
 |@cons p q ps qs h t ih =>
  obtain⟨h1,h2⟩:=h;by_cases e:p.1=k
  ·have e':q.1=k:=h1.symm.trans e;have b:valueAt (q::qs) k=some q.2:=by simp[valueAt,P2,e']
   rw[BO e,b];exact h2
  ·have e':¬q.1=k:=λz=>e (h1.trans z);have b:valueAt (q::qs) k=valueAt qs k:=by simp[valueAt,P2,e']
   rw[BB e,b];exact ih
theorem KV.any{kvs:List (κ×V)}{vs:List (κ×Value)}(r:KV kvs vs)(k:κ):(kvs.any λkv=>decide (kv.1=k))=vs.any λkv=>decide (kv.1=k):=by
 unfold KV at r;induction r with
 |nil=>rfl
 |cons h t ih=>rw[S6,S6,ih,h.1]
theorem KV.repl{kvs:List (κ×V)}{vs:List (κ×Value)}(r:KV kvs vs)(k:κ){y:V}{u:Value}(ry:AY y u) :
  KV (kvs.map λkv=>if kv.1=k then(kv.1,y)else kv) (vs.map λkv=>if kv.1=k then(kv.1,u)else kv):=by
 unfold KV at r⊢;induction r with
 |nil=>exact .nil
 |@cons p q ps qs h t ih =>
  rw[F7,F7];refine .cons ?_ ih;obtain⟨h1,h2⟩:=h;by_cases e:p.1=k
  ·rw[Y8 e,Y8 (h1.symm.trans e)];exact⟨h1,ry⟩
  ·rw[Y6 e,Y6 (λz=>e (h1.trans z))];exact⟨h1,h2⟩
theorem KV.put{kvs:List (κ×V)}{vs:List (κ×Value)}(r:KV kvs vs)(k:κ){y:V}{u:Value}(ry:AY y u):KV (EE kvs k y) (stored vs k u):=by
 unfold EE stored;rw[r.any k];by_cases e:(vs.any λkv=>decide (kv.1=k))=true
 ·rw[Y8 e,Y8 e];exact r.repl k ry
 ·rw[Y6 e,Y6 e];exact A0b r ⟨rfl,ry⟩
theorem KV.length{kvs:List (κ×V)}{vs:List (κ×Value)}(r:KV kvs vs):kvs.length=vs.length:=Z9 r
end
theorem SB{P:Program}{w:World}{k:Key}{u:Value}(r:AY (kV k) u):(Co P w).is k u=true:=by
 cases k with
 |inl i=>obtain⟨t,e⟩:=(show ∃t,u=Value.int i t from r);subst e;exact Sy P w i t
 |inr x=>obtain⟨t,e⟩:=(show ∃t,u=Value.str x t from r);subst e;exact Sx P w x t
theorem PQ{P:Program}{w:World}:∀{ks:List Key}{us:List Value},AM (ks.map kV) us->ItemsAre (Co P w) ks us
 |[],_,r=>by rw[W9]at r;cases r;exact .nil
 |k::ks,_,r=>by
  rw[F7]at r;cases r with
  |cons h t=>exact .cons (SB h) (PQ t)
abbrev KT(H:Hp):List (List Key×V)->List (List Key×Addr×Value)->Prop:=Paired λp q=>p.1=q.1/\H q.2.1=some (.tup (p.1.map kV))/\AY p.2 q.2.2
theorem KT.val{H:Hp}{kvs:List (List Key×V)}{xs:List (List Key×Addr×Value)}(r:KT H kvs xs)(k:List Key):IN (BM kvs k) ((atKey xs k).map (·.2)):=by
 induction r with
 |nil=>exact True.intro
 |@cons p q ps qs h t ih =>
  obtain⟨h1,_,h2⟩:=h;by_cases e:p.1=k
  ·have e':q.1=k:=h1.symm.trans e;have b:atKey (q::qs) k=some q.2:=by simp[atKey,P2,e']
   rw[BO e,b];exact h2
  ·have e':¬q.1=k:=λz=>e (h1.trans z);have b:atKey (q::qs) k=atKey qs k:=by simp[atKey,P2,e']
   rw[BB e,b];exact ih
theorem KT.repl{H:Hp}{kvs:List (List Key×V)}{xs:List (List Key×Addr×Value)}(r:KT H kvs xs)(k:List Key){y:V}{u:Value}(ry:AY y u) :
  KT H (kvs.map λkv=>if kv.1=k then(kv.1,y)else kv) (xs.map (putAt k u)):=by
 induction r with
 |nil=>exact .nil
 |@cons p q ps qs h t ih =>
  rw[F7,F7];refine .cons ?_ ih;obtain⟨h1,h2,h3⟩:=h;unfold putAt;by_cases e:p.1=k
  ·rw[Y8 e,Y8 (h1.symm.trans e)];exact⟨h1,h2,ry⟩
  ·rw[Y6 e,Y6 (λz=>e (h1.trans z))];exact⟨h1,h2,h3⟩
theorem KT.put{H:Hp}{kvs:List (List Key×V)}{xs:List (List Key×Addr×Value)}(r:KT H kvs xs)(k:List Key){b:Addr}{y:V}{u:Value}(hb:H b=some (.tup (k.map kV)))(ry:AY y u) :
  KT H (EE kvs k y) (storedH xs k b u):=by
 have e:(kvs.any λkv=>decide (kv.1=k))=(atKey xs k).isSome:=by
  rw[IP,(r.val k).isSome_eq,Option.isSome_map]
 unfold EE storedH;rw[e];by_cases q:(atKey xs k).isSome=true
 ·rw[Y8 q,Y8 q];exact r.repl k ry
 ·rw[Y6 q,Y6 q];exact A0b r ⟨rfl,hb,ry⟩
theorem KT.keeps{H H':Hp}{kvs:List (List Key×V)}{xs:List (List Key×Addr×Value)}(r:KT H kvs xs)(ht:∀b ys,H b=some (.tup ys)->H' b=some (.tup ys)):KT H' kvs xs :=
 Paired.mapP r λ_ _ z=>⟨z.1,ht _ _ z.2.1,z.2.2⟩
section
variable{P:Program}{w:World}{H:Hp}{h:Heap}{a:Addr}
theorem rd_of{u:HO}(ok:HOk P w H h)(e:Rd H a u):BJ P w H h a u:=e.ok ok
theorem PZ{kvs:List (Key×V)}(ok:HOk P w H h)(e:Rd H a (.dK kvs)):kvs.length<=sizeLine/\(a==sysModules)=false/\∃vs,KV kvs vs/\h.DictOf (Co P w) a vs :=
 show BJ P w H h a (.dK kvs)from rd_of ok e
theorem dk_of{kvs:List (Key×V)}(ok:HOk P w H h)(e:H a=some (.dK kvs)):kvs.length<=sizeLine/\(a==sysModules)=false/\∃vs,KV kvs vs/\h.DictOf (Co P w) a vs:=PZ ok (.inl e)
theorem OM{ks:List Key}(ok:HOk P w H h)(e:H a=some (.tup (ks.map kV))):(tupleKind (Co P w)).is h ks a:=by
 obtain⟨_,its,r,o,h1,h2,n,h3⟩:=(show BJ P w H h a (.tup (ks.map kV))from ok a _ e)
 exact⟨o,its.toArray,n,h1,h2,h3,by simpa using PQ r⟩
theorem PX{kvs:List (List Key×V)}(ok:HOk P w H h)(e:Rd H a (.dT kvs)):kvs.length<=sizeLine/\(a==sysModules)=false /\
  ∃xs,KT H kvs xs/\h.DictOfH (tupleKind (Co P w)) a xs:=by
 obtain⟨z,y,xs,r,o,es,ep,h1,h2,h3,h4,h5⟩:=(show BJ P w H h a (.dT kvs)from rd_of ok e)
 refine⟨z,y,xs,r,o,es,ep,h1,h2,h3,h4,λx hx=>?_,h5⟩;have all:∀{l:List (List Key×V)}{m:List (List Key×Addr×Value)},KT H l m->∀x∈m,(tupleKind (Co P w)).is h x.1 x.2.1:=by
  intro l m q;induction q with
  |nil=>intro x hx;exact nomatch hx
  |@cons p q ps qs hq t ih =>
   intro x hx;rcases C3.mp hx with e|hx
   ·subst e;exact OM ok (by rw[<-hq.1];exact hq.2.1)
   ·exact ih x hx
 exact all r x hx
theorem dt_of{kvs:List (List Key×V)}(ok:HOk P w H h)(e:H a=some (.dT kvs)):kvs.length<=sizeLine/\(a==sysModules)=false /\
  ∃xs,KT H kvs xs/\h.DictOfH (tupleKind (Co P w)) a xs:=PX ok (.inl e)
end
def IO(H:Hp)(a:Addr)(y:V)(r:Option V):Prop :=
 (∃kvs k,Rd H a (.dK kvs)/\y=kV k/\r=BM kvs k)\/∃kvs k b,Rd H a (.dT kvs)/\y=.ref b/\H b=some (.tup (k.map kV))/\r=BM kvs k
def Mf(H:Hp)(a:Addr)(y v:V)(H':Hp):Prop :=
 (∃kvs k,H a=some (.dK kvs)/\y=kV k/\kvs.length<sizeLine/\H'=upd H a (.dK (EE kvs k v))) \/
 ∃kvs k b,H a=some (.dT kvs)/\y=.ref b/\H b=some (.tup (k.map kV))/\kvs.length<sizeLine/\H'=upd H a (.dT (EE kvs k v))
theorem IO.k{H:Hp}{a:Addr}{kvs:List (Key×V)}{k:Key}(e:H a=some (.dK kvs)):IO H a (kV k) (BM kvs k):=.inl ⟨kvs,k,.inl e,rfl,rfl⟩
theorem IO.t{H:Hp}{a b:Addr}{kvs:List (List Key×V)}{k:List Key}(e:H a=some (.dT kvs))(eb:H b=some (.tup (k.map kV))):IO H a (.ref b) (BM kvs k):=.inr ⟨kvs,k,b,.inl e,rfl,eb,rfl⟩
theorem Mf.k{H:Hp}{a:Addr}{kvs:List (Key×V)}{k:Key}{v:V}(e:H a=some (.dK kvs))(hl:kvs.length<sizeLine):Mf H a (kV k) v (upd H a (.dK (EE kvs k v))):=.inl ⟨kvs,k,e,rfl,hl,rfl⟩
theorem Mf.t{H:Hp}{a b:Addr}{kvs:List (List Key×V)}{k:List Key}{v:V}(e:H a=some (.dT kvs))(eb:H b=some (.tup (k.map kV)))(hl:kvs.length<sizeLine) :
  Mf H a (.ref b) v (upd H a (.dT (EE kvs k v))):=.inr ⟨kvs,k,b,e,rfl,eb,hl,rfl⟩
section
variable{X:Cx}{pins:List (Addr×Obj)}{σ:St}{H:Hp}{s:Shared}{a:Addr}{y v:V}{u r:Value}{o:Option V}{A:Around}{E:Value->Shared->Prop}
theorem Inv.big(I:Inv X pins σ H s):sysModules<s.heap.objs.size:=by
 have h:mainGlobals<s.heap.objs.size:=(I.mod.glob.keeps I.bk).lt;exact T5 A4 h
theorem Wo{Q:Value->Shared->Prop}(hu:A.units+1<cLine)(I:Inv X pins σ H s)(g:IO H a y (some v))(ry:AY y u)(h:∀w' s',Inv X pins σ H s'->AY v w'->Q w' s') :
  wpAny (model X.prog X.w) A (getItem (.ref a) u) Q E s:=by
 rcases g with ⟨kvs,k,e,ey,l⟩|⟨kvs,k,b,e,ey,eb,l⟩
 ·subst ey;obtain⟨z,hd,vs,rel,dd⟩:=PZ I.hok e;obtain⟨w',hw,rw'⟩:=IN.some_of (v:=v) (o:=valueAt vs k) (by rw[l];exact rel.val k);exact wpAny_getItem_of (SB ry) dd.mapOf hw (h w' _ (I.tok _) rw')
 ·subst ey;cases(show u=Value.ref b from ry);obtain⟨z,hd,xs,rel,dd⟩:=PX I.hok e;obtain⟨w',hw,rw'⟩:=IN.some_of (v:=v) (o:=(atKey xs k).map (·.2)) (by rw[l];exact rel.val k);obtain⟨p,hp,hp2⟩:=D2.mp hw;refine wpAny_getItem_heap (A3b hu) (OM I.hok eb) dd hp ?_;rw[hp2];exact h w' _ (I.tok _) rw'
theorem d_notIn{Q:Value->Shared->Prop}(hu:A.units+1<cLine)(I:Inv X pins σ H s)(g:IO H a y o)(ry:AY y u)(h:∀s',Inv X pins σ H s'->Q (.bool (!o.isSome)) s') :
  wpAny (model X.prog X.w) A (compareOp .NotIn u (.ref a)) Q E s:=by
 rcases g with ⟨kvs,k,e,ey,l⟩|⟨kvs,k,b,e,ey,eb,l⟩
 ·subst ey;obtain⟨z,hd,vs,rel,dd⟩:=PZ I.hok e;refine wpAny_notIn_of (SB ry) hd dd.mapOf ?_;rw[<-(rel.val k).isSome_eq,<-l];exact h _ (I.tok _)
 ·subst ey;cases(show u=Value.ref b from ry);obtain⟨z,hd,xs,rel,dd⟩:=PX I.hok e;refine wpAny_notIn_heap (A3b hu) (OM I.hok eb) hd dd ?_;have q:=(rel.val k).isSome_eq;rw[Option.isSome_map]at q;rw[<-q,<-l];exact h _ (I.tok _)
theorem Rk{h':Heap}{t':Nat}{ob:HO}(I:Inv X pins σ H s)(mu:Mut (H a))(hs:Heap.SameBut a s.heap h')(he:∃q,h'.get? a=some q)(new:BJ X.prog X.w (upd H a ob) h' a ob) :
  Inv X pins σ (upd H a ob) {s with heap:=h',toks:=t'} :=
 I.write (x:=a) (e:=a) mu (.inl rfl) (λb q hb z=>(hs.2 b hb).trans z) he new
theorem dk_new{P:Program}{w:World}{H':Hp}{h':Heap}{kvs:List (Key×V)}{vs:List (Key×Value)}(z:kvs.length<=sizeLine)(hd:(a==sysModules)=false)(rel:KV kvs vs)(dd:h'.DictOf (Co P w) a vs) :
  BJ P w H' h' a (.dK kvs):=⟨z,hd,vs,rel,dd⟩
theorem Wn{H':Hp}{Q:Unit->Shared->Prop}(hu:A.units+1<cLine)(I:Inv X pins σ H s)(g:Mf H a y v H')(ry:AY y u)(rv:AY v r)(h:∀s',Inv X pins σ H' s'->Q () s') :
  wpAny (model X.prog X.w) A (setItem (.ref a) u r) Q E s:=by
 rcases g with ⟨kvs,k,e,ey,l,eH⟩|⟨kvs,k,b,e,ey,eb,l,eH⟩
 ·subst ey eH;obtain⟨z,hd,vs,rel,dd⟩:=dk_of I.hok e;have hz:vs.length<=sizeLine:=by rw[<-rel.length];exact z
  have hl:(EE kvs k v).length<=sizeLine:=by have:=Ga kvs k v;lia
  refine wpAny_setItem_pairs (hsz:=hz) (SB ry) dd λh' dd' hs=>h _ ?_;have he:∃q,h'.get? a=some q:=let ⟨q,_,_,hq,_⟩:=dd';⟨q,hq⟩;exact Rk I (by rw[e];exact True.intro) hs he (dk_new hl hd (rel.put k rv) dd')
 ·subst ey eH;cases(show u=Value.ref b from ry);obtain⟨z,hd,xs,rel,dd⟩:=dt_of I.hok e;have hz:xs.length<=sizeLine:=by rw[<-Z9 rel];exact z
  have hl:(EE kvs k v).length<=sizeLine:=by have:=Ga kvs k v;lia
  refine wpAny_setItem_heap (hsz:=hz) (A3b hu) (OM I.hok eb) dd λh' dd' hs=>h _ ?_;obtain⟨q,es,ep,hq,h2,h3,h4,_,h5⟩:=dd';refine Rk I (by rw[e];exact True.intro) hs ⟨q,hq⟩ ⟨hl,hd,_,(rel.put k eb rv).keeps λc ys ec=>?_,q,es,ep,hq,h2,h3,h4,h5⟩;rw[As (AE ec e (λz=>nomatch z))];exact ec
end
section
variable{X:Cx}{pins:List (Addr×Obj)}{σ:St}{H:Hp}{s:Shared}{a:Addr}{kvs:List (Key×V)}{k:Key}{u:Value}{A:Around}{E:Value->Shared->Prop}
end
def NoSl(i:Expr):Prop:=∀ov iv,subscripted i false ov iv=operate [ov,iv] (getItem ov iv)
theorem subD_of{prog:Program}{w:World}{A:Around}{E:Value->Shared->Prop}{s:Shared}{env:Env}{value slice:Expr}{pos:Pos}{T id:String}{Q:Value->Shared->Prop}
  (hl:typeLookup (.type T) "__getitem__" = pure (some (.builtin id))) (hs:NoSl slice)
  (h:wpAny (model prog w) A (eval value env) (λo s₁=>wpAny (model prog w) A (eval slice env) (λi s₂=>s₂.TypeIs o T/\wpAny (model prog w) A (getItem o i) Q E s₂) E s₁) E s) :
  wpAny (model prog w) A (eval (.Subscript value slice pos) env) Q E s:=by
 refine Subscript_ (K9 h (λo s₁ h₁=>K9 h₁ (λi s₂ h₂=>?_) λ_ _ x=>x) λ_ _ x=>x);obtain⟨hT,h₂⟩:=h₂;unfold subscriptTail;refine Y5 ?_;rw[getitemInPython_of_ne hT.not_modules];refine Y5 (wpAny_specialOf hT hl ?_);have fin:wpAny (model prog w) A (subscripted slice false o i) (λr s₃=>wpAny (model prog w) A (letTemporaryGo value o r >>= λ_=>pure r) Q E s₃) E s₂:=by
  rw[hs o i];exact wpAny_operating (K9 h₂ (λr s₃ h₃=>Y5 (wpAny_letTemporaryGo (Z0 h₃))) λ_ _ x=>x)
 first
  |exact Z0 (Y5 fin)
  |exact Y5 (Z0 (Y5 fin))
  |exact Y5 fin
theorem SG{X:Cx}{pins:List (Addr×Obj)}{σ:St}{H:Hp}{s:Shared}{a:Addr}{y:V}{o:Option V}(I:Inv X pins σ H s)(g:IO H a y o):s.TypeIs (.ref a) "dict" := by
 rcases g with ⟨kvs,k,e,_,_⟩|⟨kvs,k,b,e,_,_,_⟩
 ·obtain⟨_,_,vs,_,dd⟩:=PZ I.hok e;exact dd.typeIs
 ·obtain⟨_,_,xs,_,dd⟩:=PX I.hok e;exact dd.typeIs
def tDGet(td ty:TE):TE:=fun σ H Q=>td σ H λx H1=>ty σ H1 λy H2=>∃a v,x=.ref a/\IO H2 a y (some v)/\Q v H2
def tDNotIn(ty td:TE):TE:=fun σ H Q=>ty σ H λy H1=>td σ H1 λx H2=>∃a o,x=.ref a/\IO H2 a y o/\Q (.bl (!o.isSome)) H2
def sDPut(td ty tv:TE):TS:=λD σ H=>tv σ H λv H1=>td σ H1 λx H2=>ty σ H2 λy H3=>∃a H4,x=.ref a/\Mf H3 a y v H4/\D.nx σ H4
section
variable{X:Cx}{o i e value:Expr}{pos pos' tpos:Pos}{td ty tv:TE}
theorem QI(hu:X.A.units+1<cLine)(ho:PE X o td)(hi:PE X i ty)(hs:NoSl i):PE X (.Subscript o i pos) (tDGet td ty):=by
 intro pins s σ H Q I h;refine subD_of PySem.F.slot_dict_getitem.lookup hs (thn (ho pins s σ H _ I h) λu s1 ⟨x,H1,I1,rx,q1⟩=>thn (hi pins s1 σ H1 _ I1 q1) λiv s2 ⟨y,H2,I2,ry,a,v,ex,g,q2⟩=>?_);subst ex;obtain rfl:u=Value.ref a:=rx;exact⟨SG I2 g,Wo hu I2 g ry λw' s3 I3 rw'=>⟨v,H2,I3,rw',q2⟩⟩
theorem VJ(hu:X.A.units+1<cLine)(hi:PE X i ty)(ho:PE X o td):PC X .NotIn i o (tDNotIn ty td):=by
 intro pins s σ H Q I h;refine thn (hi pins s σ H _ I h) λiv s1 ⟨y,H1,I1,ry,q1⟩=>thn (ho pins s1 σ H1 _ I1 q1) λu s2 ⟨x,H2,I2,rx,a,ov,ex,g,q2⟩=>?_;subst ex;obtain rfl:u=Value.ref a:=rx;exact d_notIn hu I2 g ry λs3 I3=>⟨.bl (!ov.isSome),H2,I3,rfl,q2⟩
theorem Ig(hu:X.A.units+1<cLine)(ho:PE X o td)(hi:PE X i ty)(hv:PE X value tv)(hs:swapsWith value (some (.Subscript o i pos')) pos.line X.env=pure false) :
  PS X (.Assign [.Subscript o i pos'] value pos) (sDPut td ty tv):=by
 intro pins s σ H D I h;refine wpAny_Assign_Subscript (thn (hv pins s σ H _ I h) λr s1 ⟨v,H1,I1,rv,q1⟩=>thn (ho pins s1 σ H1 _ I1 q1) λu s2 ⟨x,H2,I2,rx,q2⟩=>thn (hi pins s2 σ H2 _ I2 q2) λiv s3 ⟨y,H3,I3,ry,a,H4,ex,g,q3⟩=>?_) hs;subst ex;obtain rfl:u=Value.ref a:=rx;exact Wn hu I3 g ry rv λs4 I4=>⟨σ,H4,I4,q3⟩
end
theorem Zt{P:Program}{w:World}{H:Hp}(h:Heap)(hb:sysModules<h.objs.size):BJ P w H (h.push {cls:=.type "dict",data:=.dict #[]}) h.objs.size (.dK []) :=
 ⟨L7 _,beq_eq_false_iff_ne.mpr (Z1 (J3 hb)),[],.nil,Heap.DictOf.new h⟩
theorem Zs{P:Program}{w:World}{H:Hp}(h:Heap)(hb:sysModules<h.objs.size):BJ P w H (h.push {cls:=.type "dict",data:=.dict #[]}) h.objs.size (.dT []) :=
 ⟨L7 _,beq_eq_false_iff_ne.mpr (Z1 (J3 hb)),[],.nil,_,#[],0,D3 _ rfl,⟨rfl,rfl,rfl⟩,rfl,rfl,S2⟩
def tDNewK:TE:=λ_ H Q=>∀p,H p=none->Q (.ref p) (upd H p (.dK []))
def tDNewT:TE:=λ_ H Q=>∀p,H p=none->Q (.ref p) (upd H p (.dT []))
section
variable{X:Cx}{pos:Pos}
theorem LF:PE X (.Dict [] [] pos) tDNewK:=λpins s σ H Q I h =>
 wpAny_Dict_empty ⟨.ref s.heap.objs.size,_,I.laid (a:=s.heap.objs.size) (o:=.dK []) (t':=s.toks) (λ_ _ q=>C2 _ q) (C1 _) (Zt s.heap I.big),rfl,h _ (I.hok.fresh (C1 _))⟩
theorem Oq:PE X (.Dict [] [] pos) tDNewT:=λpins s σ H Q I h =>
 wpAny_Dict_empty ⟨.ref s.heap.objs.size,_,I.laid (a:=s.heap.objs.size) (o:=.dT []) (t':=s.toks) (λ_ _ q=>C2 _ q) (C1 _) (Zs s.heap I.big),rfl,h _ (I.hok.fresh (C1 _))⟩
end
structure M1(X:Cx)(o:Expr)(m:Str)(apos:Pos)(e:Expr)(cpos:Pos):Prop where
 base:attributeBase o m X.env (eval o X.env)=eval o X.env
 few:((backTo cpos (starEach [e] X.env)).all (λx=>!x.1) && (backToKw cpos (keywordEach [] X.env)).all (λx=>x.1.isSome)
  && decide (([e]:List Expr).length+([]:List Keyword).length+(if([]:List Keyword).isEmpty then 0 else 1)<30))=true
 line:(apos.endLine==cpos.line)=true
 trees:backTo cpos (starEach [e] X.env)=[(false,eval e X.env)]
def IsD(H:Hp)(a:Addr):Prop:=(∃kvs,Rd H a (.dK kvs))\/∃kvs,Rd H a (.dT kvs)
theorem isD_at{X:Cx}{pins:List (Addr×Obj)}{σ:St}{H:Hp}{s:Shared}{a:Addr}(I:Inv X pins σ H s)(d:IsD H a) :
  s.TypeIs (.ref a) "dict" /\ (∀b,Value.ref a=.ref b->∃ob,s.heap.get? b=some ob/\ob.dict=none)/\(a==sysModules)=false:=by
 rcases d with ⟨kvs,e⟩|⟨kvs,e⟩
 ·obtain⟨_,hd,vs,_,dd⟩:=PZ I.hok e;refine⟨dd.typeIs,λb q=>?_,hd⟩;cases q;obtain⟨ob,_,_,h1,h2,_⟩:=dd;exact⟨ob,h1,h2.2.1⟩
 ·obtain⟨_,hd,xs,_,dd⟩:=PX I.hok e;refine⟨dd.typeIs,λb q=>?_,hd⟩;cases q;obtain⟨ob,_,_,h1,h2,_⟩:=dd;exact⟨ob,h1,h2.2.1⟩
section
variable{X:Cx}{pins:List (Addr×Obj)}{σ:St}{H:Hp}{s:Shared}{a:Addr}{y d:V}{u r:Value}{o:Option V}{A:Around}{E:Value->Shared->Prop}
theorem d_get1{Q:Value->Shared->Prop}(hu:A.units+1<cLine)(I:Inv X pins σ H s)(g:IO H a y o)(ry:AY y u)(h:∀w' s',Inv X pins σ H s'->AY (o.getD .non) w'->Q w' s') :
  wpAny (model X.prog X.w) A (call (.builtin "dict.get") [.ref a,u]) Q E s:=by
 rcases g with ⟨kvs,k,e,ey,l⟩|⟨kvs,k,b,e,ey,eb,l⟩
 ·subst ey;obtain⟨z,hd,vs,rel,dd⟩:=PZ I.hok e;refine call_meetsIn A3c dd.typeIs PySem.F.entry_dict_get (PySem.F.args_dict_get_2 _ _) (meets_dict_get (Co X.prog X.w) a (SB ry) hd) ⟨_,dd.mapOf,h _ _ (I.tok _) ?_⟩;rw[l];exact(rel.val k).getD rfl
 ·subst ey;cases(show u=Value.ref b from ry);obtain⟨z,hd,xs,rel,dd⟩:=PX I.hok e;refine call_meetsIn A3c dd.typeIs PySem.F.entry_dict_get (PySem.F.args_dict_get_2 _ _) (meetsH_dict_get (tupleKind (Co X.prog X.w)) a b hd) ⟨A3b hu,k,xs,OM I.hok eb,dd,h _ _ (I.tok _) ?_⟩;rw[l];exact(rel.val k).getD rfl
end
def tDGet1(td ty:TE):TE:=fun σ H Q=>td σ H λx H1=>∃a,x=.ref a/\IsD H1 a/\ty σ H1 λy H2=>∃o,IO H2 a y o/\Q (o.getD .non) H2
section
variable{X:Cx}{o e f:Expr}{apos cpos:Pos}{td ty tx:TE}
theorem LG(hu:X.A.units+1<cLine)(ho:PE X o td)(he:PE X e ty)(m:M1 X o "get" apos e cpos):PE X (.Call (.Attribute o "get" apos) [e] [] cpos) (tDGet1 td ty):=by
 intro pins s σ H Q I h;refine wpAny_Call_method m.base m.few m.line PySem.F.plainAttrs_dict A3c PySem.F.type_dict_get (thn (ho pins s σ H _ I h) λu s1 ⟨x,H1,I1,rx,a,ex,d,q1⟩=>?_);subst ex;obtain rfl:u=Value.ref a:=rx;obtain⟨t1,t2,_⟩:=isD_at I1 d;refine⟨t1,t2,?_⟩;rw[m.trees];refine Calls.callWith_builtin rfl (Calls.evalArgs_plain (Calls.spliced_cons (thn (he pins s1 σ H1 _ I1 q1) λiv s2 ⟨y,H2,I2,ry,ov,g,q2⟩=>Calls.spliced_nil ?_)));exact d_get1 hu I2 g ry λw' s3 I3 rw'=>⟨_,H2,I3,rw',q2⟩
end
section
variable{X:Cx}{pins:List (Addr×Obj)}{σ:St}{H:Hp}{s:Shared}{a:Addr}{kvs:List (Key×V)}{A:Around}{E:Value->Shared->Prop}
end
section
variable{X:Cx}{pins:List (Addr×Obj)}{σ:St}{H:Hp}{s:Shared}{a:Addr}{y:V}{u:Value}{A:Around}{E:Value->Shared->Prop}
end
section
variable{X:Cx}
end
section
variable{κ:Type}[DecidableEq κ]
end
section
variable{X:Cx}
theorem QH{K:PySem.W.Frag}{e:Expr}{f:Str}{ta:TE}{pos:Pos}(hK:X.K=K)(he:PE X e ta)(hb:attributeBase e f X.env (eval e X.env)=eval e X.env):PE X (.Attribute e f pos) (tFld K ta f):=hK▸AC he hb
end
section
variable{X:Cx}
theorem LS{ns:List Int}{its:List Value}(rv:AM (ns.map V.int) its):∀(i:Nat) v,its.toArray[i]?=some v->∃t,v=.int (ns.getD i 0) t:=λi v e=>by
 have e:its[i]?=some v:=by simpa using e
 cases eb:ns[i]? with
 |none =>
  have:its[i]?=none:=rv.none_of (by rw[C0,eb];rfl);rw[e]at this;cases this
 |some b =>
  obtain⟨u,hu,ru⟩:=rv.get (i:=i) (x:=V.int b) (by rw[C0,eb];rfl);rw[e]at hu;cases hu;rw[D8,eb];obtain⟨t,rfl⟩:=ru;exact⟨t,rfl⟩
theorem Qd(hc:X.calm=true):FQ X (.builtin "min") (λxs H Q=>∃(p:Addr)(ns:List Int),xs=[.ref p]/\SqL X.K H p (ns.map V.int)/\ns≠[]/\∀m∈ns,(∀x∈ns,m<=x)->Q (.int m) H):=by
 intro pins s σ H xs us Q I r h;obtain⟨p,ns,rfl,hq,ne,q⟩:=h;cases r with
 |cons r1 r2 =>
  cases r2;cases(show _=Value.ref p from r1);obtain⟨its,rv,pl,hz⟩:=I.list hq;have hlt:p<s.heap.objs.size:=by obtain⟨o,n,e,_⟩:=pl;exact D6 e
  have hne:p≠s.heap.objs.size:=J3 hlt;have len:its.toArray.size=ns.length:=by rw[F1,<-rv.length,B8]
  have pos:0<ns.length:=T0.mpr ne;refine call_min_walk (A2d pl.isList ?_);refine⟨s.heap.objs.size,_,_,_,_,_,_,rfl,(Walks.list (A:=X.A.in1) (I.ok.hd hc) s.heap.objs.size p hne its.toArray),⟨⟨_,D3 _ rfl,rfl,rfl⟩,?_⟩,?_,by rw[len];exact pos,CmpOf.ints_lt (λi=>ns.getD i 0) (LS rv),?_⟩
  ·exact pl.isList.at λo e=>C2 _ e
  ·intro b hb;show b<(s.heap.push _).objs.size;rw[P0];rcases C3.mp hb with rfl|hb
   ·exact U6 _
   ·rcases C3.mp hb with rfl|hb
    ·exact W8 hlt
    ·cases hb
  ·intro v h' tk hP kk;have I2:Inv X pins σ H {s with heap:=h',toks:=tk}:=I.kept λb o e=>kk b o (by intro z;exact J3 (D6 e) (by simpa using z)) (C2 _ e);obtain⟨t,rfl⟩:=LS rv _ _ hP;obtain⟨b1,b2⟩:=argBest_lt (λi=>ns.getD i 0) (its.toArray.size-1);generalize argBest (λi j=>decide (ns.getD i 0<ns.getD j 0)) (its.toArray.size-1)=z at b1 b2 hP⊢;rw[len]at b1 b2;have hz2:z<ns.length:=by lia
   have ez:ns.getD z 0=ns[z]:=by rw[D8,C8 hz2];rfl
   refine⟨.int _,H,I2,⟨t,rfl⟩,q _ (by rw[ez];exact R6 hz2) λx hx=>?_⟩;obtain⟨j,hj,e⟩:=W3.mp hx;have:=b2 j A0;have ej:ns.getD j 0=x:=by rw[D8,C8 hj,<-e];rfl
   rw[<-ej];exact this
theorem Qe(hc:X.calm=true):FQ X (.builtin "max") (λxs H Q=>∃(p:Addr)(ns:List Int),xs=[.ref p]/\SqL X.K H p (ns.map V.int)/\ns≠[]/\∀m∈ns,(∀x∈ns,x<=m)->Q (.int m) H):=by
 intro pins s σ H xs us Q I r h;obtain⟨p,ns,rfl,hq,ne,q⟩:=h;cases r with
 |cons r1 r2 =>
  cases r2;cases(show _=Value.ref p from r1);obtain⟨its,rv,pl,hz⟩:=I.list hq;have hlt:p<s.heap.objs.size:=by obtain⟨o,n,e,_⟩:=pl;exact D6 e
  have hne:p≠s.heap.objs.size:=J3 hlt;have len:its.toArray.size=ns.length:=by rw[F1,<-rv.length,B8]
  have pos:0<ns.length:=T0.mpr ne;refine call_max_walk (A2d pl.isList ?_);refine⟨s.heap.objs.size,_,_,_,_,_,_,rfl,(Walks.list (A:=X.A.in1) (I.ok.hd hc) s.heap.objs.size p hne its.toArray),⟨⟨_,D3 _ rfl,rfl,rfl⟩,?_⟩,?_,by rw[len];exact pos,CmpOf.ints_gt (λi=>ns.getD i 0) (LS rv),?_⟩
  ·exact pl.isList.at λo e=>C2 _ e
  ·intro b hb;show b<(s.heap.push _).objs.size;rw[P0];rcases C3.mp hb with rfl|hb
   ·exact U6 _
   ·rcases C3.mp hb with rfl|hb
    ·exact W8 hlt
    ·cases hb
  ·intro v h' tk hP kk;have I2:Inv X pins σ H {s with heap:=h',toks:=tk}:=I.kept λb o e=>kk b o (by intro z;exact J3 (D6 e) (by simpa using z)) (C2 _ e);obtain⟨t,rfl⟩:=LS rv _ _ hP;obtain⟨b1,b2⟩:=argBest_gt (λi=>ns.getD i 0) (its.toArray.size-1);generalize argBest (λi j=>decide (ns.getD i 0 > ns.getD j 0)) (its.toArray.size-1)=z at b1 b2 hP⊢;rw[len]at b1 b2;have hz2:z<ns.length:=by lia
   have ez:ns.getD z 0=ns[z]:=by rw[D8,C8 hz2];rfl
   refine⟨.int _,H,I2,⟨t,rfl⟩,q _ (by rw[ez];exact R6 hz2) λx hx=>?_⟩;obtain⟨j,hj,e⟩:=W3.mp hx;have:=b2 j A0;have ej:ns.getD j 0=x:=by rw[D8,C8 hj,<-e];rfl
   rw[<-ej];exact this
end
section
variable{X:Cx}
end
section
variable{prog:Program}{w:World}{κ:Type}[DecidableEq κ]{knd:HeapKind prog w κ}{A:Around}{E:Value->Shared->Prop}{s:Shared}
end
section
variable{X:Cx}{pins:List (Addr×Obj)}{σ:St}{H:Hp}{s:Shared}{a:Addr}{y v:V}{u r:Value}{o:Option V}{A:Around}{E:Value->Shared->Prop}
end
section
variable{X:Cx}{o e f:Expr}{apos cpos:Pos}{td ty tx:TE}
end
section
variable{prog:Program}{w:World}{A:Around}{E:Value->Shared->Prop}{s:Shared}{d it:Addr}{o:Obj}{es:Array DictEntry}{ep i:Nat}
theorem RX{Q:Value->Shared->Prop}(hd:(d==sysModules)=false)(ho:s.heap.get? d=some o)(hc:o.ExactDict)(da:o.data=.dict es ep)
  (q:Q (.ref s.heap.objs.size) {s with heap:=s.heap.push {cls:=.type "dict_keyiterator",data:=.fields #[.ref d,.int 0 0,.int es.size 0,.int ep 0]} }):wpAny (model prog w) A (pyIter (.ref d)) Q E s:=by
 have hT:s.TypeIs (.ref d) "dict" := ⟨o,ho,hc.1⟩
 refine wpAny_pyIter_slot hT F.slot_dict_iter (A0c F.slot_dict_iter hT F.entry_dict_iter ?_ (F.args_dict_iter_1 _));unfold Builtin.«dict.__iter__»;refine Y5 ?_;unfold Builtin.Dict.dictSlotNone;refine Y5 (wpAny_notOrdered_dict hT ?_);show wpAny _ _ (pure (Value.ref d)) _ _ s;refine Z0 ?_;show wpAny _ _ (Builtin.Dict.showsAll d >>= _) _ _ s;unfold Builtin.Dict.showsAll;rw[Y6 (by rw[hd];exact D0)];refine Y5 (Z0 ?_);refine Y5 (wpAny_dictEntries ho da ?_);refine Y5 (wpAny_dictEpoch ho da ?_);refine Y5 (A1f (Z0 ⟨_,rfl,"dict_keyiterator",_,⟨_,D3 _ rfl,rfl⟩,F.slot_dict_keyiterator_next.lookup,?_⟩));simpa[rawInt] using q
theorem Yb{Q:Option Value->Shared->Prop}(hit:s.heap.IsKeyIter it d i es.size ep)(ho:s.heap.get? d=some o)(da:o.data=.dict es ep)(hi:i<es.size)
  (q:∀h',h'.IsKeyIter it d (i+1) es.size ep->Heap.SameBut it s.heap h'->Q (some es[i].key) {s with heap:=h'}):wpAny (model prog w) A (pyNext (.ref it)) Q E s:=by
 obtain⟨io,hio,ic,idt⟩:=id hit;unfold pyNext;refine Y5 (A2a (wpAny_callSpecial?_slot (name:=Str.ofString "__next__") hit.typeIs A1d (A0c A1d hit.typeIs F.entry_dict_keyiterator_next ?_ (F.args_dict_keyiterator_next_1 _))));refine Y5 (Z0 ?_);refine Y5 ?_;refine Y5 ?_
 (first|refine Y5 (A0h hit.typeIs (Z0 ?_))|refine Y5 (A2b hit.typeIs (Z0 ?_)));refine Y5 (wpAny_fieldsOf hio idt ?_)
 have hown:Builtin.Dict_items.ownsTuple "dict_keyiterator" = false:=A4;simp only[hown,O2,A1g];show wpAny _ _ (if(Value.ref d==Value.none)=true then _ else _) _ _ s;rw[Y6 (show ¬((Value.ref d==Value.none)=true)from D0)];refine Y5 (Z0 ?_);refine Y5 (wpAny_dictEntries ho da ?_);rw[Y6 A6];refine Y5 (Z0 ?_);refine Y5 (wpAny_dictEpoch ho da ?_);rw[Y6 A6];refine Z0 ?_;simp only[show ¬((i:Int)<0)from by lia,A1g,J8,Array.getElem?_eq_getElem hi];refine Y5 ?_
 (first|refine Y5 (A0h hit.typeIs (Z0 ?_))|refine Y5 (A2b hit.typeIs (Z0 ?_)));refine Y5 (wpAny_isOneOf_keyiter hit.typeIs ?_)
 show wpAny _ _ (setField (.ref it) 1 (rawInt ((i:Int)+1)) >>= _) _ _ s;refine Y5 (A4d hio idt A6 ?_);have next:(s.heap.update it (Obj.mapFields (·.setIfInBounds 1 (rawInt ((i:Int)+1))))).IsKeyIter it d (i+1) es.size ep:=⟨_,W0 _ hio (Obj.isFreed_of_fields (A3a idt _)),(Obj.cls_mapFields ..).trans ic,by rw[A3a idt];simp[rawInt]⟩
 refine Y5 (A1e ?_);refine Y5 (wpAny_isOneOf_keyiter (s:={s with heap:=s.heap.update it (Obj.mapFields (·.setIfInBounds 1 (rawInt ((i:Int)+1))))}) next.typeIs ?_);show wpAny _ _ (pure es[i].key) _ _ _;exact Z0 (Z0 ⟨_,rfl,Z0 (q _ next (A2f ..))⟩)
theorem raw_end{Q:Option Value->Shared->Prop}(hh:A.handled=none)(hit:s.heap.IsKeyIter it d i es.size ep)(ho:s.heap.get? d=some o)(da:o.data=.dict es ep)(hi:es.size<=i)
  (q:∀h',Heap.ExtBut it s.heap h'->Q none {s with heap:=h'}):wpAny (model prog w) A (pyNext (.ref it)) Q E s:=by
 obtain⟨io,hio,ic,idt⟩:=id hit;unfold pyNext;refine Y5 (A2a (wpAny_callSpecial?_slot (name:=Str.ofString "__next__") hit.typeIs A1d (A0c A1d hit.typeIs F.entry_dict_keyiterator_next ?_ (F.args_dict_keyiterator_next_1 _))));refine Y5 (Z0 ?_);refine Y5 ?_;refine Y5 ?_
 (first|refine Y5 (A0h hit.typeIs (Z0 ?_))|refine Y5 (A2b hit.typeIs (Z0 ?_)));refine Y5 (wpAny_fieldsOf hio idt ?_)
 have hown:Builtin.Dict_items.ownsTuple "dict_keyiterator" = false:=A4;simp only[hown,O2,A1g];show wpAny _ _ (if(Value.ref d==Value.none)=true then _ else _) _ _ s;rw[Y6 (show ¬((Value.ref d==Value.none)=true)from D0)];refine Y5 (Z0 ?_);refine Y5 (wpAny_dictEntries ho da ?_);rw[Y6 A6];refine Y5 (Z0 ?_);refine Y5 (wpAny_dictEpoch ho da ?_);rw[Y6 A6];refine Z0 ?_;simp only[show ¬((i:Int)<0)from by lia,A1g,J8,Array.getElem?_eq_none hi];refine Y5 ?_
 (first|refine Y5 (A0h hit.typeIs (Z0 ?_))|refine Y5 (A2b hit.typeIs (Z0 ?_)))
 show wpAny _ _ (setField (.ref it) 0 .none >>= _) _ _ s;refine Y5 (A4d hio idt A6 ?_);show wpAny _ _ (newExc (.type "StopIteration") [] >>= _) _ _ _;refine Y5 ?_;simp only[newExc,newTuple];refine Y5 (A1f ?_ (by size_fits));refine Y5 (m:=firstArgMember _ _) (wpAny_of_eq (a:=Value.none) (by first|rfl|(simp only[firstArgMember];rfl)) ?_);refine A1f ?_ (by size_fits);simp only[raiseNew];refine Y5 (wpAny_handled ?_);rw[show A.in1.handled=none from hh];refine Y5 (Z0 (wpAny_throw ?_));refine Y5 (wpAny_isInstance (T:="StopIteration") (b:=true) ⟨_,D3 _ rfl,rfl⟩ isSubtype_stop ?_);exact Z0 (q _ (((A2f ..).extBut.push _).push _))
end
def Itd(a:Addr)(o:Obj)(kvs:List (List Key×V)):It :=
 ⟨λi H=>H a=some (.frz o (.dT kvs))/\i<kvs.length,λi H x H'=>H'=H/\∃b k v,x=.ref b/\kvs[i]?=some (k,v)/\H b=some (.tup (k.map kV)),λi H=>H a=some (.frz o (.dT kvs))/\kvs.length<=i⟩
theorem Zk{P:Program}{w:World}{H:Hp}{h:Heap}{a:Addr}{o:Obj}{kvs:List (List Key×V)}(ok:HOk P w H h)(e:H a=some (.frz o (.dT kvs))) :
  h.get? a=some o/\∃(xs:List (List Key×Addr×Value))(es:Array DictEntry)(ep:Nat),KT H kvs xs/\o.data=.dict es ep/\es.toList=xs.map (entryOfKey (tupleKind (Co P w))):=by
 obtain⟨e1,z,y,xs,r,o',es,ep,h1,h2,h3,h4,h5⟩:=(show BJ P w H h a (.frz o (.dT kvs))from ok a _ e)
 rw[e1]at h1;cases h1;exact⟨e1,xs,es,ep,r,h3,h4⟩
theorem KT.at_{H:Hp}:∀{kvs:List (List Key×V)}{xs:List (List Key×Addr×Value)}{i:Nat}{x:List Key×Addr×Value},KT H kvs xs->xs[i]?=some x->∃v,kvs[i]?=some (x.1,v)/\H x.2.1=some (.tup (x.1.map kV)):=by
 intro kvs xs i x r;induction r generalizing i with
 |nil=>intro e;simp at e
 |@cons p q ps qs h t ih =>
  intro e;cases i with
  |zero =>
   have e:q=x:=by simpa using e
   subst e;obtain⟨h1,h2,_⟩:=h;exact⟨p.2,by rw[List.getElem?_cons_zero,<-h1],by rw[<-h1];exact h2⟩
  |succ i =>
   obtain⟨v,e1,e2⟩:=ih (i:=i) (by simpa using e);exact⟨v,by simpa using e1,e2⟩
theorem NQ{P:Program}{w:World}{K:PySem.W.Frag}{tg:Expr}(a it:Addr)(o:Obj)(kvs:List (List Key×V))(es:Array DictEntry)(ep:Nat)(da:o.data=.dict es ep)(hz:es.size=kvs.length):Ps P w K tg (Itd a o kvs) [it] it (λi h=>h.IsKeyIter it a i es.size ep) where
 mem:=by simp
 obj:=λi h st b hb=>by
  obtain rfl:b=it:=by simpa using hb
  obtain⟨o,e,c,d⟩:=st;exact⟨o,e,λv z=>(by rw[d]at z;cases z)⟩
 keep:=λi h h' st k=>st.at λo e=>k it A6 o e
 item:=by
  intro X hP hw hK hc i pins s σ H E I hf st hg;subst hP hw hK;obtain⟨hq,hi⟩:=hg;obtain⟨ga,xs,es',ep',kt,da',el⟩:=Zk I.hok hq;rw[da]at da';cases da';have hi':i<es.size:=by lia
  obtain⟨f0,f1,f2,f3,f4,f5⟩:=hf it A6;refine Yb st ga da hi' λh' st' sb=>?_;have I1:Inv X pins σ H {s with heap:=h'}:=I.turned (t':=s.toks) (λb o hb e=>(sb.2 b hb).trans e) f0 f1 f3 f4 f5
  have lx:i<xs.length:=by rw[<-size_of_entries el];exact hi'
  obtain⟨v,e1,e2⟩:=KT.at_ kt (C8 lx);have ek:es[i].key=.ref xs[i].2.1:=by
   have:=entry_at el i;rw[Array.getElem?_eq_getElem hi',C8 lx]at this;rw[Z2 this];rfl
  obtain⟨q,e,c,d⟩:=id st';exact⟨_,rfl,SE (s:={s with heap:=h'}) e c d A4 ⟨.ref xs[i].2.1,H,I1,ek,⟨rfl,_,_,v,rfl,e1,e2⟩,st',λb hb=>(hf b hb).1⟩⟩
 done:=by
  intro X hP hw hK hc i pins s σ H E I hf st hg;subst hP hw hK;obtain⟨hq,hi⟩:=hg;obtain⟨ga,_⟩:=Zk I.hok hq;obtain⟨f0,f1,f2,f3,f4,f5⟩:=hf it A6;exact raw_end (I.ok.hd hc) st ga da A0 λh' eb=>⟨rfl,I.turned (t':=s.toks) (λb o hb e=>eb b o hb e) f0 f1 f3 f4 f5⟩
 self:=λ_ _ _ _ _ st h=>wpAny_pyIter_keyiter st h
theorem for_dT{a:Addr}{o:Obj}{kvs:List (List Key×V)}{g:TG}{tb:TS}{D:Md}{σ:St}{H:Hp}(Pv:Nat->St->Hp->Prop)(h0:Pv 0 σ H)(hl:∀i σ H,i<=kvs.length->Pv i σ H->H a=some (.frz o (.dT kvs)))
  (hs:∀i b k v σ H,kvs[i]?=some (k,v)->H b=some (.tup (k.map kV))->Pv i σ H->g (.ref b) σ H fun σ2 H2=>tb {D with nx:=Pv (i+1),ct:=Pv (i+1),bk:=D.nx} σ2 H2) (hd:∀σ H,Pv kvs.length σ H->D.nx σ H) :
  ∃W:Nat->Nat->St->Hp->Prop,(∃m,W 0 m σ H)/\∀i m σ H,W i m σ H ->
   ((Itd a o kvs).stop i H/\D.nx σ H)\/((Itd a o kvs).go i H/\∃N:St->Hp->Prop,(∀σ' H',N σ' H'->∃m',m'<m/\W (i+1) m' σ' H')/\∀x H',(Itd a o kvs).yld i H x H'->g x σ H' fun σ2 H2=>tb {D with nx:=N,ct:=N,bk:=D.nx} σ2 H2):=by
 refine⟨λi m σ H=>m=kvs.length-i/\i<=kvs.length/\Pv i σ H,⟨kvs.length,by simp,L7 _,h0⟩,?_⟩;rintro i m σ H ⟨rfl,hi,p⟩;have e:=hl i σ H hi p;by_cases hlt:i<kvs.length
 ·refine .inr ⟨⟨e,hlt⟩,Pv (i+1),fun σ' H' z=>⟨_,by lia,rfl,by lia,z⟩,?_⟩;rintro x H' ⟨rfl,b,k,v,rfl,e1,e2⟩;exact hs i b k v σ _ e1 e2 p
 ·have hi':i=kvs.length:=by lia
  subst hi';exact .inl ⟨⟨e,C1 _⟩,hd σ H p⟩
section
variable{X:Cx}
def CDivB(i j:Int):Prop:=0<j/\j<2^64
theorem Sg:OpR X (binaryOp .FloorDiv) (rI CDivB λi j=>.int (i/j)):=opI λi j _ _ _ _ _ hc q=>by
 have h1:(0:Int)<j:=hc.1;have h2:j<2^64:=hc.2;refine floordiv_int A0 (by rw[U0 i A0];exact q) (.inl (PyProof.noPylong_of_log2 ?_));have h3:j.natAbs<2^64:=by lia
 exact F2 ((Nat.log2_lt A0).mpr h3) A4
end
end L2
namespace L2
open PySem PySem.W PyProof.Rows
section
variable{rk:Nat->Int}{n:Nat}
def rkC(rk:Nat->Int)(n i j:Nat)(C:Bool->Shared->Prop)(s:Shared):Prop:=i<n/\j<n/\C (decide (rk i<rk j)) s
structure Cs(n:Nat)(p:Array Nat):Prop where
 sz:p.size=n
 pm:p.Perm (List.range n).toArray
def kk(rk:Nat->Int)(p:Array Nat)(i:Nat):Int:=rk (p.getD i 0)
theorem Cs.lt{p:Array Nat}(h:Cs n p){i:Nat}(hi:i<n):p.getD i 0<n:=by
 have hs:i<p.size:=by rw[h.sz];exact hi
 have e:p.getD i 0=p[i]:=by simp[Array.getD,hs]
 have m:p[i]∈p:=Array.getElem_mem hs;have:=(Array.Perm.mem_iff h.pm).mp m;rw[e]
 simpa using this
theorem Cs.rev{p:Array Nat}(h:Cs n p)(i j:Nat):Cs n (kas_rev p i j):=⟨(mirror_size _ _ _ _).trans h.sz,(mirror_perm _ _ _ _).trans h.pm⟩
theorem Cs.bub{p:Array Nat}(h:Cs n p)(i j:Nat):Cs n (bubble p i j):=⟨(bubble_size _ _ _).trans h.sz,(bubble_perm _ _ _).trans h.pm⟩
theorem gd(p:Array Nat)(i:Nat):p.getD i 0=p[i]?.getD 0:=by
 simp
theorem Rb{p:Array Nat}(h:Cs n p){i j:Nat}(hj:j<=n)(k:Nat):kk rk (kas_rev p i j) k=if i<=k/\k<j then kk rk p (i+j-1-k)else kk rk p k:=by
 have e:=getElem?_mirror_all (xs:=p) (i:=i) (by rw[h.sz];exact hj) k;unfold kk kas_rev;rw[gd,e];split<;>rw[gd]
theorem YT{p:Array Nat}(h:Cs n p){src d:Nat}(hs:src<n)(hd:d<=src)(k:Nat):kk rk (bubble p src d) k=if k=src-d then kk rk p src else if src-d<k/\k<=src then kk rk p (k-1)else kk rk p k:=by
 have e:=getElem?_bubble (xs:=p) (by rw[h.sz];exact hs) d hd k;unfold kk;rw[gd,e];split
 ·rw[gd]
 ·split<;>rw[gd]
def Up(rk:Nat->Int)(p:Array Nat)(m:Nat):Prop:=∀i j,i<=j->j<m->kk rk p i<=kk rk p j
def Dn(rk:Nat->Int)(p:Array Nat)(m:Nat):Prop:=∀i j,i<=j->j<m->kk rk p j<=kk rk p i
theorem Up.step{p:Array Nat}{m:Nat}(h:Up rk p m)(h1:1<=m)(q:kk rk p (m-1)<=kk rk p m):Up rk p (m+1):=λi j ij hj=>by
 rcases P5.mp hj with z|z
 ·exact h i j ij z
 ·subst z;rcases Nat.lt_or_ge i j with y|y
  ·exact Int.le_trans (h i (j-1) A0 A0) q
  ·have:i=j:=by lia
   subst this;exact Q0 _
theorem Dn.step{p:Array Nat}{m:Nat}(h:Dn rk p m)(h1:1<=m)(q:kk rk p m<=kk rk p (m-1)):Dn rk p (m+1):=λi j ij hj=>by
 rcases P5.mp hj with z|z
 ·exact h i j ij z
 ·subst z;rcases Nat.lt_or_ge i j with y|y
  ·exact Int.le_trans q (h i (j-1) A0 A0)
  ·have:i=j:=by lia
   subst this;exact Q0 _
theorem Ud{p:Array Nat}(pn:Cs n p):∀{f m:Nat}{s:Shared}{Q:Nat->Shared->Prop},1<=m->m+f<=n->Up rk p m->(∀r,m<=r->r<=m+f->Up rk p r->(r<m+f->kk rk p r<kk rk p (r-1))->Q r s)->(kas_asc p f m).kasWp (rkC rk n) Q s
 |0,m,s,Q,h1,hf,up,k=>k m (C1 _) (C1 _) up λz=>absurd z (O3 _)
 |f+1,m,s,Q,h1,hf,up,k=>by
  refine⟨pn.lt A0,pn.lt A0,?_⟩;by_cases c:kk rk p m<kk rk p (m-1)
  ·rw[Y7 (show rk (p.getD m 0)<rk (p.getD (m-1) 0)from c)];dsimp only;rw[Y8 rfl];exact k m (C1 _) A0 up λ_=>c
  ·rw[Y9 (show ¬rk (p.getD m 0)<rk (p.getD (m-1) 0)from c)];dsimp only;rw[Y6 A6];exact Ud pn A0 A0 (up.step h1 A0) λr h2 h3 h4 h5=>k r A0 A0 h4 λz=>h5 A0
theorem Ol{p:Array Nat}(pn:Cs n p){m q:Nat}(hm:m<=n)(hq:q+1<=m)(eq:∀i,m-(q+1)<=i->i<m->kk rk p i=kk rk p (m-1))(k:Nat):kk rk (kas_rev p (m-(q+1)) m) k=kk rk p k:=by
 rw[Rb pn hm];split
 ·rename_i z;rw[eq _ A0 A0,eq k z.1 z.2]
 ·rfl
theorem NL:∀{f m q:Nat}{p:Array Nat}{s:Shared}{Q:Array Nat×Nat×Nat->Shared->Prop},Cs n p->q+1<=m->m+f<=n->Dn rk p m->(∀i,m-(q+1)<=i->i<m->kk rk p i=kk rk p (m-1)) ->
  (∀p' m' q',Cs n p'->q'+1<=m'->m'<=n->Dn rk p' m'->(∀i,m'-(q'+1)<=i->i<m'->kk rk p' i=kk rk p' (m'-1))->Q (p',m',q') s)->(kas_desc f p m q).kasWp (rkC rk n) Q s
 |0,m,q,p,s,Q,pn,hq,hf,dn,eq,k=>k p m q pn hq hf dn eq
 |f+1,m,q,p,s,Q,pn,hq,hf,dn,eq,k=>by
  refine⟨pn.lt A0,pn.lt A0,?_⟩;have one:∀{p':Array Nat},∀i,m+1-(0+1)<=i->i<m+1->kk rk p' i=kk rk p' (m+1-1):=λi h1 h2=>by
   have:i=m+1-1:=by lia
   rw[this]
  by_cases c:kk rk p m<kk rk p (m-1)
  ·rw[Y7 (show rk (p.getD m 0)<rk (p.getD (m-1) 0)from c)];dsimp only;rw[Y8 rfl];by_cases hq0:q > 0
   ·rw[Y8 hq0];have same:=Ol pn A0 hq eq;refine NL (pn.rev _ _) A0 A0 ?_ one k;refine Dn.step (λi j ij hj=>?_) A0 ?_
    ·rw[same i,same j];exact dn i j ij hj
    ·rw[same m,same (m-1)];lia
   ·rw[Y6 hq0];exact NL pn A0 A0 (dn.step A0 A0) one k
  ·rw[Y9 (show ¬rk (p.getD m 0)<rk (p.getD (m-1) 0)from c)];dsimp only;rw[Y6 A6];refine⟨pn.lt A0,pn.lt A0,?_⟩;by_cases d:kk rk p (m-1)<kk rk p m
   ·rw[Y7 (show rk (p.getD (m-1) 0)<rk (p.getD m 0)from d)];dsimp only;rw[Y8 rfl];exact k p m q pn hq A0 dn eq
   ·rw[Y9 (show ¬rk (p.getD (m-1) 0)<rk (p.getD m 0)from d)];dsimp only;rw[Y6 A6];have e:kk rk p m=kk rk p (m-1):=by lia
    refine NL pn A0 A0 (dn.step A0 A0) (λi h1 h2=>?_) k;rw[Nat.add_sub_cancel];by_cases z:i=m
    ·rw[z]
    ·rw[eq i A0 A0,e]
theorem Uo{m:Nat}{p:Array Nat}{s:Shared}{Q:Nat×Array Nat->Shared->Prop}(pn:Cs n p)(h1:1<=m)(hm:m<=n)(dn:Dn rk p m)(k:∀r p',Cs n p'->r<=n->1<=r->Up rk p' r->Q (r,p') s):(kas_tail3 m n p).kasWp (rkC rk n) Q s:=by
 unfold kas_tail3;rw[KasT.kasWp_bind];refine Ud (pn.rev _ _) h1 A0 (λi j ij hj=>?_) λr h2 h3 h4 _=>k r _ (pn.rev _ _) A0 A0 h4;rw[Rb pn hm,Rb pn hm,Y8 ⟨by lia,by lia⟩,Y8 ⟨by lia,by lia⟩];exact dn _ _ A0 A0
theorem UL{m:Nat}{p:Array Nat}{s:Shared}{Q:Nat×Array Nat->Shared->Prop}(pn:Cs n p)(hm:m+1<=n)(dn:Dn rk p (m+1))(k:∀r p',Cs n p'->r<=n->1<=r->Up rk p' r->Q (r,p') s):(kas_descPart m n p).kasWp (rkC rk n) Q s:=by
 unfold kas_descPart;rw[KasT.kasWp_bind];refine NL pn A0 A0 dn (λi h1 h2=>?_) λp' m' q' pn' hq hm' dn' eq=>?_
 ·have:i=m+1-1:=by lia
  rw[this]
 ·dsimp only;split
  ·refine Uo (pn'.rev _ _) A0 hm' (λi j ij hj=>?_) k;rw[Ol pn' hm' hq eq,Ol pn' hm' hq eq];exact dn' i j ij hj
  ·exact Uo pn' A0 hm' dn' k
theorem Zv{p:Array Nat}{s:Shared}{Q:Nat×Array Nat->Shared->Prop}(pn:Cs n p)(hn:1<=n)(k:∀r p',Cs n p'->r<=n->1<=r->Up rk p' r->Q (r,p') s):(kas_count n p).kasWp (rkC rk n) Q s:=by
 unfold kas_count;rw[KasT.kasWp_bind];have up1:Up rk p 1:=λi j ij hj=>by
  have h1:i=0:=by lia
  have h2:j=0:=by lia
  rw[h1,h2];exact Q0 _
 refine Ud pn (C1 _) A0 up1 λr h1 h2 up hs=>?_;by_cases e:r=n
 ·rw[Y8 (by simpa using e)];exact k r p pn A0 h1 up
 ·rw[Y6 (by simpa using e)];have hlt:=hs A0;by_cases h3:r > 1
  ·rw[Y8 h3];refine⟨pn.lt A0,pn.lt A0,?_⟩;by_cases c:kk rk p 0<kk rk p (r-1)
   ·rw[Y7 (show rk (p.getD 0 0)<rk (p.getD (r-1) 0)from c)];dsimp only;rw[Y8 rfl];exact k r p pn A0 h1 up
   ·rw[Y9 (show ¬rk (p.getD 0 0)<rk (p.getD (r-1) 0)from c)];dsimp only;rw[Y6 A6];have all:∀i,i<r->kk rk p i=kk rk p (r-1):=λi hi=>by
     have a:=up 0 i A0 hi;have b:=up i (r-1) A0 A0;lia
    have same:∀i,kk rk (kas_rev p 0 r) i=kk rk p i:=λi=>by
     rw[Rb pn A0];split
     ·rw[all _ A0,all i A0]
     ·rfl
    refine UL (pn.rev _ _) A0 (Dn.step (λi j ij hj=>?_) A0 ?_) k
    ·rw[same,same,all i A0,all j hj];exact Q0 _
    ·rw[same,same];lia
  ·rw[Y6 h3];have:r=1:=by lia
   subst this;refine UL pn A0 (Dn.step (λi j ij hj=>?_) A0 A0) k;have h1:i=0:=by lia
   have h2:j=0:=by lia
   rw[h1,h2];exact Q0 _
theorem Oo{p:Array Nat}{k:Nat}(pn:Cs n p)(hk:k<n):∀{f l r:Nat}{s:Shared}{Q:Nat->Shared->Prop},l<=r->r<=k->r<=l+f->Up rk p k->(∀i,i<l->kk rk p i<=kk rk p k)->(∀i,r<=i->i<k->kk rk p k<=kk rk p i) ->
  (∀t,t<=k->(∀i,i<t->kk rk p i<=kk rk p k)->(∀i,t<=i->i<k->kk rk p k<=kk rk p i)->Q t s)->(kas_place p k f l r).kasWp (rkC rk n) Q s
 |0,l,r,s,Q,h1,h2,h3,up,a,b,c=>by
  have:l=r:=by lia
  subst this;exact c l h2 a b
 |f+1,l,r,s,Q,h1,h2,h3,up,a,b,c=>by
  unfold kas_place;by_cases e:l ≥ r
  ·rw[Y8 e];have:l=r:=by lia
   subst this;exact c l h2 a b
  ·rw[Y6 e];refine⟨pn.lt hk,pn.lt A0,?_⟩;by_cases d:kk rk p k<kk rk p ((l+r)/2)
   ·rw[Y7 (show rk (p.getD k 0)<rk (p.getD ((l+r)/2) 0)from d)];dsimp only;rw[Y8 rfl];refine Oo pn hk A0 A0 A0 up a (λi hi hk'=>?_) c;have:=up ((l+r)/2) i hi hk';lia
   ·rw[Y9 (show ¬rk (p.getD k 0)<rk (p.getD ((l+r)/2) 0)from d)];dsimp only;rw[Y6 A6];refine Oo pn hk A0 A0 A0 up (λi hi=>?_) b c;have:=up i ((l+r)/2) A0 A0;lia
theorem Zx:∀{f k:Nat}{p:Array Nat}{s:Shared}{Q:Array Nat->Shared->Prop},Cs n p->k+f=n->Up rk p k->(∀p',Cs n p'->Up rk p' n->Q p' s)->(kas_bin f p k).kasWp (rkC rk n) Q s
 |0,k,p,s,Q,pn,e,up,c=>c p pn (by rw[<-e];exact up)
 |f+1,k,p,s,Q,pn,e,up,c=>by
  unfold kas_bin;rw[KasT.kasWp_bind];refine Oo pn A0 (L7 _) (C1 _) A0 up (λi hi=>absurd hi (N1 _)) (λi h1 h2=>absurd h2 A0) λt ht a b=>?_;refine Zx (pn.bub _ _) A0 (λi j ij hj=>?_) c;rw[YT pn A0 A0,YT pn A0 A0,show k-(k-t)=t by lia];by_cases i1:i=t
  ·rw[Y8 i1];by_cases j1:j=t
   ·rw[Y8 j1];exact Q0 _
   ·rw[Y6 j1,Y8 ⟨by lia,by lia⟩];exact b _ A0 A0
  ·rw[Y6 i1];by_cases i2:t<i/\i<=k
   ·rw[Y8 i2,Y6 A0,Y8 ⟨by lia,by lia⟩];exact up _ _ A0 A0
   ·rw[Y6 i2];by_cases j1:j=t
    ·rw[Y8 j1];exact a i A0
    ·rw[Y6 j1];by_cases j2:t<j/\j<=k
     ·rw[Y8 j2];exact up _ _ A0 A0
     ·rw[Y6 j2];exact up _ _ ij A0
theorem sort_wp{s:Shared}{Q:Array Nat->Shared->Prop}(hn:1<=n)(c:∀p',Cs n p'->Up rk p' n->Q p' s):(kas_sort n).kasWp (rkC rk n) Q s:=by
 unfold kas_sort;rw[KasT.kasWp_bind];refine Zv ⟨by simp,Array.Perm.refl _⟩ hn λr p' pn hr h1 up=>?_;dsimp only;split
 ·rw[show max r 1=r by lia];exact Zx pn A0 up c
 ·have:r=n:=by lia
  subst this;exact c p' pn up
theorem rk_wp{α:Type}{cmp:Nat->Nat->(Bool->Shared->Prop)->Shared->Prop}{s:Shared}(h:∀i j C,i<n->j<n->C (decide (rk i<rk j)) s->cmp i j C s):∀{t:KasT α}{Q:α->Shared->Prop},t.kasWp (rkC rk n) Q s->t.kasWp cmp Q s
 |.ret _,_,q=>q
 |.ask _ _ _,_,⟨h1,h2,h3⟩=>h _ _ _ h1 h2 (rk_wp h h3)
end
end L2
namespace L2
open PySem PySem.W PySem.Spec PyProof.Rows
def EG:List Int->List Int->Bool
 |[],[]=>false
 |[],_::_=>true
 |_::_,[]=>false
 |a::as,b::bs=>if a=b then EG as bs else decide (a<b)
theorem OJ:∀a,EG a a=false
 |[]=>rfl
 |a::as=>by unfold EG;rw[Y8 rfl];exact OJ as
theorem LP:∀{a b c:List Int},EG a c=true->EG a b=true\/EG b c=true
 |[],[],_,h=>.inr h
 |[],_::_,_,_=>.inl rfl
 |_::_,_,[],h=>by cases h
 |a::as,[],c::cs,_=>.inr rfl
 |a::as,b::bs,c::cs,h=>by
  unfold EG at h⊢;by_cases ac:a=c
  ·subst ac;rw[Y8 rfl]at h;by_cases ab:a=b
   ·subst ab;rw[Y8 rfl,Y8 rfl];exact LP h
   ·rw[Y6 ab,Y6 (λz=>ab z.symm)];rcases Int.lt_or_gt_of_ne ab with z|z
    ·exact .inl (Y7 z)
    ·exact .inr (Y7 z)
  ·rw[Y6 ac]at h;have h:=X4 h;by_cases ab:a=b
   ·subst ab;rw[Y6 ac];exact .inr (Y7 h)
   ·rw[Y6 ab];by_cases z:a<b
    ·exact .inl (Y7 z)
    ·by_cases bc:b=c
     ·lia
     ·rw[Y6 bc];exact .inr (Y7 A0)
theorem YO{a b:List Int}(h:EG a b=true):EG b a=false:=by
 cases e:EG b a with
 |false=>rfl
 |true =>
  rcases LP (b:=b) (show EG a b=true from h)with z|z
  ·
   have:EG a a=true\/EG a a=false:=by cases EG a a<;>simp
   exact absurd (lexI_two h e) A6
  ·rw[OJ]at z;cases z
where lexI_two:∀{a b:List Int},EG a b=true->EG b a=true->false=true
 |[],[],h,_=>h
 |[],_::_,_,h=>h
 |_::_,[],h,_=>h
 |a::as,b::bs,h,h'=>by
  unfold EG at h h';by_cases ab:a=b
  ·subst ab;rw[Y8 rfl]at h h';exact lexI_two h h'
  ·rw[Y6 ab]at h;rw[Y6 (λz=>ab z.symm)]at h';have:=X4 h;have:=X4 h';lia
def rkOf(rows:List (List Int))(i:Nat):Int:=((rows.countP λr=>EG r (rows.getD i []):Nat):Int)
theorem Qa{α:Type}{p q:α->Bool}:∀{l:List α}{x:α},x∈l->(∀y,p y=true->q y=true)->p x=false->q x=true->l.countP p<l.countP q
 |y::l,x,hx,h,hp,hq=>by
  rw[V1,V1];have le:l.countP p<=l.countP q:=List.countP_mono_left λz _=>h z;rcases C3.mp hx with rfl|hx
  ·rw[hp,hq];simp only[O2,A1g,A2e];lia
  ·have:=Qa hx h hp hq;by_cases py:p y=true
   ·rw[py,h y py];lia
   ·rw[Y6 py];split<;>lia
theorem rk_iff{rows:List (List Int)}{i j:Nat}(hi:i<rows.length):decide (rkOf rows i<rkOf rows j)=EG (rows.getD i []) (rows.getD j []):=by
 have mi:rows.getD i []∈rows:=by
  rw[D8,C8 hi];exact R6 hi
 unfold rkOf;generalize rows.getD i []=a at *
 generalize rows.getD j []=b;cases h:EG a b with
 |true =>
  refine Y7 ?_;have:=Qa (p:=λr=>EG r a) (q:=λr=>EG r b) mi (λy hy=>?_) (OJ a) h
  ·lia
  ·rcases LP (b:=b) hy with z|z
   ·exact z
   ·rw[YO h]at z;cases z
 |false =>
  refine Y9 ?_;have:=List.countP_mono_left (l:=rows) (p:=λr=>EG r b) (q:=λr=>EG r a) λy _ hy=>?_
  ·lia
  ·rcases LP (b:=a) hy with z|z
   ·exact z
   ·rw[h]at z;cases z
section
variable{prog:Program}{w:World}{A:Around}{E:Value->Shared->Prop}
theorem Va{b:Bool}{Q:Bool->Shared->Prop}{s:Shared}:∀{xs ys:List Int}{us vs:List Value}{i:Nat},AM (xs.map V.int) us->AM (ys.map V.int) vs->Q (EG xs ys) s->KatLex prog w A b (decide (xs.length<ys.length)) Q (us.zip vs) i s
 |[],[],_,_,i,.nil,.nil,q=>q
 |[],y::ys,_,_,i,.nil,.cons _ _,q=>by
  show Q (decide (0<ys.length+1)) s;rw[Y7 (Nat.succ_pos _)];exact q
 |x::xs,[],_,_,i,.cons _ _,.nil,q=>by
  show Q (decide (xs.length+1<0)) s;rw[Y9 (N1 _)];exact q
 |x::xs,y::ys,u::us,v::vs,i,.cons r1 t1,.cons r2 t2,q=>by
  obtain⟨t,rfl⟩:=(show ∃t,u=.int x t from r1)
  obtain⟨t',rfl⟩:=(show ∃t,v=.int y t from r2)
  refine wpAny_eqBool_int ?_;unfold EG at q;by_cases e:x=y
  ·subst e;rw[Y8 rfl]at q;simp only[beq_self_eq_true,A2e];have h:=Va (b:=b) (i:=i+1) t1 t2 q;rw[show decide ((x::xs).length<(x::ys).length)=decide (xs.length<ys.length) by simp];exact h
  ·rw[Y6 e]at q;have e':(x==y)=false:=by simpa using e
   simp only[e',O2,A1g];cases b && i==0 with
   |true=>exact oneLt_int q
   |false =>
    exact kat_one _ _ (wpAny_lt_int q)
end
section
variable{X:Cx}
theorem Uk{H:Hp}{h:Heap}(ok:HOk X.prog X.w H h){items:List (Addr×List Int)}(hq:∀q∈items,H q.1=some (.tup (q.2.map V.int))/\q.2≠[]){i:Nat}(hi:i<items.length) :
  ∃(b:Addr)(o:Obj)(us:List Value)(m:Nat),(items.map λq=>Value.ref q.1).getD i Value.none=.ref b/\h.get? b=some o/\o.cls=.type "tuple" /\ o.data=.seq us.toArray m/\AM (((items.map (·.2)).getD i []).map V.int) us:=by
 have hm:=R6 hi;obtain⟨h1,h2⟩:=hq _ hm;obtain⟨_,its,r,o,e,c,n,d⟩:=(show BJ X.prog X.w H h _ (.tup _)from ok _ _ h1)
 refine⟨_,o,its,n,?_,e,c,d,?_⟩
 ·rw[D8,C0,C8 hi];rfl
 ·rw[D8,C0,C8 hi];exact r
theorem PV{H:Hp}{h:Heap}(ok:HOk X.prog X.w H h):∀{items:List (Addr×List Int)},(∀q∈items,H q.1=some (.tup (q.2.map V.int))/\q.2≠[])->∃fs:List Value,KatTups h (items.map λq=>Value.ref q.1) fs/\fs.length=items.length/\∀v∈fs,∃x t,v=.int x t
 |[],_=>⟨[],.nil,rfl,λv hv=>nomatch hv⟩
 |q::items,hq=>by
  obtain⟨fs,h1,h2,h3⟩:=PV ok λq' hq'=>hq q' (C6 _ hq');obtain⟨e,ne⟩:=hq q (C7 ..);obtain⟨_,its,r,o,e1,c,n,d⟩:=(show BJ X.prog X.w H h _ (.tup _)from ok _ _ e)
  match hx:q.2,ne with
  |x::xs,_ =>
   rw[hx]at r;cases r with
   |@cons _ u _ us r1 r2 =>
    obtain⟨t,rfl⟩:=(show ∃t,u=.int x t from r1)
    refine⟨.int x t::fs,.cons e1 c d A6 h1,by rw[D4,D4,h2],λv hv=>?_⟩;rcases C3.mp hv with rfl|hv
    ·exact⟨x,t,rfl⟩
    ·exact h3 v hv
end
end L2
namespace L2
open PySem PySem.W PySem.Spec PyProof.Rows
def iDictF(tl:TE):TI:=fun σ H R=>tl σ H λx H1=>∃a kvs,x=.ref a/\Rd H1 a (.dT kvs)/\∀o H2,H2 a=some (.frz o (.dT kvs))->(∀b u,H1 b=some u->b≠a->H2 b=some u)->R (Itd a o kvs) H2
theorem Ye{X:Cx}{tg l:Expr}{tl:TE}(hl:PE X l tl):PI X tg l (iDictF tl):=by
 intro pins s σ H R I h;refine thn (hl pins s σ H _ I h) λv s1 ⟨x,H1,I1,r1,q1⟩=>?_;obtain⟨a,kvs,e,ea,q⟩:=q1;subst e;cases r1;rcases ea with ea|⟨o,ea⟩
 ·obtain⟨z,y,xs,r,o,es,ep,h1,h2,h3,h4,h5⟩:=(show BJ X.prog X.w H1 s1.heap a (.dT kvs)from I1.hok a _ ea)
  have hz:es.size=kvs.length:=by rw[size_of_entries h4,<-Z9 r]
  have I2:Inv X pins σ (upd H1 a (.frz o (.dT kvs))) s1:=Rk (t':=s1.toks) I1 (by rw[ea];exact True.intro) ⟨rfl,λ_ _=>rfl⟩ ⟨o,h1⟩ ⟨h1,z,y,xs,KT.keeps r λc ys ec=>(by rw[As (AE ec ea (λz=>nomatch z))];exact ec),o,es,ep,h1,h2,h3,h4,h5⟩;refine RX y h1 h2 h3 ?_;refine⟨s1.heap.objs.size,[s1.heap.objs.size],_,_,_,rfl,I2.kept (t':=s1.toks) λb o e=>C2 _ e,NQ a _ o kvs es ep h3 hz,⟨_,D3 _ rfl,rfl,rfl⟩,λb hb=>?_,q o _ Af λb u e n=>by rw[As n];exact e⟩;obtain rfl:b=s1.heap.objs.size:=by simpa using hb
  exact I2.fpOk (C1 _) (I2.hok.fresh (C1 _))
 ·obtain⟨h1,z,y,xs,r,o',es,ep,h1',h2,h3,h4,h5⟩:=(show BJ X.prog X.w H1 s1.heap a (.frz o (.dT kvs))from I1.hok a _ ea)
  have eo:o=o':=Z2 (h1.symm.trans h1');subst eo;have hz:es.size=kvs.length:=by rw[size_of_entries h4,<-Z9 r]
  refine RX y h1 h2 h3 ?_;refine⟨s1.heap.objs.size,[s1.heap.objs.size],_,_,_,rfl,I1.kept (t':=s1.toks) λb o e=>C2 _ e,NQ a _ o kvs es ep h3 hz,⟨_,D3 _ rfl,rfl,rfl⟩,λb hb=>?_,q o _ ea λb u e n=>e⟩;obtain rfl:b=s1.heap.objs.size:=by simpa using hb
  exact I1.fpOk (C1 _) (I1.hok.fresh (C1 _))
section
variable{X:Cx}{CX:CXT}{k:Nat}{ps:List Str}{sp:Sp}{E:XK}{x:Str}{p pos:Pos}{e:Expr}{es:List Expr}{t:TA}{S:St->Prop}
end
section
variable{X:Cx}
end
section
variable{X:Cx}
end
section
variable{X:Cx}
end
section
variable{X:Cx}
end
end L2
namespace L2
open PySem PySem.W PySem.Spec PyProof.Rows
def NS:Sp:=λvs H Q _=>∃(t:Addr)(x y:Int)(r:List Int),vs=[.ref t]/\H t=some (.tup ((x::y::r).map V.int))/\∀u,H u=none->Q (.ref u) (upd H u (.tup [.int y,.int x]))
structure It3 where
 a:Addr
 x:Int
 y:Int
 r:List Int
def It3.ns(q:It3):List Int:=q.x::q.y::q.r
section
variable{X:Cx}{pins:List (Addr×Obj)}{σ:St}{H H':Hp}{s:Shared}{k:Nat}{f b:Addr}{fd:FuncData}{ps:List Str}
theorem Dw.stay(fp:Dw X pins H b)(hn:H' b=none):Dw X pins H' b:=⟨hn,fp.2⟩
theorem Dw.turn{h':Heap}{t':Nat}(fp:Dw X pins H b)(I:Inv X pins σ H s)(kp:∀c o,c≠b->s.heap.get? c=some o->h'.get? c=some o):Inv X pins σ H {s with heap:=h',toks:=t'} :=
 I.turned kp fp.1 fp.2.1 fp.2.2.2.1 fp.2.2.2.2.1 fp.2.2.2.2.2
theorem Dw.nost(fp:Dw X pins H b)(I:Inv X pins σ H s):b∉frs X.stack:=λz=>by
 rcases C3.mp (I.stkSub b z)with y|y
 ·exact fp.2.1 y
 ·exact fp.2.2.1 y
theorem Vb{A2:Around}{P:PySem.Fin->Shared->Prop}{E:Value->Shared->Prop}(I:Inv X pins σ H s){a kS:Addr}{e1 c:Nat}{ks out:Array Value}{st:SortSt}(fa:Dw X pins H a)(fS:Dw X pins H kS)(nka:kS≠a)(hk:s.heap.get? kS=some (seqObj "list" ks c))(ha:s.heap.get? a=some (seqObj "list" #[] e1))(eo:(arrOf st).map (·.2)=out)(hf:failedOf st=none)(hz:out.size<=sizeLine)(kz:ks.size<=sizeLine)
  (fin:∀(h':Heap)(c':Nat),Inv X pins σ H {s with heap:=h'}->h'.get? a=some (seqObj "list" out c')->P (.done (.ret .none)) {s with heap:=h'}):wpAny (model X.prog X.w) A2 (ksk_tail a false e1 (.ref kS) st) P E s:=by
 unfold ksk_tail;have I1:Inv X pins σ H {s with heap:=s.heap.update kS (Obj.mapSeq λ_=>#[])}:=fS.turn (t':=s.toks) I λb o hb e=>by rw[O5 _ _ _ _ hb];exact e
 have ha1:(s.heap.update kS (Obj.mapSeq λ_=>#[])).get? a=some (seqObj "list" #[] e1):=by rw[O5 _ _ _ _ (Z1 nka)];exact ha
 refine Y5 (listUpdate_at hk rfl (Y5 (wpAny_letGo (Y5 (seqEpoch_at ha1 rfl (Y5 (listUpdate_at ha1 rfl ?_ (hsz2:=?_))))))) (hsz:=kz))
 ·rw[hf];simp only[bne_self_eq_false,O2,A1g];rw[eo];refine Z0 (fin _ _ (fa.turn (s:={s with heap:=s.heap.update kS (Obj.mapSeq λ_=>#[])}) (t':=s.toks) I1 λb o hb e=>by rw[O5 _ _ _ _ hb];exact e) (get?_update_seq ha1 _))
 ·simp only[O2,A1g];rw[eo];exact Nat.le_succ_of_le hz
theorem keyTree {A2:Around} {P:PySem.Fin->Shared->Prop} {E:Value->Shared->Prop} (F:AJ X.prog X.w X.K X.mg X.base CX0 k f fd ps NS) (hb:CV X.K fd ps []) (hr:CO k A2) (hfr:∀s H,Nw X.prog X.w X.K X.mg X.base X.A X.stack s H->Nw X.prog X.w X.K X.mg X.base A2 X.stack s H) (I:Inv X pins σ H s) {a:Addr} {items:List It3} {n:Nat} (ho:s.heap.get? a=some (seqObj "list" (items.map λq=>Value.ref q.a).toArray n)) (fa:Dw X pins H a) (hit:∀q∈items,H q.a=some (.tup (q.ns.map V.int))) (h64:items.length<64)
  (fin:∀(p:Array Nat)(H':Hp)(s':Shared)(c:Nat),Cs items.length p->Inv X pins σ H' s'->(∀b u,H b=some u->H' b=some u)->H' a=none->s'.heap.get? a=some (seqObj "list" (p.toList.map λi=>(items.map λq=>Value.ref q.a).getD i Value.none).toArray c)->P (.done (.ret .none)) s') :
  wpAny (model X.prog X.w) A2 (ksk_tree a (.ref f) false) P E s:=by
 have len:(items.map λq=>Value.ref q.a).length=items.length:=B8 _;have ln:items.length<=sizeLine:=C9 (T6 h64) A4;unfold ksk_tree;refine Y5 (listItems_at ho rfl (Y5 (listUpdate_at ho rfl ?_)));have ⟨e1,he1⟩:∃e1,(s.heap.update a (Obj.mapSeq λ_=>#[])).get? a=some (seqObj "list" #[] e1):=⟨_,get?_update_seq ho _⟩
 have I1:Inv X pins σ H {s with heap:=s.heap.update a (Obj.mapSeq λ_=>#[])}:=fa.turn (t':=s.toks) I λc o hc e=>by rw[O5 _ _ _ _ hc];exact e
 generalize s.heap.update a (Obj.mapSeq λ_=>#[])=h1 at he1 I1⊢;refine Y5 (seqEpoch_at he1 rfl (Y5 (wpAny_newTuple (Y5 (wpAny_newList (A1e ?_))))));have I2:Inv X pins σ H {s with heap:=h1.push (seqObj "tuple" (items.map λq=>Value.ref q.a).toArray 0)}:=I1.kept (t':=s.toks) λb o e=>C2 _ e;have he2:=C2 (seqObj "tuple" (items.map λq=>Value.ref q.a).toArray 0) he1;show wpAny (model X.prog X.w) A2 (ksk_rest a (.ref f) false (items.map λq=>Value.ref q.a).toArray e1 (.ref (h1.push (seqObj "tuple" (items.map λq=>Value.ref q.a).toArray 0)).objs.size)) P E {s with heap:=(h1.push (seqObj "tuple" (items.map λq=>Value.ref q.a).toArray 0)).push (seqObj "list" #[] 0)};generalize h1.push (seqObj "tuple" (items.map λq=>Value.ref q.a).toArray 0)=h2 at I2 he2⊢;have fS:Dw X pins H h2.objs.size:=I2.fpOk (C1 _) (I2.hok.fresh (C1 _));have he3:=C2 (seqObj "list" #[] 0) he2;have hk3:(h2.push (seqObj "list" #[] 0)).get? h2.objs.size=some (seqObj "list" #[] 0):=D3 _ rfl;have I3:Inv X pins σ H {s with heap:=h2.push (seqObj "list" #[] 0)}:=I2.kept (t':=s.toks) λb o e=>C2 _ e;have nka:h2.objs.size≠a:=T3 (D6 he2);generalize h2.push (seqObj "list" #[] 0)=h3 at he3 hk3 I3⊢;generalize h2.objs.size=kS at fS hk3 nka⊢;unfold ksk_rest;refine Y5 (wpAny_rule ?_);rw[List.forIn_toArray];refine Y5 (ksk_fold (λj s'=>∃(H':Hp)(us:List Addr)(c:Nat),Inv X pins σ H' s'/\(∀b u,H b=some u->H' b=some u)/\H' a=none/\H' kS=none/\s'.heap.get? kS=some (seqObj "list" (us.map Value.ref).toArray c)/\s'.heap.get? a=some (seqObj "list" #[] e1)/\us.length=j/\∀(i:Nat) u q,us[i]?=some u->items[i]?=some q->H' u=some (.tup ([q.y,q.x].map V.int))) (items.map λq=>Value.ref q.a) 0 _ ⟨H,[],0,I3,λb u e=>e,fa.1,fS.1,hk3,he3,rfl,λi u q e=>(nomatch e)⟩ ?_ ?_)
 ·rintro j x ⟨hp,gn,dr,tk,os⟩ hx ⟨H',us,c,I',kp,na,nk,hk,ha,lu,hus⟩;have jl:j<items.length:=by have:=(B9.mp hx).1;rw[len]at this;exact this
  rw[C0]at hx;obtain⟨q,eq,rfl⟩:=D2.mp hx;rw[M5]at lu⊢;have fa':=fa.stay na;have fS':=fS.stay nk;have tq:=kp _ _ (hit q (D1 eq));have sp0:NS [V.ref q.a] H' (λv H''=>∃u,v=.ref u/\H' u=none/\H''=upd H' u (.tup [.int q.y,.int q.x])) E0:=⟨q.a,q.x,q.y,q.r,rfl,tq,λu hu=>⟨u,rfl,hu,rfl⟩⟩
  refine Y5 (A2a (wpAny_call (A3g (F.run A2 X.stack _ H' ⟨[Value.ref q.a],[]⟩ ([Value.ref q.a]++[]) [V.ref q.a] _ E0 hr (hfr _ _ I'.env0) (hb _ [Value.ref q.a] I'.kIn (F.len _ _ _ _ sp0)) (show AM [V.ref q.a] [Value.ref q.a]from .cons rfl .nil) sp0) λr s'' hq=>?_)));cases r with
  |error e=>exact hq.elim
  |ok fl =>
   cases fl with
   |next=>exact hq.elim
   |brk=>exact hq.elim
   |cont=>exact hq.elim
   |ret u =>
    obtain⟨v,H2,os2,bare2,un,hok2,rv,u',rfl,hu',rfl⟩:=hq;obtain⟨hh,g2,d2,t2,os'⟩:=s'';obtain rfl:os'=os:=os2;cases(show _=Value.ref u' from rv);have I4:=I'.call (h':=hh) (g':=g2) (d':=d2) (t':=t2) (ch:=[]) un hok2 bare2 (λb z=>absurd z A6);have hk4:hh.get? kS=_:=un.keep _ _ hk nk (fS'.nost I') A6;have ha4:hh.get? a=_:=un.keep _ _ ha na (fa'.nost I') A6;have np:∀{b:Addr}{o:HO},H' b=some o->upd H' u' (.tup [.int q.y,.int q.x]) b=some o:=λ{b o} e=>by rw[As (Av e hu')];exact e
    have na4:upd H' u' (.tup [.int q.y,.int q.x]) a=none:=un.free _ _ ha na A6;have nk4:upd H' u' (.tup [.int q.y,.int q.x]) kS=none:=un.free _ _ hk nk A6;have ⟨c2,hk5⟩:∃c2,(hh.update kS (Obj.mapSeq (·.push (.ref u')))).get? kS=some (seqObj "list" ((us.map Value.ref).toArray.push (.ref u')) c2):=⟨_,get?_update_seq hk4 _⟩
    refine Y5 (listUpdate_at hk4 rfl (Z0 ⟨rfl,upd H' u' (.tup [.int q.y,.int q.x]),us++[u'],c2,(fS'.stay nk4).turn (t':=t2) I4 λb o hb e=>by rw[O5 _ _ _ _ hb];exact e,λb o e=>np (kp b o e),na4,nk4,?_,?_,by rw[C4,lu];rfl,λi u2 q2 eu eq2=>?_⟩) (hsz2:=?_))
    ·show(hh.update kS _).get? kS=_;rw[hk5];simp
    ·show(hh.update kS _).get? a=_;rw[O5 _ _ _ _ (Z1 nka)];exact ha4
    ·by_cases hi:i<j
     ·rw[M4 A0]at eu;exact np (hus i u2 q2 eu eq2)
     ·have:i=j:=by
       have:=(B9.mp eu).1;rw[C4,lu]at this;have:i<j+1:=this;lia
      subst this;rw[J6 A0,lu,V4]at eu;cases eu;rw[eq]at eq2;cases eq2;exact Af
    ·simp;lia
 ·rintro⟨hp,gn,dr,tk,os⟩ ⟨H',us,c,I',kp,na,nk,hk,ha,lu,hus⟩;rw[M5,len]at lu;have fa':=fa.stay na;have fS':=fS.stay nk;have lk:(us.map Value.ref).length=(items.map λq=>Value.ref q.a).length:=by rw[B8,len,lu]
  refine Y5 (listItems_at hk rfl ?_);unfold ksk_end;dsimp only;simp only[O2,A1g];have sz:(items.map λq=>Value.ref q.a).toArray.size=items.length:=by rw[F1,len]
  by_cases few:(items.map λq=>Value.ref q.a).toArray.size<2
  ·rw[Y8 few,Y8 few];refine Y5 (Z0 ?_);rw[StateT.run_pure];refine Y5 (Z0 ?_);dsimp only;have eo:(arrOf (SortSt.mk' general' ((us.map Value.ref).toArray.zip (items.map λq=>Value.ref q.a).toArray) #[] 7 none)).map (·.2)=((List.range items.length).toArray.toList.map λi=>(items.map λq=>Value.ref q.a).getD i Value.none).toArray:=by
    rw[sz]at few;clear hit fin ho hus I' hk;show((us.map Value.ref).toArray.zip (items.map λq=>Value.ref q.a).toArray).map (·.2)=_
    match items,us,lu,few with
    |[],[],_,_=>simp
    |[v],[u],_,_=>simp
   refine Vb (c:=c) I' fa' fS' nka hk ha eo rfl (by simp;lia) (by simp;lia) λh' c' I5 h5=>fin (List.range items.length).toArray H' _ c' ⟨by simp,Array.Perm.refl _⟩ I5 kp na h5
  ·rw[Y6 few,Y6 few];have two:2<=items.length:=by lia
   have ktup:∀q∈(us.zip (items.map λq=>[q.y,q.x])),H' q.1=some (.tup (q.2.map V.int))/\q.2≠[]:=λq hq=>by
    obtain⟨i,hi⟩:=F9 hq;rw[U1,C0]at hi;obtain⟨h1,h2⟩:=hi;obtain⟨it,e1,e2⟩:=D2.mp h2;rw[<-e2];exact⟨hus i q.1 it h1 e1,by simp⟩
   have z1:((us.zip (items.map λq=>[q.y,q.x])).map λq=>Value.ref q.1)=us.map Value.ref:=by
    show List.map (Value.ref ∘ Prod.fst) _=_;rw[<-M0];rw[List.map_fst_zip (by rw[B8,lu];exact C1 _)]
   have zl:(us.zip (items.map λq=>[q.y,q.x])).length=items.length:=by rw[V8,B8,lu,Nat.min_self]
   obtain⟨fs,k1,k2,k3⟩:=PV I'.hok ktup;rw[z1]at k1;refine Y5 (kat_kind (T:=.type "int") k1 (by rw[k2,zl];lia) (λv hv=>?_) rfl ?_)
   ·obtain⟨x,t,rfl⟩:=k3 v hv;exact .now
   have kroom:(us.map Value.ref).toArray.size<=sizeLine:=by simp;lia
   refine Y5 (K9 (kat_run (ks:=us.map Value.ref) (vs:=items.map λq=>Value.ref q.a) (κ:=tuples' true) (Q:=λst' s'=>s'={heap:=hp,gens:=gn,drawn:=dr,toks:=tk,os:=os}/\failedOf st'=none/\∃p,Cs items.length p/\arrOf st'=p.map (kas_item ((us.map Value.ref).toArray.zip (items.map λq=>Value.ref q.a).toArray))) (G:=λp s'=>s'={heap:=hp,gens:=gn,drawn:=dr,toks:=tk,os:=os}/\Cs items.length p) lk (by rw[len];exact two) (by rw[len];exact h64) (λp st' s' h1 h2 h3 h4=>⟨h4.1,h3,p,h4.2,h2⟩) ?_) ?_ λ_ _ e=>e)
   ·rw[len];refine rk_wp (rk:=rkOf (items.map λq=>[q.y,q.x])) (λi j C hi hj cc=>?_) (sort_wp A0 λp' h1 h2=>⟨rfl,h1⟩);obtain⟨b,o,vs1,m,e1,e2,e3,e4,e5⟩:=Uk I'.hok ktup (i:=i) (by rw[zl];exact hi);obtain⟨b',o',vs2,m',f1,f2,f3,f4,f5⟩:=Uk I'.hok ktup (i:=j) (by rw[zl];exact hj);have z2:((us.zip (items.map λq=>[q.y,q.x])).map (·.2))=items.map λq=>[q.y,q.x]:=List.map_snd_zip (by rw[B8,lu];exact C1 _);rw[z1]at e1 f1;rw[z2]at e5 f5;unfold kas_ask;rw[e1,f1];refine kat_lt e2 e4 f2 f4 ?_;rw[rk_iff (by rw[B8];exact hi)]at cc;have:=Va (prog:=X.prog) (w:=X.w) (A:=A2) (b:=true) (i:=0) e5 f5 cc;have l1:=e5.length;have l2:=f5.length;rw[B8]at l1 l2;rw[F1,F1,<-l1,<-l2];exact this
   rintro⟨⟨⟩,st'⟩ s' ⟨rfl,hf,p,pn,ea⟩;dsimp only at hf ea⊢;have eo:=kat_snds lk ea;refine Vb (c:=c) I' fa' fS' nka hk ha eo hf (by simp only[F1,B8,T1,pn.sz];exact ln) kroom λh' c' I5 h5=>fin p H' _ c' pn I5 kp na h5
theorem Wd {Q:VK} (F:AJ X.prog X.w X.K X.mg X.base CX0 k f fd ps NS) (hb:CV X.K fd ps []) (hr:CO (k+2) X.A) (I:Inv X pins σ H s) {p:Addr} {items:List It3} (hq:SqL X.K H p (items.map λq=>V.ref q.a)) (hit:∀q∈items,H q.a=some (.tup (q.ns.map V.int))) (h64:items.length<64)
  (q:∀(L:Addr)(out:List It3)(H':Hp),(∀b u,H b=some u->H' b=some u)->H' L=none->out.Perm items->Q (.ref L) (upd H' L (.lst (out.map λq=>V.ref q.a)))) :
  wpAny (model X.prog X.w) X.A (call (.builtin "sorted") [.ref p] [("key",.ref f)]) (EP X pins σ Q) X.xe s:=by
 obtain⟨its,rv,pl,hz⟩:=I.list hq;have ei:its=items.map λq=>Value.ref q.a:=by
  clear pl hz q hq h64 hit;induction items generalizing its with
  |nil=>cases rv;rfl
  |cons it items ih =>
   cases rv with
   |cons a1 a2 =>
    cases(show _=Value.ref it.a from a1);rw[F7,ih _ a2]
 subst ei;have len:(items.map λq=>Value.ref q.a).length=items.length:=B8 _;have ln:items.length<=sizeLine:=C9 (T6 h64) A4;refine PyProof.Rows.call_function_entry_kw kind_sorted plain_sorted entry_sorted (ksk_s1 _ _) ?_;unfold Builtin.«sorted»;refine Y5 (m:=checkCount "sorted" 1 1 _) (Z0 (Y5 (collect_list pl.isList (Y5 (wpAny_newList ?_ (by rw[len];exact ln))) (by rw[len];exact ln))));have sz1:((s.heap.push (seqObj "list" #[] 0)).update s.heap.objs.size (Obj.mapSeq (· ++ (items.map λq=>Value.ref q.a).toArray))).objs.size=s.heap.objs.size+1:=by
  rw[Heap.size_update];exact size_push' ..
 have at1:(((s.heap.push (seqObj "list" #[] 0)).update s.heap.objs.size (Obj.mapSeq (· ++ (items.map λq=>Value.ref q.a).toArray))).push (seqObj "list" (items.map λq=>Value.ref q.a).toArray 0)).get? (s.heap.objs.size+1)=some (seqObj "list" (items.map λq=>Value.ref q.a).toArray 0):=by
  have:=D3 ((s.heap.push (seqObj "list" #[] 0)).update s.heap.objs.size (Obj.mapSeq (· ++ (items.map λq=>Value.ref q.a).toArray))) (show(seqObj "list" (items.map λq=>Value.ref q.a).toArray 0).isFreed=false from rfl);rw[sz1]at this;exact this
 have keep1:∀b o,s.heap.get? b=some o->(((s.heap.push (seqObj "list" #[] 0)).update s.heap.objs.size (Obj.mapSeq (· ++ (items.map λq=>Value.ref q.a).toArray))).push (seqObj "list" (items.map λq=>Value.ref q.a).toArray 0)).get? b=some o:=λb o e =>
  C2 _ (by rw[O5 _ _ _ _ (J3 (D6 e))];exact C2 _ e)
 show wpAny (model X.prog X.w) _ _ _ _ {s with heap:=(((s.heap.push (seqObj "list" #[] 0)).update s.heap.objs.size (Obj.mapSeq (· ++ (items.map λq=>Value.ref q.a).toArray))).push (seqObj "list" (items.map λq=>Value.ref q.a).toArray 0))};rw[sz1];have I1:Inv X pins σ H {s with heap:=(((s.heap.push (seqObj "list" #[] 0)).update s.heap.objs.size (Obj.mapSeq (· ++ (items.map λq=>Value.ref q.a).toArray))).push (seqObj "list" (items.map λq=>Value.ref q.a).toArray 0))}:=I.kept (t':=s.toks) keep1;have fD:Dw X pins H (s.heap.objs.size+1):=I.fpOk (R3 _) (I.hok.fresh (R3 _));generalize ((s.heap.push (seqObj "list" #[] 0)).update s.heap.objs.size (Obj.mapSeq (· ++ (items.map λq=>Value.ref q.a).toArray))).push (seqObj "list" (items.map λq=>Value.ref q.a).toArray 0)=h1 at at1 I1⊢;refine Y5 (A1e (PyProof.Rows.wpAny_call_entry_kw slot_list_sort ⟨_,at1,rfl⟩ entry_list_sort ?_ (ksk_l1 _ _)));rw[ksk_t1];refine keyTree F hb hr.in1.in1 (λs H e=>e.in1.in1) I1 at1 fD hit h64 λpm H' s' c pn I' kp na ha=>⟨_,rfl,Z0 ⟨_,rfl,?_⟩⟩
 have pl2:pm.toList.Perm (List.range items.length):=by simpa using pn.pm.toList
 have sz:pm.size=items.length:=pn.sz;have lt:∀i∈pm.toList,i<items.length:=λi hi=>by simpa using (pl2.mem_iff).mp hi
 let d:It3:=⟨0,0,0,[]⟩
 have out:(pm.toList.map λi=>items.getD i d).Perm items:=by
  refine(pl2.map _).trans ?_;refine List.Perm.of_eq (List.ext_getElem? λi=>?_);rw[C0];by_cases hi:i<items.length
  ·rw[N8 hi,C8 hi];show some (items.getD i d)=_;rw[D8,C8 hi];rfl
  ·rw[Q9 (by simpa using hi),Q9 A0];rfl
 refine⟨.ref (s.heap.objs.size+1),_,I'.track (o:=.lst ((pm.toList.map λi=>items.getD i d).map λq=>V.ref q.a)) na (O4 (C9 I.sz (R3 _))) (O4 (C9 I.ok.bsz (C9 I.sz (R3 _)))) (Z1 fD.2.1) fD.2.2.2.2.1 fD.2.2.2.2.2 (λb hb z=>fD.2.2.1 (z▸hb)) ⟨by rw[B8,B8,T1,sz];exact ln,_,c,?_,ha⟩,rfl,q (s.heap.objs.size+1) _ H' kp na out⟩;have:∀{l:List Nat},(∀i∈l,i<items.length)->AM ((l.map λi=>items.getD i d).map λq=>V.ref q.a) (l.map λi=>(items.map λq=>Value.ref q.a).getD i Value.none):=by
  intro l;induction l with
  |nil=>intro _;exact .nil
  |cons i l ih =>
   intro hl;refine .cons ?_ (ih λj hj=>hl j (C6 _ hj));have hi:=hl i (C7 ..);show AY (V.ref (items.getD i d).a) ((items.map λq=>Value.ref q.a).getD i Value.none);rw[D8,D8,C0,C8 hi];rfl
 exact this lt
def tSortR(K:PySem.W.Frag)(t:TA):TE:=fun σ H Q=>t σ H λvs H1=>∃(p:Addr)(items:List It3),vs=[.ref p]/\SqL K H1 p (items.map λq=>V.ref q.a)/\items.length<64/\(∀q∈items,H1 q.a=some (.tup (q.ns.map V.int)))/\∀(L:Addr)(out:List It3)(H':Hp),(∀b u,H1 b=some u->H' b=some u)->H' L=none->out.Perm items->Q (.ref L) (upd H' L (.lst (out.map λq=>V.ref q.a)))
theorem Tp{ky:Str}{e:Expr}{t:TA}{p kp kpos pos:Pos}(c:Cal X.prog X.w X.K X.mg X.base CX0 k ky ps NS)(hr:CO (k+2) X.A)(hg:Gl X "sorted")(hm:X.mg "sorted" = none)(hgk:Gl X ky)(ha:PA X [e] t)(hd:(ky==("__debug__" : Str))=false:=by decide)
  (he:backTo pos (starEach [e] X.env)=(false,eval e X.env)::backTo pos (starEach [] X.env):=by rfl) (hp1:(backTo pos (starEach [e] X.env)).any (·.1)=false:=by rfl):PE X (.Call (.Name "sorted" p) [e] [⟨some "key",.Name ky kp,kpos⟩] pos) (tSortR X.K t):=by
 intro pins s σ H Q I h;obtain⟨f,fd,F,hmk,hkp,hb⟩:=c.ex;refine A1a (Jn I hg hm PyProof.Rows.boot_sorted ?_);refine PyProof.Rows.callWith_kw (thn (ha pos pins s σ H _ I h) λus s1 ⟨vs,H1,I1,r1,q1⟩=>?_) he hp1 rfl rfl;obtain⟨p',items,rfl,hq,h64,hit,q⟩:=q1;refine thn (pk_cons (nm:=some "key") (kpos:=kpos) (pe_gref (pos:=kp) hgk hmk hd) pk_nil pos pins s1 σ H1 (λzs H2=>zs=[.ref f]/\H2=H1) I1 ⟨rfl,rfl⟩) λws s2 ⟨zs,H2,I2,rz,e1,e2⟩=>?_;subst e1;subst e2;cases r1 with
 |cons a1 a2 =>
  cases a2;cases(show _=Value.ref p' from a1);cases rz with
  |cons b1 b2 =>
   cases b2;cases(show _=Value.ref f from b1);exact Wd F hb hr I2 hq hit h64 q
end
section
variable{X:Cx}
end
section
variable{X:Cx}
end
section
variable{K:PySem.W.Frag}{b:Bool}{l:Addr}{xs:List V}{σ:St}{H:Hp}{k:Nat}{cs:List Nat}{g:TG}{tc:TT}{te:TE}{fin:List V->Hp->Prop}
end
section
variable{X:Cx}
end
end L2
namespace L2
open PySem PyProof.Rows
def Tn(z:Str)(k:Nat):Str:=⟨List.foldl (λx y=>x++y) #[] (List.replicate k z.cps)⟩
theorem repS1(z:Str):Tn z 1=z:=by
 unfold Tn;show(⟨#[]++z.cps⟩:Str)=z;rw[Array.empty_append]
theorem Ya(a:Array Nat)(k:Nat):∀acc:Array Nat,(List.foldl (λx y=>x++y) acc (List.replicate k a)).size=acc.size+k*a.size:=by
 induction k with
 |zero=>intro acc;simp
 |succ k ih =>
  intro acc;rw[P6,R9,ih,Array.size_append,V3];lia
theorem RW{z:Str}(h:z.length=1)(k:Nat):(Tn z k).length=k:=by
 have h:z.cps.size=1:=h;show(List.foldl (λx y=>x++y) #[] (List.replicate k z.cps)).size=k;rw[Ya,h];show 0+k*1=k;lia
section
variable{X:Cx}
def rMulN:R2:=λx y H Q=>∃(z:Str)(k:Nat),x=.str z/\y=.int (k:Int)/\z.length=1/\k<=100/\Q (.str (Tn z k)) H
theorem UN:OpR X (binaryOp .Mult) rMulN:=by
 intro pins s σ H x y v u Q I rx ry h;obtain⟨z,k,rfl,rfl,hz,hk,q⟩:=h;obtain⟨t,rfl⟩:=rx;obtain⟨t',rfl⟩:=ry;refine PySem.P.mul_str (by rw[Bool.or_eq_false_iff];exact⟨Y9 A0,Y9 A0⟩) (λh1 _=>?_) (λ_ _=>?_) ?_
 ·rw[hz];have:(1:Int)<=(2^63-1)/(k:Int):=(Int.le_ediv_iff_mul_le A0).mpr A0;lia
 ·rw[hz,Nat.one_mul,J8];unfold Builtin.Str.tooLong;have:k<=100:=hk;have:(100:Nat)<=sizeLine:=by decide
  exact Y9 (by simp;lia)
 ·by_cases h0:k=0
  ·subst h0;rw[Y8 A4];exact⟨by decide,.str _,H,I.tok _,⟨_,rfl⟩,q⟩
  ·rw[Y6 A0];by_cases h1:k=1
   ·subst h1;rw[Y8 A6];rw[repS1]at q;exact⟨.str _,H,I,⟨_,rfl⟩,q⟩
   ·rw[Y6 (by rw[hz];simp;lia),J8];have ln:=RW hz k;have h2:(100:Nat)<=sizeLine:=by decide
    have le:(Tn z k).length<=sizeLine:=by lia
    exact⟨le,.str _,H,I.tok _,⟨_,rfl⟩,q⟩
end
end L2
namespace J
open PySem L2
def top(i:Nat):Stmt:=PySem.Challenge.pw_jumpfield_k56_whole_jumps_add_up.main.body.getD i (.Pass ⟨0,0,0,0⟩)
abbrev JV:Stmt:=top 11
abbrev Tz:List Str:=["thing"]
abbrev En:List Str:=["thing"]
theorem RP:Au Tz En (Ah JV):=⟨rfl,rfl,rfl,by decide +kernel,rfl,by decide +kernel,by decide +kernel⟩
abbrev JX:Stmt:=top 18
abbrev TB:List Str:=["thing"]
abbrev Im:List Str:=["thing"]
theorem RQ:Au TB Im (Ah JX):=⟨rfl,rfl,rfl,by decide +kernel,rfl,by decide +kernel,by decide +kernel⟩
abbrev QD:Stmt:=top 19
abbrev dG:List Str:=["wanted","state"]
abbrev NF:List Str:=["wanted","state"]
theorem WX:Au dG NF (Ah QD):=⟨rfl,rfl,rfl,by decide +kernel,rfl,by decide +kernel,by decide +kernel⟩
abbrev Ew:Stmt:=top 23
abbrev JM:List Str:=["text","words","cell","conditions"]
abbrev Gp:List Str:=["text"]
theorem DN:Au JM Gp (Ah Ew):=⟨rfl,rfl,rfl,by decide +kernel,rfl,by decide +kernel,by decide +kernel⟩
abbrev GU:Stmt:=top 24
abbrev QN:List Str:=["word"]
abbrev DY:List Str:=["word"]
theorem Pe:Au QN DY (Ah GU):=⟨rfl,rfl,rfl,by decide +kernel,rfl,by decide +kernel,by decide +kernel⟩
abbrev Gh:Stmt:=top 25
abbrev Pl:List Str:=["word"]
abbrev EA:List Str:=["word"]
theorem NY:Au Pl EA (Ah Gh):=⟨rfl,rfl,rfl,by decide +kernel,rfl,by decide +kernel,by decide +kernel⟩
abbrev Eg:Stmt:=top 26
abbrev ME:List Str:=["word"]
abbrev El:List Str:=["word"]
theorem Lw:Au ME El (Ah Eg):=⟨rfl,rfl,rfl,by decide +kernel,rfl,by decide +kernel,by decide +kernel⟩
abbrev Fj:Stmt:=top 27
abbrev Oz:List Str:=["word","parts"]
abbrev Fy:List Str:=["word"]
theorem IH:Au Oz Fy (Ah Fj):=⟨rfl,rfl,rfl,by decide +kernel,rfl,by decide +kernel,by decide +kernel⟩
abbrev Fe:Stmt:=top 28
abbrev Oy:List Str:=["signs","numbers","sign"]
abbrev Fw:List Str:=["signs"]
theorem EK:Au Oy Fw (Ah Fe):=⟨rfl,rfl,rfl,by decide +kernel,rfl,by decide +kernel,by decide +kernel⟩
abbrev Ev:Stmt:=top 29
abbrev JL:List Str:=["word"]
abbrev Go:List Str:=["word"]
theorem NZ:Au JL Go (Ah Ev):=⟨rfl,rfl,rfl,by decide +kernel,rfl,by decide +kernel,by decide +kernel⟩
abbrev Gg:Stmt:=top 32
abbrev Pk:List Str:=["box","dx","dy"]
abbrev Dt:List Str:=["box","dx","dy"]
theorem NX:Au Pk Dt (Ah Gg):=⟨rfl,rfl,rfl,by decide +kernel,rfl,by decide +kernel,by decide +kernel⟩
abbrev CW:Stmt:=top 33
abbrev EF:List Str:=["boxes","left","top","right","bottom"]
abbrev FZ:List Str:=["boxes"]
theorem DO:Au EF FZ (Ah CW):=⟨rfl,rfl,rfl,by decide +kernel,rfl,by decide +kernel,by decide +kernel⟩
abbrev Gi:Stmt:=top 38
abbrev Pm:List Str:=["box","limit"]
abbrev Du:List Str:=["box","limit"]
theorem Oa:Au Pm Du (Ah Gi):=⟨rfl,rfl,rfl,by decide +kernel,rfl,by decide +kernel,by decide +kernel⟩
abbrev JU:Stmt:=top 39
abbrev Ty:List Str:=["grove","field"]
abbrev Em:List Str:=["grove","field"]
theorem RO:Au Ty Em (Ah JU):=⟨rfl,rfl,rfl,by decide +kernel,rfl,by decide +kernel,by decide +kernel⟩
abbrev GX:Stmt:=top 40
abbrev QQ:List Str:=["grove"]
abbrev EV:List Str:=["grove"]
theorem Pf:Au QQ EV (Ah GX):=⟨rfl,rfl,rfl,by decide +kernel,rfl,by decide +kernel,by decide +kernel⟩
abbrev Mm:Stmt:=top 41
abbrev VT:List Str:=["grove","square","level","parts","bare"]
abbrev Jy:List Str:=["grove","square"]
theorem GQ:Au VT Jy (Ah Mm):=⟨rfl,rfl,rfl,by decide +kernel,rfl,by decide +kernel,by decide +kernel⟩
abbrev Mo:Stmt:=top 42
abbrev VU:List Str:=["grove","square","kept"]
abbrev GI:List Str:=["grove","square"]
theorem JS:Au VU GI (Ah Mo):=⟨rfl,rfl,rfl,by decide +kernel,rfl,by decide +kernel,by decide +kernel⟩
abbrev FV:Stmt:=top 43
abbrev Nf:List Str:=["grove","square","inner"]
abbrev IZ:List Str:=["grove","square"]
theorem Lx:Au Nf IZ (Ah FV):=⟨rfl,rfl,rfl,by decide +kernel,rfl,by decide +kernel,by decide +kernel⟩
abbrev Eh:Stmt:=top 44
abbrev MF:List Str:=["grove","square","bare","place","quarter","part_place","part"]
abbrev Eo:List Str:=["grove","square"]
theorem BK:Au MF Eo (Ah Eh):=⟨rfl,rfl,rfl,by decide +kernel,rfl,by decide +kernel,by decide +kernel⟩
abbrev Fd:Stmt:=top 45
abbrev Ox:List Str:=["grove","field","box","wide"]
abbrev Ft:List Str:=["grove","field","box"]
theorem EJ:Au Ox Ft (Ah Fd):=⟨rfl,rfl,rfl,by decide +kernel,rfl,by decide +kernel,by decide +kernel⟩
abbrev GS:Stmt:=top 46
abbrev QL:List Str:=["grove","field","level","wide"]
abbrev Ik:List Str:=["grove","field","level"]
theorem Gf:Au QL Ik (Ah GS):=⟨rfl,rfl,rfl,by decide +kernel,rfl,by decide +kernel,by decide +kernel⟩
abbrev Mq:Stmt:=top 47
abbrev VV:List Str:=["grove","field","x","y","state","place","wide","half"]
abbrev MB:List Str:=["grove","field","x","y","state"]
theorem GR:Au VV MB (Ah Mq):=⟨rfl,rfl,rfl,by decide +kernel,rfl,by decide +kernel,by decide +kernel⟩
abbrev JT:Stmt:=top 48
abbrev Tw:List Str:=["grove","square","x","y","state","level","half","parts","place"]
abbrev Fu:List Str:=["grove","square","x","y","state"]
theorem DH:Au Tw Fu (Ah JT):=⟨rfl,rfl,rfl,by decide +kernel,rfl,by decide +kernel,by decide +kernel⟩
abbrev La:Stmt:=top 49
abbrev TD:List Str:=["grove","cells","field","cell"]
abbrev Lg:List Str:=["grove","cells"]
theorem FU:Au TD Lg (Ah La):=⟨rfl,rfl,rfl,by decide +kernel,rfl,by decide +kernel,by decide +kernel⟩
abbrev Oh:Stmt:=top 51
abbrev YE:List Str:=["grove","field","box","reach"]
abbrev Ov:List Str:=["grove","field"]
theorem Mi:Au YE Ov (Ah Oh):=⟨rfl,rfl,rfl,by decide +kernel,rfl,by decide +kernel,by decide +kernel⟩
abbrev Tm:Stmt:=top 53
abbrev dJ:List Str:=["jumps","field","n","tuples"]
abbrev Ts:List Str:=["jumps","field","n"]
theorem UF:Au dJ Ts (Ah Tm):=⟨rfl,rfl,rfl,by decide +kernel,rfl,by decide +kernel,by decide +kernel⟩
abbrev Tl:Stmt:=top 54
abbrev dH:List Str:=["jumps","field","n","grove","told","here","rest","e","square","result"]
abbrev Tr:List Str:=["jumps","field","n"]
theorem DM:Au dH Tr (Ah Tl):=⟨rfl,rfl,rfl,by decide +kernel,rfl,by decide +kernel,by decide +kernel⟩
abbrev GW:Stmt:=top 55
abbrev QP:List Str:=["grove","field","n","box"]
abbrev Io:List Str:=["grove","field","n"]
theorem JI:Au QP Io (Ah GW):=⟨rfl,rfl,rfl,by decide +kernel,rfl,by decide +kernel,by decide +kernel⟩
abbrev IS:Stmt:=top 56
abbrev Sm:List Str:=["grove","field","e","reach","level"]
abbrev Ja:List Str:=["grove","field","e"]
theorem ET:Au Sm Ja (Ah IS):=⟨rfl,rfl,rfl,by decide +kernel,rfl,by decide +kernel,by decide +kernel⟩
abbrev Fk:Stmt:=top 60
abbrev OA:List Str:=["text"]
abbrev FA:List Str:=["text"]
theorem Nk:Au OA FA (Ah Fk):=⟨rfl,rfl,rfl,by decide +kernel,rfl,by decide +kernel,by decide +kernel⟩
abbrev IR:Stmt:=top 61
abbrev Sl:List Str:=["text","rule"]
abbrev IW:List Str:=["text"]
theorem Lu:Au Sl IW (Ah IR):=⟨rfl,rfl,rfl,by decide +kernel,rfl,by decide +kernel,by decide +kernel⟩
abbrev Lb:Stmt:=top 62
abbrev TF:List Str:=["rule","cell","around","number","clause"]
abbrev Lh:List Str:=["rule","cell","around"]
theorem IQ:Au TF Lh (Ah Lb):=⟨rfl,rfl,rfl,by decide +kernel,rfl,by decide +kernel,by decide +kernel⟩
abbrev Mr:Stmt:=top 63
abbrev VW:List Str:=["rule","cell","around","number"]
abbrev Jz:List Str:=["rule","cell","around"]
theorem Ob:Au VW Jz (Ah Mr):=⟨rfl,rfl,rfl,by decide +kernel,rfl,by decide +kernel,by decide +kernel⟩
abbrev GT:Stmt:=top 64
abbrev QM:List Str:=["rule"]
abbrev Il:List Str:=["rule"]
theorem Pd:Au QM Il (Ah GT):=⟨rfl,rfl,rfl,by decide +kernel,rfl,by decide +kernel,by decide +kernel⟩
abbrev GV:Stmt:=top 67
abbrev QO:List Str:=["grove","square","parts","a","b","c","d"]
abbrev DZ:List Str:=["grove","square"]
theorem CJ:Au QO DZ (Ah GV):=⟨rfl,rfl,rfl,by decide +kernel,rfl,by decide +kernel,by decide +kernel⟩
abbrev JY:Stmt:=top 68
abbrev TC:List Str:=["nine"]
abbrev Fz:List Str:=["nine"]
theorem RS:Au TC Fz (Ah JY):=⟨rfl,rfl,rfl,by decide +kernel,rfl,by decide +kernel,by decide +kernel⟩
abbrev Do:Stmt:=top 69
abbrev JH:List Str:=["grove","four","parts"]
abbrev Cm:List Str:=["grove","four"]
theorem EC:Au JH Cm (Ah Do):=⟨rfl,rfl,rfl,by decide +kernel,rfl,by decide +kernel,by decide +kernel⟩
abbrev Ms:Stmt:=top 72
abbrev VX:List Str:=["_law_script","_law_k"]
abbrev EZ:List Str:=["_law_script","_law_k"]
theorem Tk:Au VX EZ (Ah Ms):=⟨rfl,rfl,rfl,by decide +kernel,rfl,by decide +kernel,by decide +kernel⟩
abbrev Ld:Stmt:=top 73
abbrev TH:List Str:=["_law_cell","_law_k","_law_value"]
abbrev Ip:List Str:=["_law_cell","_law_k"]
theorem Nc:Au TH Ip (Ah Ld):=⟨rfl,rfl,rfl,by decide +kernel,rfl,by decide +kernel,by decide +kernel⟩
abbrev EL:Stmt:=top 74
abbrev Np:List Str:=["_law_mains","_law_value"]
abbrev Dy:List Str:=["_law_mains","_law_value"]
theorem Mj:Au Np Dy (Ah EL):=⟨rfl,rfl,rfl,by decide +kernel,rfl,by decide +kernel,by decide +kernel⟩
abbrev Ck:Stmt:=top 75
abbrev ER:List Str:=["_law_mains","_law_seed","_law_j","_law_wanted","_law_k","_law_value","_law_mask"]
abbrev Dp:List Str:=["_law_mains","_law_seed","_law_j"]
theorem BH:Au ER Dp (Ah Ck):=⟨rfl,rfl,rfl,by decide +kernel,rfl,by decide +kernel,by decide +kernel⟩
abbrev Ei:Stmt:=top 76
abbrev MG:List Str:=["_law_mains","_law_seed","_law_j","_law_taken","_law_conditions","_law_k"]
abbrev Ep:List Str:=["_law_mains","_law_seed","_law_j"]
theorem Ca:Au MG Ep (Ah Ei):=⟨rfl,rfl,rfl,by decide +kernel,rfl,by decide +kernel,by decide +kernel⟩
abbrev GY:Stmt:=top 77
abbrev QR:List Str:=["_law_condition","_law_around","_law_k","_law_many","_law_state"]
abbrev Iq:List Str:=["_law_condition","_law_around"]
theorem Dr:Au QR Iq (Ah GY):=⟨rfl,rfl,rfl,by decide +kernel,rfl,by decide +kernel,by decide +kernel⟩
abbrev Fl:Stmt:=top 78
abbrev OB:List Str:=["_law_clauses","_law_cell","_law_around","_law_at_here","_law_fits","_law_condition"]
abbrev FB:List Str:=["_law_clauses","_law_cell","_law_around"]
theorem CI:Au OB FB (Ah Fl):=⟨rfl,rfl,rfl,by decide +kernel,rfl,by decide +kernel,by decide +kernel⟩
abbrev Fo:Stmt:=top 79
abbrev OD:List Str:=["_law_clauses","_law_cell","_law_around","_law_at_here"]
abbrev FD:List Str:=["_law_clauses","_law_cell","_law_around"]
theorem II:Au OD FD (Ah Fo):=⟨rfl,rfl,rfl,by decide +kernel,rfl,by decide +kernel,by decide +kernel⟩
abbrev DU:Stmt:=top 80
abbrev LM:List Str:=["_law_script","_law_first","_law_many","_law_mains","_law_clauses","_law_k"]
abbrev Eb:List Str:=["_law_script","_law_first","_law_many"]
theorem BS:Au LM Eb (Ah DU):=⟨rfl,rfl,rfl,by decide +kernel,rfl,by decide +kernel,by decide +kernel⟩
abbrev ED:Stmt:=top 81
abbrev Ji:List Str:=["_law_condition"]
abbrev Jb:List Str:=["_law_condition"]
theorem QA:Au Ji Jb (Ah ED):=⟨rfl,rfl,rfl,by decide +kernel,rfl,by decide +kernel,by decide +kernel⟩
abbrev FW:Stmt:=top 82
abbrev Ng:List Str:=["_law_clauses","_law_parts","_law_clause","_law_words"]
abbrev Jc:List Str:=["_law_clauses"]
theorem EU:Au Ng Jc (Ah FW):=⟨rfl,rfl,rfl,by decide +kernel,rfl,by decide +kernel,by decide +kernel⟩
abbrev Ex:Stmt:=top 83
abbrev JN:List Str:=["_law_script","_law_first"]
abbrev Gq:List Str:=["_law_script","_law_first"]
theorem Oc:Au JN Gq (Ah Ex):=⟨rfl,rfl,rfl,by decide +kernel,rfl,by decide +kernel,by decide +kernel⟩
abbrev DT:Stmt:=top 84
abbrev LL:List Str:=["_law_made","_law_way","_law_parts","_law_state","_law_word_here"]
abbrev Ea:List Str:=["_law_made","_law_way"]
theorem Cv:Au LL Ea (Ah DT):=⟨rfl,rfl,rfl,by decide +kernel,rfl,by decide +kernel,by decide +kernel⟩
abbrev Fn:Stmt:=top 85
abbrev OC:List Str:=["_law_cell"]
abbrev FC:List Str:=["_law_cell"]
theorem Nl:Au OC FC (Ah Fn):=⟨rfl,rfl,rfl,by decide +kernel,rfl,by decide +kernel,by decide +kernel⟩
abbrev Gj:Stmt:=top 86
abbrev Pn:List Str:=["_law_states","_law_some","_law_place"]
abbrev Gr:List Str:=["_law_states"]
theorem Fc:Au Pn Gr (Ah Gj):=⟨rfl,rfl,rfl,by decide +kernel,rfl,by decide +kernel,by decide +kernel⟩
abbrev IU:Stmt:=top 87
abbrev Sr:List Str:=["_law_cell"]
abbrev Je:List Str:=["_law_cell"]
theorem QB:Au Sr Je (Ah IU):=⟨rfl,rfl,rfl,by decide +kernel,rfl,by decide +kernel,by decide +kernel⟩
abbrev IT:Stmt:=top 88
abbrev Sn:List Str:=["_law_script","_law_first","_law_many","_law_left","_law_top","_law_states","_law_k","_law_value","_law_at_here"]
abbrev Jd:List Str:=["_law_script","_law_first","_law_many","_law_left","_law_top"]
theorem DP:Au Sn Jd (Ah IT):=⟨rfl,rfl,rfl,by decide +kernel,rfl,by decide +kernel,by decide +kernel⟩
abbrev WY:Stmt:=top 89
abbrev n_law:List Str:=["_law_script","_law_far","_law_most","_law_line","_law_one","_law_two","_law_left","_law_many","_law_states","_law_grove","_law_rule","_law_jumps","_law_others","_law_field","_law_whole","_law_parts","_law_turned"]
abbrev p_law:List Str:=["_law_script"]
theorem BR:Au n_law p_law (Ah WY):=⟨rfl,rfl,rfl,by decide +kernel,rfl,by decide +kernel,by decide +kernel⟩
abbrev Fq:Stmt:=Bf (top 20) 0
abbrev OF:List Str:=["self","state","numbers"]
abbrev FG:List Str:=["self","state","numbers"]
theorem Nn:Au OF FG (Ah Fq):=⟨rfl,rfl,rfl,by decide +kernel,rfl,by decide +kernel,by decide +kernel⟩
abbrev EM:Stmt:=Bf (top 20) 1
abbrev Nq:List Str:=["self","around"]
abbrev EO:List Str:=["self","around"]
theorem Ml:Au Nq EO (Ah EM):=⟨rfl,rfl,rfl,by decide +kernel,rfl,by decide +kernel,by decide +kernel⟩
abbrev Gk:Stmt:=Bf (top 21) 0
abbrev Po:List Str:=["self","wanted"]
abbrev Gs:List Str:=["self","wanted"]
theorem Od:Au Po Gs (Ah Gk):=⟨rfl,rfl,rfl,by decide +kernel,rfl,by decide +kernel,by decide +kernel⟩
abbrev DV:Stmt:=Bf (top 21) 1
abbrev Jj:List Str:=["self","around"]
abbrev FE:List Str:=["self","around"]
theorem Nm:Au Jj FE (Ah DV):=⟨rfl,rfl,rfl,by decide +kernel,rfl,by decide +kernel,by decide +kernel⟩
abbrev Gn:Stmt:=Bf (top 22) 0
abbrev Pr:List Str:=["self","cell","conditions","makes"]
abbrev Gw:List Str:=["self","cell","conditions","makes"]
theorem Of:Au Pr Gw (Ah Gn):=⟨rfl,rfl,rfl,by decide +kernel,rfl,by decide +kernel,by decide +kernel⟩
abbrev Ez:Stmt:=Bf (top 22) 1
abbrev JO:List Str:=["self","cell","around"]
abbrev Gx:List Str:=["self","cell","around"]
theorem Og:Au JO Gx (Ah Ez):=⟨rfl,rfl,rfl,by decide +kernel,rfl,by decide +kernel,by decide +kernel⟩
abbrev Id:Stmt:=Bf (top 34) 0
abbrev QW:List Str:=["self","state","level","bare"]
abbrev Iv:List Str:=["self"]
theorem Eu:Au QW Iv (Ah Id):=⟨rfl,rfl,rfl,by decide +kernel,rfl,by decide +kernel,by decide +kernel⟩
abbrev Ic:Stmt:=Bf (top 34) 1
abbrev QV:List Str:=["self","parts","level","number"]
abbrev EX:List Str:=["self","parts","level"]
theorem JJ:Au QV EX (Ah Ic):=⟨rfl,rfl,rfl,by decide +kernel,rfl,by decide +kernel,by decide +kernel⟩
abbrev Fp:Stmt:=Bf (top 34) 2
abbrev OE:List Str:=["self","parts","number"]
abbrev AX:List Str:=["self","parts"]
theorem IK:Au OE AX (Ah Fp):=⟨rfl,rfl,rfl,by decide +kernel,rfl,by decide +kernel,by decide +kernel⟩
abbrev CZ:Stmt:=Bf (top 34) 3
abbrev Jm:List Str:=["self","square"]
abbrev Cd:List Str:=["self","square"]
theorem IL:Au Jm Cd (Ah CZ):=⟨rfl,rfl,rfl,by decide +kernel,rfl,by decide +kernel,by decide +kernel⟩
abbrev Ib:Stmt:=Bf (top 34) 4
abbrev QU:List Str:=["self","state"]
abbrev EW:List Str:=["self","state"]
theorem Pi:Au QU EW (Ah Ib):=⟨rfl,rfl,rfl,by decide +kernel,rfl,by decide +kernel,by decide +kernel⟩
abbrev Ek:Stmt:=Bf (top 34) 7
abbrev MK:List Str:=["self","square"]
abbrev Bm:List Str:=["self","square"]
theorem Lz:Au MK Bm (Ah Ek):=⟨rfl,rfl,rfl,by decide +kernel,rfl,by decide +kernel,by decide +kernel⟩
abbrev Ej:Stmt:=Bf (top 34) 9
abbrev MI:List Str:=["self","square"]
abbrev Er:List Str:=["self","square"]
theorem Ly:Au MI Er (Ah Ej):=⟨rfl,rfl,rfl,by decide +kernel,rfl,by decide +kernel,by decide +kernel⟩
abbrev Ia:Stmt:=Bf (top 34) 12
abbrev QT:List Str:=["self","square"]
abbrev Iu:List Str:=["self","square"]
theorem Ph:Au QT Iu (Ah Ia):=⟨rfl,rfl,rfl,by decide +kernel,rfl,by decide +kernel,by decide +kernel⟩
abbrev Ey:Stmt:=Bf (top 34) 13
abbrev Pq:List Str:=["self","square","box"]
abbrev CL:List Str:=["self","square"]
theorem DS:Au Pq CL (Ah Ey):=⟨rfl,rfl,rfl,by decide +kernel,rfl,by decide +kernel,by decide +kernel⟩
abbrev Dh:Stmt:=Bf (top 34) 14
abbrev MJ:List Str:=["self","square","level","half","boxes","place","quarter","box"]
abbrev Dk:List Str:=["self","square"]
theorem Br:Au MJ Dk (Ah Dh):=⟨rfl,rfl,rfl,by decide +kernel,rfl,by decide +kernel,by decide +kernel⟩
abbrev FX:Stmt:=Bf (top 59) 0
abbrev Nh:List Str:=["self","text"]
abbrev Jf:List Str:=["self","text"]
theorem QC:Au Nh Jf (Ah FX):=⟨rfl,rfl,rfl,by decide +kernel,rfl,by decide +kernel,by decide +kernel⟩
abbrev GZ:Stmt:=Bf (top 70) 0
abbrev QS:List Str:=["self","grove","rule"]
abbrev Ir:List Str:=["self","grove","rule"]
theorem Pg:Au QS Ir (Ah GZ):=⟨rfl,rfl,rfl,by decide +kernel,rfl,by decide +kernel,by decide +kernel⟩
abbrev DW:Stmt:=Bf (top 70) 1
abbrev Jl:List Str:=["self","rule","text"]
abbrev FF:List Str:=["self","rule"]
theorem IJ:Au Jl FF (Ah DW):=⟨rfl,rfl,rfl,by decide +kernel,rfl,by decide +kernel,by decide +kernel⟩
abbrev Gm:Stmt:=Bf (top 70) 2
abbrev Pp:List Str:=["self","square","e"]
abbrev Gu:List Str:=["self","square","e"]
theorem Oe:Au Pp Gu (Ah Gm):=⟨rfl,rfl,rfl,by decide +kernel,rfl,by decide +kernel,by decide +kernel⟩
abbrev DB:Stmt:=Bf (top 70) 3
abbrev Lj:List Str:=["self","square","e","level"]
abbrev DD:List Str:=["self","square","e"]
theorem EQ:Au Lj DD (Ah DB):=⟨rfl,rfl,rfl,by decide +kernel,rfl,by decide +kernel,by decide +kernel⟩
abbrev Dg:Stmt:=Bf (top 70) 4
abbrev MH:List Str:=["self","square","e","result"]
abbrev Bl:List Str:=["self","square","e"]
theorem DQ:Au MH Bl (Ah Dg):=⟨rfl,rfl,rfl,by decide +kernel,rfl,by decide +kernel,by decide +kernel⟩
abbrev Cg:Stmt:=Bf (top 70) 5
abbrev EB:List Str:=["self","square","e","grove","level","nine"]
abbrev Dv:List Str:=["self","square","e"]
theorem DR:Au EB Dv (Ah Cg):=⟨rfl,rfl,rfl,by decide +kernel,rfl,by decide +kernel,by decide +kernel⟩
abbrev Bj:Stmt:=Bf (top 70) 6
abbrev Db:List Str:=["self","square","e","nine"]
abbrev BI:List Str:=["self","square","e"]
theorem Ed:Au Db BI (Ah Bj):=⟨rfl,rfl,rfl,by decide +kernel,rfl,by decide +kernel,by decide +kernel⟩
abbrev CY:Stmt:=Bf (top 70) 7
abbrev Jk:List Str:=["self","square","parts","a","b","c","d"]
abbrev Cc:List Str:=["self","square"]
theorem Bg:Au Jk Cc (Ah CY):=⟨rfl,rfl,rfl,by decide +kernel,rfl,by decide +kernel,by decide +kernel⟩
abbrev Cw:Stmt:=Bf (top 70) 8
abbrev FI:List Str:=["self","leaves","leaf","states"]
abbrev DE:List Str:=["self","leaves"]
theorem Cj:Au FI DE (Ah Cw):=⟨rfl,rfl,rfl,by decide +kernel,rfl,by decide +kernel,by decide +kernel⟩
structure Ad where
 c_Amounts:Addr
 c_Places:Addr
 c_Clause:Addr
 c_Grove:Addr
 c_Rule:Addr
 c_Jumps:Addr
structure Top(K:PySem.W.Frag)(mg:Str->Option Value)(a:Ad):Prop where
 b_all:mg "all" = none
 b_bool:mg "bool" = none
 b_enumerate:mg "enumerate" = none
 b_int:mg "int" = none
 b_isinstance:mg "isinstance" = none
 b_len:mg "len" = none
 b_list:mg "list" = none
 b_max:mg "max" = none
 b_min:mg "min" = none
 b_range:mg "range" = none
 b_sorted:mg "sorted" = none
 b_str:mg "str" = none
 b_tuple:mg "tuple" = none
 b_zip:mg "zip" = none
 k_STATES:∃t,mg "STATES" = some (.int 8 t)
 k_NEIGHBOURS:∃t,mg "NEIGHBOURS" = some (.int 8 t)
 k_STATE_FIGURES:∃t,mg "STATE_FIGURES" = some (.str (Str.ofString "01234567") t)
 k_AMOUNT_FIGURES:∃t,mg "AMOUNT_FIGURES" = some (.str (Str.ofString "012345678") t)
 k_ANY_SIGN:∃t,mg "ANY_SIGN" = some (.str (Str.ofString "*") t)
 k_TOP_LEVEL:∃t,mg "TOP_LEVEL" = some (.int 48 t)
 k_LIMIT:∃t,mg "LIMIT" = some (.int 1099511627776 t)
 k_LEAST_LEVEL:∃t,mg "LEAST_LEVEL" = some (.int 1 t)
 k_CLAUSE_MARK:∃t,mg "CLAUSE_MARK" = some (.str (Str.ofString "; ") t)
 k_LEAST_JUMPED:∃t,mg "LEAST_JUMPED" = some (.int 2 t)
 m_Amounts:mg "Amounts" = some (.ref a.c_Amounts)
 cl_Amounts:Cls K a.c_Amounts
 na_Amounts_state:BE K a.c_Amounts "state"
 na_Amounts_numbers:BE K a.c_Amounts "numbers"
 m_Places:mg "Places" = some (.ref a.c_Places)
 cl_Places:Cls K a.c_Places
 na_Places_wanted:BE K a.c_Places "wanted"
 m_Clause:mg "Clause" = some (.ref a.c_Clause)
 cl_Clause:Cls K a.c_Clause
 na_Clause_cell:BE K a.c_Clause "cell"
 na_Clause_conditions:BE K a.c_Clause "conditions"
 na_Clause_makes:BE K a.c_Clause "makes"
 m_Grove:mg "Grove" = some (.ref a.c_Grove)
 cl_Grove:Cls K a.c_Grove
 na_Grove_levels:BE K a.c_Grove "levels"
 na_Grove_parts:BE K a.c_Grove "parts"
 na_Grove_numbers:BE K a.c_Grove "numbers"
 na_Grove_bares:BE K a.c_Grove "bares"
 na_Grove_amounts:BE K a.c_Grove "amounts"
 na_Grove_boxes:BE K a.c_Grove "boxes"
 m_Rule:mg "Rule" = some (.ref a.c_Rule)
 cl_Rule:Cls K a.c_Rule
 na_Rule_text:BE K a.c_Rule "text"
 na_Rule_clauses:BE K a.c_Rule "clauses"
 m_Jumps:mg "Jumps" = some (.ref a.c_Jumps)
 cl_Jumps:Cls K a.c_Jumps
 na_Jumps_grove:BE K a.c_Jumps "grove"
 na_Jumps_memories:BE K a.c_Jumps "memories"
 na_Jumps_rule:BE K a.c_Jumps "rule"
 na_Jumps_known_squares:BE K a.c_Jumps "known_squares"
 na_Jumps_known_cells:BE K a.c_Jumps "known_cells"
seal L2.PA L2.PE L2.PS L2.PSs L2.PT L2.PW
inductive AT where
 |am (s:Int) (ns:List Int)
 |pl (ws:List (Option Int))
structure AO where
 cell:Option Int
 conds:List AT
 makes:Int
abbrev AA:=List AO
def Gy:Option Int->V
 |none=>.non
 |some i=>.int i
def BN(w:Option Int)(s:Int):Bool:=match w with
 |none=>true
 |some i=>decide (i=s)
def AT.holds(ar:List Int):AT->Bool
 |.am s ns=>ns.any λn=>decide (n=((ar.countP (· == s):Nat):Int))
 |.pl ws=>(ws.zip ar).all λp=>BN p.1 p.2
def AO.fits(cell:Int)(ar:List Int)(c:AO):Bool:=BN c.cell cell && c.conds.all (AT.holds ar)
def IM(r:AA)(cell:Int)(ar:List Int):Option Nat:=r.findIdx? (AO.fits cell ar)
def Ci(r:AA)(cell:Int)(ar:List Int):Int:=match r.find? (AO.fits cell ar)with
 |none=>cell
 |some c=>c.makes
def fl1(f:Str)(a:V):List (Str×V):=AS f a []
def fl2(f g:Str)(a b:V):List (Str×V):=AS g b (AS f a [])
def fl3(f g h:Str)(a b c:V):List (Str×V):=AS h c (AS g b (AS f a []))
theorem fl1_1{f:Str}{a:V}:(fl1 f a).lookup f=some a:=by unfold fl1;rw[Ak,Y8 rfl]
theorem Rh{f m:Str}{a:V}(h:¬m=f):(fl1 f a).lookup m=none:=by unfold fl1;rw[Ak,Y6 h];rfl
theorem Zo{f g:Str}{a b:V}(h:¬f=g):(fl2 f g a b).lookup f=some a:=by unfold fl2;rw[Ak,Y6 h,Ak,Y8 rfl]
theorem Zn{f g:Str}{a b:V}:(fl2 f g a b).lookup g=some b:=by unfold fl2;rw[Ak,Y8 rfl]
theorem fl2_no{f g m:Str}{a b:V}(h1:¬m=f)(h2:¬m=g):(fl2 f g a b).lookup m=none:=by unfold fl2;rw[Ak,Y6 h2,Ak,Y6 h1];rfl
theorem fl3_1{f g h:Str}{a b c:V}(h1:¬f=g)(h2:¬f=h):(fl3 f g h a b c).lookup f=some a:=by unfold fl3;rw[Ak,Y6 h2,Ak,Y6 h1,Ak,Y8 rfl]
theorem fl3_2{f g h:Str}{a b c:V}(h1:¬g=h):(fl3 f g h a b c).lookup g=some b:=by unfold fl3;rw[Ak,Y6 h1,Ak,Y8 rfl]
theorem fl3_3{f g h:Str}{a b c:V}:(fl3 f g h a b c).lookup h=some c:=by unfold fl3;rw[Ak,Y8 rfl]
theorem fl3_no{f g h m:Str}{a b c:V}(h1:¬m=f)(h2:¬m=g)(h3:¬m=h):(fl3 f g h a b c).lookup m=none:=by unfold fl3;rw[Ak,Y6 h3,Ak,Y6 h2,Ak,Y6 h1];rfl
theorem RZ(f:Str)(v:V):∀l:List (Str×V),(AS f v l).length<=l.length+1
 |[]=>C1 _
 | (g,w)::r=>by
  unfold AS;split
  ·exact R3 _
  ·rw[D4,D4];exact P8 (RZ f v r)
theorem Ao{H:Hp}{p:Addr}{o:HO}(h:H p=none):Az H (upd H p o):=λb u e=>by
 rw[As (Av e h)];exact e
theorem alc{H H':Hp}{p:Addr}{o:HO}(h:H p=none)(e:upd H p o=H'):Az H H'/\H' p=some o:=e▸⟨Ao h,Af⟩
inductive Dq(a:Ad)(H:Hp):Addr->AT->Prop where
 |am {p t dx:Addr} {s:Int} {ns:List Int} (h:H p=some (.ins a.c_Amounts dx (fl2 "state" "numbers" (.int s) (.ref t)))) (ht:H t=some (.tup (ns.map V.int))):Dq a H p (.am s ns)
 |pl {p t dx:Addr} {ws:List (Option Int)} (h:H p=some (.ins a.c_Places dx (fl1 "wanted" (.ref t)))) (ht:H t=some (.tup (ws.map Gy))):Dq a H p (.pl ws)
structure BU(a:Ad)(H:Hp)(p:Addr)(c:AO):Prop where
 ex:∃(dx t:Addr)(cs:List Addr),H p=some (.ins a.c_Clause dx (fl3 "cell" "conditions" "makes" (Gy c.cell) (.ref t) (.int c.makes)))/\H t=some (.tup (cs.map V.ref))/\Paired (Dq a H) cs c.conds
structure CF(a:Ad)(H:Hp)(p:Addr)(x:Str)(r:AA):Prop where
 ex:∃(dx t:Addr)(cs:List Addr),H p=some (.ins a.c_Rule dx (fl2 "text" "clauses" (.str x) (.ref t)))/\H t=some (.tup (cs.map V.ref))/\Paired (BU a H) cs r
theorem Paired.imp{α β:Type}{F G:α->β->Prop}(h:∀x y,F x y->G x y):∀{l:List α}{m:List β},Paired F l m->Paired G l m
 |_,_,.nil=>.nil
 |_,_,.cons r t=>.cons (h _ _ r) (Paired.imp h t)
theorem Paired.get{α β:Type}{F:α->β->Prop}:∀{l:List α}{m:List β}{i:Nat}{x:α},Paired F l m->l[i]?=some x->∃y,m[i]?=some y/\F x y
 |_,_,_,_,.nil,e=>by simp at e
 |_,_,0,_,.cons r _,e=>by simp at e;subst e;exact⟨_,rfl,r⟩
 |_,_,i+1,x,.cons _ t,e=>by
  obtain⟨y,h1,h2⟩:=Paired.get (i:=i) (x:=x) t (by simpa using e);exact⟨y,by simpa using h1,h2⟩
theorem Dq.same{a:Ad}{H H':Hp}{p:Addr}{c:AT}(s:Az H H')(h:Dq a H p c):Dq a H' p c:=by
 cases h with
 |am h ht=>exact .am (s _ _ h) (s _ _ ht)
 |pl h ht=>exact .pl (s _ _ h) (s _ _ ht)
theorem BU.same{a:Ad}{H H':Hp}{p:Addr}{c:AO}(s:Az H H')(h:BU a H p c):BU a H' p c:=by
 obtain⟨dx,t,cs,h1,h2,h3⟩:=h.ex;exact⟨dx,t,cs,s _ _ h1,s _ _ h2,Paired.imp (λ_ _ z=>z.same s) h3⟩
theorem CF.same{a:Ad}{H H':Hp}{p:Addr}{x:Str}{r:AA}(s:Az H H')(h:CF a H p x r):CF a H' p x r:=by
 obtain⟨dx,t,cs,h1,h2,h3⟩:=h.ex;exact⟨dx,t,cs,s _ _ h1,s _ _ h2,Paired.imp (λ_ _ z=>z.same s) h3⟩
theorem Re(n:Int)(ns:List Int):inV (.int n) (ns.map V.int)=ns.any λm=>decide (m=n):=by
 unfold inV;rw[List.any_map];congr 1
theorem PU(ns:List Int):(ns.map V.int).all LX=true:=by
 rw[List.all_map];exact S5.mpr λ_ _=>rfl
theorem Iz(i j:Int):decide (V.int i=V.int j)=decide (i=j):=by
 by_cases h:i=j
 ·rw[Y7 h,Y7 (by rw[h])]
 ·rw[Y9 h,Y9 λz=>h (by injection z)]
section
variable{P:Program}{w:World}{K:PySem.W.Frag}{mg:Str->Option Value}{base:Heap}{a:Ad}
inductive Vm(vs:List V)(H:Hp)(Q:VK):Prop
 |mk (x:Option Int) (s:Int) (_:vs=[Gy x,.int s]) (_:Q (.bl (BN x s)) H):Vm vs H Q
def Nz:Sp:=λvs H Q _=>Vm vs H Q
theorem Yl{f:Addr}{fd:FuncData}(F:Fun K "takes" "takes" QD f fd):AJ P w K mg base CX0 1 f fd NF Nz:=by
 refine F.ok WX (λvs H Q E h=>?_) (λcdv A outer s H vs Q E hr h=>?_)
 ·obtain⟨x,s,rfl,_⟩:=h;rfl
 ·obtain⟨x,s,rfl,k⟩:=h;refine⟨_,(Ag (Aw (pe_or (CQ Jg (pv 0) DC (AF _)) (Lf (CQ Ct (pv 0) (pv 1) (AF _)))))),?_⟩
  try dsimp only[cxK]
  refine xq1 rfl ⟨rfl,(xq1 rfl ?_)⟩;cases x with
  |none=>exact Cp k
  |some i =>
   have e:decide (Gy (some i)=V.int s)=BN (some i) s:=Iz i s;rw[<-e]at k;exact Bo (xw2 rfl rfl ⟨rfl,k⟩)
inductive SX(a:Ad)(vs:List V)(H:Hp)(Q:VK):Prop
 |mk (p t dx:Addr) (s:Int) (_:vs=[.ref p,.int s,.ref t]) (_:H p=some (.ins a.c_Amounts dx [])) (_:Q .non (upd H p (.ins a.c_Amounts dx (fl2 "state" "numbers" (.int s) (.ref t))))):SX a vs H Q
def NW(a:Ad):Sp:=λvs H Q _=>SX a vs H Q
theorem VP{f:Addr}{fd:FuncData}(F:Fun K "__init__" "Amounts.__init__" Fq f fd)(T:Top K mg a):AJ P w K mg base CX0 1 f fd FG (NW a):=by
 refine F.ok Nn (λvs H Q E h=>?_) (λcdv A outer s H vs Q E hr h=>?_)
 ·obtain⟨p,t,dx,s,rfl,_⟩:=h;rfl
 ·obtain⟨p,t,dx,s,rfl,hp,k⟩:=h;refine⟨_,(Ac (Cz (pv 0) (pv 1) rfl) (Ag (Cz (pv 0) (pv 2) rfl))),?_⟩
  try dsimp only[cxK]
  refine xw2 rfl rfl ⟨p,_,dx,[],rfl,hp,T.cl_Amounts,T.na_Amounts_state,B3,(xw2 rfl rfl ⟨p,_,dx,(xq1 rfl ⟨Af,T.cl_Amounts,T.na_Amounts_numbers,B5,?_⟩)⟩)⟩;rw[FS];exact k
inductive SV(a:Ad)(vs:List V)(H:Hp)(Q:VK):Prop
 |mk (p t dx:Addr) (_:vs=[.ref p,.ref t]) (_:H p=some (.ins a.c_Places dx [])) (_:Q .non (upd H p (.ins a.c_Places dx (fl1 "wanted" (.ref t))))):SV a vs H Q
def NT(a:Ad):Sp:=λvs H Q _=>SV a vs H Q
theorem VN{f:Addr}{fd:FuncData}(F:Fun K "__init__" "Places.__init__" Gk f fd)(T:Top K mg a):AJ P w K mg base CX0 1 f fd Gs (NT a):=by
 refine F.ok Od (λvs H Q E h=>?_) (λcdv A outer s H vs Q E hr h=>?_)
 ·obtain⟨p,t,dx,rfl,_⟩:=h;rfl
 ·obtain⟨p,t,dx,rfl,hp,k⟩:=h;refine⟨_,(Ag (Cz (pv 0) (pv 1) rfl)),?_⟩
  try dsimp only[cxK]
  exact xw2 rfl rfl ⟨p,_,dx,[],rfl,hp,T.cl_Places,T.na_Places_wanted,B3,k⟩
inductive SW(a:Ad)(vs:List V)(H:Hp)(Q:VK):Prop
 |mk (p t dx:Addr) (c:Option Int) (m:Int) (_:vs=[.ref p,Gy c,.ref t,.int m]) (_:H p=some (.ins a.c_Clause dx [])) (_:Q .non (upd H p (.ins a.c_Clause dx (fl3 "cell" "conditions" "makes" (Gy c) (.ref t) (.int m))))):SW a vs H Q
def NV(a:Ad):Sp:=λvs H Q _=>SW a vs H Q
theorem VO{f:Addr}{fd:FuncData}(F:Fun K "__init__" "Clause.__init__" Gn f fd)(T:Top K mg a):AJ P w K mg base CX0 1 f fd Gw (NV a):=by
 refine F.ok Of (λvs H Q E h=>?_) (λcdv A outer s H vs Q E hr h=>?_)
 ·obtain⟨p,t,dx,c,m,rfl,_⟩:=h;rfl
 ·obtain⟨p,t,dx,c,m,rfl,hp,k⟩:=h;refine⟨_,(Ac (Cz (pv 0) (pv 1) rfl) (Ac (Cz (pv 0) (pv 2) rfl) (Ag (Cz (pv 0) (pv 3) rfl)))),?_⟩
  try dsimp only[cxK]
  refine⟨_,rfl,_,rfl,p,_,dx,[],rfl,hp,T.cl_Clause,T.na_Clause_cell,B3,_,rfl,_,rfl,p,_,dx,_,rfl,Af,T.cl_Clause,T.na_Clause_conditions,B5,_,rfl,_,rfl,p,_,dx,_,rfl,Af,T.cl_Clause,T.na_Clause_makes,
   F6 (RZ _ _ _) (by show 2<1000;decide),?_⟩
  rw[FS,FS];exact k
def Mh(a:Ad):Sp:=λvs H Q E=>(∃(p l t dx:Addr)(s:Int)(ns ar:List Int),vs=[.ref p,.ref l]/\H p=some (.ins a.c_Amounts dx (fl2 "state" "numbers" (.int s) (.ref t)))/\H t=some (.tup (ns.map V.int))/\H l=some (.lst (ar.map V.int))/\Q (.bl (AT.holds ar (.am s ns))) H)
theorem Tu{f:Addr}{fd:FuncData}(F:Fun K "holds" "Amounts.holds" EM f fd)(T:Top K mg a):AJ P w K mg base CX0 1 f fd EO (Mh a):=by
 refine F.ok Ml (λvs H Q E h=>?_) (λcdv A outer s H vs Q E hr h=>?_)
 ·obtain⟨p,l,t,dx,s,ns,ar,rfl,_⟩:=h;rfl
 ·obtain⟨p,l,t,dx,s,ns,ar,rfl,hp,ht,hl,k⟩:=h;refine⟨_,(Ag (Aw (CQ MC (CS Z3 PySem.F.slot_list_count PySem.F.type_list_count YG (pv 1) (Aa (AC (pv 0) rfl) Ab)) (AC (pv 0) rfl) rfl))),?_⟩
  try dsimp only[cxK]
  refine xq1 rfl ⟨.inl ⟨rfl,_,SqL.of hl⟩,(xwf rfl rfl hp T.cl_Amounts T.na_Amounts_state (Zo A1) ⟨l,ar,s,rfl,rfl,hl,(xwf rfl rfl hp T.cl_Amounts T.na_Amounts_numbers Zn ⟨t,(xq1 rfl ⟨.inr (SqT.of ht),rfl,PU ns,?_⟩)⟩)⟩)⟩;show Q (.bl (inV _ _)) H;rw[Re];exact k
inductive Ql(a:Ad)(vs:List V)(H:Hp)(Q:VK):Prop
 |mk (p l t dx:Addr) (ws:List (Option Int)) (ar:List Int) (_:vs=[.ref p,.ref l]) (_:H p=some (.ins a.c_Places dx (fl1 "wanted" (.ref t)))) (_:H t=some (.tup (ws.map Gy))) (_:H l=some (.lst (ar.map V.int))) (_:ws.length<=100) (_:∀H',Az H H'->Q (.bl (AT.holds ar (.pl ws))) H'):Ql a vs H Q
def Mg(a:Ad):Sp:=λvs H Q _=>Ql a vs H Q
theorem Tt{f:Addr}{fd:FuncData}(F:Fun K "holds" "Places.holds" DV f fd)(T:Top K mg a)(cJ:Cal P w K mg base CX0 1 "takes" NF Nz):AJ P w K mg base CX0 2 f fd FE (Mg a):=by
 refine F.ok Nm (λvs H Q E h=>?_) (λcdv A outer s H vs Q E hr h=>?_)
 ·obtain⟨p,l,t,dx,ws,ar,rfl,_⟩:=h;rfl
 ·obtain⟨p,l,t,dx,ws,ar,rfl,hp,ht,hl,hw,k⟩:=h;refine⟨_,(Ag (Aw (AR (SR rfl) rfl T.b_all PyProof.Rows.boot_all (Aa (BW rfl (Bu.of (So:=Ah DV) (No:=Jj) (N:=["one","state"]) (k:=2) (cs:=[]) rfl rfl A1) (pi_zip true false rfl T.b_zip (Aa (AC (pv 0) rfl) (Aa (pv 1) Ab))) (λ_ _ _=>(Yf (i:=0) (j:=1) rfl A1 rfl rfl rfl rfl)) (λ_ _ _=>BF) (λ_ _ _=>(Ar cJ (rm hr) rfl An (Aa (pv 0) (Aa (pv 1) Ab))))) Ab)))),?_⟩
  try dsimp only[cxK]
  refine xwf rfl rfl hp T.cl_Places T.na_Places_wanted fl1_1 (xq1 rfl ⟨t,l,rfl,⟨_,SqT.of ht⟩,⟨_,SqL.of hl⟩,?_⟩);refine blk_zip (xs:=ws.map Gy) (ys:=ar.map V.int) (λi acc H2=>Az H H2/\acc=(((ws.zip ar).take i).map λp=>V.bl (BN p.1 p.2))) ⟨Az.refl H,rfl⟩ (λi acc H2 z=>⟨SqT.of (z.1 _ _ ht),SqL.of (z.1 _ _ hl)⟩) ?_ ?_
  ·rintro i x y acc H2 T' hx hy ⟨sm,rfl⟩ nT;rw[C0]at hx hy;obtain⟨o,eo,rfl⟩:=D2.mp hx;obtain⟨m,em,rfl⟩:=D2.mp hy;have ez:(ws.zip ar)[i]?=some (o,m):=by rw[U1];exact⟨eo,em⟩
   refine SD Af ⟨⟨[some (Gy o),some (.int m)],rfl,rfl⟩,?_,?_⟩
   ·have:((((ws.zip ar).take i).map λp=>V.bl (BN p.1 p.2))).length<=ws.length:=by
     rw[B8,L5,V8];omega
    exact F6 (C9 this hw) A4
   ·refine Gc ?_;refine xw2 rfl rfl ⟨o,m,rfl,sm.trans (Ao nT),?_⟩;rw[F5,ez,C5];rfl
  ·rintro acc H2 ⟨sm,rfl⟩ q nq;have len:min (ws.map Gy).length (ar.map V.int).length=(ws.zip ar).length:=by rw[B8,B8,V8]
   rw[len,J0];refine⟨q,(ws.zip ar).map (λp=>BN p.1 p.2),rfl,SqL.of (by rw[Af,M0];rfl),?_⟩;have e:((ws.zip ar).map (λp=>BN p.1 p.2)).all id=AT.holds ar (.pl ws):=by rw[List.all_map];rfl
   rw[e];exact k _ (sm.trans (Ao nq))
inductive ZQ(a:Ad)(vs:List V)(H:Hp)(Q:VK):Prop
 |mk (p l:Addr) (c:AO) (cell:Int) (ar:List Int) (_:vs=[.ref p,.int cell,.ref l]) (_:BU a H p c) (_:c.conds.length<=100) (_:(∀d∈c.conds,∀ws,d=AT.pl ws->ws.length<=100)) (_:H l=some (.lst (ar.map V.int))) (_:∀H',Az H H'->Q (.bl (c.fits cell ar)) H'):ZQ a vs H Q
def Th(a:Ad):Sp:=λvs H Q _=>ZQ a vs H Q
theorem ok_Fits{f:Addr}{fd:FuncData}(F:Fun K "fits" "Clause.fits" Ez f fd)(T:Top K mg a)(cJ:Cal P w K mg base CX0 1 "takes" NF Nz)(M_Am:BZ P w K mg base CX0 1 a.c_Amounts "holds" EO (Mh a))(M_Pl:BZ P w K mg base CX0 2 a.c_Places "holds" FE (Mg a)) :
  AJ P w K mg base CX0 3 f fd Gx (Th a):=by
 refine F.ok Og (λvs H Q E h=>?_) (λcdv A outer s H vs Q E hr h=>?_)
 ·obtain⟨p,l,c,cell,ar,rfl,_⟩:=h;rfl
 ·obtain⟨p,l,c,cell,ar,rfl,hC,hn,hn2,hl,k⟩:=h;obtain⟨dx,t,cs,hp,ht,hcs⟩:=hC.ex;refine⟨_,(Ag (Aw (Ii (Ar cJ (rm hr) rfl An (Aa (AC (pv 0) rfl) (Aa (pv 1) Ab))) (Lf (AR (SR rfl) rfl T.b_all PyProof.Rows.boot_all (Aa (BW rfl (Bu.of (So:=Ah Ez) (No:=JO) (N:=["condition","around"]) (k:=1) (cs:=[2]) rfl rfl A1) (To (AC (pv 0) rfl)) (λ_ _ _=>(AW (i:=0) A1 rfl rfl)) (λ_ _ _=>BF) (λ_ _ _=>(PE.or (AG (pv 0) M_Am (rm hr) An (Aa (pv 1) Ab)) (AG (pv 0) M_Pl (rm hr) An (Aa (pv 1) Ab))))) Ab)))))),?_⟩
  try dsimp only[cxK]
  refine xwf rfl rfl hp T.cl_Clause T.na_Clause_cell (fl3_1 A1 A1) (xq1 rfl ⟨c.cell,cell,rfl,BN c.cell cell,rfl,?_⟩);cases et:BN c.cell cell with
  |false =>
   refine Bo ?_;have:=k H (Az.refl H);unfold AO.fits at this;rw[et]at this;exact this
  |true =>
   refine Cp ?_;have ln:cs.length=c.conds.length:=Z9 hcs;refine xwf rfl rfl hp T.cl_Clause T.na_Clause_conditions (fl3_2 A1) ⟨t,rfl,⟨_,SqT.of ht⟩,?_⟩;refine Ro (xs:=cs.map V.ref) (λi acc H2=>Az H H2/\acc=((c.conds.take i).map λd=>V.bl (AT.holds ar d))) ⟨Az.refl H,rfl⟩ (λi acc H2 _ z=>SqT.of (z.1 _ _ ht)) ?_ ?_
   ·rintro i x acc H2 hx ⟨sm,rfl⟩;rw[C0]at hx;obtain⟨q,eq,rfl⟩:=D2.mp hx;obtain⟨d,ed,hd⟩:=Paired.get hcs eq;have hd2:=hd.same sm;refine⟨⟨[some (.ref q)],rfl,rfl⟩,?_,?_⟩
    ·have:((c.conds.take i).map λd=>V.bl (AT.holds ar d)).length<=c.conds.length:=by
      rw[B8,L5];omega
     exact F6 (C9 this hn) A4
    ·refine Gc ?_;have nx:∀H4,Az H2 H4->Az H H4/\((c.conds.take i).map λd=>V.bl (AT.holds ar d))++[V.bl (AT.holds ar d)]=((c.conds.take (i+1)).map λd=>V.bl (AT.holds ar d)):=λH4 s4=>⟨sm.trans s4,by
      rw[F5,ed,C5];rfl⟩
     have md:d∈c.conds:=D1 ed;cases hd2 with
     |@am t2 dx2 s ns h1 h2=>exact .inl ⟨_,rfl,q,dx2,_,rfl,h1,fl2_no A1 A1,_,rfl,q,l,t2,dx2,s,ns,ar,rfl,h1,h2,sm _ _ hl,nx H2 (Az.refl H2)⟩
     |@pl t2 dx2 ws h1 h2=>exact .inr ⟨_,rfl,q,dx2,_,rfl,h1,Rh A1,_,rfl,q,l,t2,dx2,ws,ar,rfl,h1,h2,sm _ _ hl,hn2 _ md ws rfl,λH4 s4=>nx H4 s4⟩
   ·rintro acc H2 ⟨sm,rfl⟩ q nq;rw[B8,ln,J0];refine⟨q,c.conds.map (AT.holds ar),rfl,SqL.of (by rw[Af,M0];rfl),?_⟩;have e:(c.conds.map (AT.holds ar)).all id=c.fits cell ar:=by
     unfold AO.fits;rw[et,List.all_map];rfl
    rw[e];exact k _ (sm.trans (Ao nq))
def ROk(r:AA):Prop:=r.length<=5000/\∀c∈r,c.conds.length<=100/\∀d∈c.conds,∀ws,d=AT.pl ws->ws.length<=100
def decV(o:Option Nat):V:=match o with
 |none=>.non
 |some n=>.int n
inductive SpDec(a:Ad)(vs:List V)(H:Hp)(Q:VK):Prop
 |mk (p l:Addr) (z:Str) (r:AA) (cell:Int) (ar:List Int) (_:vs=[.ref p,.int cell,.ref l]) (_:CF a H p z r) (_:ROk r) (_:H l=some (.lst (ar.map V.int))) (_:∀H',Az H H'->Q (decV (IM r cell ar)) H'):SpDec a vs H Q
def WT(a:Ad):Sp:=λvs H Q _=>SpDec a vs H Q
theorem ok_dec{f:Addr}{fd:FuncData}(F:Fun K "deciding" "deciding" Lb f fd)(T:Top K mg a)(bR:BZ P w K mg base CX0 3 a.c_Clause "fits" Gx (Th a)):AJ P w K mg base CX0 4 f fd Lh (WT a):=by
 refine F.ok IQ (λvs H Q E h=>?_) (λcdv A outer s H vs Q E hr h=>?_)
 ·obtain⟨p,l,z,r,cell,ar,rfl,_⟩:=h;rfl
 ·obtain⟨p,l,z,r,cell,ar,rfl,hR,hn,hl,k⟩:=h;obtain⟨dx,t,cs,hp,ht,hcs⟩:=hR.ex;have ln:cs.length=r.length:=Z9 hcs;refine⟨_,(Ac (Cy Z6 rfl (ND true rfl T.b_enumerate (Aa (AC (pv 0) rfl) Ab)) (Op rfl (Ds (Bn (i:=3) IQ.nd rfl (Or.inl rfl)) (Ds (Bn (i:=4) IQ.nd rfl (Or.inl rfl)) LD))) (Ag (AQ (Da (AG (pv 4) bR (rm hr) An (Aa (pv 1) (Aa (pv 2) Ab)))) (Ag (Aw (pv 3))) AD))) (Ag (Aw DC))),?_⟩
  try dsimp only[cxK]
  refine xwf rfl rfl hp T.cl_Rule T.na_Rule_clauses Zn ⟨t,rfl,⟨_,SqT.of ht⟩,?_⟩;refine LW (b:=true) (xs:=cs.map V.ref) (λi σ H2=>Az H H2/\(∃u v,σ=[some (.ref p),some (.int cell),some (.ref l),u,v])/\∀c∈r.take i,c.fits cell ar=false) ⟨Az.refl H,⟨none,none,rfl⟩,λc hc=>by simp at hc⟩ (λi σ H2 _ q=>SqT.of (q.1 _ _ ht)) ?_ ?_
  ·rintro i x σ H2 T' hx ⟨sm,⟨u,v,rfl⟩,no⟩ nT;rw[C0]at hx;obtain⟨q,eq,rfl⟩:=D2.mp hx;obtain⟨c,ec,hc⟩:=Paired.get hcs eq;have s3:=sm.trans (Ao (o:=.tup [.int i,.ref q]) nT);have hc3:=hc.same s3;obtain⟨dx2,t2,cs2,h1,_⟩:=hc3.ex;refine SD Af ?_;have mc:=D1 ec;refine xwn rfl rfl h1 (fl3_no A1 A1 A1) rfl (xq1 rfl ⟨q,l,c,cell,ar,rfl,hc3,(hn.2 c mc).1,(hn.2 c mc).2,s3 _ _ hl,λH4 s4=>(xq1 rfl ?_)⟩);cases ef:c.fits cell ar with
   |true =>
    refine Cp ?_;refine xq1 rfl ?_;have e:IM r cell ar=some i:=by
     unfold IM;rw[S1];have hi:i<r.length:=(B9.mp ec).1;refine⟨hi,?_,λj hj=>?_⟩
     ·rw[(B9.mp ec).2];exact ef
     ·have:=no r[j] (List.mem_take_iff_getElem.mpr ⟨j,by omega,rfl⟩);rw[this];exact D0
    have:=k H4 (s3.trans s4);rw[e]at this;exact this
   |false =>
    refine Bo ⟨s3.trans s4,⟨_,_,rfl⟩,λd hd=>?_⟩;rw[F5,ec]at hd;rcases D9.mp hd with z|z
    ·exact no d z
    ·have:d=c:=by simpa using z
     rw[this];exact ef
  ·rintro σ H2 ⟨sm,⟨u,v,rfl⟩,no⟩;rw[B8,ln,J0]at no;have e:IM r cell ar=none:=by
    unfold IM;rw[U2];exact no
   have:=k H2 sm;rw[e]at this;exact this
inductive SpBec(a:Ad)(vs:List V)(H:Hp)(Q:VK):Prop
 |mk (p l:Addr) (z:Str) (r:AA) (cell:Int) (ar:List Int) (_:vs=[.ref p,.int cell,.ref l]) (_:CF a H p z r) (_:ROk r) (_:H l=some (.lst (ar.map V.int))) (_:∀H',Az H H'->Q (.int (Ci r cell ar)) H'):SpBec a vs H Q
def UD(a:Ad):Sp:=λvs H Q _=>SpBec a vs H Q
theorem Mc{r:AA}{cell:Int}{ar:List Int}(h:IM r cell ar=none):Ci r cell ar=cell:=by
 unfold IM at h;rw[U2]at h;unfold Ci;rw[List.find?_eq_none.mpr λc hc=>by rw[h c hc];exact D0]
theorem Mb{r:AA}{cell:Int}{ar:List Int}{i:Nat}(h:IM r cell ar=some i):∃c,r[i]?=some c/\Ci r cell ar=c.makes:=by
 unfold IM at h;rw[S1]at h;obtain⟨hi,h1,h2⟩:=h;refine⟨r[i],C8 hi,?_⟩;unfold Ci;have:r.find? (AO.fits cell ar)=some r[i]:=by
  rw[List.find?_eq_some_iff_getElem];exact⟨h1,i,hi,rfl,λj hj=>by simpa using h2 j hj⟩
 rw[this]
theorem ok_bec{f:Addr}{fd:FuncData}(F:Fun K "becomes" "becomes" Mr f fd)(T:Top K mg a)(cL:Cal P w K mg base CX0 4 "deciding" Lh (WT a)):AJ P w K mg base CX0 5 f fd Jz (UD a):=by
 refine F.ok Ob (λvs H Q E h=>?_) (λcdv A outer s H vs Q E hr h=>?_)
 ·obtain⟨p,l,z,r,cell,ar,rfl,_⟩:=h;rfl
 ·obtain⟨p,l,z,r,cell,ar,rfl,hR,hn,hl,k⟩:=h;refine⟨_,(Ac (Aq (i:=3) Ob.nd rfl (Or.inl rfl) (Ar cL (rm hr) rfl An (Aa (pv 0) (Aa (pv 1) (Aa (pv 2) Ab))))) (Ac (AQ (AB Jg (pv 3) DC (AF _)) (Ag (Aw (pv 1))) AD) (Ag (Aw (AC (Aj Am (AC (pv 0) rfl) (pv 3) (λ_ _=>rfl)) rfl))))),?_⟩
  try dsimp only[cxK]
  refine xw3 rfl rfl rfl ⟨p,l,z,r,cell,ar,rfl,hR,hn,hl,λH2 s2=>?_⟩;refine xq1 rfl ⟨rfl,(xq1 rfl ?_)⟩;cases e:IM r cell ar with
  |none =>
   refine Cp (xq1 rfl ?_);have:=k H2 s2;rw[Mc e]at this;exact this
  |some i =>
   obtain⟨c,ec,em⟩:=Mb e;obtain⟨dx,t,cs,hp,ht,hcs⟩:=hR.ex;obtain⟨q,eq⟩:∃q,cs[i]?=some q:=by
    have ln:cs.length=r.length:=Z9 hcs;have:i<cs.length:=by rw[ln];exact(B9.mp ec).1
    exact⟨_,C8 this⟩
   obtain⟨c',ec',hc⟩:=Paired.get hcs eq;rw[ec]at ec';cases ec';obtain⟨dx2,t2,cs2,h1,_⟩:=(hc.same s2).ex;refine Bo (xwf rfl rfl (s2 _ _ hp) T.cl_Rule T.na_Rule_clauses Zn (xwi rfl rfl rfl (SqT.of (s2 _ _ ht)) (Ai (by rw[C0,eq];rfl)) (xq5 h1 T.cl_Clause T.na_Clause_makes fl3_3 ?_)));have:=k H2 s2;rw[em]at this;exact this
end
def sgD(d:Int):Str:=⟨#[48+d.toNat]⟩
def wC:Option Int->Nat
 |none=>42
 |some d=>48+d.toNat
def wS(x:Option Int):Str:=⟨#[wC x]⟩
def DJ(ns:List Int):Str:=⟨(ns.map λn=>48+n.toNat).toArray⟩
def AU:AT->Str
 |.am s ns=>sgD s++⟨#[61]⟩++DJ ns
 |.pl ws=>⟨(ws.map wC).toArray⟩
def AV(c:AO):Str:=Str.join ⟨#[32]⟩ (wS c.cell::(c.conds.map AU++[sgD c.makes]))
def Ni:Str:=⟨#[59,32]⟩
def CP(r:AA):Str:=Str.join Ni (r.map AV)
def GF(d:Int):Prop:=0<=d/\d<8
def wOk:Option Int->Prop
 |none=>True
 |some d=>GF d
def AT.ok:AT->Prop
 |.am s ns=>GF s/\ns≠[]/\(∀n∈ns,0<=n/\n<=8)/\ns.Pairwise (· < ·)
 |.pl ws=>ws.length=8/\∀w∈ws,wOk w
structure AO.ok(c:AO):Prop where
 cell:wOk c.cell
 makes:GF c.makes
 few:c.conds.length<=50
 conds:∀d∈c.conds,d.ok
theorem eight{d:Int}(h:GF d):d=0\/d=1\/d=2\/d=3\/d=4\/d=5\/d=6\/d=7:=by
 obtain⟨m,rfl⟩:=F3 h.1;have h1:=h.2;exact(show ∀m:Nat,m<8->((m:Int)=0\/(m:Int)=1\/(m:Int)=2\/(m:Int)=3\/(m:Int)=4\/(m:Int)=5\/(m:Int)=6\/(m:Int)=7) by decide) m B2
abbrev figs8:Str:=Str.ofString "01234567"
abbrev figs9:Str:=Str.ofString "012345678"
theorem WH{d:Int}(h:GF d):PySem.intText? (sgD d)=some d/\(!(Builtin.Str.occurrences figs8 (sgD d) 0 figs8.length 1).isEmpty)=true:=by
 rcases eight h with rfl|rfl|rfl|rfl|rfl|rfl|rfl|rfl<;>exact⟨by decide +kernel,by decide +kernel⟩
theorem nine{d:Int}(h0:0<=d)(h1:d<=8):d=0\/d=1\/d=2\/d=3\/d=4\/d=5\/d=6\/d=7\/d=8:=by
 obtain⟨m,rfl⟩:=F3 h0;exact(show ∀m:Nat,m<9->((m:Int)=0\/(m:Int)=1\/(m:Int)=2\/(m:Int)=3\/(m:Int)=4\/(m:Int)=5\/(m:Int)=6\/(m:Int)=7\/(m:Int)=8) by decide) m B2
theorem ZC{d:Int}(h0:0<=d)(h1:d<=8):PySem.intText? (⟨#[48+d.toNat]⟩:Str)=some d/\(!(Builtin.Str.occurrences figs9 (⟨#[48+d.toNat]⟩:Str) 0 figs9.length 1).isEmpty)=true:=by
 rcases nine h0 h1 with rfl|rfl|rfl|rfl|rfl|rfl|rfl|rfl|rfl<;>exact⟨by decide +kernel,by decide +kernel⟩
theorem star_no{d:Int}(h:GF d):decide (V.str (wS (some d))=V.str (Str.ofString "*"))=false:=by
 rcases eight h with rfl|rfl|rfl|rfl|rfl|rfl|rfl|rfl<;>decide +kernel
theorem Px{x:Option Int}(h:wOk x):wC x≠61/\wC x≠32/\wC x≠59:=by
 cases x with
 |none=>exact⟨by decide,by decide,by decide⟩
 |some d =>
  have:=h.1;have:=h.2;show 48+d.toNat≠61/\48+d.toNat≠32/\48+d.toNat≠59;refine⟨?_,?_,?_⟩<;>omega
theorem Qb{d:AT}(h:d.ok):32∉(AU d).cps.toList/\59∉(AU d).cps.toList:=by
 cases d with
 |am s ns =>
  obtain⟨⟨s0,s1⟩,_,hn,_⟩:=h;have e:(AU (.am s ns)).cps.toList=(48+s.toNat)::61::ns.map λn=>48+n.toNat:=by
   show(sgD s++⟨#[61]⟩++DJ ns).cps.toList=_;rw[Tx.CC,Tx.CC];rfl
  rw[e];constructor
  ·intro z;rcases C3.mp z with z|z
   ·omega
   ·rcases C3.mp z with z|z
    ·omega
    ·obtain⟨n,hn',e⟩:=D5.mp z;have:=hn n hn';omega
  ·intro z;rcases C3.mp z with z|z
   ·omega
   ·rcases C3.mp z with z|z
    ·omega
    ·obtain⟨n,hn',e⟩:=D5.mp z;have:=hn n hn';omega
 |pl ws =>
  have e:(AU (.pl ws)).cps.toList=ws.map wC:=rfl;rw[e];constructor
  ·intro z;obtain⟨x,hx,e⟩:=D5.mp z;exact(Px (h.2 x hx)).2.1 e
  ·intro z;obtain⟨x,hx,e⟩:=D5.mp z;exact(Px (h.2 x hx)).2.2 e
theorem NN:∀(ns:List Int)(lo:Int),lo<=9->(∀n∈ns,lo<=n/\n<=8)->ns.Pairwise (· < ·)->(ns.length:Int)<=9-lo
 |[],lo,h,_,_=>by show(0:Int)<=9-lo;omega
 |n::r,lo,_,hn,hp=>by
  have h1:=hn n C7;have h2:=NN r (n+1) B2 (λm hm=>⟨by have:=(List.pairwise_cons.mp hp).1 m hm;omega,(hn m (C6 _ hm)).2⟩) (List.pairwise_cons.mp hp).2;rw[D4];omega
theorem LZ{d:AT}(h:d.ok):(AU d).length<=11:=by
 cases d with
 |am s ns =>
  obtain⟨_,_,hn,hp⟩:=h;have hl:=NN ns 0 A4 hn hp;rw[Nu.len];show(sgD s++⟨#[61]⟩++DJ ns).cps.toList.length<=11;rw[Tx.CC,Tx.CC,C4,C4];show 1+1+(ns.map λn=>48+n.toNat).length<=11;rw[B8];omega
 |pl ws =>
  rw[Nu.len];show(ws.map wC).length<=11;rw[B8,h.1];decide
section
variable{P:Program}{w:World}{K:PySem.W.Frag}{mg:Str->Option Value}{base:Heap}{a:Ad}
theorem Uu(K:PySem.W.Frag):kitOne K (.type "str") (.type "str")=some true:=by kernel_rfl
inductive SpRS(vs:List V)(H:Hp)(Q:VK):Prop
 |mk (d:Int) (_:vs=[.str (sgD d)]) (_:GF d) (_:Q (.int d) H):SpRS vs H Q
def WK:Sp:=λvs H Q _=>SpRS vs H Q
theorem ok_rs{f:Addr}{fd:FuncData}(F:Fun K "read_state" "read_state" GU f fd)(T:Top K mg a):AJ P w K mg base CX0 1 f fd DY WK:=by
 refine F.ok Pe (λvs H Q E h=>?_) (λcdv A outer s H vs Q E hr h=>?_)
 ·obtain⟨d,rfl,_⟩:=h;rfl
 ·obtain⟨d,rfl,hd,k⟩:=h;obtain⟨e1,e2⟩:=WH hd;refine⟨_,(Ac (AQ (PW.pt (On (AB JK (AR IB rfl T.b_len K4 (Aa (pv 0) Ab)) Ae (AF _)) (Mt (AB LH (pv 0) (NE rfl T.k_STATE_FIGURES) rfl)))) (Ag Bk) AD) (Ag (Aw (Ba GC rfl T.b_int K5 (Aa (pv 0) Ab))))),?_⟩
  try dsimp only[cxK]
  refine xw2 rfl rfl ⟨(by show 1<=sizeLine;decide),rfl,(xq1 rfl ?_)⟩;refine Vd rfl (xwb rfl rfl rfl (xq1 rfl ?_));rw[e2];exact Bo (xq1 rfl ⟨_,d,rfl,e1,(by show 1<=640;decide),k⟩)
inductive SpRW(vs:List V)(H:Hp)(Q:VK):Prop
 |mk (x:Option Int) (_:vs=[.str (wS x)]) (_:wOk x) (_:Q (Gy x) H):SpRW vs H Q
def spRW:Sp:=λvs H Q _=>SpRW vs H Q
theorem ok_rw{f:Addr}{fd:FuncData}(F:Fun K "read_wanted" "read_wanted" Gh f fd)(T:Top K mg a)(aO:Cal P w K mg base CX0 1 "read_state" DY WK):AJ P w K mg base CX0 2 f fd EA spRW:=by
 refine F.ok NY (λvs H Q E h=>?_) (λcdv A outer s H vs Q E hr h=>?_)
 ·obtain⟨x,rfl,_⟩:=h;rfl
 ·obtain⟨x,rfl,hx,k⟩:=h;refine⟨_,(Ac (AQ (AB Ct (pv 0) (NE rfl T.k_ANY_SIGN) (AF _)) (Ag (Aw DC)) AD) (Ag (Aw (Ar aO (rm hr) rfl An (Aa (pv 0) Ab))))),?_⟩
  try dsimp only[cxK]
  refine xq1 rfl ⟨rfl,(xq1 rfl ?_)⟩;cases x with
  |none=>exact Cp k
  |some d =>
   rw[star_no hx];exact Bo (xq1 rfl ⟨d,rfl,hx,k⟩)
inductive SpRN(vs:List V)(H:Hp)(Q:VK):Prop
 |mk (ns:List Int) (_:vs=[.str (DJ ns)]) (_:ns≠[]) (_:ns.length<=100) (_:(∀n∈ns,0<=n/\n<=8)) (_:ns.Pairwise (· < ·)) (_:∀(t:Addr)(H':Hp),Az H H'->H' t=some (.tup (ns.map V.int))->Q (.ref t) H'):SpRN vs H Q
def spRN:Sp:=λvs H Q _=>SpRN vs H Q
theorem ok_rn{f:Addr}{fd:FuncData}(F:Fun K "read_numbers" "read_numbers" Fe f fd)(T:Top K mg a):AJ P w K mg base CX0 1 f fd Fw spRN:=by
 refine F.ok EK (λvs H Q E h=>?_) (λcdv A outer s H vs Q E hr h=>?_)
 ·obtain⟨ns,rfl,_⟩:=h;rfl
 ·obtain⟨ns,rfl,hne,hl,hn,hp,k⟩:=h;have el:(DJ ns).length=ns.length:=by rw[Nu.len];show(ns.map _).length=_;rw[B8]
  have ec:(DJ ns).cps.toList=ns.map λn=>48+n.toNat:=rfl;have pos:0<ns.length:=T0.mpr hne;refine⟨_,(Ac (AQ (AB Ct (AR IB rfl T.b_len K4 (Aa (pv 0) Ab)) Ae (AF _)) (Ag Bk) AD) (Ac (Aq (i:=1) EK.nd rfl (Or.inl rfl) (BX Ab)) (Ac (Cy Z6 rfl (Yd (pv 0)) (Bn (i:=2) EK.nd rfl (Or.inl rfl)) (Ac (AQ (AB LH (pv 2) (NE rfl T.k_AMOUNT_FIGURES) rfl) (Ag Bk) AD) (Ac (AQ (PW.pt (Mu (AB Sf (AR Cf rfl T.b_len K4 (Aa (pv 1) Ab)) Ae (AF _)) (Jw (AB LI (Ba GC rfl T.b_int K5 (Aa (pv 2) Ab)) (Aj Ax (pv 1) (LE GO Ae) (λ_ _=>rfl)) (AF _))))) (Ag Bk) AD) (Ag (BG (CS Z3 Z4 Z5 BD (pv 1) (Aa (Ba GC rfl T.b_int K5 (Aa (pv 2) Ab)) Ab))))))) (Ag (Aw (Ba Ch rfl T.b_tuple K3 (Aa (pv 1) Ab))))))),?_⟩
  try dsimp only[cxK]
  refine xw2 rfl rfl ⟨(by rw[el];exact C9 hl A4),rfl,(xq1 rfl ?_)⟩;have nz:decide (V.int ((DJ ns).length:Int)=V.int 0)=false:=Y9 λz=>by
   injection z with z
   omega
  rw[nz];refine Bo ⟨(by show 0<=sizeLine;decide),λl hl0=>?_⟩;refine xw2 rfl rfl ?_;refine for_str (λi σ H2=>∃v,σ=[some (.str (DJ ns)),some (.ref l),v]/\H2=upd H l (.lst ((ns.take i).map V.int))) ⟨none,rfl,rfl⟩ ?_ ?_
  ·rintro i ch σ H2 hch ⟨v,rfl,rfl⟩;have hch':(ns.map λn=>48+n.toNat)[i]?=some ch:=by rw[<-ec];simpa using hch
   rw[C0]at hch';obtain⟨n,en,rfl⟩:=D2.mp hch';have mn:=D1 en;obtain⟨f1,f2⟩:=ZC (hn n mn).1 (hn n mn).2;have hi:i<ns.length:=(B9.mp en).1;have tl:(ns.take i).length=i:=by rw[L5];omega
   refine xwb rfl rfl rfl (xq1 rfl ?_);rw[f2];refine Bo (xq1 rfl ⟨l,(xq1 rfl ⟨.inl (SqL.of Af),(xq2 rfl rfl (xq1 rfl ?_))⟩)⟩);have nx:∃v,([some (V.str (DJ ns)),some (.ref l),some (.str ⟨#[48+n.toNat]⟩)]:St)=[some (.str (DJ ns)),some (.ref l),v]/\upd (upd H l (.lst ((ns.take i).map V.int))) l (.lst ((ns.take i).map V.int++[V.int n]))=upd H l (.lst ((ns.take (i+1)).map V.int)):=by
    refine xq1 rfl ?_;rw[FS,F5,en,C5];rfl
   have app:tDrop (tBM K "list" UK (GE 1) (CH (tCB (λxs H Q=>∃x n,xs=[.str x]/\PySem.intText? x=some n/\x.length<=640/\Q (.int n) H) (CH (GE 2) Pb)) Pb))
     {nx:=fun σ H2=>∃v,σ=[some (.str (DJ ns)),some (.ref l),v]/\H2=upd H l (.lst ((ns.take (i+1)).map V.int)),rt:=Q,bk:=λ_ _=>False,ct:=fun σ H2=>∃v,σ=[some (.str (DJ ns)),some (.ref l),v]/\H2=upd H l (.lst ((ns.take (i+1)).map V.int))}
     [some (.str (DJ ns)),some (.ref l),some (.str ⟨#[48+n.toNat]⟩)] (upd H l (.lst ((ns.take i).map V.int))) :=
    ⟨_,rfl,.inl ⟨rfl,_,SqL.of Af⟩,_,rfl,_,n,rfl,f1,(by show 1<=640;decide),l,_,_,rfl,rfl,Af,(by rw[B8,tl];exact F2 hi (C9 hl A4)),nx⟩
   by_cases i0:i=0
   ·subst i0;exact Bo app
   ·have ip:0<i:=by omega
    have lt0:decide ((0:Int)<(((ns.take i).map V.int).length:Int))=true:=Y7 (by rw[B8,tl];omega);rw[lt0];have hm:i-1<ns.length:=by omega
    have hlt:ns[i-1]<n:=by
     have:=List.pairwise_iff_getElem.mp hp (i-1) i hm hi B2;rw[(B9.mp en).2]at this;exact this
    have at1:atI ((ns.take i).map V.int) (-1)=some (V.int ns[i-1]):=by
     have:((ns.take i).map V.int)[i-1]?=some (V.int ns[i-1]):=by
      rw[C0,U5 B2,C8 hm];rfl
     have e1:((ns.take i).map V.int).length=i:=by rw[B8,tl]
     unfold atI ixN;rw[e1,Y6 A4,Y8 B2];show((ns.take i).map V.int)[((-1:Int)+(i:Nat)).toNat]?=_;rw[show((-1:Int)+(i:Nat)).toNat=i-1 by omega];exact this
    refine Cp (xq1 rfl ⟨_,n,rfl,f1,(by show 1<=640;decide),(xw2 rfl rfl ⟨l,_,(xq2 rfl rfl ⟨SqL.of Af,at1,(xq2 rfl rfl (xq1 rfl ?_))⟩)⟩)⟩);rw[Y9 (by omega:¬n<=ns[i-1])];exact Bo app
  ·rintro σ H2 ⟨v,rfl,rfl⟩;have e:(DJ ns).cps.size=ns.length:=by
    have:(DJ ns).cps.toList.length=ns.length:=by rw[ec,B8]
    simpa using this
   rw[e,J0];refine xq1 rfl ⟨l,(xq1 rfl (.inl ⟨SqL.of Af,λt ht=>?_⟩))⟩;exact k t _ ((Ao hl0).trans (Ao ht)) Af
end
section
variable{P:Program}{w:World}{K:PySem.W.Frag}{mg:Str->Option Value}{base:Heap}{a:Ad}
theorem eq_in(x:Str):(!(Builtin.Str.occurrences x (Str.ofString "=") 0 x.length 1).isEmpty)=decide (61∈x.cps.toList):=by
 have:Str.ofString "=" = (⟨#[61]⟩:Str):=by decide +kernel
 rw[this];exact StrLaws.found_one x 61
inductive Vp(a:Ad)(vs:List V)(H:Hp)(Q:VK):Prop
 |mk (d:AT) (_:vs=[.str (AU d)]) (_:d.ok) (_:∀(p:Addr)(H':Hp),Az H H'->Dq a H' p d->Q (.ref p) H'):Vp a vs H Q
def Qq(a:Ad):Sp:=λvs H Q _=>Vp a vs H Q
inductive SpRAm(a:Ad)(vs:List V)(H:Hp)(Q:VK):Prop
 |mk (s:Int) (ns:List Int) (_:vs=[.str (AU (.am s ns))]) (_:(AT.am s ns).ok) (_:∀(p:Addr)(H':Hp),Az H H'->Dq a H' p (.am s ns)->Q (.ref p) H'):SpRAm a vs H Q
def WM(a:Ad):Sp:=λvs H Q _=>SpRAm a vs H Q
theorem ok_ram{f:Addr}{fd:FuncData}(F:Fun K "read_amounts" "read_amounts" Fj f fd)(T:Top K mg a)(aO:Cal P w K mg base CX0 1 "read_state" DY WK)(bI:Cal P w K mg base CX0 1 "read_numbers" Fw spRN)
  (cO:Rw P w K mg base CX0 1 "Amounts" a.c_Amounts FG (NW a)):AJ P w K mg base CX0 3 f fd Fy (WM a):=by
 refine F.ok IH (λvs H Q E h=>?_) (λcdv A outer s H vs Q E hr h=>?_)
 ·obtain⟨s,ns,rfl,_⟩:=h;rfl
 ·obtain⟨d,ns,rfl,ho,k⟩:=h;have hlen:=LZ ho;obtain⟨hd,hne,hn,hp⟩:=ho;have hl:=NN ns 0 A4 hn hp;have e61:Str.ofString "=" = (⟨#[61]⟩:Str):=by decide +kernel
  have ep:Txt.partition (AU (.am d ns)) (Str.ofString "=")=(sgD d,⟨#[61]⟩,DJ ns):=by
   rw[e61];refine Tx.Ij 61 (sgD d) (DJ ns) ?_;intro z;have:61=48+d.toNat:=by simpa[sgD] using z
   have:=hd.2;omega
  refine⟨_,(Ac (Aq (i:=1) IH.nd rfl (Or.inl rfl) (CS K1 PySem.F.slot_str_partition PySem.F.type_str_partition QX (pv 0) (Mz Ab))) (Ag (Aw (Jx cO (rm hr) rfl An (Aa (Ar aO (rm hr) rfl An (Aa (Aj Am (pv 1) Ae (λ_ _=>rfl)) Ab)) (Aa (Ar bI (rm hr) rfl An (Aa (Aj Am (pv 1) Ae (λ_ _=>rfl)) Ab)) Ab)))))),?_⟩
  try dsimp only[cxK]
  refine xq1 rfl ⟨rfl,(xq2 rfl rfl ⟨A1,B2,λt ht=>?_⟩)⟩;rw[ep];refine xq1 rfl ⟨t,_,0,(xq1 rfl ⟨rfl,SqT.of Af,rfl,d,rfl,hd,(xq1 rfl ⟨t,_,2,(xq1 rfl ⟨rfl,SqT.of Af,rfl,ns,rfl,hne,by omega,hn,hp,λt2 H2 s2 ht2=>?_⟩)⟩)⟩)⟩;intro x dx nx ndx nex;have sx:Az H2 (upd (upd H2 dx (.own x)) x (.ins a.c_Amounts dx [])):=(Ao ndx).trans (Ao (by rw[As (Z1 nex)];exact nx));refine⟨x,t2,dx,d,rfl,Af,rfl,?_⟩;have nx2:(upd H2 dx (.own x)) x=none:=by rw[As (Z1 nex)];exact nx
  rw[FS];have sy:Az H2 (upd (upd H2 dx (.own x)) x (.ins a.c_Amounts dx (fl2 "state" "numbers" (.int d) (.ref t2)))):=(Ao ndx).trans (Ao nx2);exact k x _ (((Ao ht).trans s2).trans sy) (.am Af (sy _ _ ht2))
inductive SpRPl(a:Ad)(vs:List V)(H:Hp)(Q:VK):Prop
 |mk (ws:List (Option Int)) (_:vs=[.str (AU (.pl ws))]) (_:(AT.pl ws).ok) (_:∀(p:Addr)(H':Hp),Az H H'->Dq a H' p (.pl ws)->Q (.ref p) H'):SpRPl a vs H Q
def WL(a:Ad):Sp:=λvs H Q _=>SpRPl a vs H Q
theorem ok_rpl{f:Addr}{fd:FuncData}(F:Fun K "read_places" "read_places" Ev f fd)(T:Top K mg a)(aT:Cal P w K mg base CX0 2 "read_wanted" EA spRW)
  (cT:Rw P w K mg base CX0 1 "Places" a.c_Places Gs (NT a)):AJ P w K mg base CX0 3 f fd Go (WL a):=by
 refine F.ok NZ (λvs H Q E h=>?_) (λcdv A outer s H vs Q E hr h=>?_)
 ·obtain⟨ws,rfl,_⟩:=h;rfl
 ·obtain⟨ws,rfl,ho,k⟩:=h;have hlen:=LZ ho;obtain⟨h8,hw⟩:=ho;have el:(AU (.pl ws)).length=8:=by rw[Nu.len];show(ws.map wC).length=8;rw[B8,h8]
  have ec:(AU (.pl ws)).cps.toList=ws.map wC:=rfl;refine⟨_,(Ac (AQ (AB JK (AR IB rfl T.b_len K4 (Aa (pv 0) Ab)) (Cb rfl T.k_NEIGHBOURS) (AF _)) (Ag Bk) AD) (Ag (Aw (Jx cT (rm hr) rfl An (Aa (Ba Ch rfl T.b_tuple K3 (Aa (BW rfl (Bu.of (So:=Ah Ev) (No:=JL) (N:=["sign"]) (k:=1) (cs:=[]) rfl rfl A1) (Yd (pv 0)) (λ_ _ _=>(AW (i:=0) A1 rfl rfl)) (λ_ _ _=>BF) (λ_ _ _=>(Ar aT (rm hr) rfl An (Aa (pv 0) Ab)))) Ab)) Ab))))),?_⟩
  try dsimp only[cxK]
  refine xw2 rfl rfl ⟨C9 hlen A4,rfl,(xq1 rfl ?_)⟩;rw[el];refine Vd rfl (xw2 rfl rfl ?_);refine blk_str (λi acc H2=>H2=H/\acc=(ws.take i).map Gy) ⟨rfl,rfl⟩ ?_ ?_
  ·rintro i ch acc H2 hch ⟨rfl,rfl⟩;rw[ec,C0]at hch;obtain⟨x,ex,rfl⟩:=D2.mp hch;refine⟨⟨[some (.str ⟨#[wC x]⟩)],rfl,rfl⟩,?_,?_⟩
   ·rw[B8,L5];exact F6 (O7 _ _) (by rw[h8];decide)
   ·refine Gc (xq1 rfl ⟨x,rfl,hw x (D1 ex),rfl,?_⟩);rw[F5,ex,C5];rfl
  ·rintro acc H2 ⟨rfl,rfl⟩ q nq;rw[ec,B8,J0];refine⟨q,(xq1 rfl (.inl ⟨SqL.of Af,λt ht=>?_⟩))⟩;intro x dx nx ndx nex;have nx2:∀o,(upd (upd (upd H2 q (.lst (ws.map Gy))) t (.tup (ws.map Gy))) dx o) x=none:=λo=>by rw[As (Z1 nex)];exact nx
   refine⟨x,t,dx,rfl,Af,rfl,?_⟩;rw[FS];have s1:Az H2 (upd (upd H2 q (.lst (ws.map Gy))) t (.tup (ws.map Gy))):=(Ao nq).trans (Ao ht);have s2:Az (upd (upd H2 q (.lst (ws.map Gy))) t (.tup (ws.map Gy))) (upd (upd (upd (upd H2 q (.lst (ws.map Gy))) t (.tup (ws.map Gy))) dx (.own x)) x (.ins a.c_Places dx (fl1 "wanted" (.ref t)))):=(Ao ndx).trans (Ao (nx2 _));exact k x _ (s1.trans s2) (.pl Af (s2 _ _ Af))
theorem Yp{f:Addr}{fd:FuncData}(F:Fun K "read_condition" "read_condition" Eg f fd)(T:Top K mg a)(bJ:Cal P w K mg base CX0 3 "read_amounts" Fy (WM a))(bS:Cal P w K mg base CX0 3 "read_places" Go (WL a)) :
  AJ P w K mg base CX0 4 f fd El (Qq a):=by
 refine F.ok Lw (λvs H Q E h=>?_) (λcdv A outer s H vs Q E hr h=>?_)
 ·obtain⟨d,rfl,_⟩:=h;rfl
 ·obtain⟨d,rfl,ho,k⟩:=h;refine⟨_,(Ac (AQ (AB VL CN (pv 0) rfl) (Ag (Aw (Ar bJ (rm hr) rfl An (Aa (pv 0) Ab)))) AD) (Ag (Aw (Ar bS (rm hr) rfl An (Aa (pv 0) Ab))))),?_⟩
  try dsimp only[cxK]
  refine xwb rfl rfl rfl (xq1 rfl ?_);rw[eq_in];cases d with
  |am s ns =>
   have m:61∈(AU (.am s ns)).cps.toList:=by
    show 61∈(sgD s++⟨#[61]⟩++DJ ns).cps.toList;rw[Tx.CC,Tx.CC];simp
   rw[Y7 m];exact Cp (xq1 rfl ⟨s,ns,rfl,ho,k⟩)
  |pl ws =>
   have m:¬61∈(AU (.pl ws)).cps.toList:=λz=>by
    obtain⟨x,hx,e⟩:=D5.mp (show 61∈ws.map wC from z);exact(Px (ho.2 x hx)).1 e
   rw[Y9 m];exact Bo (xq1 rfl ⟨ws,rfl,ho,k⟩)
inductive SpRC(a:Ad)(vs:List V)(H:Hp)(Q:VK):Prop
 |mk (c:AO) (_:vs=[.str (AV c)]) (_:c.ok) (_:∀(p:Addr)(H':Hp),Az H H'->BU a H' p c->Q (.ref p) H'):SpRC a vs H Q
def spRC(a:Ad):Sp:=λvs H Q _=>SpRC a vs H Q
theorem IA{c:AO}(h:c.ok):(AV c).length<=1000:=by
 have j:=StrLaws.join_length_le ⟨#[32]⟩ (wS c.cell::(c.conds.map AU++[sgD c.makes]));have b:∀l:List AT,(∀d∈l,d.ok)->((l.map AU).map (·.length)).sum<=11*l.length:=by
  intro l;induction l with
  |nil=>intro _;exact L7 _
  |cons d r ih =>
   intro hd;have h1:=LZ (hd d C7);have h2:=ih λe he=>hd e (C6 _ he);simp only[F7,O6,D4];omega
 have b1:=b c.conds h.conds;have h50:=h.few;simp only[F7,C5,W9,O6,List.sum_append,List.sum_nil,D4,C4,R8,B8]at j;have l1:(wS c.cell).length=1:=rfl;have l2:(sgD c.makes).length=1:=rfl;have l3:(⟨#[32]⟩:Str).length=1:=rfl;rw[l1,l2,l3]at j;unfold AV;omega
theorem JE(x:Option Int)(h:wOk x):32∉(wS x).cps.toList/\59∉(wS x).cps.toList:=by
 have:=Px h;constructor
 ·intro z;have:32=wC x:=by simpa[wS] using z
  exact(Px h).2.1 this.symm
 ·intro z;have:59=wC x:=by simpa[wS] using z
  exact(Px h).2.2 this.symm
theorem Rl{c:AO}(h:c.ok):Txt.split (AV c) (Str.ofString " ")=wS c.cell::(c.conds.map AU++[sgD c.makes]):=by
 have e:Str.ofString " " = (⟨#[32]⟩:Str):=by decide +kernel
 rw[e];refine Tx.RJ 32 _ A6 λt ht=>?_;rcases C3.mp ht with rfl|ht
 ·exact(JE _ h.cell).1
 ·rcases D9.mp ht with ht|ht
  ·obtain⟨d,hd,rfl⟩:=D5.mp ht;exact(Qb (h.conds d hd)).1
  ·rw[D7.mp ht];exact(JE (some c.makes) h.makes).1
theorem cut_mid(x z:V)(ys:List V):TZ (x::(ys++[z])) (some 1) (some (-1))=ys:=by
 have n:(x::(ys++[z])).length=ys.length+2:=by simp
 unfold TZ;rw[n];have h1:HT.sIx (ys.length+2) 0 (some 1)=1:=by
  show(if(1:Int)<0 then((1:Int)+((ys.length+2:Nat):Int)).toNat else min (1:Int).toNat (ys.length+2))=1;rw[Y6 A4];show min 1 (ys.length+2)=1;omega
 have h2:HT.sIx (ys.length+2) (ys.length+2) (some (-1))=ys.length+1:=by
  show(if(-1:Int)<0 then((-1:Int)+((ys.length+2:Nat):Int)).toNat else min (-1:Int).toNat (ys.length+2))=ys.length+1;rw[Y8 A4];omega
 rw[h1,h2];show(ys++[z]).take (ys.length+1-1)=ys;rw[Nat.add_sub_cancel,List.take_left' rfl]
theorem at_last(x:V)(ys:List V)(z:V):atI (x::(ys++[z])) (-1)=some z:=by
 have n:(x::(ys++[z])).length=ys.length+2:=by simp
 unfold atI ixN;rw[n,Y6 A4,Y8 B2];show(x::(ys++[z]))[((-1:Int)+((ys.length+2:Nat):Int)).toNat]?=some z;rw[show((-1:Int)+((ys.length+2:Nat):Int)).toNat=ys.length+1 by omega,V0,J6 (C1 _),V4];rfl
theorem ok_rc{f:Addr}{fd:FuncData}(F:Fun K "read_clause" "read_clause" Ew f fd)(T:Top K mg a)(aO:Cal P w K mg base CX0 1 "read_state" DY WK)(aT:Cal P w K mg base CX0 2 "read_wanted" EA spRW)
  (b9:Cal P w K mg base CX0 4 "read_condition" El (Qq a)) (cU:Rw P w K mg base CX0 1 "Clause" a.c_Clause Gw (NV a)):AJ P w K mg base CX0 5 f fd Gp (spRC a):=by
 refine F.ok DN (λvs H Q E h=>?_) (λcdv A outer s H vs Q E hr h=>?_)
 ·obtain⟨c,rfl,_⟩:=h;rfl
 ·obtain⟨c,rfl,ho,k⟩:=h;have hlen:=IA ho;have f50:=ho.few;refine⟨_,(Ac (AQ (DX (Da (AR FN rfl T.b_isinstance X8 (Aa (pv 0) (Aa (Ih (v:=.ty "str") rfl T.b_str X9 rfl) Ab))))) (Ag Bk) AD) (Ac (Aq (i:=1) DN.nd rfl (Or.inl rfl) (CS K1 PySem.F.slot_str_split PySem.F.type_str_split Su (pv 0) (Mz Ab))) (Ac (AQ (AB GJ (AR Cf rfl T.b_len K4 (Aa (pv 1) Ab)) Ae (AF _)) (Ag Bk) AD) (Ac (Aq (i:=2) DN.nd rfl (Or.inl rfl) (Ar aT (rm hr) rfl An (Aa (Aj Ax (pv 1) Ae (λ_ _=>rfl)) Ab))) (Ac (Aq (i:=3) DN.nd rfl (Or.inl rfl) (Ba Ch rfl T.b_tuple K3 (Aa (BW rfl (Bu.of (So:=Ah Ew) (No:=JM) (N:=["word"]) (k:=1) (cs:=[]) rfl rfl A1) (BV (Sd UE (pv 1) (QF Ae) (QF (LE GO Ae)))) (λ_ _ _=>(AW (i:=0) A1 rfl rfl)) (λ_ _ _=>BF) (λ_ _ _=>(Ar b9 (rm hr) rfl An (Aa (pv 0) Ab)))) Ab))) (Ag (Aw (Jx cU (rm hr) rfl An (Aa (pv 2) (Aa (pv 3) (Aa (Ar aO (rm hr) rfl An (Aa (Aj Ax (pv 1) (LE GO Ae) (λ_ _=>rfl)) Ab)) Ab))))))))))),?_⟩
  try dsimp only[cxK]
  refine xq1 rfl ⟨_,_,_,.type "str",true,rfl,rfl,.of (.str _),Uu K,true,rfl,?_⟩;refine Bo (xq1 rfl ⟨rfl,(xq2 rfl rfl ⟨A1,B2,λl hl=>?_⟩)⟩);rw[Rl ho];have eW:((wS c.cell::(c.conds.map AU++[sgD c.makes])).map V.str)=V.str (wS c.cell)::((c.conds.map λd=>V.str (AU d))++[V.str (sgD c.makes)]):=by
   rw[F7,C5,M0];rfl
  rw[eW];have hL:∀o,upd H l o l=some o:=λo=>Af;refine xq1 rfl ⟨l,(xq1 rfl ⟨.inl (SqL.of Af),(xq2 rfl rfl (xq1 rfl ?_))⟩)⟩;rw[Y9 (by simp;omega:¬((((V.str (wS c.cell)::((c.conds.map λd=>V.str (AU d))++[V.str (sgD c.makes)])).length:Nat):Int)<2))];refine Bo (xwi rfl rfl rfl (SqL.of Af) (Ai (j:=0) rfl) ⟨c.cell,rfl,ho.cell,?_⟩);refine xw3 rfl rfl rfl (xq1 rfl ⟨l,(xq1 rfl ⟨SqL.of Af,λq hq=>⟨q,rfl,⟨_,SqL.of Af⟩,?_⟩⟩)⟩);rw[cut_mid];have s0:Az H (upd (upd H l (.lst (V.str (wS c.cell)::((c.conds.map λd=>V.str (AU d))++[V.str (sgD c.makes)])))) q (.lst (c.conds.map λd=>V.str (AU d)))):=(Ao hl).trans (Ao hq);have nlq:l≠q:=λz=>by rw[<-z,Af]at hq;cases hq
  generalize hH1:upd (upd H l (.lst (V.str (wS c.cell)::((c.conds.map λd=>V.str (AU d))++[V.str (sgD c.makes)])))) q (.lst (c.conds.map λd=>V.str (AU d)))=H1;rw[hH1]at s0;have hq1:H1 q=some (.lst (c.conds.map λd=>V.str (AU d))):=by rw[<-hH1];exact Af
  have hl1:H1 l=some (.lst (V.str (wS c.cell)::((c.conds.map λd=>V.str (AU d))++[V.str (sgD c.makes)]))):=by rw[<-hH1,As nlq];exact Af
  refine De (xs:=c.conds.map λd=>V.str (AU d)) (λi acc H2=>∃ps:List Addr,acc=ps.map V.ref/\Az H1 H2/\Paired (Dq a H2) ps (c.conds.take i)) ⟨[],rfl,Az.refl H1,.nil⟩ (λi acc H2 _ ⟨ps,_,sm,_⟩=>SqL.of (sm _ _ hq1)) ?_ ?_
  ·rintro i x acc H2 hx ⟨ps,rfl,sm,pr⟩;rw[C0]at hx;obtain⟨d,ed,rfl⟩:=D2.mp hx;refine⟨⟨[some (.str (AU d))],rfl,rfl⟩,?_,?_⟩
   ·have e1:=Z9 pr;rw[L5]at e1;rw[B8,e1];exact F6 (O7 _ _) (F6 f50 A4)
   ·refine Gc (xq1 rfl ⟨d,rfl,ho.conds d (D1 ed),λp H3 s3 hp=>⟨ps++[p],by rw[C5];rfl,sm.trans s3,?_⟩⟩);rw[F5,ed];exact A0b (Paired.imp (λ_ _ z=>z.same s3) pr) hp
  ·rintro acc H2 ⟨ps,rfl,sm,pr⟩ r nr;rw[B8,J0]at pr;refine⟨r,(xq1 rfl (.inl ⟨SqL.of Af,λt ht=>?_⟩))⟩;have s3:Az H1 (upd (upd H2 r (.lst (ps.map V.ref))) t (.tup (ps.map V.ref))):=(sm.trans (Ao nr)).trans (Ao ht);generalize hH3:upd (upd H2 r (.lst (ps.map V.ref))) t (.tup (ps.map V.ref))=H3;have ht3:H3 t=some (.tup (ps.map V.ref)):=by rw[<-hH3];exact Af
   have s23:Az H2 H3:=by rw[<-hH3];exact(Ao nr).trans (Ao ht)
   rw[hH3]at s3;refine xw3 rfl rfl rfl (xq1 rfl ⟨l,_,(xq2 rfl rfl ⟨SqL.of (s3 _ _ hl1),at_last _ _ _,c.makes,rfl,ho.makes,?_⟩)⟩);intro x dx nx ndx nex;have nx2:∀o,(upd H3 dx o) x=none:=λo=>by rw[As (Z1 nex)];exact nx
   refine⟨x,t,dx,c.cell,c.makes,rfl,Af,rfl,?_⟩;rw[FS];have s4:Az H3 (upd (upd H3 dx (.own x)) x (.ins a.c_Clause dx (fl3 "cell" "conditions" "makes" (Gy c.cell) (.ref t) (.int c.makes)))):=(Ao ndx).trans (Ao (nx2 _));exact k x _ ((s0.trans s3).trans s4) ⟨dx,t,ps,Af,s4 _ _ ht3,Paired.imp (λ_ _ z=>(z.same s23).same s4) pr⟩
theorem SK{c:AO}(h:c.ok):59∉(AV c).cps.toList:=by
 intro z;unfold AV at z;rw[PyProof.Rows.mem_join]at z;rcases z with ⟨t,ht,z⟩|⟨_,z⟩
 ·rcases C3.mp ht with rfl|ht
  ·exact(JE _ h.cell).2 z
  ·rcases D9.mp ht with ht|ht
   ·obtain⟨d,hd,rfl⟩:=D5.mp ht;exact(Qb (h.conds d hd)).2 z
   ·rw[D7.mp ht]at z;exact(JE (some c.makes) h.makes).2 z
 ·have:59=32:=by simpa using z
  omega
end
structure FR(r:AA):Prop where
 few:r.length<=50
 ok:∀c∈r,c.ok
theorem FR.rok{r:AA}(h:FR r):ROk r:=⟨C9 h.few A4,λc hc=>⟨C9 (h.ok c hc).few A4,λd hd ws e=>by
 subst e;rw[((h.ok c hc).conds _ hd).1];decide⟩⟩
theorem RU{r:AA}(h:FR r):(CP r).length<=60000:=by
 have j:=StrLaws.join_length_le Ni (r.map AV);have b:∀l:List AO,(∀c∈l,c.ok)->((l.map AV).map (·.length)).sum<=1000*l.length:=by
  intro l;induction l with
  |nil=>intro _;exact L7 _
  |cons d r ih =>
   intro hd;have h1:=IA (hd d C7);have h2:=ih λe he=>hd e (C6 _ he);simp only[F7,O6,D4];omega
 have b1:=b r h.ok;have h50:=h.few;have l3:Ni.length=2:=rfl;rw[l3,B8]at j;unfold CP;omega
theorem rule_ne{r:AA}(h:r≠[]):decide (V.str (CP r)=V.str (Str.ofString ""))=false:=by
 refine Y9 λz=>?_;injection z with z
 obtain⟨c,hc⟩:=List.exists_mem_of_ne_nil r h;have h1:=PySem.join_mem_le Ni (r.map AV) (AV c) (D5.mpr ⟨c,hc,rfl⟩);have h2:=PySem.join_mem_le ⟨#[32]⟩ (wS c.cell::(c.conds.map AU++[sgD c.makes])) (wS c.cell) C7;have h3:(wS c.cell).length=1:=rfl;have h4:(CP r).length=0:=by rw[z];decide +kernel
 unfold CP at h4;have h5:(AV c).length=(Str.join ⟨#[32]⟩ (wS c.cell::(c.conds.map AU++[sgD c.makes]))).length:=rfl;omega
theorem Dq.put{a:Ad}{H:Hp}{p q:Addr}{o u:HO}{c:AT}(h:Dq a H q c)(hp:H p=some u)(n:∀C d fs,u=HO.ins C d fs->fs.lookup ("state" : Str)=none/\fs.lookup ("wanted" : Str)=none/\fs.lookup ("makes" : Str)=none)(nt:∀xs,u≠.tup xs):Dq a (upd H p o) q c:=by
 have other:∀{b v},H b=some v->v≠u->upd H p o b=some v:=λ{b v} e d=>by rw[As (AE e hp d)];exact e
 cases h with
 |am h ht =>
  refine .am (other h λz=>?_) (other ht λz=>nt _ z.symm);have:=(n _ _ _ z.symm).1;rw[Zo A1]at this;cases this
 |pl h ht =>
  refine .pl (other h λz=>?_) (other ht λz=>nt _ z.symm);have:=(n _ _ _ z.symm).2.1;rw[fl1_1]at this;cases this
theorem BU.put{a:Ad}{H:Hp}{p q:Addr}{o u:HO}{c:AO}(h:BU a H q c)(hp:H p=some u)(n:∀C d fs,u=HO.ins C d fs->fs.lookup ("state" : Str)=none/\fs.lookup ("wanted" : Str)=none/\fs.lookup ("makes" : Str)=none)(nt:∀xs,u≠.tup xs):BU a (upd H p o) q c:=by
 have other:∀{b v},H b=some v->v≠u->upd H p o b=some v:=λ{b v} e d=>by rw[As (AE e hp d)];exact e
 obtain⟨dx,t,cs,h1,h2,h3⟩:=h.ex;refine⟨dx,t,cs,other h1 λz=>?_,other h2 λz=>nt _ z.symm,Paired.imp (λ_ _ z=>z.put hp n nt) h3⟩;have:=(n _ _ _ z.symm).2.2;rw[fl3_3]at this;cases this
section
variable{P:Program}{w:World}{K:PySem.W.Frag}{mg:Str->Option Value}{base:Heap}{a:Ad}
inductive SpCT(vs:List V)(H:Hp)(Q:VK):Prop
 |mk (r:AA) (_:vs=[.str (CP r)]) (_:FR r) (_:∀(l:Addr)(H':Hp),Az H H'->H' l=some (.lst (r.map λc=>V.str (AV c)))->Q (.ref l) H'):SpCT vs H Q
def spCT:Sp:=λvs H Q _=>SpCT vs H Q
theorem ok_ct{f:Addr}{fd:FuncData}(F:Fun K "clause_texts" "clause_texts" Fk f fd)(T:Top K mg a):AJ P w K mg base CX0 1 f fd FA spCT:=by
 refine F.ok Nk (λvs H Q E h=>?_) (λcdv A outer s H vs Q E hr h=>?_)
 ·obtain⟨r,rfl,_⟩:=h;rfl
 ·obtain⟨r,rfl,ho,k⟩:=h;have hlen:=RU ho;refine⟨_,(Ac (AQ (AB Ct (pv 0) CN (AF _)) (Ag (Aw (BX Ab))) AD) (Ag (Aw (CS K1 PySem.F.slot_str_split PySem.F.type_str_split Su (pv 0) (Aa (NE rfl T.k_CLAUSE_MARK) Ab))))),?_⟩
  try dsimp only[cxK]
  refine xq1 rfl ⟨rfl,(xq1 rfl ?_)⟩;by_cases hr0:r=[]
  ·subst hr0;refine Cp ⟨(by show 0<=sizeLine;decide),λl hl=>?_⟩;exact k l _ (Ao hl) Af
  ·rw[rule_ne hr0];refine Bo (xq1 rfl ⟨rfl,(xq2 rfl rfl ⟨A1,B2,λl hl=>?_⟩)⟩);have em:Str.ofString "; " = (⟨#[59,32]⟩:Str):=by decide +kernel
   have e:Txt.split (CP r) (Str.ofString "; ")=r.map AV:=by
    rw[em];refine Tx.RI _ (by simpa using hr0) λt ht=>?_;obtain⟨c,hc,rfl⟩:=D5.mp ht;exact SK (ho.ok c hc)
   rw[e,M0];exact k l _ (Ao hl) Af
inductive SpRI(a:Ad)(vs:List V)(H:Hp)(Q:VK):Prop
 |mk (p dx:Addr) (r:AA) (_:vs=[.ref p,.str (CP r)]) (_:H p=some (.ins a.c_Rule dx [])) (_:FR r) (_:∀H',(∀b o,H b=some o->b≠p->H' b=some o)->CF a H' p (CP r) r->Q .non H'):SpRI a vs H Q
def spRI(a:Ad):Sp:=λvs H Q _=>SpRI a vs H Q
theorem ok_ri{f:Addr}{fd:FuncData}(F:Fun K "__init__" "Rule.__init__" FX f fd)(T:Top K mg a)(bL:Cal P w K mg base CX0 1 "clause_texts" FA spCT)(bT:Cal P w K mg base CX0 5 "read_clause" Gp (spRC a)) :
  AJ P w K mg base CX0 6 f fd Jf (spRI a):=by
 refine F.ok QC (λvs H Q E h=>?_) (λcdv A outer s H vs Q E hr h=>?_)
 ·obtain⟨p,dx,r,rfl,_⟩:=h;rfl
 ·obtain⟨p,dx,r,rfl,hp,ho,k⟩:=h;have hlen:=RU ho;have f50:=ho.few;refine⟨_,(Ac (Cz (pv 0) (pv 1) rfl) (Ag (Cz (pv 0) (Ba Ch rfl T.b_tuple K3 (Aa (BW rfl (Bu.of (So:=Ah FX) (No:=Nh) (N:=["part"]) (k:=1) (cs:=[]) rfl rfl A1) (BV (Ar bL (rm hr) rfl An (Aa (pv 1) Ab))) (λ_ _ _=>(AW (i:=0) A1 rfl rfl)) (λ_ _ _=>BF) (λ_ _ _=>(Ar bT (rm hr) rfl An (Aa (pv 0) Ab)))) Ab)) rfl))),?_⟩
  try dsimp only[cxK]
  refine xw2 rfl rfl ⟨p,_,dx,[],rfl,hp,T.cl_Rule,T.na_Rule_text,B3,?_⟩;generalize hH1:upd H p (.ins a.c_Rule dx (AS "text" (.str (CP r)) []))=H1;have hp1:H1 p=some (.ins a.c_Rule dx (AS "text" (.str (CP r)) [])):=by rw[<-hH1];exact Af
  have k1:∀b o,H b=some o->b≠p->H1 b=some o:=λb o e n=>by rw[<-hH1,As n];exact e
  refine xq1 rfl ⟨r,rfl,ho,λl H2 s2 hl=>⟨l,rfl,⟨_,SqL.of hl⟩,?_⟩⟩;refine De (xs:=r.map λc=>V.str (AV c)) (λi acc H3=>∃ps:List Addr,acc=ps.map V.ref/\Az H2 H3/\Paired (BU a H3) ps (r.take i)) ⟨[],rfl,Az.refl H2,.nil⟩ (λi acc H3 _ ⟨ps,_,sm,_⟩=>SqL.of (sm _ _ hl)) ?_ ?_
  ·rintro i x acc H3 hx ⟨ps,rfl,sm,pr⟩;rw[C0]at hx;obtain⟨c,ec,rfl⟩:=D2.mp hx;refine⟨⟨[some (.str (AV c))],rfl,rfl⟩,?_,?_⟩
   ·have e1:=Z9 pr;rw[L5]at e1;rw[B8,e1];exact F6 (O7 _ _) (F6 f50 A4)
   ·refine Gc (xq1 rfl ⟨c,rfl,ho.ok c (D1 ec),λq H4 s4 hq=>⟨ps++[q],by rw[C5];rfl,sm.trans s4,?_⟩⟩);rw[F5,ec];exact A0b (Paired.imp (λ_ _ z=>z.same s4) pr) hq
  ·rintro acc H3 ⟨ps,rfl,sm,pr⟩ q nq;rw[B8,J0]at pr;refine⟨q,(xq1 rfl (.inl ⟨SqL.of Af,λt ht=>?_⟩))⟩;generalize hH4:upd (upd H3 q (.lst (ps.map V.ref))) t (.tup (ps.map V.ref))=H4;have s34:Az H3 H4:=by rw[<-hH4];exact(Ao nq).trans (Ao ht)
   have ht4:H4 t=some (.tup (ps.map V.ref)):=by rw[<-hH4];exact Af
   have s14:Az H1 H4:=(s2.trans sm).trans s34;have ntp:t≠p:=λz=>by rw[z,s14 _ _ hp1]at ht4;cases ht4
   refine xq1 rfl ⟨p,_,dx,(xq1 rfl ⟨s14 _ _ hp1,T.cl_Rule,T.na_Rule_clauses,B5,?_⟩)⟩;have up:∀b o,H4 b=some o->b≠p->upd H4 p (.ins a.c_Rule dx (fl2 "text" "clauses" (.str (CP r)) (.ref t))) b=some o:=λb o e n=>by rw[As n];exact e
   have cl:∀q' c,BU a H4 q' c->BU a (upd H4 p (.ins a.c_Rule dx (fl2 "text" "clauses" (.str (CP r)) (.ref t)))) q' c:=λq' c hc=>by
    exact hc.put (s14 _ _ hp1) (λC d fs e=>by
     cases e;exact⟨Rh A1,Rh A1,Rh A1⟩) (λxs z=>by cases z)
   exact k _ (λb o e n=>up _ _ (s14 _ _ (k1 b o e n)) n) ⟨dx,t,ps,Af,up _ _ ht4 ntp,Paired.imp (λq' c z=>cl q' c (z.same s34)) pr⟩
def BC:List Int:=[0,0,0,0,0,0,0,0]
inductive SpRR(a:Ad)(vs:List V)(H:Hp)(Q:VK):Prop
 |mk (r:AA) (_:vs=[.str (CP r)]) (_:FR r) (_:Ci r 0 BC=0) (_:∀(p:Addr)(H':Hp),Az H H'->CF a H' p (CP r) r->Q (.ref p) H'):SpRR a vs H Q
def spRR(a:Ad):Sp:=λvs H Q _=>SpRR a vs H Q
theorem ok_rr{f:Addr}{fd:FuncData}(F:Fun K "read_rule" "read_rule" IR f fd)(T:Top K mg a)(dB:Rw P w K mg base CX0 6 "Rule" a.c_Rule Jf (spRI a))(bE:Cal P w K mg base CX0 5 "becomes" Jz (UD a)) :
  AJ P w K mg base CX0 8 f fd IW (spRR a):=by
 refine F.ok Lu (λvs H Q E h=>?_) (λcdv A outer s H vs Q E hr h=>?_)
 ·obtain⟨r,rfl,_⟩:=h;rfl
 ·obtain⟨r,rfl,ho,hz,k⟩:=h;refine⟨_,(Ac (AQ (DX (Da (AR FN rfl T.b_isinstance X8 (Aa (pv 0) (Aa (Ih (v:=.ty "str") rfl T.b_str X9 rfl) Ab))))) (Ag Bk) AD) (Ac (Aq (i:=1) Lu.nd rfl (Or.inl rfl) (Jx dB (rm hr) rfl An (Aa (pv 0) Ab))) (Ac (AQ (AB JK (Ar bE (rm hr) rfl An (Aa (pv 1) (AK (AZ op_rep (BX (AK Ab)) (Cb rfl T.k_NEIGHBOURS) Ab)))) Ae (AF _)) (Ag Bk) AD) (Ag (Aw (pv 1)))))),?_⟩
  try dsimp only[cxK]
  refine xq1 rfl ⟨_,_,_,.type "str",true,rfl,rfl,.of (.str _),Uu K,true,rfl,?_⟩;refine Bo (xq1 rfl ?_);intro x dx nx ndx nex;refine⟨x,dx,r,rfl,Af,ho,λH2 kp hR=>⟨rfl,?_⟩⟩;have s2:Az H H2:=λb o e=>kp b o (by rw[As (Av e nx),As (Av e ndx)];exact e) (Av e nx);refine xq1 rfl ⟨(by show 1<=sizeLine;decide),λl hl=>?_⟩;refine⟨l,8,(xq1 rfl ⟨rfl,Af,A4,A4,A4,λm hm=>?_⟩)⟩;have s3:=(s2.trans (Ao (o:=.lst [.int 0]) hl)).trans (Ao (o:=.lst (BC.map V.int)) hm);have s23:=(Ao (o:=.lst [.int 0]) hl).trans (Ao (o:=.lst (BC.map V.int)) hm);refine⟨x,m,_,r,0,BC,rfl,hR.same s23,ho.rok,Af,λH4 s4=>?_⟩;refine⟨rfl,(xq1 rfl ?_)⟩;rw[hz];refine Vd rfl (xq1 rfl ?_);exact k x H4 (s3.trans s4) ((hR.same s23).same s4)
end
end J
namespace J
open PySem L2
structure Sq where
 parts:List Int
 lev:Int
abbrev Gv:=List Sq
structure GA where
 p:Addr
 dx:Addr
 lv:Addr
 pt:Addr
 nm:Addr
 br:Addr
 am:Addr
 bx:Addr
def fl6(g:GA):List (Str×V):=AS "boxes" (.ref g.bx) (AS "amounts" (.ref g.am) (AS "bares" (.ref g.br) (AS "numbers" (.ref g.nm) (AS "parts" (.ref g.pt) (AS "levels" (.ref g.lv) [])))))
theorem FM(g:GA):(fl6 g).lookup ("levels" : Str)=some (V.ref g.lv):=by
 unfold fl6;rw[Ak,Y6 A1,Ak,Y6 A1,Ak,Y6 A1,Ak,Y6 A1,Ak,Y6 A1,Ak,Y8 rfl]
theorem CB(g:GA):(fl6 g).lookup ("parts" : Str)=some (V.ref g.pt):=by
 unfold fl6;rw[Ak,Y6 A1,Ak,Y6 A1,Ak,Y6 A1,Ak,Y6 A1,Ak,Y8 rfl]
theorem Zl(g:GA):(fl6 g).lookup ("numbers" : Str)=some (V.ref g.nm):=by
 unfold fl6;rw[Ak,Y6 A1,Ak,Y6 A1,Ak,Y6 A1,Ak,Y8 rfl]
theorem Jp(g:GA):(fl6 g).lookup ("bares" : Str)=some (V.ref g.br):=by
 unfold fl6;rw[Ak,Y6 A1,Ak,Y6 A1,Ak,Y8 rfl]
theorem fl6_am(g:GA):(fl6 g).lookup ("amounts" : Str)=some (V.ref g.am):=by
 unfold fl6;rw[Ak,Y6 A1,Ak,Y8 rfl]
theorem Zm(g:GA):(fl6 g).lookup ("boxes" : Str)=some (V.ref g.bx):=by
 unfold fl6;rw[Ak,Y8 rfl]
theorem Iy(g:GA){m:Str}(h1:¬m=("boxes" : Str))(h2:¬m=("amounts" : Str))(h3:¬m=("bares" : Str))(h4:¬m=("numbers" : Str))(h5:¬m=("parts" : Str))(h6:¬m=("levels" : Str)):(fl6 g).lookup m=none:=by
 unfold fl6;rw[Ak,Y6 h1,Ak,Y6 h2,Ak,Y6 h3,Ak,Y6 h4,Ak,Y6 h5,Ak,Y6 h6];rfl
theorem QK(g:GA):(fl6 g).lookup ("kept" : Str)=none:=Iy g A1 A1 A1 A1 A1 A1
theorem BQ(g:GA):(fl6 g).lookup ("linked" : Str)=none:=Iy g A1 A1 A1 A1 A1 A1
theorem Sj(g:GA):(fl6 g).lookup ("check_square" : Str)=none:=Iy g A1 A1 A1 A1 A1 A1
theorem UQ(g:GA):(fl6 g).lookup ("leaf" : Str)=none:=Iy g A1 A1 A1 A1 A1 A1
theorem Et(g:GA):(fl6 g).lookup ("level_of" : Str)=none:=Iy g A1 A1 A1 A1 A1 A1
theorem Tv(g:GA):(fl6 g).lookup ("state_of" : Str)=none:=Iy g A1 A1 A1 A1 A1 A1
def kOf(ps:List Int):List Key:=ps.map Sum.inl
theorem YW(ps:List Int):(kOf ps).map kV=ps.map V.int:=by unfold kOf;rw[M0];rfl
theorem LQ:∀{ps qs:List Int},kOf ps=kOf qs->ps=qs
 |[],[],_=>rfl
 |[],_::_,h=>by cases h
 |_::_,[],h=>by cases h
 |x::r,y::t,h=>by
  have h:Sum.inl x::kOf r=(Sum.inl y:Key)::kOf t:=h;injection h with h1 h2
  injection h1 with h1
  rw[h1,LQ h2]
def Jo:Nat->Gv->List (List Key×V)
 |_,[]=>[]
 |n,q::r=>(kOf q.parts,.int (n:Int))::Jo (n+1) r
theorem SA:∀(G:Gv)(n:Nat),(Jo n G).length=G.length
 |[],_=>rfl
 |q::r,n=>by show(Jo (n+1) r).length+1=r.length+1;rw[SA r]
theorem PN(q:Sq):∀(G:Gv)(n:Nat),Jo n (G++[q])=Jo n G++[(kOf q.parts,.int ((n+G.length:Nat):Int))]
 |[],_=>rfl
 |p::r,n=>by
  show(kOf p.parts,V.int (n:Int))::Jo (n+1) (r++[q])=_;rw[PN q r (n+1)];show _=(kOf p.parts,V.int (n:Int))::(Jo (n+1) r++[(kOf q.parts,V.int ((n+(r.length+1):Nat):Int))]);rw[show n+1+r.length=n+(r.length+1) by lia]
theorem Ra(ps:List Int):∀(G:Gv)(n:Nat),(∃(i:Nat)(q:Sq),G[i]?=some q/\q.parts=ps/\BM (Jo n G) (kOf ps)=some (.int ((n+i:Nat):Int)))\/(BM (Jo n G) (kOf ps)=none/\∀q∈G,q.parts≠ps)
 |[],n=>.inr ⟨rfl,λq hq=>by simp at hq⟩
 |p::r,n=>by
  by_cases e:p.parts=ps
  ·exact .inl ⟨0,p,rfl,e,BO (by rw[e])⟩
  ·have ne:¬(kOf p.parts,V.int (n:Int)).1=kOf ps:=λz=>e (LQ z);rcases Ra ps r (n+1)with ⟨i,q,h1,h2,h3⟩|⟨h1,h2⟩
   ·refine .inl ⟨i+1,q,h1,h2,?_⟩;show BM ((kOf p.parts,V.int (n:Int))::Jo (n+1) r) (kOf ps)=_;rw[BB ne,h3,show n+1+i=n+(i+1) by lia]
   ·refine .inr ⟨?_,λq hq=>?_⟩
    ·show BM ((kOf p.parts,V.int (n:Int))::Jo (n+1) r) (kOf ps)=_;rw[BB ne,h1]
    ·rcases C3.mp hq with rfl|hq
     ·exact e
     ·exact h2 q hq
def TupAt(H:Hp)(t:Addr)(q:Sq):Prop:=H t=some (.tup (q.parts.map V.int))
structure AI(a:Ad)(H:Hp)(g:GA)(G:Gv):Prop where
 hp:H g.p=some (.ins a.c_Grove g.dx (fl6 g))
 lv:H g.lv=some (.lst (G.map λq=>.int q.lev))
 pt:∃ts:List Addr,H g.pt=some (.lst (ts.map V.ref))/\Paired (TupAt H) ts G
 nm:H g.nm=some (.dT (Jo 0 G))
 ne:g.lv≠g.pt
def Fr(g:GA)(H H':Hp):Prop:=∀b o,H b=some o->b≠g.lv->b≠g.pt->b≠g.nm->H' b=some o
theorem Fr.refl(g:GA)(H:Hp):Fr g H H:=λ_ _ e _ _ _=>e
theorem Fr.trans{g:GA}{H1 H2 H3:Hp}(h:Fr g H1 H2)(h2:Fr g H2 H3):Fr g H1 H3:=λb o e n1 n2 n3=>h2 b o (h b o e n1 n2 n3) n1 n2 n3
theorem Az.fr{g:GA}{H1 H2:Hp}(h:Az H1 H2):Fr g H1 H2:=λb o e _ _ _=>h b o e
theorem PairedM.imp{α β:Type}{F G:α->β->Prop}(h:∀x y,F x y->G x y):∀{l:List α}{m:List β},Paired F l m->Paired G l m
 |_,_,.nil=>.nil
 |_,_,.cons r t=>.cons (h _ _ r) (PairedM.imp h t)
theorem PairedM.get{α β:Type}{F:α->β->Prop}:∀{l:List α}{m:List β}{i:Nat}{y:β},Paired F l m->m[i]?=some y->∃x,l[i]?=some x/\F x y
 |_,_,_,_,.nil,e=>by simp at e
 |_,_,0,_,.cons r _,e=>by simp at e;subst e;exact⟨_,rfl,r⟩
 |_,_,i+1,y,.cons _ t,e=>by
  obtain⟨x,h1,h2⟩:=PairedM.get (i:=i) (y:=y) t (by simpa using e);exact⟨x,by simpa using h1,h2⟩
theorem AN{H:Hp}{p:Addr}{o:HO}(h:H p=none):Az H (upd H p o):=λb u e=>by
 rw[As (Av e h)];exact e
theorem AI.same{a:Ad}{H H':Hp}{g:GA}{G:Gv}(s:Az H H')(h:AI a H g G):AI a H' g G:=by
 obtain⟨h1,h2,⟨ts,h3,h4⟩,h5,h6⟩:=h;exact⟨s _ _ h1,s _ _ h2,⟨ts,s _ _ h3,PairedM.imp (λt q z=>s _ _ z) h4⟩,s _ _ h5,h6⟩
theorem AI.put{a:Ad}{H:Hp}{g:GA}{G:Gv}{l:Addr}{xs:List V}{o:HO}(hl:H l=some (.lst xs))(n1:l≠g.lv)(n2:l≠g.pt)(h:AI a H g G):AI a (upd H l o) g G:=by
 obtain⟨h1,h2,⟨ts,h3,h4⟩,h5,h6⟩:=h;have other:∀{b v},H b=some v->v≠.lst xs->upd H l o b=some v:=λ{b v} e n=>by rw[As (AE e hl n)];exact e
 exact⟨other h1 A3,by rw[As (Z1 n1)];exact h2,⟨ts,by rw[As (Z1 n2)];exact h3,PairedM.imp (λt q z=>other z A3) h4⟩,other h5 A3,h6⟩
def Al(G:Gv)(x:Nat)(l:Int):Prop:=∃q,G[x]?=some q/\q.lev=l
structure GOk(G:Gv):Prop where
 leaf:∀s:Nat,s<8->G[s]?=some ⟨[(s:Int)],0⟩
 node:∀(i:Nat) q,G[i]?=some q->8<=i->∃x y z w:Nat,q.parts=[(x:Int),(y:Int),(z:Int),(w:Int)]/\(Al G x (q.lev-1)/\Al G y (q.lev-1)/\Al G z (q.lev-1)/\Al G w (q.lev-1))/\1<=q.lev/\q.lev<=48
 nd:(G.map Sq.parts).Nodup
theorem Al.lt{G:Gv}{x:Nat}{l:Int}(h:Al G x l):x<G.length:=by
 obtain⟨q,h,_⟩:=h;exact(B9.mp h).1
theorem LT{G r:Gv}{x:Nat}{q:Sq}(h:G[x]?=some q):(G++r)[x]?=some q:=by
 rw[M4 (B9.mp h).1];exact h
theorem Al.app{G r:Gv}{x:Nat}{l:Int}(h:Al G x l):Al (G++r) x l:=by
 obtain⟨q,h,e⟩:=h;exact⟨q,LT h,e⟩
theorem GOk.lev{G:Gv}(h:GOk G){i:Nat}{q:Sq}(e:G[i]?=some q):0<=q.lev/\q.lev<=48:=by
 by_cases h8:i<8
 ·rw[h.leaf i h8]at e;cases e;exact⟨Q0 0,by show(0:Int)<=48;decide⟩
 ·obtain⟨x,y,z,w,_,_,h1,h2⟩:=h.node i q e A0;exact⟨by lia,h2⟩
theorem GOk.snoc{G:Gv}(h:GOk G){x y z w:Nat}{l:Int}(hx:Al G x l)(hy:Al G y l)(hz:Al G z l)(hw:Al G w l)(h47:l<=47)(new:∀q∈G,q.parts≠[(x:Int),(y:Int),(z:Int),(w:Int)]):GOk (G++[⟨[(x:Int),(y:Int),(z:Int),(w:Int)],l+1⟩]) where
 leaf:=λs hs=>LT (h.leaf s hs)
 node:=λi q e hi=>by
  by_cases hl:i<G.length
  ·rw[M4 hl]at e;obtain⟨x,y,z,w,h1,⟨a1,a2,a3,a4⟩,h3⟩:=h.node i q e hi;exact⟨x,y,z,w,h1,⟨a1.app,a2.app,a3.app,a4.app⟩,h3⟩
  ·rw[J6 A0]at e;have:i-G.length=0:=by
    by_cases z:i-G.length=0
    ·exact z
    ·rw[Q9 (by rw[Q8];lia)]at e;cases e
   rw[this]at e;cases e;obtain⟨q0,e0,l0⟩:=hx;have:=(h.lev e0).1;have el:l+1-1=l:=by lia
   refine⟨x,y,z,w,rfl,?_,?_,?_⟩
   ·show Al _ x (l+1-1)/\Al _ y (l+1-1)/\Al _ z (l+1-1)/\Al _ w (l+1-1);rw[el];exact⟨Al.app ⟨q0,e0,l0⟩,hy.app,hz.app,hw.app⟩
   ·show 1<=l+1;lia
   ·show l+1<=48;lia
 nd:=by
  rw[C5,P4];refine⟨h.nd,by simp,λp hp p' hp'=>?_⟩;obtain⟨q,hq,rfl⟩:=D5.mp hp;rw[show p'=[(x:Int),(y:Int),(z:Int),(w:Int)] by simpa using hp'];exact new q hq
theorem GOk.one{G:Gv}(h:GOk G){i j:Nat}{p q:Sq}(hi:G[i]?=some p)(hj:G[j]?=some q)(e:p.parts=q.parts):i=j:=by
 have li:=(B9.mp hi).1;have lj:=(B9.mp hj).1;have h1:(G.map Sq.parts)[i]'(by rw[B8];exact li)=(G.map Sq.parts)[j]'(by rw[B8];exact lj):=by
  rw[List.getElem_map,List.getElem_map,(B9.mp hi).2,(B9.mp hj).2,e]
 exact(List.getElem_inj h.nd).mp h1
seal L2.PA L2.PE L2.PS L2.PSs L2.PT L2.PW
theorem FJ{n:Nat}(h:n<10000000):n<sizeLine:=F2 h A4
theorem kit_w(K:PySem.W.Frag):kitOne K (.type "int") (.type "int")=some true/\kitOne K (.type "int") (.type "bool")=some false:=⟨by kernel_rfl,by kernel_rfl⟩
section
variable{P:Program}{w:World}{K:PySem.W.Frag}{mg:Str->Option Value}{base:Heap}{a:Ad}
inductive SpIW(vs:List V)(H:Hp)(Q:VK):Prop
 |mk (i:Int) (_:vs=[.int i]) (_:Q (.bl true) H):SpIW vs H Q
def VF:Sp:=λvs H Q _=>SpIW vs H Q
theorem ok_iw{f:Addr}{fd:FuncData}(F:Fun K "is_whole" "is_whole" JV f fd)(T:Top K mg a):AJ P w K mg base CX0 1 f fd En VF:=by
 refine F.ok RP (λvs H Q E h=>?_) (λcdv A outer s H vs Q E hr h=>?_)
 ·obtain⟨i,rfl,_⟩:=h;rfl
 ·obtain⟨i,rfl,k⟩:=h;exact⟨_,(Ag (Aw (Ii (AR FN rfl T.b_isinstance X8 (Aa (pv 0) (Aa (Ih (v:=.ty "int") rfl T.b_int K5 rfl) Ab))) (Lf (pe_not (AR FN rfl T.b_isinstance X8 (Aa (pv 0) (Aa (Ih (v:=.ty "bool") rfl T.b_bool PyProof.Rows.boot_bool rfl) Ab)))))))),(xq1 rfl ⟨_,_,_,.type "int",true,rfl,rfl,.of (.int i),(kit_w K).1,true,rfl,Cp (xq1 rfl ⟨_,_,_,.type "int",false,rfl,rfl,.of (.int i),(kit_w K).2,false,rfl,k⟩)⟩)⟩
inductive SpIS(vs:List V)(H:Hp)(Q:VK):Prop
 |mk (i:Int) (_:vs=[.int i]) (_:0<=i) (_:i<8) (_:Q (.bl true) H):SpIS vs H Q
def spIS:Sp:=λvs H Q _=>SpIS vs H Q
theorem ok_is{f:Addr}{fd:FuncData}(F:Fun K "is_state" "is_state" JX f fd)(T:Top K mg a)(aM:Cal P w K mg base CX0 1 "is_whole" En VF):AJ P w K mg base CX0 2 f fd Im spIS:=by
 refine F.ok RQ (λvs H Q E h=>?_) (λcdv A outer s H vs Q E hr h=>?_)
 ·obtain⟨i,rfl,_⟩:=h;rfl
 ·obtain⟨i,rfl,h0,h1,k⟩:=h;refine⟨_,(Ag (Aw (Ii (Ar aM (rm hr) rfl An (Aa (pv 0) Ab)) (Lf (Yh LI GJ Ae (pv 0) (Cb rfl T.k_STATES)))))),?_⟩
  try dsimp only[cxK]
  refine xq1 rfl ⟨i,rfl,true,rfl,Cp (xwb rfl rfl rfl (xq1 rfl ?_))⟩;rw[Y7 h0];refine Cp (xq2 rfl rfl ?_);show Q (.bl (decide (i<8))) H;rw[Y7 h1];exact k
inductive ZM(a:Ad)(vs:List V)(H:Hp)(Q:VK):Prop
 |mk (g:GA) (G:Gv) (t:Addr) (ps:List Int) (l:Int) (_:vs=[.ref g.p,.ref t,.int l]) (_:AI a H g G) (_:H t=some (.tup (ps.map V.int))) (_:(∀q∈G,q.parts≠ps)) (_:G.length<9000000) (_:∀H',Fr g H H'->AI a H' g (G++[⟨ps,l⟩])->Q (.int (G.length:Int)) H'):ZM a vs H Q
def Qu(a:Ad):Sp:=λvs H Q _=>ZM a vs H Q
theorem ok_kept{f:Addr}{fd:FuncData}(F:Fun K "kept" "Grove.kept" Ic f fd)(T:Top K mg a):AJ P w K mg base CX0 1 f fd EX (Qu a):=by
 refine F.ok JJ (λvs H Q E h=>?_) (λcdv A outer s H vs Q E hr h=>?_)
 ·obtain⟨g,G,t,ps,l,rfl,_⟩:=h;rfl
 ·obtain⟨g,G,t,ps,l,rfl,hg,ht,new,few,k⟩:=h;obtain⟨h1,h2,⟨ts,h3,h4⟩,h5,h6⟩:=hg;have lt:ts.length=G.length:=Z9 h4;refine⟨_,(Ac (Aq (i:=3) JJ.nd rfl (Or.inl rfl) (AR Cf rfl T.b_len K4 (Aa (AC (pv 0) rfl) Ab))) (Ac (Ig (FK hr) (AC (pv 0) rfl) (pv 1) (pv 3) rfl) (Ac (BG (CS Z3 Z4 Z5 BD (AC (pv 0) rfl) (Aa (pv 2) Ab))) (Ac (BG (CS Z3 Z4 Z5 BD (AC (pv 0) rfl) (Aa (pv 1) Ab))) (Ag (Aw (pv 3))))))),?_⟩
  try dsimp only[cxK]
  refine xwf rfl rfl h1 T.cl_Grove T.na_Grove_levels (FM g) ⟨g.lv,(xq1 rfl ⟨.inl (SqL.of h2),?_⟩)⟩;rw[B8];have ne1:g.p≠g.nm:=AE h1 h5 A3;have ne2:g.lv≠g.nm:=AE h2 h5 A3;have ne3:g.pt≠g.nm:=AE h3 h5 A3;have ne4:g.p≠g.lv:=AE h1 h2 A3;have ne5:g.p≠g.pt:=AE h1 h3 A3;have vn:BM (Jo 0 G) (kOf ps)=none:=by
   rcases Ra ps G 0 with ⟨i,q,e1,e2,_⟩|⟨e,_⟩
   ·exact absurd e2 (new q (D1 e1))
   ·exact e
  refine xw2 rfl rfl (xq5 h1 T.cl_Grove T.na_Grove_numbers (Zl g) (xq1 rfl ⟨g.nm,(xq1 rfl ⟨Mf.t (k:=kOf ps) h5 (by rw[YW];exact ht) (by rw[SA];exact FJ A0),?_⟩)⟩));rw[LC _ vn];have e5:Jo 0 G++[(kOf ps,V.int (G.length:Int))]=Jo 0 (G++[⟨ps,l⟩]):=by rw[PN,M5]
  rw[e5];generalize hH1:upd H g.nm (.dT (Jo 0 (G++[⟨ps,l⟩])))=H1;have k1:∀b o,H b=some o->b≠g.nm->H1 b=some o:=λb o e n=>by rw[<-hH1,As n];exact e
  have n1:H1 g.nm=some (.dT (Jo 0 (G++[⟨ps,l⟩]))):=by rw[<-hH1];exact Af
  refine xwf rfl rfl (k1 _ _ h1 ne1) T.cl_Grove T.na_Grove_levels (FM g) ⟨.inl ⟨rfl,_,SqL.of (k1 _ _ h2 ne2)⟩,(xq1 rfl ⟨g.lv,(xq2 rfl rfl ⟨k1 _ _ h2 ne2,by rw[B8];exact FJ A0,?_⟩)⟩)⟩;generalize hH2:upd H1 g.lv (.lst ((G.map λq=>V.int q.lev)++[.int l]))=H2;have k2:∀b o,H1 b=some o->b≠g.lv->H2 b=some o:=λb o e n=>by rw[<-hH2,As n];exact e
  have n2:H2 g.lv=some (.lst ((G++[(⟨ps,l⟩:Sq)]).map λq=>V.int q.lev)):=by rw[<-hH2,Af,C5];rfl
  have h3':=k2 _ _ (k1 _ _ h3 ne3) (Z1 h6);refine xwf rfl rfl (k2 _ _ (k1 _ _ h1 ne1) ne4) T.cl_Grove T.na_Grove_parts (CB g) ⟨.inl ⟨rfl,_,SqL.of h3'⟩,(xq1 rfl ⟨g.pt,(xq2 rfl rfl ⟨h3',by rw[B8,lt];exact FJ A0,?_⟩)⟩)⟩;generalize hH3:upd H2 g.pt (.lst (ts.map V.ref++[.ref t]))=H3;have k3:∀b o,H2 b=some o->b≠g.pt->H3 b=some o:=λb o e n=>by rw[<-hH3,As n];exact e
  have n3:H3 g.pt=some (.lst ((ts++[t]).map V.ref)):=by rw[<-hH3,Af,C5];rfl
  have fr:Fr g H H3:=λb o e m1 m2 m3=>k3 _ _ (k2 _ _ (k1 _ _ e m3) m1) m2;have tp:∀(c:Addr)(xs:List V),H c=some (.tup xs)->H3 c=some (.tup xs):=λc xs e=>fr _ _ e (AE e h2 A3) (AE e h3 A3) (AE e h5 A3);refine xq1 rfl (k H3 fr ⟨fr _ _ h1 ne4 ne5 ne1,k3 _ _ n2 h6,⟨ts++[t],n3,A0b (PairedM.imp (λc q z=>tp c _ z) h4) (tp t _ ht)⟩,k3 _ _ (k2 _ _ n1 (Z1 ne2)) (Z1 ne3),h6⟩)
structure AH(G G':Gv)(n:Nat):Prop where
 ok:GOk G'
 pre:∃r,G'=G++r
 few:G'.length<=G.length+n
theorem AH.refl{G:Gv}(h:GOk G):AH G G 0:=⟨h,⟨[],by simp⟩,C1 _⟩
theorem AH.trans{G G' G'':Gv}{n m:Nat}(h:AH G G' n)(h2:AH G' G'' m):AH G G'' (n+m):=by
 obtain⟨r,e⟩:=h.pre;obtain⟨t,e2⟩:=h2.pre;have f1:=h.few;have f2:=h2.few;exact⟨h2.ok,⟨r++t,by rw[e2,e,R1]⟩,by lia⟩
theorem AH.get{G G':Gv}{n x:Nat}{q:Sq}(h:AH G G' n)(e:G[x]?=some q):G'[x]?=some q:=by
 obtain⟨r,e2⟩:=h.pre;rw[e2];exact LT e
theorem AH.lev{G G':Gv}{n x:Nat}{l:Int}(h:AH G G' n)(e:Al G x l):Al G' x l:=by
 obtain⟨q,e,z⟩:=e;exact⟨q,h.get e,z⟩
inductive Ue(a:Ad)(vs:List V)(H:Hp)(Q:VK):Prop
 |mk (g:GA) (G:Gv) (t:Addr) (x y z w:Nat) (l:Int) (_:vs=[.ref g.p,.ref t]) (_:AI a H g G) (_:GOk G) (_:H t=some (.tup [.int x,.int y,.int z,.int w])) (_:(Al G x l/\Al G y l/\Al G z l/\Al G w l)) (_:l<=47) (_:G.length<9000000) (_:∀(n:Nat)(G':Gv)(H':Hp),Fr g H H'->AI a H' g G'->AH G G' 1->G'[n]?=some ⟨[(x:Int),(y:Int),(z:Int),(w:Int)],l+1⟩->Q (.int n) H'):Ue a vs H Q
def EI(a:Ad):Sp:=λvs H Q _=>Ue a vs H Q
theorem ok_link{f:Addr}{fd:FuncData}(F:Fun K "linked" "Grove.linked" Fp f fd)(T:Top K mg a)(aR:BZ P w K mg base CX0 1 a.c_Grove "kept" EX (Qu a)):AJ P w K mg base CX0 2 f fd AX (EI a):=by
 refine F.ok IK (λvs H Q E h=>?_) (λcdv A outer s H vs Q E hr h=>?_)
 ·obtain⟨g,G,t,x,y,z,w,l,rfl,_⟩:=h;rfl
 ·obtain⟨g,G,t,x,y,z,w,l,rfl,hg,ok,ht,⟨hx,hy,hz,hw⟩,h47,few,k⟩:=h;have hg0:=hg;obtain⟨h1,h2,⟨ts,h3,h4⟩,h5,h6⟩:=hg;refine⟨_,(Ac (Aq (i:=2) IK.nd rfl (Or.inl rfl) (LG (FK hr) (AC (pv 0) rfl) (pv 1) ⟨rfl,rfl,rfl,rfl⟩)) (Ac (AQ (AB Jg (pv 2) DC (AF _)) (Ag (Aw (AG (pv 0) aR (rm hr) An (Aa (pv 1) (AZ AL (Aj Ax (AC (pv 0) rfl) (Aj Am (pv 1) Ae (λ_ _=>rfl)) (λ_ _=>rfl)) Ae Ab))))) AD) (Ag (Aw (pv 2))))),?_⟩
  try dsimp only[cxK]
  refine xwf rfl rfl h1 T.cl_Grove T.na_Grove_numbers (Zl g) ⟨g.nm,rfl,.inr ⟨_,.inl h5⟩,(xq1 rfl ⟨_,IO.t (k:=kOf [(x:Int),(y:Int),(z:Int),(w:Int)]) h5 (by rw[YW];exact ht),?_⟩)⟩;rcases Ra [(x:Int),(y:Int),(z:Int),(w:Int)] G 0 with ⟨i,q,e1,e2,e3⟩|⟨e,new⟩
  ·rw[e3];refine xq1 rfl ⟨rfl,(xq1 rfl (Bo (xq1 rfl ?_)))⟩;rw[M5];refine k i G H (Fr.refl g H) hg0 ⟨ok,⟨[],by simp⟩,by lia⟩ ?_;have h8:8<=i:=by
    refine O8 λz'=>?_;rw[ok.leaf i z']at e1;cases e1;cases e2
   obtain⟨x',y',z',w',p1,⟨lx,_⟩,_⟩:=ok.node i q e1 h8;have exx:x'=x:=by
    rw[p1]at e2;injection e2 with e2 _
    exact Z8 e2
   rw[exx]at lx;obtain⟨qa,a1,a2⟩:=lx;obtain⟨qb,b1,b2⟩:=hx;rw[a1]at b1;cases b1;have el:q.lev=l+1:=by lia
   rw[e1];cases q with
   |mk pp ll=>cases e2;cases el;rfl
  ·rw[e];refine xq1 rfl ⟨rfl,(xq1 rfl (Cp ?_))⟩;obtain⟨q,e1,e2⟩:=id hx;refine xwn rfl rfl h1 (QK g) rfl (xwf rfl rfl h1 T.cl_Grove T.na_Grove_levels (FM g) (xwi rfl rfl rfl (SqT.of ht) (Ai (j:=0) rfl) (xq4 rfl rfl (SqL.of h2) (Ai (by rw[C0,e1];rfl)) (xq2 rfl rfl ?_))));refine⟨g,G,t,[(x:Int),(y:Int),(z:Int),(w:Int)],l+1,by rw[<-e2];rfl,hg0,ht,new,few,λH' fr hg'=>?_⟩;refine k G.length _ H' fr hg' ⟨ok.snoc hx hy hz hw h47 new,⟨_,rfl⟩,by rw[C4];exact C1 _⟩ ?_;rw[J6 (C1 _),V4];rfl
inductive SpChk(a:Ad)(vs:List V)(H:Hp)(Q:VK):Prop
 |mk (g:GA) (G:Gv) (i:Nat) (_:vs=[.ref g.p,.int i]) (_:AI a H g G) (_:i<G.length) (_:Q .non H):SpChk a vs H Q
def UB(a:Ad):Sp:=λvs H Q _=>SpChk a vs H Q
theorem ok_chk{f:Addr}{fd:FuncData}(F:Fun K "check_square" "Grove.check_square" CZ f fd)(T:Top K mg a)(aM:Cal P w K mg base CX0 1 "is_whole" En VF):AJ P w K mg base CX0 2 f fd Cd (UB a):=by
 refine F.ok IL (λvs H Q E h=>?_) (λcdv A outer s H vs Q E hr h=>?_)
 ·obtain⟨g,G,i,rfl,_⟩:=h;rfl
 ·obtain⟨g,G,i,rfl,hg,hi,k⟩:=h;refine⟨_,(Ag (AQ (PW.pt (On (DX (Da (Ar aM (rm hr) rfl An (Aa (pv 1) Ab)))) (Mt (DX (Sa LI GJ Ae (pv 1) (AR Cf rfl T.b_len K4 (Aa (AC (pv 0) rfl) Ab))))))) (Ag Bk) AD)),?_⟩
  try dsimp only[cxK]
  refine⟨_,rfl,_,rfl,true,rfl,Bo ⟨_,rfl,_,_,rfl,rfl,_,rfl,?_⟩⟩;rw[Y7 (by lia:(0:Int)<=(i:Int))];refine Cp (xwf rfl rfl hg.hp T.cl_Grove T.na_Grove_levels (FM g) ⟨g.lv,(xq1 rfl ⟨.inl (SqL.of hg.lv),(xq2 rfl rfl (xq1 rfl ?_))⟩)⟩);rw[B8,Y7 (by lia:(i:Int)<(G.length:Int))];exact Bo k
inductive ZL(a:Ad)(vs:List V)(H:Hp)(Q:VK):Prop
 |mk (p:Addr) (i:Int) (_:vs=[.ref p,.int i]) (_:0<=i) (_:i<8) (_:Q (.int i) H):ZL a vs H Q
def Qt(a:Ad):Sp:=λvs H Q _=>ZL a vs H Q
theorem ok_leaf{f:Addr}{fd:FuncData}(F:Fun K "leaf" "Grove.leaf" Ib f fd)(T:Top K mg a)(bA:Cal P w K mg base CX0 2 "is_state" Im spIS):AJ P w K mg base CX0 3 f fd EW (Qt a):=by
 refine F.ok Pi (λvs H Q E h=>?_) (λcdv A outer s H vs Q E hr h=>?_)
 ·obtain⟨g,i,rfl,_⟩:=h;rfl
 ·obtain⟨g,i,rfl,h0,h1,k⟩:=h;exact⟨_,(Ac (AQ (DX (Da (Ar bA (rm hr) rfl An (Aa (pv 1) Ab)))) (Ag Bk) AD) (Ag (Aw (pv 1)))),(xq1 rfl ⟨i,rfl,h0,h1,true,rfl,Bo (xq1 rfl k)⟩)⟩
inductive SpLev(a:Ad)(vs:List V)(H:Hp)(Q:VK):Prop
 |mk (g:GA) (G:Gv) (i:Nat) (q:Sq) (_:vs=[.ref g.p,.int i]) (_:AI a H g G) (_:G[i]?=some q) (_:Q (.int q.lev) H):SpLev a vs H Q
def Nb(a:Ad):Sp:=λvs H Q _=>SpLev a vs H Q
theorem ok_lev{f:Addr}{fd:FuncData}(F:Fun K "level_of" "Grove.level_of" Ek f fd)(T:Top K mg a)(aE:BZ P w K mg base CX0 2 a.c_Grove "check_square" Cd (UB a)):AJ P w K mg base CX0 3 f fd Bm (Nb a):=by
 refine F.ok Lz (λvs H Q E h=>?_) (λcdv A outer s H vs Q E hr h=>?_)
 ·obtain⟨g,G,i,q,rfl,_⟩:=h;rfl
 ·obtain⟨g,G,i,q,rfl,hg,hi,k⟩:=h;refine⟨_,(Ac (BG (AG (pv 0) aE (rm hr) An (Aa (pv 1) Ab))) (Ag (Aw (Aj Ax (AC (pv 0) rfl) (pv 1) (λ_ _=>rfl))))),?_⟩
  try dsimp only[cxK]
  refine xwn rfl rfl hg.hp (Sj g) rfl ⟨g,G,i,rfl,hg,(B9.mp hi).1,?_⟩;exact xwf rfl rfl hg.hp T.cl_Grove T.na_Grove_levels (FM g) (xwi rfl rfl rfl (SqL.of hg.lv) (Ai (by rw[C0,hi];rfl)) k)
inductive SpSta(a:Ad)(vs:List V)(H:Hp)(Q:VK):Prop
 |mk (g:GA) (G:Gv) (i:Nat) (q:Sq) (_:vs=[.ref g.p,.int i]) (_:AI a H g G) (_:G[i]?=some q) (_:q.lev=0) (_:Q (.int i) H):SpSta a vs H Q
def WI(a:Ad):Sp:=λvs H Q _=>SpSta a vs H Q
theorem ok_sta{f:Addr}{fd:FuncData}(F:Fun K "state_of" "Grove.state_of" Ej f fd)(T:Top K mg a)(aA:BZ P w K mg base CX0 3 a.c_Grove "level_of" Bm (Nb a)):AJ P w K mg base CX0 4 f fd Er (WI a):=by
 refine F.ok Ly (λvs H Q E h=>?_) (λcdv A outer s H vs Q E hr h=>?_)
 ·obtain⟨g,G,i,q,rfl,_⟩:=h;rfl
 ·obtain⟨g,G,i,q,rfl,hg,hi,h0,k⟩:=h;refine⟨_,(Ac (AQ (AB JK (AG (pv 0) aA (rm hr) An (Aa (pv 1) Ab)) Ae (AF _)) (Ag Bk) AD) (Ag (Aw (pv 1)))),?_⟩
  try dsimp only[cxK]
  refine xwn rfl rfl hg.hp (Et g) rfl ⟨g,G,i,q,rfl,hg,hi,rfl,(xq1 rfl ?_)⟩;rw[h0];exact Vd rfl (xq1 rfl k)
end
end J
namespace J
open PySem L2
section
variable{P:Program}{w:World}{K:PySem.W.Frag}{mg:Str->Option Value}{base:Heap}{a:Ad}
end
def bareN:Nat->Nat
 |0=>0
 |j+1=>8+j
def DI(n:Nat):Gv:=(List.range n).map λ(s:Nat)=>(⟨[(s:Int)],0⟩:Sq)
def FO(n:Nat):Gv:=(List.range n).map λ(j:Nat)=>(⟨[(bareN j:Int),(bareN j:Int),(bareN j:Int),(bareN j:Int)],(j:Int)+1⟩:Sq)
def G0:Gv:=DI 8++FO 48
theorem TN(n:Nat):DI (n+1)=DI n++[⟨[(n:Int)],0⟩]:=by unfold DI;rw[P1,C5];rfl
theorem OY(n:Nat):FO (n+1)=FO n++[⟨[(bareN n:Int),(bareN n:Int),(bareN n:Int),(bareN n:Int)],(n:Int)+1⟩]:=by unfold FO;rw[P1,C5];rfl
theorem Fa(n:Nat):(DI n).length=n:=by unfold DI;rw[B8,L8]
theorem Qk(n:Nat):(FO n).length=n:=by unfold FO;rw[B8,L8]
theorem Wt{i j:Nat}(h:bareN i=bareN j):i=j:=by
 cases i<;>cases j
 ·rfl
 ·have:0=8+_:=h;lia
 ·have:8+_=0:=h;lia
 ·have:8+_=8+_:=h;lia
theorem Wc(n:Nat):∀q∈DI n,q.parts≠[(n:Int)]:=λq hq z=>by
 obtain⟨s,hs,rfl⟩:=D5.mp hq;have:=F8.mp hs;injection z with z _
 have:s=n:=Z8 z;lia
theorem Qj(n:Nat):∀q∈DI 8++FO n,q.parts≠[(bareN n:Int),(bareN n:Int),(bareN n:Int),(bareN n:Int)]:=λq hq z=>by
 rcases D9.mp hq with hq|hq
 ·obtain⟨s,hs,rfl⟩:=D5.mp hq;cases z
 ·obtain⟨s,hs,rfl⟩:=D5.mp hq;have:=F8.mp hs;injection z with z _
  have:=Wt (Z8 z);lia
theorem OQ:G0.length=56:=by unfold G0;rw[C4,Fa,Qk]
theorem NJ(j:Nat)(h:j<48):G0[8+j]?=some ⟨[(bareN j:Int),(bareN j:Int),(bareN j:Int),(bareN j:Int)],(j:Int)+1⟩:=by
 unfold G0;rw[J6 (by rw[Fa];lia),Fa,show 8+j-8=j by lia];unfold FO;rw[C0,N8 h];rfl
theorem Rg(s:Nat)(h:s<8):G0[s]?=some ⟨[(s:Int)],0⟩:=by
 unfold G0;rw[M4 (by rw[Fa];exact h)];unfold DI;rw[C0,N8 h];rfl
theorem Zj(j:Nat)(h:j<=48):Al G0 (bareN j) (j:Int):=by
 cases j with
 |zero=>exact⟨_,Rg 0 A4,rfl⟩
 |succ j=>exact⟨_,NJ j A0,rfl⟩
theorem g0_nd:∀n,((DI 8++FO n).map Sq.parts).Nodup
 |0=>by decide
 |n+1=>by
  rw[OY,<-R1,C5,P4];refine⟨g0_nd n,by simp,λp hp p' hp'=>?_⟩;obtain⟨q,hq,rfl⟩:=D5.mp hp;rw[show p'=[(bareN n:Int),(bareN n:Int),(bareN n:Int),(bareN n:Int)] by simpa using hp'];exact Qj n q hq
theorem g0_ok:GOk G0 where
 leaf:=Rg
 node:=λi q e h8=>by
  have hi:i<56:=by rw[<-OQ];exact(B9.mp e).1
  obtain⟨j,rfl⟩:∃j,i=8+j:=⟨i-8,by lia⟩
  rw[NJ j A0]at e;cases e;have:=Zj j A0;refine⟨bareN j,bareN j,bareN j,bareN j,rfl,?_,?_,?_⟩
  ·show Al G0 _ ((j:Int)+1-1)/\Al G0 _ ((j:Int)+1-1)/\Al G0 _ ((j:Int)+1-1)/\Al G0 _ ((j:Int)+1-1);rw[show(j:Int)+1-1=(j:Int) by lia];exact⟨this,this,this,this⟩
  ·show 1<=(j:Int)+1;lia
  ·show(j:Int)+1<=48;lia
 nd:=g0_nd 48
def amK(n:Nat):List (Key×V):=(List.range n).map λ(s:Nat)=>(Sum.inl (s:Int),V.int (if(1:Int)<(s:Int)then 1 else(s:Int)))
theorem ST(n:Nat):amK (n+1)=amK n++[(Sum.inl (n:Int),V.int (if(1:Int)<(n:Int)then 1 else(n:Int)))]:=by unfold amK;rw[P1,C5];rfl
theorem amK_len(n:Nat):(amK n).length=n:=by unfold amK;rw[B8,L8]
theorem Qo{κ:Type}[DecidableEq κ]{k:κ}:∀{l m:List (κ×V)},BM l k=none->BM (l++m) k=BM m k
 |[],_,_=>rfl
 |p::r,m,h=>by
  by_cases e:p.1=k
  ·rw[BO e]at h;cases h
  ·rw[BB e]at h;show BM (p::(r++m)) k=_;rw[BB e];exact Qo h
theorem SU(n:Nat):∀m,n<=m->BM (amK n) (Sum.inl (m:Int))=none:=by
 induction n with
 |zero=>intro m _;rfl
 |succ n ih =>
  intro m hm;rw[ST,Qo (ih m A0),BB (by intro z;injection z with z;have:=Z8 z;lia)];rfl
def Df(n:Nat):List Int:=(List.range (n+1)).map λj=>((bareN j:Nat):Int)
theorem OZ(n:Nat):Df (n+1)=Df n++[((bareN (n+1):Nat):Int)]:=by unfold Df;rw[P1,C5];rfl
theorem Uc(n:Nat):(Df n).getLast?=some ((bareN n:Nat):Int):=by
 cases n with
 |zero=>rfl
 |succ n=>rw[OZ,List.getLast?_append];rfl
theorem ZB{xs:List V}{x:V}(h:xs.getLast?=some x):atI xs (-1)=some x:=by
 obtain⟨ys,rfl⟩:=List.getLast?_eq_some_iff.mp h;unfold atI ixN;rw[Y6 A4,Y8 (by rw[C4,Q8];lia)];show(ys++[x])[((-1:Int)+((ys++[x]).length:Nat)).toNat]?=some x;rw[C4,Q8,show((-1:Int)+((ys.length+1:Nat):Int)).toNat=ys.length by lia,J6 (C1 _),V4];rfl
seal L2.PA L2.PE L2.PS L2.PSs L2.PT L2.PW
structure SY(a:Ad)(H H':Hp)(g:GA)(G:Gv)(B:List Int)(am:List (Key×V)):Prop where
 kp:∀b o,H b=some o->b≠g.p->H' b=some o
 at':AI a H' g G
 br:H' g.br=some (.lst (B.map V.int))
 am:H' g.am=some (.dK am)
 bx:H' g.bx=some (.dK [])
 fresh:H g.lv=none/\H g.pt=none/\H g.nm=none/\H g.br=none/\H g.am=none/\H g.bx=none
 n1:g.br≠g.lv
 n2:g.br≠g.pt
 n3:g.am≠g.bx
section
variable{P:Program}{w:World}{K:PySem.W.Frag}{mg:Str->Option Value}{base:Heap}{a:Ad}
inductive Vt(a:Ad)(vs:List V)(H:Hp)(Q:VK):Prop
 |mk (p dx:Addr) (_:vs=[.ref p]) (_:H p=some (.ins a.c_Grove dx [])) (_:∀(g:GA)(H':Hp),g.p=p->SY a H H' g G0 (Df 48) (amK 8)->Q .non H'):Vt a vs H Q
def Qx(a:Ad):Sp:=λvs H Q _=>Vt a vs H Q
theorem Yu{f:Addr}{fd:FuncData}(F:Fun K "__init__" "Grove.__init__" Id f fd)(T:Top K mg a)(aR:BZ P w K mg base CX0 1 a.c_Grove "kept" EX (Qu a)):AJ P w K mg base CX0 2 f fd Iv (Qx a):=by
 refine F.ok Eu (λvs H Q E h=>?_) (λcdv A outer s H vs Q E hr h=>?_)
 ·obtain⟨p,dx,rfl,_⟩:=h;rfl
 ·obtain⟨p,dx,rfl,hp,k⟩:=h;refine⟨_,(Ac (Cz (pv 0) (BX Ab) rfl) (Ac (Cz (pv 0) (BX Ab) rfl) (Ac (Cz (pv 0) Oq rfl) (Ac (Cz (pv 0) (BX (AK Ab)) rfl) (Ac (Cz (pv 0) LF rfl) (Ac (Cz (pv 0) LF rfl) (Ac (Cy Z6 rfl (Di rfl T.b_range (Aa (Cb rfl T.k_STATES) Ab)) (Bn (i:=1) Eu.nd rfl (Or.inl rfl)) (Ac (BG (AG (pv 0) aR (rm hr) An (Bz (Aa (pv 1) Ab) (AK Ab)))) (Ag (Ig (FK hr) (AC (pv 0) rfl) (pv 1) (AR (MS rfl) rfl T.b_min A0e (Aa (pv 1) (AK Ab))) rfl)))) (Ag (Cy Z6 rfl (Mx rfl T.b_range (AK (AZ AL (Cb rfl T.k_TOP_LEVEL) Ae Ab))) (Bn (i:=2) Eu.nd rfl (Or.inl rfl)) (Ac (Aq (i:=3) Eu.nd rfl (Or.inl rfl) (Aj Ax (AC (pv 0) rfl) (LE GO Ae) (λ_ _=>rfl))) (Ag (BG (CS Z3 Z4 Z5 BD (AC (pv 0) rfl) (Aa (AG (pv 0) aR (rm hr) An (Bz (Aa (pv 3) (Aa (pv 3) (Aa (pv 3) (Aa (pv 3) Ab)))) (Aa (pv 2) Ab))) Ab)))))))))))))),?_⟩
  try dsimp only[cxK]
  have stp:∀{Hk:Hp}{x:Addr}{o:HO}{fs fs':List (Str×V)},Hk p=some (.ins a.c_Grove dx fs)->Hk x=none->(∀b v,Hk b=some v->b≠p->upd (upd Hk x o) p (.ins a.c_Grove dx fs') b=some v)/\upd (upd Hk x o) p (.ins a.c_Grove dx fs') x=some o/\upd (upd Hk x o) p (.ins a.c_Grove dx fs') p=some (.ins a.c_Grove dx fs')/\upd Hk x o p=some (.ins a.c_Grove dx fs):=λ{Hk x o fs fs'} e1 e2=>by
   have n:x≠p:=λz=>by rw[z,e1]at e2;cases e2
   exact⟨λb v e nb=>by rw[As nb,As (Av e e2)];exact e,by rw[As n];exact Af,Af,by rw[As (Z1 n)];exact e1⟩
  refine Bw ?_;intro r_k_ s_k_ k_ hk_ E_k_;refine⟨(by show 0<=sizeLine;decide),λlv hlv=>?_⟩;obtain⟨k1,x1,p1,q1⟩:=stp (o:=.lst []) (fs':=AS "levels" (.ref lv) []) hp hlv;refine xq1 rfl ⟨p,_,dx,[],rfl,q1,T.cl_Grove,T.na_Grove_levels,B3,?_⟩;show k_ _ _;generalize upd (upd H lv _) p _=H1 at k1 x1 p1⊢;refine hk_ ?_;refine Bw ?_;intro r_k_ s_k_ k_ hk_ E_k_;refine⟨(by show 0<=sizeLine;decide),λpt hpt=>?_⟩;obtain⟨k2,x2,p2,q2⟩:=stp (o:=.lst []) (fs':=AS "parts" (.ref pt) (AS "levels" (.ref lv) [])) p1 hpt;refine xq1 rfl ⟨p,_,dx,(xq1 rfl ⟨q2,T.cl_Grove,T.na_Grove_parts,B5,?_⟩)⟩;show k_ _ _;generalize upd (upd H1 pt _) p _=H2 at k2 x2 p2⊢;refine hk_ ?_;refine Bw ?_;intro r_k_ s_k_ k_ hk_ E_k_;intro nm hnm;obtain⟨k3,x3,p3,q3⟩:=stp (o:=.dT []) (fs':=AS "numbers" (.ref nm) (AS "parts" (.ref pt) (AS "levels" (.ref lv) []))) p2 hnm;refine xq1 rfl ⟨p,_,dx,(xq1 rfl ⟨q3,T.cl_Grove,T.na_Grove_numbers,(by show 2<1000;decide),?_⟩)⟩;show k_ _ _;generalize upd (upd H2 nm _) p _=H3 at k3 x3 p3⊢;refine hk_ ?_;refine Bw ?_;intro r_k_ s_k_ k_ hk_ E_k_;refine⟨(by show 1<=sizeLine;decide),λbr hbr=>?_⟩;obtain⟨k4,x4,p4,q4⟩:=stp (o:=.lst [.int 0]) (fs':=AS "bares" (.ref br) (AS "numbers" (.ref nm) (AS "parts" (.ref pt) (AS "levels" (.ref lv) [])))) p3 hbr;refine xq1 rfl ⟨p,_,dx,(xq1 rfl ⟨q4,T.cl_Grove,T.na_Grove_bares,(by show 3<1000;decide),?_⟩)⟩;show k_ _ _;generalize upd (upd H3 br _) p _=H4 at k4 x4 p4⊢;refine hk_ ?_;refine Bw ?_;intro r_k_ s_k_ k_ hk_ E_k_;intro am ham;obtain⟨k5,x5,p5,q5⟩:=stp (o:=.dK []) (fs':=AS "amounts" (.ref am) (AS "bares" (.ref br) (AS "numbers" (.ref nm) (AS "parts" (.ref pt) (AS "levels" (.ref lv) []))))) p4 ham;refine xq1 rfl ⟨p,_,dx,(xq1 rfl ⟨q5,T.cl_Grove,T.na_Grove_amounts,(by show 4<1000;decide),?_⟩)⟩;show k_ _ _;generalize upd (upd H4 am _) p _=H5 at k5 x5 p5⊢;refine hk_ ?_;refine Bw ?_;intro r_k_ s_k_ k_ hk_ E_k_;intro bx hbx;obtain⟨k6,x6,p6,q6⟩:=stp (o:=.dK []) (fs':=fl6 ⟨p,dx,lv,pt,nm,br,am,bx⟩) p5 hbx;refine xq1 rfl ⟨p,_,dx,(xq1 rfl ⟨q6,T.cl_Grove,T.na_Grove_boxes,(by show 5<1000;decide),?_⟩)⟩;show k_ _ (upd (upd H5 bx (.dK [])) p (.ins a.c_Grove dx (fl6 ⟨p,dx,lv,pt,nm,br,am,bx⟩)));generalize upd (upd H5 bx _) p _=H6 at k6 x6 p6⊢;refine hk_ ?_;have f26:∀b v,H1 b=some v->b≠p->H6 b=some v:=λb v e n=>k6 _ _ (k5 _ _ (k4 _ _ (k3 _ _ (k2 _ _ e n) n) n) n) n;have f36:∀b v,H2 b=some v->b≠p->H6 b=some v:=λb v e n=>k6 _ _ (k5 _ _ (k4 _ _ (k3 _ _ e n) n) n) n;have f46:∀b v,H3 b=some v->b≠p->H6 b=some v:=λb v e n=>k6 _ _ (k5 _ _ (k4 _ _ e n) n) n;have f56:∀b v,H4 b=some v->b≠p->H6 b=some v:=λb v e n=>k6 _ _ (k5 _ _ e n) n;have np:∀{Hk:Hp}{x:Addr}{fs:List (Str×V)},Hk p=some (.ins a.c_Grove dx fs)->Hk x=none->x≠p:=λ{Hk x fs} e1 e2 z=>by rw[z,e1]at e2;cases e2
  have no:∀{Hk Hm:Hp}{x y:Addr}{v:HO},Hk x=some v->Hk y=none->x≠y:=λ{Hk Hm x y v} e1 e2=>Av e1 e2;have nlv:=np hp hlv;have npt:=np p1 hpt;have nnm:=np p2 hnm;have nbr:=np p3 hbr;have nam:=np p4 ham;have nbx:=np p5 hbx;have y1:=f26 _ _ x1 nlv;have y2:=f36 _ _ x2 npt;have y3:=f46 _ _ x3 nnm;have y4:=f56 _ _ x4 nbr;have y5:=k6 _ _ x5 nam;have back:∀{Hk:Hp}{x:Addr},(∀b v,H b=some v->b≠p->Hk b=some v)->x≠p->Hk x=none->H x=none:=λ{Hk x} kp n e=>by
   cases h:H x with
   |none=>rfl
   |some v=>rw[kp _ _ h n]at e;cases e
  have c2:∀b v,H b=some v->b≠p->H2 b=some v:=λb v e n=>k2 _ _ (k1 _ _ e n) n;have c3:∀b v,H b=some v->b≠p->H3 b=some v:=λb v e n=>k3 _ _ (c2 _ _ e n) n;have c4:∀b v,H b=some v->b≠p->H4 b=some v:=λb v e n=>k4 _ _ (c3 _ _ e n) n;have c5:∀b v,H b=some v->b≠p->H5 b=some v:=λb v e n=>k5 _ _ (c4 _ _ e n) n;have c6:∀b v,H b=some v->b≠p->H6 b=some v:=λb v e n=>k6 _ _ (c5 _ _ e n) n;have d1:lv≠pt:=Av x1 hpt;have d2:br≠lv:=Z1 (Av (k3 _ _ (k2 _ _ x1 nlv) nlv) hbr);have d3:br≠pt:=Z1 (Av (k3 _ _ x2 npt) hbr);have d4:am≠bx:=Av x5 hbx;have N0:SY a H H6 ⟨p,dx,lv,pt,nm,br,am,bx⟩ (DI 0) (Df 0) (amK 0):=⟨c6,⟨p6,y1,⟨[],y2,.nil⟩,y3,d1⟩,y4,y5,x6,⟨hlv,back k1 npt hpt,back c2 nnm hnm,back c3 nbr hbr,back c4 nam ham,back c5 nbx hbx⟩,d2,d3,d4⟩
  have k':=k ⟨p,dx,lv,pt,nm,br,am,bx⟩;have gp:(⟨p,dx,lv,pt,nm,br,am,bx⟩:GA).p=p:=rfl;generalize (⟨p,dx,lv,pt,nm,br,am,bx⟩:GA)=g at N0 k' gp;subst gp;clear k p6 q6 q5 q4 q3 q2 q1 y1 y2 y3 y4 y5 x6 c6 c5 c4 c3 c2 f26 f36 f46 f56 k1 k2 k3 k4 k5 k6 x1 x2 x3 x4 x5 p1 p2 p3 p4 p5 d1 d2 d3 d4 nlv npt nnm nbr nam nbx hbx ham hbr hnm hpt hlv back no np stp;refine⟨8,rfl,by decide,by decide,?_⟩;refine Dl (n:=8) (λi σ H7=>∃u1:Option V,σ=[some (.ref g.p),u1,none,none]/\SY a H H7 g (DI i) (Df 0) (amK i)) ⟨none,rfl,N0⟩ ?_ ?_
  ·rintro i σ H7 hi ⟨u1,rfl,N⟩;obtain⟨kp,at',hbr,ham,hbx,fresh,n1,n2,n3⟩:=N;have cl:(i:Int)=0+(i:Int):=(T8 _).symm;refine xq1 rfl ⟨g.p,g.dx,(xq1 rfl ⟨at'.hp,QK g,(xq1 rfl ⟨(by show 1<=sizeLine;decide),λt ht=>?_⟩)⟩)⟩;have s1:=AN (o:=.tup [.int (0+(i:Int))]) ht;refine⟨g,DI i,t,[0+(i:Int)],0,rfl,at'.same s1,Af,by rw[<-cl];exact Wc i,by rw[Fa];lia,λH8 fr at8=>?_⟩;rw[<-cl,<-TN]at at8;have fr':Fr g H7 H8:=(Az.fr s1).trans fr;obtain⟨ts,h3,h4⟩:=at'.pt;have kd:∀(b:Addr)(kvs:List (Key×V)),H7 b=some (.dK kvs)->H8 b=some (.dK kvs):=λb kvs e=>fr' _ _ e (AE e at'.lv A3) (AE e h3 A3) (AE e at'.nm A3);have ham8:=kd _ _ ham;refine xq1 rfl ⟨_,_,rfl,(xwf rfl rfl at8.hp T.cl_Grove T.na_Grove_amounts (fl6_am g) (xq1 rfl ⟨g.am,(xq1 rfl ⟨Mf.k (k:=Sum.inl (0+(i:Int))) ham8 (by rw[amK_len];exact FJ A0),?_⟩)⟩))⟩;rw[<-cl,LC _ (SU i i (C1 _)),<-ST];have other:∀{b:Addr}{v:HO},H8 b=some v->b≠g.am->upd H8 g.am (.dK (amK (i+1))) b=some v:=λ{b v} e n=>by rw[As n];exact e
   have na:∀{b:Addr}{v:HO},H8 b=some v->v≠.dK (amK i)->b≠g.am:=λ{b v} e n=>AE e ham8 n;obtain⟨ts8,h38,h48⟩:=at8.pt;refine xq1 rfl ⟨?_,⟨other at8.hp (na at8.hp A3),other at8.lv (na at8.lv A3),⟨ts8,other h38 (na h38 A3),PairedM.imp (λc q z=>other z (na z A3)) h48⟩,other at8.nm (na at8.nm A3),at8.ne⟩,?_,Af,?_,fresh,n1,n2,n3⟩
   ·intro b v e nb;have e8:H8 b=some v:=fr' _ _ (kp _ _ e nb) (Av e fresh.1) (Av e fresh.2.1) (Av e fresh.2.2.1);exact other e8 (Av e fresh.2.2.2.2.1)
   ·have e8:H8 g.br=_:=fr' _ _ hbr n1 n2 (AE hbr at'.nm A3);exact other e8 (na e8 A3)
   ·exact other (kd _ _ hbx) (Z1 n3)
  ·rintro σ H7 ⟨u1,rfl,N⟩;refine xq2 rfl rfl ⟨1,49,rfl,⟨by decide,by decide,by decide,by decide⟩,?_⟩;have N0:SY a H H7 g (DI 8++FO 0) (Df 0) (amK 8):=by rw[show DI 8++FO 0=DI 8 from S9 _];exact N
   clear N;refine Dl (lo:=1) (n:=48) (λj σ H8=>∃u2 u3:Option V,σ=[some (.ref g.p),u1,u2,u3]/\SY a H H8 g (DI 8++FO j) (Df j) (amK 8)) ⟨none,none,rfl,N0⟩ ?_ ?_
   ·rintro j σ H8 hj ⟨u2,u3,rfl,N⟩;obtain⟨kp,at',hbr,ham,hbx,fresh,n1,n2,n3⟩:=N;refine xwf rfl rfl at'.hp T.cl_Grove T.na_Grove_bares (Jp g) (xwi rfl rfl rfl (SqL.of hbr) (ZB (by rw[List.getLast?_map,Uc];rfl)) ?_);refine xwf rfl rfl at'.hp T.cl_Grove T.na_Grove_bares (Jp g) ⟨.inl ⟨rfl,_,SqL.of hbr⟩,(xq1 rfl ⟨g.p,g.dx,(xq1 rfl ⟨at'.hp,QK g,(xw3 rfl rfl rfl (xq1 rfl ⟨(by show 4<=sizeLine;decide),λt ht=>(xq1 rfl ?_)⟩))⟩)⟩)⟩;have s1:=AN (o:=.tup [.int (bareN j:Int),.int (bareN j:Int),.int (bareN j:Int),.int (bareN j:Int)]) ht;have ln:(DI 8++FO j).length=8+j:=by rw[C4,Fa,Qk]
    refine⟨g,DI 8++FO j,t,[(bareN j:Int),(bareN j:Int),(bareN j:Int),(bareN j:Int)],1+(j:Int),rfl,at'.same s1,Af,Qj j,by rw[ln];lia,λH9 fr at9=>?_⟩;rw[show(1:Int)+(j:Int)=(j:Int)+1 by lia,R1,<-OY]at at9;have fr':Fr g H8 H9:=(Az.fr s1).trans fr;obtain⟨ts,h3,h4⟩:=at'.pt;have kd:∀(b:Addr)(kvs:List (Key×V)),H8 b=some (.dK kvs)->H9 b=some (.dK kvs):=λb kvs e=>fr' _ _ e (AE e at'.lv A3) (AE e h3 A3) (AE e at'.nm A3);have hbr9:H9 g.br=_:=fr' _ _ hbr n1 n2 (AE hbr at'.nm A3);refine⟨g.br,(xq2 rfl rfl ⟨hbr9,by rw[B8];unfold Df;rw[B8,L8];exact FJ A0,?_⟩)⟩;have eb:(Df j).map V.int++[V.int ((DI 8++FO j).length:Int)]=(Df (j+1)).map V.int:=by rw[OZ,C5,ln];rfl
    rw[eb];have other:∀{b:Addr}{v:HO},H9 b=some v->v≠.lst ((Df j).map V.int)->upd H9 g.br (.lst ((Df (j+1)).map V.int)) b=some v:=λ{b v} e n=>by rw[As (AE e hbr9 n)];exact e
    refine⟨_,_,rfl,?_,at9.put hbr9 n1 n2,Af,other (kd _ _ ham) A3,other (kd _ _ hbx) A3,fresh,n1,n2,n3⟩;intro b v e nb;rw[As (Av e fresh.2.2.2.1)];exact fr' _ _ (kp _ _ e nb) (Av e fresh.1) (Av e fresh.2.1) (Av e fresh.2.2.1)
   ·rintro σ H8 ⟨u2,u3,rfl,N⟩;exact k' H8 rfl N
end
end J
namespace J
open PySem L2
theorem Al.uniq{G:Gv}{i:Nat}{l m:Int}(h:Al G i l)(h2:Al G i m):l=m:=by
 obtain⟨q,e,z⟩:=h;obtain⟨p,e2,z2⟩:=h2;rw[e]at e2;cases e2;exact z.symm.trans z2
structure IC(G:Gv)(n i:Nat)(q:Sq)(x y z w:Nat):Prop where
 g:G[i]?=some q
 ps:q.parts=[(x:Int),(y:Int),(z:Int),(w:Int)]
 lev:q.lev=(n:Int)+1
 hx:Al G x n
 hy:Al G y n
 hz:Al G z n
 hw:Al G w n
theorem BP{G:Gv}(ok:GOk G){n i:Nat}(h:Al G i ((n+1:Nat):Int)):∃q x y z w,IC G n i q x y z w:=by
 obtain⟨q,e,el⟩:=h;have n8:8<=i:=by
  refine O8 λl8=>?_;rw[ok.leaf i l8]at e;cases e;have:(0:Int)=((n+1:Nat):Int):=el;lia
 obtain⟨x,y,z,w,ep,⟨hx,hy,hz,hw⟩,_,_⟩:=ok.node i q e n8;have en:q.lev-1=(n:Int):=by lia
 rw[en]at hx hy hz hw;exact⟨q,x,y,z,w,e,ep,by lia,hx,hy,hz,hw⟩
theorem IC.app{G G':Gv}{k n i:Nat}{q:Sq}{x y z w:Nat}(go:AH G G' k)(h:IC G n i q x y z w):IC G' n i q x y z w:=⟨go.get h.g,h.ps,h.lev,go.lev h.hx,go.lev h.hy,go.lev h.hz,go.lev h.hw⟩
def DG(G:Gv):Nat->Nat->Int
 |0,i=>if i=0 then 0 else 1
 |n+1,i=>match G[i]? with
  |some q=>(q.parts.map λp=>DG G n p.toNat).sum
  |none=>0
theorem JD{G:Gv}{n i:Nat}{q:Sq}{x y z w:Nat}(h:IC G n i q x y z w):DG G (n+1) i=([x,y,z,w].map λk=>DG G n k).sum:=by
 rw[show DG G (n+1) i=(match G[i]? with|some q=>(q.parts.map λ(p:Int)=>DG G n p.toNat).sum|none=>0)from rfl,h.g];show(q.parts.map λ(p:Int)=>DG G n p.toNat).sum=_;rw[h.ps];rfl
theorem Jq{G G':Gv}{k:Nat}(ok:GOk G)(go:AH G G' k):∀(n i:Nat),Al G i (n:Int)->DG G' n i=DG G n i
 |0,i,_=>rfl
 |n+1,i,h=>by
  obtain⟨q,x,y,z,w,nd⟩:=BP ok h;rw[JD nd,JD (nd.app go)];show DG G' n x+(DG G' n y+(DG G' n z+(DG G' n w+0)))=_;rw[Jq ok go n x nd.hx,Jq ok go n y nd.hy,Jq ok go n z nd.hz,Jq ok go n w nd.hw];rfl
theorem EY(G:Gv):∀(n i:Nat),0<=DG G n i
 |0,i=>by
  show 0<=if i=0 then(0:Int)else 1;split<;>lia
 |n+1,i=>by
  unfold DG;split
  ·rename_i q _;have:∀l:List Int,0<=(l.map λp=>DG G n p.toNat).sum:=by
    intro l;induction l with
    |nil=>exact Q0 0
    |cons p r ih=>rw[F7,O6];have:=EY G n p.toNat;lia
   exact this _
  ·exact Q0 0
theorem MP:∀(n:Nat)(l:List Nat),l.Nodup->(∀x∈l,x<n)->l.length<=n
 |0,l,_,h=>by
  cases l with
  |nil=>exact C1 0
  |cons x r=>exact absurd (h x C7) (N1 _)
 |n+1,l,nd,h=>by
  by_cases hm:n∈l
  ·have:=MP n (l.erase n) (nd.erase n) λx hx=>by
    have h1:=(nd.mem_erase_iff).mp hx;have:=h x h1.2;have:=h1.1;lia
   rw[List.length_erase_of_mem hm]at this;lia
  ·have:=MP n l nd λx hx=>by
    have:=h x hx;have:x≠n:=λz=>hm (z▸hx);lia
   lia
structure GD(G:Gv)(ks:List (Key×V)):Prop where
 nd:(ks.map Prod.fst).Nodup
 lt:∀k∈ks.map Prod.fst,∃i:Nat,i<G.length/\k=Sum.inl (i:Int)
theorem GD.len{G:Gv}{ks:List (Key×V)}(h:GD G ks):ks.length<=G.length:=by
 let f:Key->Nat:=λk=>match k with|.inl i=>i.toNat|.inr _=>0
 have:=MP G.length ((ks.map Prod.fst).map f) (by
  rw[R4,U4];refine A2h (λ{a b} ha hb hne z=>hne ?_) (R4.mp h.nd);obtain⟨i,_,rfl⟩:=h.lt a ha;obtain⟨j,_,rfl⟩:=h.lt b hb;have:(i:Int).toNat=(j:Int).toNat:=z;rw[J8,J8]at this;rw[this]) (λx hx=>by
  obtain⟨k,hk,rfl⟩:=D5.mp hx;obtain⟨i,hi,rfl⟩:=h.lt k hk;show(i:Int).toNat<_;rw[J8];exact hi)
 rw[B8,B8]at this;exact this
theorem GD.app{G G':Gv}{ks:List (Key×V)}(le:G.length<=G'.length)(h:GD G ks):GD G' ks:=⟨h.nd,λk hk=>by
 obtain⟨i,hi,e⟩:=h.lt k hk;exact⟨i,by lia,e⟩⟩
theorem GD.put{G:Gv}{ks:List (Key×V)}(h:GD G ks){i:Nat}(hi:i<G.length)(v:V):GD G (EE ks (Sum.inl (i:Int)) v):=by
 unfold EE;by_cases a:(ks.any λkv=>decide (kv.1=Sum.inl (i:Int)))=true
 ·rw[Y8 a];have e:(ks.map λkv=>if kv.1=Sum.inl (i:Int)then(kv.1,v)else kv).map Prod.fst=ks.map Prod.fst:=by
   rw[M0];refine List.map_congr_left λkv _=>?_;show(if kv.1=Sum.inl (i:Int)then(kv.1,v)else kv).1=kv.1;split<;>rfl
  exact⟨by rw[e];exact h.nd,by rw[e];exact h.lt⟩
 ·rw[Y6 a];refine⟨?_,λk hk=>?_⟩
  ·rw[C5,P4];refine⟨h.nd,by simp,λk hk k' hk' z=>a ?_⟩;have:k'=Sum.inl (i:Int):=by simpa using hk'
   subst this;subst z;obtain⟨kv,h1,h2⟩:=D5.mp hk;exact V2.mpr ⟨kv,h1,Y7 h2⟩
  ·rw[C5]at hk;rcases D9.mp hk with z|z
   ·exact h.lt k z
   ·exact⟨i,hi,by simpa using z⟩
structure ZW(G:Gv)(ks:List (Key×V)):Prop where
 keys:GD G ks
 leaf:∀s:Nat,s<8->∃v,BM ks (Sum.inl (s:Int))=some v
 val:∀(i:Nat) v,BM ks (Sum.inl (i:Int))=some v->∃l:Nat,Al G i l/\v=.int (DG G l i)
theorem ZW.app{G G':Gv}{k:Nat}{ks:List (Key×V)}(ok:GOk G)(go:AH G G' k)(h:ZW G ks):ZW G' ks:=⟨h.keys.app (by obtain⟨r,e⟩:=go.pre;rw[e,C4];lia),h.leaf,λi v e=>by
 obtain⟨l,h1,h2⟩:=h.val i v e;exact⟨l,go.lev h1,by rw[Jq ok go l i h1];exact h2⟩⟩
theorem am0:ZW G0 (amK 8) where
 keys:=⟨by decide +kernel,λk hk=>by
  obtain⟨p,hp,rfl⟩:=D5.mp hk;obtain⟨s,hs,rfl⟩:=D5.mp hp;have:=F8.mp hs;exact⟨s,by rw[OQ];lia,rfl⟩⟩
 leaf:=λs hs=>by
  match s,hs with
  |0,_=>exact⟨_,rfl⟩
  |1,_=>exact⟨_,rfl⟩
  |2,_=>exact⟨_,rfl⟩
  |3,_=>exact⟨_,rfl⟩
  |4,_=>exact⟨_,rfl⟩
  |5,_=>exact⟨_,rfl⟩
  |6,_=>exact⟨_,rfl⟩
  |7,_=>exact⟨_,rfl⟩
 val:=λi v e=>by
  have hi:i<8:=by
   refine U7 λz=>?_;rw[SU 8 i z]at e;cases e
  refine⟨0,⟨_,Rg i hi,rfl⟩,?_⟩
  match i,hi with
  |0,_=>cases e;rfl
  |1,_=>cases e;rfl
  |2,_=>cases e;rfl
  |3,_=>cases e;rfl
  |4,_=>cases e;rfl
  |5,_=>cases e;rfl
  |6,_=>cases e;rfl
  |7,_=>cases e;rfl
structure Bx where
 l:Int
 t:Int
 w:Int
 h:Int
def Bx.ns(b:Bx):List Int:=[b.l,b.t,b.w,b.h]
def shB(half:Int)(k:Nat)(b:Bx):Bx:=⟨b.l+half*((k:Int)%2),b.t+half*((k:Int)/2),b.w,b.h⟩
def DL(half:Int):Nat->List (Option Bx)->List Bx
 |_,[]=>[]
 |k,none::r=>DL half (k+1) r
 |k,some b::r=>shB half k b::DL half (k+1) r
def mnL(l:List Int):Int:=l.min?.getD 0
def mxL(l:List Int):Int:=l.max?.getD 0
def OK(bs:List Bx):Bx:=⟨mnL (bs.map (·.l)),mnL (bs.map (·.t)),mxL (bs.map λb=>b.l+b.w)-mnL (bs.map (·.l)),mxL (bs.map λb=>b.t+b.h)-mnL (bs.map (·.t))⟩
def Pj(half:Int)(obs:List (Option Bx)):Option Bx:=match DL half 0 obs with
 |[]=>none
 |b::r=>some (OK (b::r))
def BT(G:Gv):Nat->Nat->Option Bx
 |0,i=>if i=0 then none else some ⟨0,0,1,1⟩
 |n+1,i=>match G[i]? with
  |some q=>Pj (2^n) (q.parts.map λ(p:Int)=>BT G n p.toNat)
  |none=>none
theorem YH{l:List Int}{m:Int}(h:m∈l)(h2:∀x∈l,m<=x):m=mnL l:=by
 unfold mnL;rw[List.min?_eq_some_iff.mpr ⟨h,h2⟩];rfl
theorem YF{l:List Int}{m:Int}(h:m∈l)(h2:∀x∈l,x<=m):m=mxL l:=by
 unfold mxL;rw[List.max?_eq_some_iff.mpr ⟨h,h2⟩];rfl
theorem Fb{G:Gv}{n i:Nat}{q:Sq}{x y z w:Nat}(h:IC G n i q x y z w):BT G (n+1) i=Pj (2^n) [BT G n x,BT G n y,BT G n z,BT G n w]:=by
 rw[show BT G (n+1) i=(match G[i]? with|some q=>Pj (2^n) (q.parts.map λ(p:Int)=>BT G n p.toNat)|none=>none)from rfl,h.g];show Pj (2^n) (q.parts.map λ(p:Int)=>BT G n p.toNat)=_;rw[h.ps];rfl
theorem GM{G G':Gv}{k:Nat}(ok:GOk G)(go:AH G G' k):∀(n i:Nat),Al G i (n:Int)->BT G' n i=BT G n i
 |0,i,_=>rfl
 |n+1,i,h=>by
  obtain⟨q,x,y,z,w,nd⟩:=BP ok h;rw[Fb nd,Fb (nd.app go),GM ok go n x nd.hx,GM ok go n y nd.hy,GM ok go n z nd.hz,GM ok go n w nd.hw]
theorem PF{half:Int}:∀{obs:List (Option Bx)},Pj half obs=none ↔ ∀o∈obs,o=none:=by
 intro obs;have g:∀(obs:List (Option Bx))(k:Nat),DL half k obs=[] ↔ ∀o∈obs,o=none:=by
  intro obs;induction obs with
  |nil=>intro k;exact⟨λ_ o ho=>by simp at ho,λ_=>rfl⟩
  |cons o r ih =>
   intro k;cases o with
   |none =>
    rw[show DL half k (none::r)=DL half (k+1) r from rfl,ih (k+1)];exact⟨λh o ho=>by rcases C3.mp ho with z|z;exact z;exact h o z,λh o ho=>h o (C6 _ ho)⟩
   |some b=>exact⟨λh=>(by cases h),λh=>(by cases h (some b) C7)⟩
 rw[<-g obs 0];unfold Pj;constructor
 ·intro h;split at h
  ·assumption
  ·cases h
 ·intro h;rw[h]
theorem Ma{G:Gv}(ok:GOk G):∀(n i:Nat),Al G i (n:Int)->(BT G n i=none↔DG G n i=0)
 |0,i,_=>by
  show(if i=0 then none else some (⟨0,0,1,1⟩:Bx))=none↔(if i=0 then(0:Int)else 1)=0;split
  ·exact⟨λ_=>rfl,λ_=>rfl⟩
  ·exact⟨λh=>(by cases h),λh=>A0⟩
 |n+1,i,h=>by
  obtain⟨q,x,y,z,w,nd⟩:=BP ok h;rw[Fb nd,JD nd,PF];show _↔DG G n x+(DG G n y+(DG G n z+(DG G n w+0)))=0;have ex:=Ma ok n x nd.hx;have ey:=Ma ok n y nd.hy;have ez:=Ma ok n z nd.hz;have ew:=Ma ok n w nd.hw;have nx:=EY G n x;have ny:=EY G n y;have nz:=EY G n z;have nw:=EY G n w;constructor
  ·intro h;rw[ex.mp (h _ A6),ey.mp (h _ A6),ez.mp (h _ A6),ew.mp (h _ A6)];rfl
  ·intro h o ho;simp only[C3,F0,X7]at ho;rcases ho with rfl|rfl|rfl|rfl
   ·exact ex.mpr A0
   ·exact ey.mpr A0
   ·exact ez.mpr A0
   ·exact ew.mpr A0
theorem Zi{G r:Gv}(e:G=G0++r)(j:Nat)(h:j<48):G[8+j]?=some ⟨[(bareN j:Int),(bareN j:Int),(bareN j:Int),(bareN j:Int)],(j:Int)+1⟩:=by
 rw[e];exact LT (NJ j h)
theorem Jr{G:Gv}(ok:GOk G){r:Gv}(e:G=G0++r):∀(n i:Nat),n<=48->Al G i (n:Int)->(BT G n i=none↔i=bareN n)
 |0,i,_,_=>by
  show(if i=0 then none else some (⟨0,0,1,1⟩:Bx))=none↔i=0;split
  ·rename_i z;exact⟨λ_=>z,λ_=>rfl⟩
  ·rename_i z;exact⟨λh=>(by cases h),λh=>absurd h z⟩
 |n+1,i,hn,h=>by
  obtain⟨q,x,y,z,w,nd⟩:=BP ok h;rw[Fb nd,PF];have ex:=Jr ok e n x A0 nd.hx;have ey:=Jr ok e n y A0 nd.hy;have ez:=Jr ok e n z A0 nd.hz;have ew:=Jr ok e n w A0 nd.hw;have hb:=Zi e n A0;constructor
  ·intro h;have hx:=ex.mp (h _ A6);have hy:=ey.mp (h _ A6);have hz:=ez.mp (h _ A6);have hw:=ew.mp (h _ A6);show i=8+n;refine ok.one nd.g hb ?_;rw[nd.ps,hx,hy,hz,hw]
  ·intro h;have h:i=8+n:=h;have g:=nd.g;rw[h,hb]at g;cases g;have p:=nd.ps;have p:[(bareN n:Int),(bareN n:Int),(bareN n:Int),(bareN n:Int)]=[(x:Int),(y:Int),(z:Int),(w:Int)]:=p;injection p with p1 p
   injection p with p2 p
   injection p with p3 p
   injection p with p4 p
   intro o ho;simp only[C3,F0,X7]at ho;rcases ho with rfl|rfl|rfl|rfl
   ·exact ex.mpr (Z8 p1).symm
   ·exact ey.mpr (Z8 p2).symm
   ·exact ez.mpr (Z8 p3).symm
   ·exact ew.mpr (Z8 p4).symm
structure BxOk(G:Gv)(H:Hp)(ks:List (Key×V)):Prop where
 keys:GD G ks
 val:∀(i:Nat) v,BM ks (Sum.inl (i:Int))=some v->∃(l:Nat)(b:Bx)(t:Addr),Al G i l/\BT G l i=some b/\v=.ref t/\H t=some (.tup (b.ns.map V.int))
structure Bp(a:Ad)(H:Hp)(g:GA)(G:Gv):Prop where
 at':AI a H g G
 ok:GOk G
 g0:∃r,G=G0++r
 br:H g.br=some (.lst ((Df 48).map V.int))
 am:∃ks,H g.am=some (.dK ks)/\ZW G ks
 bx:∃ks,H g.bx=some (.dK ks)/\BxOk G H ks
 n1:g.br≠g.lv
 n2:g.br≠g.pt
 n3:g.am≠g.bx
theorem Bp.new{a:Ad}{H H':Hp}{g:GA}(h:SY a H H' g G0 (Df 48) (amK 8)):Bp a H' g G0:=⟨h.at',g0_ok,⟨[],by simp⟩,h.br,⟨_,h.am,am0⟩,⟨_,h.bx,⟨by simp,λk hk=>by simp at hk⟩,λi v e=>by cases e⟩,h.n1,h.n2,h.n3⟩
theorem Bp.ne_am{a:Ad}{H:Hp}{g:GA}{G:Gv}(h:Bp a H g G){b:Addr}{o:HO}(e:H b=some o)(n:∀ks,o≠.dK ks):b≠g.am/\b≠g.bx:=by
 obtain⟨ks,h1,_⟩:=h.am;obtain⟨ks',h2,_⟩:=h.bx;exact⟨AE e h1 (n _),AE e h2 (n _)⟩
theorem Bp.same{a:Ad}{H H':Hp}{g:GA}{G:Gv}(s:Az H H')(h:Bp a H g G):Bp a H' g G:=by
 obtain⟨at',ok,g0,br,⟨ks,h1,h2⟩,⟨ks',h3,h4⟩,n1,n2,n3⟩:=h;refine⟨at'.same s,ok,g0,s _ _ br,⟨ks,s _ _ h1,h2⟩,⟨ks',s _ _ h3,h4.keys,λi v e=>?_⟩,n1,n2,n3⟩;obtain⟨l,b,t,e1,e2,e3,e4⟩:=h4.val i v e;exact⟨l,b,t,e1,e2,e3,s _ _ e4⟩
theorem AH.le{G G':Gv}{k:Nat}(go:AH G G' k):G.length<=G'.length:=by
 obtain⟨r,e⟩:=go.pre;rw[e,C4];lia
theorem Bp.fr{a:Ad}{H H':Hp}{g:GA}{G G':Gv}{m:Nat}(h:Bp a H g G)(f:Fr g H H')(at2:AI a H' g G')(go:AH G G' m):Bp a H' g G':=by
 obtain⟨at',ok,⟨r,g0⟩,br,⟨ks,h1,h2⟩,⟨ks',h3,h4⟩,n1,n2,n3⟩:=h;obtain⟨us,hp,_⟩:=at'.pt;have keep:∀{b:Addr}{o:HO},H b=some o->(∀l,o≠.lst l)->(∀l,o≠.dT l)->H' b=some o:=λ{b o} e z1 z2=>f _ _ e (AE e at'.lv (z1 _)) (AE e hp (z1 _)) (AE e at'.nm (z2 _));obtain⟨t,et⟩:=go.pre;refine⟨at2,go.ok,⟨r++t,by rw[et,g0,R1]⟩,f _ _ br n1 n2 (AE br at'.nm A3),⟨ks,keep h1 (by intro l z;cases z) (by intro l z;cases z),h2.app ok go⟩,⟨ks',keep h3 (by intro l z;cases z) (by intro l z;cases z),h4.keys.app go.le,λi v e=>?_⟩,n1,n2,n3⟩;obtain⟨l,b,t,e1,e2,e3,e4⟩:=h4.val i v e;exact⟨l,b,t,go.lev e1,by rw[GM ok go l i e1];exact e2,e3,keep e4 (by intro l z;cases z) (by intro l z;cases z)⟩
theorem Bp.put{a:Ad}{H:Hp}{g:GA}{G:Gv}{l:Addr}{xs:List V}{o:HO}(h:Bp a H g G)(hl:H l=some (.lst xs))(m1:l≠g.lv)(m2:l≠g.pt)(m3:l≠g.br):Bp a (upd H l o) g G:=by
 obtain⟨at',ok,g0,br,⟨ks,h1,h2⟩,⟨ks',h3,h4⟩,n1,n2,n3⟩:=h;have other:∀{b v},H b=some v->v≠.lst xs->upd H l o b=some v:=λ{b v} e n=>by rw[As (AE e hl n)];exact e
 refine⟨at'.put hl m1 m2,ok,g0,by rw[As (Z1 m3)];exact br,⟨ks,other h1 A3,h2⟩,⟨ks',other h3 A3,h4.keys,λi v e=>?_⟩,n1,n2,n3⟩;obtain⟨l,b,t,e1,e2,e3,e4⟩:=h4.val i v e;exact⟨l,b,t,e1,e2,e3,other e4 A3⟩
def FrQ(g:GA)(H H':Hp):Prop:=∀b o,H b=some o->b≠g.am->b≠g.bx->H' b=some o
theorem FrQ.refl(g:GA)(H:Hp):FrQ g H H:=λ_ _ e _ _=>e
theorem FrQ.trans{g:GA}{H1 H2 H3:Hp}(h:FrQ g H1 H2)(h2:FrQ g H2 H3):FrQ g H1 H3:=λb o e n1 n2=>h2 b o (h b o e n1 n2) n1 n2
theorem Az.frq{g:GA}{H1 H2:Hp}(h:Az H1 H2):FrQ g H1 H2:=λb o e _ _=>h b o e
theorem AI.dict{a:Ad}{H:Hp}{g:GA}{G:Gv}{d:Addr}{ks:List (Key×V)}{o:HO}(hd:H d=some (.dK ks))(h:AI a H g G):AI a (upd H d o) g G:=by
 obtain⟨h1,h2,⟨ts,h3,h4⟩,h5,h6⟩:=h;have other:∀{b v},H b=some v->v≠.dK ks->upd H d o b=some v:=λ{b v} e n=>by rw[As (AE e hd n)];exact e
 exact⟨other h1 A3,other h2 A3,⟨ts,other h3 A3,PairedM.imp (λt q z=>other z A3) h4⟩,other h5 A3,h6⟩
theorem Bp.bx_put{a:Ad}{H:Hp}{g:GA}{G:Gv}{ks ks2:List (Key×V)}(h:Bp a H g G)(e:H g.bx=some (.dK ks))(h2:BxOk G H ks2):Bp a (upd H g.bx (.dK ks2)) g G/\FrQ g H (upd H g.bx (.dK ks2)):=by
 obtain⟨at',ok,g0,br,⟨ks',h3,h4⟩,⟨_,_,_⟩,n1,n2,n3⟩:=h;have other:∀{b v},H b=some v->v≠.dK ks->upd H g.bx (.dK ks2) b=some v:=λ{b v} e' n=>by rw[As (AE e' e n)];exact e'
 refine⟨⟨at'.dict e,ok,g0,other br A3,⟨ks',by rw[As n3];exact h3,h4⟩,⟨_,Af,h2.keys,λi v e=>?_⟩,n1,n2,n3⟩,λb o e' _ m1=>by rw[As m1];exact e'⟩;obtain⟨l,b,t,e1,e2,e3,e4⟩:=h2.val i v e;exact⟨l,b,t,e1,e2,e3,other e4 A3⟩
theorem Sk(g:GA):(fl6 g).lookup ("boxed" : Str)=none:=Iy g A1 A1 A1 A1 A1 A1
theorem Si(g:GA):(fl6 g).lookup ("measured" : Str)=none:=Iy g A1 A1 A1 A1 A1 A1
theorem no_span(g:GA):(fl6 g).lookup ("span" : Str)=none:=Iy g A1 A1 A1 A1 A1 A1
theorem IC.mem{G:Gv}{n i:Nat}{q:Sq}{x y z w:Nat}(h:IC G n i q x y z w){j:Nat}{v:V}(e:(q.parts.map V.int)[j]?=some v):∃k:Nat,v=.int k/\Al G k n/\q.parts[j]?=some (k:Int):=by
 rw[C0]at e;obtain⟨p,hp,rfl⟩:=D2.mp e;have hm:=D1 hp;rw[h.ps]at hm;simp only[C3,F0,X7]at hm;rcases hm with rfl|rfl|rfl|rfl
 ·exact⟨x,rfl,h.hx,hp⟩
 ·exact⟨y,rfl,h.hy,hp⟩
 ·exact⟨z,rfl,h.hz,hp⟩
 ·exact⟨w,rfl,h.hw,hp⟩
section
variable{P:Program}{w:World}{K:PySem.W.Frag}{mg:Str->Option Value}{base:Heap}{a:Ad}
end
seal L2.PA L2.PE L2.PS L2.PSs L2.PT L2.PW
theorem OO(half:Int):∀(l r:List (Option Bx))(k:Nat),DL half k (l++r)=DL half k l++DL half (k+l.length) r
 |[],r,k=>rfl
 |none::l,r,k=>by
  show DL half (k+1) (l++r)=DL half (k+1) l++DL half (k+(l.length+1)) r;rw[OO half l r (k+1),show k+1+l.length=k+(l.length+1) by lia]
 |some b::l,r,k=>by
  show shB half k b::DL half (k+1) (l++r)=shB half k b::(DL half (k+1) l++DL half (k+(l.length+1)) r);rw[OO half l r (k+1),show k+1+l.length=k+(l.length+1) by lia]
theorem LU(half:Int):∀(l:List (Option Bx))(k:Nat),(DL half k l).length<=l.length
 |[],k=>C1 _
 |none::l,k=>C9 (LU half l (k+1)) (R3 _)
 |some b::l,k=>P8 (LU half l (k+1))
theorem PairedM.getL{α β:Type}{F:α->β->Prop}:∀{l:List α}{m:List β}{i:Nat}{x:α},Paired F l m->l[i]?=some x->∃y,m[i]?=some y/\F x y
 |_,_,_,_,.nil,e=>by simp at e
 |_,_,0,_,.cons r _,e=>by simp at e;subst e;exact⟨_,rfl,r⟩
 |_,_,i+1,x,.cons _ t,e=>by
  obtain⟨y,h1,h2⟩:=PairedM.getL (i:=i) (x:=x) t (by simpa using e);exact⟨y,by simpa using h1,h2⟩
def MY(H:Hp)(t:Addr)(b:Bx):Prop:=H t=some (.tup (b.ns.map V.int))
theorem NM{β:Type}{K:PySem.W.Frag}{k:Nat}{cs:List Nat}{g:TG}{tc:TT}{te:TE}{σ:St}{H:Hp}{fin:List V->Hp->Prop}{D:Addr->β->Prop}{L:Addr}{ts:List Addr}{bs:List β}(col:β->Int)(hL:H L=some (.lst (ts.map V.ref)))(pr:Paired D ts bs)(few:ts.length<1000)
  (hs:∀t b acc N,D t b->acc.length<sizeLine->N (acc++[.int (col b)]) H->Bt k cs g tc te σ (.ref t) acc H N) (hd:fin ((bs.map col).map V.int) H):Gd k cs g tc te (Itl K L) σ H fin:=by
 have ln:ts.length=bs.length:=Z9 pr;refine De (xs:=ts.map V.ref) (λj acc H2=>H=H2/\acc=((bs.take j).map col).map V.int) ⟨rfl,rfl⟩ (λj acc H2 _ z=>z.1▸SqL.of hL) ?_ ?_
 ·rintro j v acc H2 ev ⟨rfl,rfl⟩;rw[C0]at ev;obtain⟨t,et,rfl⟩:=D2.mp ev;obtain⟨b,eb,d⟩:=PairedM.getL pr et;refine hs t b _ _ d (by rw[B8,B8,L5];exact FJ A0) ⟨rfl,?_⟩;rw[F5,eb,C5,C5];rfl
 ·rintro acc H2 ⟨rfl,rfl⟩;rw[B8,ln,J0];exact hd
section
variable{P:Program}{w:World}{K:PySem.W.Frag}{mg:Str->Option Value}{base:Heap}{a:Ad}
inductive Vn(vs:List V)(H:Hp)(Q:VK):Prop
 |mk (t:Addr) (b:Bx) (dx dy:Int) (_:vs=[.ref t,.int dx,.int dy]) (_:MY H t b) (_:∀t',H t'=none->Q (.ref t') (upd H t' (.tup [.int (b.l+dx),.int (b.t+dy),.int b.w,.int b.h]))):Vn vs H Q
def Lq:Sp:=λvs H Q _=>Vn vs H Q
theorem Ym{f:Addr}{fd:FuncData}(F:Fun K "shifted_box" "shifted_box" Gg f fd)(T:Top K mg a):AJ P w K mg base CX0 1 f fd Dt Lq:=by
 refine F.ok NX (λvs H Q E h=>?_) (λcdv A outer s H vs Q E hr h=>?_)
 ·obtain⟨t,b,dx,dy,rfl,_⟩:=h;rfl
 ·obtain⟨t,b,dx,dy,rfl,ht,k⟩:=h;have ht:H t=some (.tup [.int b.l,.int b.t,.int b.w,.int b.h]):=ht;refine⟨_,(Ag (Aw (EN (AZ AL (Aj Am (pv 0) Ae (λ_ _=>rfl)) (pv 1) (AZ AL (Aj Am (pv 0) Ae (λ_ _=>rfl)) (pv 2) (Aa (Aj Am (pv 0) Ae (λ_ _=>rfl)) (Aa (Aj Am (pv 0) Ae (λ_ _=>rfl)) Ab))))))),?_⟩
  try dsimp only[cxK]
  refine xwi rfl rfl rfl (SqT.of ht) (Ai (j:=0) rfl) (xwb rfl rfl rfl (xwi rfl rfl rfl (SqT.of ht) (Ai (j:=1) rfl) (xwb rfl rfl rfl (xwi rfl rfl rfl (SqT.of ht) (Ai (j:=2) rfl) (xwi rfl rfl rfl (SqT.of ht) (Ai (j:=3) rfl) ⟨(by show 4<=sizeLine;decide),λt' n=>k t' n⟩)))))
inductive Vr(vs:List V)(H:Hp)(Q:VK):Prop
 |mk (L:Addr) (ts:List Addr) (bs:List Bx) (_:vs=[.ref L]) (_:H L=some (.lst (ts.map V.ref))) (_:Paired (MY H) ts bs) (_:bs≠[]) (_:ts.length<1000) (_:∀t' H',Az H H'->MY H' t' (OK bs)->Q (.ref t') H'):Vr vs H Q
def NA:Sp:=λvs H Q _=>Vr vs H Q
theorem Yr{f:Addr}{fd:FuncData}(F:Fun K "least_box" "least_box" CW f fd)(T:Top K mg a):AJ P w K mg base CX0 1 f fd FZ NA:=by
 refine F.ok DO (λvs H Q E h=>?_) (λcdv A outer s H vs Q E hr h=>?_)
 ·obtain⟨L,ts,bs,rfl,_⟩:=h;rfl
 ·obtain⟨L,ts,bs,rfl,hL,pr,ne,few,k⟩:=h;have nem:∀col:Bx->Int,bs.map col≠[]:=λcol z=>ne (R7.mp z);refine⟨_,(Ac (Aq (i:=1) DO.nd rfl (Or.inl rfl) (AR (Qd rfl) rfl T.b_min A0e (Aa (BW rfl (Bu.of (So:=Ah CW) (No:=EF) (N:=["box"]) (k:=1) (cs:=[]) rfl rfl A1) (BV (pv 0)) (λ_ _ _=>(AW (i:=0) A1 rfl rfl)) (λ_ _ _=>BF) (λ_ _ _=>(Aj (JA (K:=K) rfl) (pv 0) Ae (λ_ _=>rfl)))) Ab))) (Ac (Aq (i:=2) DO.nd rfl (Or.inl rfl) (AR (Qd rfl) rfl T.b_min A0e (Aa (BW rfl (Bu.of (So:=Ah CW) (No:=EF) (N:=["box"]) (k:=1) (cs:=[]) rfl rfl A1) (BV (pv 0)) (λ_ _ _=>(AW (i:=0) A1 rfl rfl)) (λ_ _ _=>BF) (λ_ _ _=>(Aj (JA (K:=K) rfl) (pv 0) Ae (λ_ _=>rfl)))) Ab))) (Ac (Aq (i:=3) DO.nd rfl (Or.inl rfl) (AR (Qe rfl) rfl T.b_max A3d (Aa (BW rfl (Bu.of (So:=Ah CW) (No:=EF) (N:=["box"]) (k:=1) (cs:=[]) rfl rfl A1) (BV (pv 0)) (λ_ _ _=>(AW (i:=0) A1 rfl rfl)) (λ_ _ _=>BF) (λ_ _ _=>(Ay AL (Aj (JA (K:=K) rfl) (pv 0) Ae (λ_ _=>rfl)) (Aj (JA (K:=K) rfl) (pv 0) Ae (λ_ _=>rfl))))) Ab))) (Ac (Aq (i:=4) DO.nd rfl (Or.inl rfl) (AR (Qe rfl) rfl T.b_max A3d (Aa (BW rfl (Bu.of (So:=Ah CW) (No:=EF) (N:=["box"]) (k:=1) (cs:=[]) rfl rfl A1) (BV (pv 0)) (λ_ _ _=>(AW (i:=0) A1 rfl rfl)) (λ_ _ _=>BF) (λ_ _ _=>(Ay AL (Aj (JA (K:=K) rfl) (pv 0) Ae (λ_ _=>rfl)) (Aj (JA (K:=K) rfl) (pv 0) Ae (λ_ _=>rfl))))) Ab))) (Ag (Aw (EN (Aa (pv 1) (Aa (pv 2) (AZ BY (pv 3) (pv 1) (AZ BY (pv 4) (pv 2) Ab))))))))))),?_⟩
  try dsimp only[cxK]
  refine xq1 rfl ⟨L,rfl,⟨_,SqL.of hL⟩,NM (·.l) hL pr few (λt b acc N d la nx=>⟨⟨[some (.ref t)],rfl,rfl⟩,la,Gc (xwi rfl rfl rfl (SqT.of d) (Ai (j:=0) rfl) nx)⟩) λq1 h1=>?_⟩;refine⟨q1,(xq1 rfl ⟨SqL.of Af,nem _,λm1 hm1 hn1=>?_⟩)⟩;obtain rfl:=YH hm1 hn1;have s1:=AN (o:=.lst ((bs.map (·.l)).map V.int)) h1;generalize upd H q1 (.lst ((bs.map (·.l)).map V.int))=H1 at s1⊢;have hL1:=s1 _ _ hL;have pr1:Paired (MY H1) ts bs:=PairedM.imp (λt b z=>s1 _ _ z) pr;refine xq1 rfl ⟨L,rfl,⟨_,SqL.of hL1⟩,NM (·.t) hL1 pr1 few (λt b acc N d la nx=>⟨⟨[some (.ref t)],rfl,rfl⟩,la,Gc (xwi rfl rfl rfl (SqT.of d) (Ai (j:=1) rfl) nx)⟩) λq2 h2=>?_⟩;refine⟨q2,(xq1 rfl ⟨SqL.of Af,nem _,λm2 hm2 hn2=>?_⟩)⟩;obtain rfl:=YH hm2 hn2;have s2:=s1.trans (AN (o:=.lst ((bs.map (·.t)).map V.int)) h2);generalize upd H1 q2 (.lst ((bs.map (·.t)).map V.int))=H2 at s2⊢;have hL2:=s2 _ _ hL;have pr2:Paired (MY H2) ts bs:=PairedM.imp (λt b z=>s2 _ _ z) pr;refine xq1 rfl ⟨L,rfl,⟨_,SqL.of hL2⟩,NM (λb=>b.l+b.w) hL2 pr2 few (λt b acc N d la nx=>⟨⟨[some (.ref t)],rfl,rfl⟩,la,Gc (xwi rfl rfl rfl (SqT.of d) (Ai (j:=0) rfl) (xwi rfl rfl rfl (SqT.of d) (Ai (j:=2) rfl) (xq2 rfl rfl nx)))⟩) λq3 h3=>?_⟩;refine⟨q3,(xq1 rfl ⟨SqL.of Af,nem _,λm3 hm3 hn3=>?_⟩)⟩;obtain rfl:=YF hm3 hn3;have s3:=s2.trans (AN (o:=.lst ((bs.map λb=>b.l+b.w).map V.int)) h3);generalize upd H2 q3 (.lst ((bs.map λb=>b.l+b.w).map V.int))=H3 at s3⊢;have hL3:=s3 _ _ hL;have pr3:Paired (MY H3) ts bs:=PairedM.imp (λt b z=>s3 _ _ z) pr;refine xq1 rfl ⟨L,rfl,⟨_,SqL.of hL3⟩,NM (λb=>b.t+b.h) hL3 pr3 few (λt b acc N d la nx=>⟨⟨[some (.ref t)],rfl,rfl⟩,la,Gc (xwi rfl rfl rfl (SqT.of d) (Ai (j:=1) rfl) (xwi rfl rfl rfl (SqT.of d) (Ai (j:=3) rfl) (xq2 rfl rfl nx)))⟩) λq4 h4=>?_⟩;refine⟨q4,(xq1 rfl ⟨SqL.of Af,nem _,λm4 hm4 hn4=>?_⟩)⟩;obtain rfl:=YF hm4 hn4;have s4:=s3.trans (AN (o:=.lst ((bs.map λb=>b.t+b.h).map V.int)) h4);generalize upd H3 q4 (.lst ((bs.map λb=>b.t+b.h).map V.int))=H4 at s4⊢;exact xw3 rfl rfl rfl (xwb rfl rfl rfl (xw2 rfl rfl (xq2 rfl rfl ⟨(by show 4<=sizeLine;decide),λt5 h5=>k t5 _ (s4.trans (AN h5)) Af⟩)))
inductive SpBox(a:Ad)(n:Nat)(vs:List V)(H:Hp)(Q:VK):Prop
 |mk (g:GA) (G:Gv) (i l:Nat) (_:vs=[.ref g.p,.int i]) (_:Bp a H g G) (_:Al G i l) (_:l<n) (_:G.length<9000000) (_:(BT G l i=none->∀H',FrQ g H H'->Bp a H' g G->Q .non H')) (_:∀b,BT G l i=some b->∀t H',FrQ g H H'->Bp a H' g G->MY H' t b->Q (.ref t) H'):SpBox a n vs H Q
def RN(a:Ad)(n:Nat):Sp:=λvs H Q _=>SpBox a n vs H Q
inductive SpMea(a:Ad)(n:Nat)(vs:List V)(H:Hp)(Q:VK):Prop
 |mk (g:GA) (G:Gv) (i l:Nat) (b:Bx) (_:vs=[.ref g.p,.int i]) (_:Bp a H g G) (_:Al G i l) (_:l<n) (_:G.length<9000000) (_:BT G l i=some b) (_:∀t H',FrQ g H H'->Bp a H' g G->MY H' t b->Q (.ref t) H'):SpMea a n vs H Q
def spMea(a:Ad)(n:Nat):Sp:=λvs H Q _=>SpMea a n vs H Q
theorem Qp(m:Nat){l:Int}(e:l=(m:Int)+1):(1:Int)*2^(l-1).toNat=2^m:=by
 rw[e,Int.one_mul,show((m:Int)+1-1).toNat=m by lia]
theorem ok_mea{n d:Nat}{f:Addr}{fd:FuncData}(F:Fun K "measured" "Grove.measured" Dh f fd)(T:Top K mg a)(hd:1<=d)(aI:Cal P w K mg base CX0 1 "shifted_box" Dt Lq)(aZ:Cal P w K mg base CX0 1 "least_box" FZ NA)(aX:BZ P w K mg base CX0 d a.c_Grove "boxed" CL (RN a n)):AJ P w K mg base CX0 (d+1) f fd Dk (spMea a (n+1)):=by
 refine F.ok Br (λvs H Q E h=>?_) (λcdv A outer s H vs Q E hr h=>?_)
 ·obtain⟨g,G,i,l,b,rfl,_⟩:=h;rfl
 ·obtain⟨g,G,i,l,b,rfl,fu,hl,ln,few,eb,k⟩:=h;obtain⟨q0,e0,l0⟩:=id hl;refine⟨_,(Ac (Aq (i:=2) Br.nd rfl (Or.inl rfl) (Aj Ax (AC (pv 0) rfl) (pv 1) (λ_ _=>rfl))) (Ac (AQ (AB Ct (pv 2) Ae (AF _)) (Ag (Aw (EN (AK (AK (AK (AK Ab))))))) AD) (Ac (Aq (i:=3) Br.nd rfl (Or.inl rfl) (Ay Li Ae (Ay BY (pv 2) Ae))) (Ac (Aq (i:=4) Br.nd rfl (Or.inl rfl) (BX Ab)) (Ac (Cy Z6 rfl (ND true rfl T.b_enumerate (Aa (Aj Ax (AC (pv 0) rfl) (pv 1) (λ_ _=>rfl)) Ab)) (Op rfl (Ds (Bn (i:=5) Br.nd rfl (Or.inl rfl)) (Ds (Bn (i:=6) Br.nd rfl (Or.inl rfl)) LD))) (Ac (Aq (i:=7) Br.nd rfl (Or.inl rfl) (AG (pv 0) aX (rm hr) An (Aa (pv 6) Ab))) (Ag (AQ (AB UM (pv 7) DC (AF _)) (Ag (BG (CS Z3 Z4 Z5 BD (pv 4) (Aa (Ar aI (rm hr) rfl An (Aa (pv 7) (AZ Es (pv 3) (Ay Bb (pv 5) Ae) (AZ Es (pv 3) (Ay CT (pv 5) Ae) Ab)))) Ab)))) AD)))) (Ag (Aw (Ar aZ (rm hr) rfl An (Aa (pv 4) Ab))))))))),?_⟩
  try dsimp only[cxK]
  refine⟨_,rfl,g.p,_,g.dx,_,_,rfl,fu.at'.hp,T.cl_Grove,T.na_Grove_levels,FM g,_,rfl,g.lv,_,(i:Int),.int q0.lev,rfl,rfl,SqL.of fu.at'.lv,Ai (by rw[C0,e0];rfl),?_⟩;cases l with
  |zero =>
   rw[l0];refine xq1 rfl ⟨rfl,(xq1 rfl (Cp ⟨(by show 4<=sizeLine;decide),λt ht=>?_⟩))⟩;have e:b=⟨0,0,1,1⟩:=by
    have eb:(if i=0 then none else some (⟨0,0,1,1⟩:Bx))=some b:=eb;split at eb
    ·cases eb
    ·cases eb;rfl
   subst e;have sm:=AN (o:=.tup [.int 0,.int 0,.int 1,.int 1]) ht;exact k t _ (Az.frq sm) (fu.same sm) Af
  |succ m =>
   have l0':q0.lev=(m:Int)+1:=by rw[l0];lia
   refine xq1 rfl ⟨rfl,(xq1 rfl ?_)⟩;rw[Y9 (by intro z;injection z with z;lia)];obtain⟨q,x,y,z,w,nd⟩:=BP fu.ok hl;obtain⟨ts,h3,h4⟩:=fu.at'.pt;obtain⟨t,et,ht⟩:=PairedM.get h4 nd.g;have ht:H t=some (.tup (q.parts.map V.int)):=ht;have nt:=fu.ne_am ht (by intro l z;cases z);refine Bo (xwb rfl rfl rfl (xq2 rfl rfl ⟨⟨by lia,by have:=(fu.ok.lev e0).2;lia,by decide⟩,?_⟩));rw[show(λ(i j:Int)=>V.int (i*2^j.toNat)) 1 (q0.lev-1)=V.int (2^m)from X6 V.int (Qp m l0')];refine⟨(by show 0<=sizeLine;decide),λL hL=>?_⟩;have m1:L≠g.lv:=Z1 (Av fu.at'.lv hL);have m2:L≠g.pt:=Z1 (Av h3 hL);have m3:L≠g.br:=Z1 (Av fu.br hL);have s1:=AN (o:=.lst []) hL;have hL1:upd H L (.lst []) L=some (.lst []):=Af;generalize upd H L (.lst [])=H1 at s1 hL1⊢;have fu1:=fu.same s1;have h31:=s1 _ _ h3;have ht1:=s1 _ _ ht;generalize hobs:[BT G m x,BT G m y,BT G m z,BT G m w]=obs;have lobs:obs.length=4:=by rw[<-hobs];rfl
   have eobs:BT G (m+1) i=Pj (2^m) obs:=by rw[Fb nd,hobs]
   have gobs:∀(j k:Nat),q.parts[j]?=some (k:Int)->obs[j]?=some (BT G m k):=by
    intro j k e;rw[nd.ps]at e;rw[<-hobs]
    match j,e with
    |0,e=>have e:some (x:Int)=some (k:Int):=e;rw[show x=k from Z8 (Z2 e)];rfl
    |1,e=>have e:some (y:Int)=some (k:Int):=e;rw[show y=k from Z8 (Z2 e)];rfl
    |2,e=>have e:some (z:Int)=some (k:Int):=e;rw[show z=k from Z8 (Z2 e)];rfl
    |3,e=>have e:some (w:Int)=some (k:Int):=e;rw[show w=k from Z8 (Z2 e)];rfl
    |j+4,e=>simp at e
   refine xwf rfl rfl fu1.at'.hp T.cl_Grove T.na_Grove_parts (CB g) (xwi rfl rfl rfl (SqL.of h31) (Ai (by rw[C0,et];rfl)) ⟨t,rfl,⟨_,SqT.of ht1⟩,?_⟩);refine LW (b:=true) (xs:=q.parts.map V.int) (λj σ H2=>∃(us:List Addr)(u5 u6 u7:Option V),σ=[some (.ref g.p),some (.int i),some (.int q0.lev),some (.int (2^m)),some (.ref L),u5,u6,u7]/\FrQ g H H2/\Bp a H2 g G/\H2 L=some (.lst (us.map V.ref))/\Paired (MY H2) us (DL (2^m) 0 (obs.take j))) ⟨[],none,none,none,rfl,Az.frq s1,fu1,hL1,.nil⟩ (λj σ H2 _ ⟨_,_,_,_,_,fr,_⟩=>SqT.of (fr _ _ ht nt.1 nt.2)) ?_ ?_
   ·rintro j v σ H2 T' ev ⟨us,u5,u6,u7,rfl,fr,fu2,hL2,pr⟩ nT;obtain⟨k',rfl,hk,ek⟩:=nd.mem ev;have eo:=gobs j k' ek;have hj:j<4:=by rw[<-lobs];exact(B9.mp eo).1
    have lu:us.length<=4:=by
     rw[Z9 pr];have:=LU (2^m) (obs.take j) 0;rw[L5]at this;lia
    have s2:=AN (o:=.tup [.int j,.int k']) nT;refine SD Af ?_;generalize upd H2 T' (.tup [.int j,.int k'])=H3 at s2⊢;have fu3:=fu2.same s2;have ge:DL (2^m) 0 (obs.take (j+1))=DL (2^m) 0 (obs.take j)++DL (2^m) j [BT G m k']:=by
     rw[F5,eo,Q4,OO,L5,lobs,M5,Nat.min_eq_left A0]
    have nL:∀{H4:Hp},FrQ g H3 H4->H4 L=some (.lst (us.map V.ref)):=λ{H4} f4=>by
     have:=s2 _ _ hL2;have n:=fu3.ne_am this (by intro l z;cases z);exact f4 _ _ this n.1 n.2
    have nP:∀{H4:Hp},FrQ g H3 H4->Paired (MY H4) us (DL (2^m) 0 (obs.take j)):=λ{H4} f4=>PairedM.imp (λt b z=>by
     have:=s2 _ _ z;have n:=fu3.ne_am this (by intro l z;cases z);exact f4 _ _ this n.1 n.2) pr
    refine xq1 rfl ⟨g.p,g.dx,(xq1 rfl ⟨fu3.at'.hp,Sk g,(xq1 rfl ⟨g,G,k',m,rfl,fu3,hk,by lia,few,λen H4 f4 fu4=>?_,λb' eb' t4 H4 f4 fu4 ht4=>?_⟩)⟩)⟩
    ·refine xq1 rfl ⟨rfl,(xq1 rfl (Bo ⟨us,_,_,_,rfl,(fr.trans (Az.frq s2)).trans f4,fu4,nL f4,?_⟩))⟩;rw[ge,en];show Paired _ us (_++[]);rw[S9];exact nP f4
    ·refine xq1 rfl ⟨rfl,(xq1 rfl (Cp ?_))⟩;refine xq1 rfl ⟨.inl ⟨rfl,_,SqL.of (nL f4)⟩,(xw3 rfl rfl rfl (xq2 rfl rfl ⟨B7,(xq2 rfl rfl ⟨.inr ⟨by lia,by lia⟩,(xw2 rfl rfl (xq2 rfl rfl ⟨⟨by decide,by decide⟩,(xq2 rfl rfl ⟨.inr ⟨by lia,by lia⟩,?_⟩)⟩))⟩)⟩))⟩;refine⟨t4,b',_,_,rfl,ht4,λt5 h5=>?_⟩;have s5:=AN (o:=.tup [.int (b'.l+2^m*((j:Int)%2)),.int (b'.t+2^m*((j:Int)/2)),.int b'.w,.int b'.h]) h5;have ht5:MY (upd H4 t5 (.tup [.int (b'.l+2^m*((j:Int)%2)),.int (b'.t+2^m*((j:Int)/2)),.int b'.w,.int b'.h])) t5 (shB (2^m) j b'):=Af;generalize upd H4 t5 (.tup [.int (b'.l+2^m*((j:Int)%2)),.int (b'.t+2^m*((j:Int)/2)),.int b'.w,.int b'.h])=H5 at s5 ht5⊢;have hL5:=s5 _ _ (nL f4);have fu5:=fu4.same s5;refine⟨L,(xq2 rfl rfl ⟨hL5,by rw[B8];exact FJ A0,?_⟩)⟩;have other:∀{c:Addr}{l:List V},H5 c=some (.tup l)->upd H5 L (.lst (us.map V.ref++[.ref t5])) c=some (.tup l):=λ{c l} e=>by rw[As (AE e hL5 A3)];exact e
     refine⟨us++[t5],_,_,_,rfl,?_,fu5.put hL5 m1 m2 m3,by rw[Af,C5];rfl,?_⟩
     ·intro c o e n1 n2;have e5:=s5 _ _ (((fr.trans (Az.frq s2)).trans f4) _ _ e n1 n2);rw[As (Av e hL)];exact e5
     ·rw[ge,eb'];exact A0b (PairedM.imp (λc b z=>other (s5 _ _ z)) (nP f4)) (other ht5)
   ·rintro σ H2 ⟨us,u5,u6,u7,rfl,fr,fu2,hL2,pr⟩;rw[B8,show q.parts.length=obs.length by rw[nd.ps,lobs];rfl,J0]at pr;have eb2:Pj (2^m) obs=some b:=by rw[<-eobs];exact eb
    have lu:us.length<=4:=by
     rw[Z9 pr];have:=LU (2^m) obs 0;lia
    have e3:DL (2^m) 0 obs≠[]/\OK (DL (2^m) 0 obs)=b:=by
     unfold Pj at eb2;split at eb2
     ·cases eb2
     ·rename_i b1 r1 eg;rw[eg];exact⟨A3,Z2 eb2⟩
    refine xq1 rfl ⟨L,us,_,rfl,hL2,pr,e3.1,by lia,λt' H' s' ht'=>?_⟩;rw[e3.2]at ht';exact k t' H' (fr.trans (Az.frq s')) (fu2.same s') ht'
theorem Zz{l:Nat}(h:l<=48):((Df 48).map V.int)[l]?=some (.int (bareN l:Int)):=by
 unfold Df;rw[C0,C0,N8 A0];rfl
theorem ok_boxS{n d:Nat}{f:Addr}{fd:FuncData}(F:Fun K "boxed" "Grove.boxed" Ey f fd)(T:Top K mg a)(cM:BZ P w K mg base CX0 d a.c_Grove "measured" Dk (spMea a n)):AJ P w K mg base CX0 (d+1) f fd CL (RN a n):=by
 refine F.ok DS (λvs H Q E h=>?_) (λcdv A outer s H vs Q E hr h=>?_)
 ·obtain⟨g,G,i,l,rfl,_⟩:=h;rfl
 ·obtain⟨g,G,i,l,rfl,fu,hl,ln,few,k1,k2⟩:=h;obtain⟨q0,e0,l0⟩:=id hl;have l48:l<=48:=by have:=(fu.ok.lev e0).2;lia
  obtain⟨ks,hbx,bok⟩:=fu.bx;have lk:=bok.keys.len;obtain⟨r,eg⟩:=fu.g0;have bb:=Jr fu.ok eg l i l48 hl;refine⟨_,(Ac (AQ (AB Ct (pv 1) (Aj Ax (AC (pv 0) rfl) (Aj Ax (AC (pv 0) rfl) (pv 1) (λ_ _=>rfl)) (λ_ _=>rfl)) (AF _)) (Ag (Aw DC)) AD) (Ac (Aq (i:=2) DS.nd rfl (Or.inl rfl) (LG (FK hr) (AC (pv 0) rfl) (pv 1) ⟨rfl,rfl,rfl,rfl⟩)) (Ac (AQ (AB Jg (pv 2) DC (AF _)) (Ac (Aq (i:=2) DS.nd rfl (Or.inl rfl) (AG (pv 0) cM (rm hr) An (Aa (pv 1) Ab))) (Ag (Ig (FK hr) (AC (pv 0) rfl) (pv 1) (pv 2) rfl))) AD) (Ag (Aw (pv 2)))))),?_⟩
  try dsimp only[cxK]
  refine xw2 rfl rfl (xq5 fu.at'.hp T.cl_Grove T.na_Grove_bares (Jp g) (xwf rfl rfl fu.at'.hp T.cl_Grove T.na_Grove_levels (FM g) (xwi rfl rfl rfl (SqL.of fu.at'.lv) (Ai (by rw[C0,e0];rfl)) (xq4 rfl rfl (SqL.of fu.br) (by rw[l0];exact Ai (Zz l48)) ⟨rfl,(xq1 rfl ?_)⟩))));refine Gz (λhc=>?_) (λhc=>?_)
  ·have ei:i=bareN l:=by
    have:=X4 hc;injection this with this
    exact Z8 this
   exact k1 (bb.mpr ei) H (FrQ.refl g H) fu
  ·have ne:¬i=bareN l:=λz=>hc (by rw[z];exact Y7 rfl);obtain⟨b,eb⟩:∃b,BT G l i=some b:=by
    cases e:BT G l i with
    |none=>exact absurd (bb.mp e) ne
    |some b=>exact⟨b,rfl⟩
   refine xwf rfl rfl fu.at'.hp T.cl_Grove T.na_Grove_boxes (Zm g) ⟨g.bx,rfl,.inl ⟨_,.inl hbx⟩,(xq1 rfl ⟨_,IO.k (k:=Sum.inl (i:Int)) hbx,?_⟩)⟩;cases e:BM ks (Sum.inl (i:Int))with
   |some v =>
    obtain⟨l',b',t,hl',eb',rfl,ht⟩:=bok.val i v e;have el:l'=l:=Z8 (hl'.uniq hl);subst el;rw[eb]at eb';cases eb';exact xq1 rfl ⟨rfl,(xq1 rfl (Bo (xq1 rfl (k2 b eb t H (FrQ.refl g H) fu ht))))⟩
   |none =>
    refine xq1 rfl ⟨rfl,(xq1 rfl (Cp (xq1 rfl ⟨g.p,g.dx,(xq1 rfl ⟨fu.at'.hp,Si g,(xq1 rfl ⟨g,G,i,l,b,rfl,fu,hl,ln,few,eb,λt H2 f2 fu2 ht2=>?_⟩)⟩)⟩)))⟩;obtain⟨ks2,hbx2,bok2⟩:=fu2.bx;have lk2:=bok2.keys.len;obtain⟨fu3,f3⟩:=fu2.bx_put hbx2 (ks2:=EE ks2 (Sum.inl (i:Int)) (.ref t)) ⟨bok2.keys.put hl.lt _,λj v ev=>by
     rw[Ll]at ev;split at ev
     ·rename_i z;injection z with z
      have:j=i:=Z8 z;subst this;cases ev;exact⟨l,b,t,hl,eb,rfl,ht2⟩
     ·exact bok2.val j v ev⟩
    have nt:=fu2.ne_am ht2 (by intro l z;cases z);exact xw2 rfl rfl (xq5 fu2.at'.hp T.cl_Grove T.na_Grove_boxes (Zm g) (xq1 rfl ⟨g.bx,(xq1 rfl ⟨Mf.k (k:=Sum.inl (i:Int)) hbx2 (FJ A0),(xq1 rfl (k2 b eb t _ (f2.trans f3) fu3 (f3 _ _ ht2 nt.1 nt.2)))⟩)⟩))
theorem Yx{f:Addr}{fd:FuncData}{f':Addr}{fd':FuncData}(F:Fun K "boxed" "Grove.boxed" Ey f fd)(F':Fun K "measured" "Grove.measured" Dh f' fd')(T:Top K mg a)(Me:Pt K a.c_Grove "boxed" f)(Bi:CV K fd CL [])(Me':Pt K a.c_Grove "measured" f')(Bi':CV K fd' Dk [])
  (aI:Cal P w K mg base CX0 1 "shifted_box" Dt Lq) (aZ:Cal P w K mg base CX0 1 "least_box" FZ NA):∀n,AJ P w K mg base CX0 (2*n+2) f fd CL (RN a n)
 |0=>by
  refine F.ok DS (λvs H Q E h=>?_) (λcdv A outer s H vs Q E hr h=>?_)
  ·obtain⟨g,G,i,l,rfl,_,_,h0,_⟩:=h;exact absurd h0 (N1 _)
  ·obtain⟨g,G,i,l,rfl,_,_,h0,_⟩:=h;exact absurd h0 (N1 _)
 |n+1=>ok_boxS F T ⟨⟨f',fd',ok_mea (d:=2*n+2) F' T A0 aI aZ ⟨⟨f,fd,Yx F F' T Me Bi Me' Bi' aI aZ n,Me,Bi⟩,T.cl_Grove⟩,Me',Bi'⟩,T.cl_Grove⟩
inductive ZF(a:Ad)(vs:List V)(H:Hp)(Q:VK):Prop
 |mk (g:GA) (G:Gv) (i l:Nat) (_:vs=[.ref g.p,.int i]) (_:Bp a H g G) (_:Al G i l) (_:G.length<9000000) (_:(BT G l i=none->∀H',FrQ g H H'->Bp a H' g G->Q .non H')) (_:∀b,BT G l i=some b->∀t H',FrQ g H H'->Bp a H' g G->MY H' t b->Q (.ref t) H'):ZF a vs H Q
def Tc(a:Ad):Sp:=λvs H Q _=>ZF a vs H Q
theorem ok_span{f:Addr}{fd:FuncData}(F:Fun K "span" "Grove.span" Ia f fd)(T:Top K mg a)(aE:BZ P w K mg base CX0 2 a.c_Grove "check_square" Cd (UB a))(aX:BZ P w K mg base CX0 100 a.c_Grove "boxed" CL (RN a 49)):AJ P w K mg base CX0 101 f fd Iu (Tc a):=by
 refine F.ok Ph (λvs H Q E h=>?_) (λcdv A outer s H vs Q E hr h=>?_)
 ·obtain⟨g,G,i,l,rfl,_⟩:=h;rfl
 ·obtain⟨g,G,i,l,rfl,fu,hl,few,k0,k1⟩:=h;refine⟨_,(Ac (BG (AG (pv 0) aE (rm hr) An (Aa (pv 1) Ab))) (Ag (Aw (AG (pv 0) aX (rm hr) An (Aa (pv 1) Ab))))),?_⟩
  try dsimp only[cxK]
  have l48:l<49:=by
   obtain⟨q,e,el⟩:=id hl;have:=(fu.ok.lev e).2;lia
  refine xq1 rfl ⟨g.p,g.dx,(xq1 rfl ⟨fu.at'.hp,Sj g,(xq1 rfl ⟨g,G,i,rfl,fu.at',hl.lt,?_⟩)⟩)⟩;exact xq1 rfl ⟨g.p,g.dx,(xq1 rfl ⟨fu.at'.hp,Sk g,(xq1 rfl ⟨g,G,i,l,rfl,fu,hl,l48,few,k0,k1⟩)⟩)⟩
end
def atN(ns:List Int)(k:Int):Int:=ns.getD k.toNat 0
theorem TQ(K:PySem.W.Frag):kitOne K (.type "int") (.type "int")=some true/\kitOne K (.type "int") (.type "bool")=some false:=⟨by kernel_rfl,by kernel_rfl⟩
section
variable{P:Program}{w:World}{K:PySem.W.Frag}{mg:Str->Option Value}{base:Heap}{a:Ad}
inductive SpAt(K:PySem.W.Frag)(vs:List V)(H:Hp)(Q:VK):Prop
 |mk (l:Addr) (ns:List Int) (k:Int) (_:vs=[.ref l,.int k]) (_:SqL K H l (ns.map V.int)) (_:0<=k) (_:Q (.int (atN ns k)) H):SpAt K vs H Q
def VG(K:PySem.W.Frag):Sp:=λvs H Q _=>SpAt K vs H Q
theorem ok_at{f:Addr}{fd:FuncData}(F:Fun K "_law_at" "_law_at" Ms f fd)(T:Top K mg a):AJ P w K mg base CX0 1 f fd EZ (VG K):=by
 refine F.ok Tk (λvs H Q E h=>?_) (λcdv A outer s H vs Q E hr h=>?_)
 ·obtain⟨l,ns,k,rfl,_⟩:=h;rfl
 ·obtain⟨l,ns,k,rfl,hS,h0,q⟩:=h;refine⟨_,(Ac (AQ (AB GJ (pv 1) (AR Cf rfl T.b_len K4 (Aa (pv 0) Ab)) (AF _)) (Ag (Aw (Aj Ax (pv 0) (pv 1) (λ_ _=>rfl)))) AD) (Ag (Aw Ae))),?_⟩
  try dsimp only[cxK]
  refine⟨_,rfl,_,rfl,l,_,rfl,.inl hS,_,_,rfl,rfl,_,rfl,?_⟩;obtain⟨n,rfl⟩:=F3 h0;refine Gz (λhc=>?_) (λhc=>?_)
  ·have hc':n<ns.length:=by
    have:=X4 hc;rw[B8]at this;lia
   refine⟨_,rfl,_,rfl,l,_,n,.int ns[n],rfl,rfl,hS,Ai (by rw[C0,C8 hc'];rfl),?_⟩;have e:atN ns (n:Int)=ns[n]:=by
    unfold atN;rw[J8,D8,C8 hc'];rfl
   rw[e]at q;exact q
  ·have hc':ns.length<=n:=by
    have:¬(n:Int)<((ns.map V.int).length:Int):=λz=>hc (Y7 z);rw[B8]at this;lia
   have e:atN ns (n:Int)=0:=by
    unfold atN;rw[J8,D8,Q9 hc'];rfl
   rw[e]at q;exact q
end
inductive SpLaw(K:PySem.W.Frag)(vs:List V)(H:Hp)(Q:VK):Prop
 |mk (a:Addr) (ns:List Int) (_:vs=[.ref a]) (_:SqL K H a (ns.map V.int)) (_:ns.length<=63) (_:∀H',Q (.bl true) H'):SpLaw K vs H Q
def UA(K:PySem.W.Frag):Sp:=λvs H Q _=>SpLaw K vs H Q
end J
namespace J
open PySem L2
def Ap(g:GA)(x:Addr):Prop:=x≠g.lv/\x≠g.pt/\x≠g.nm
theorem Ap.new{a:Ad}{H:Hp}{g:GA}{G:Gv}(h:AI a H g G){x:Addr}(n:H x=none):Ap g x:=by
 obtain⟨ts,h3,_⟩:=h.pt;exact⟨Z1 (Av h.lv n),Z1 (Av h3 n),Z1 (Av h.nm n)⟩
theorem Fr.get{g:GA}{H H':Hp}{x:Addr}{o:HO}(f:Fr g H H')(p:Ap g x)(e:H x=some o):H' x=some o:=f _ _ e p.1 p.2.1 p.2.2
theorem Fr.tup{a:Ad}{g:GA}{G:Gv}{H H':Hp}{x:Addr}{l:List V}(f:Fr g H H')(h:AI a H g G)(e:H x=some (.tup l)):H' x=some (.tup l):=by
 obtain⟨us,h3,_⟩:=h.pt;exact f _ _ e (AE e h.lv A3) (AE e h3 A3) (AE e h.nm A3)
theorem AH.mono{G G':Gv}{n m:Nat}(h:AH G G' n)(e:n<=m):AH G G' m:=⟨h.ok,h.pre,C9 h.few A0⟩
theorem QE(l:Nat):(0:Int)<2^l:=Int.pow_pos A4
theorem pow2_lt{l:Nat}(h:l<64):(2:Int)^l<2^64:=by
 have:(2:Nat)^l<2^64:=W1 A4 h
 exact_mod_cast this
section
variable{P:Program}{w:World}{K:PySem.W.Frag}{mg:Str->Option Value}{base:Heap}{a:Ad}
end
section
variable{P:Program}{w:World}{K:PySem.W.Frag}{mg:Str->Option Value}{base:Heap}{a:Ad}
end
theorem Ef{d:Int}(h0:0<=d)(h1:d<=9):d.natAbs.log2<1920:=by
 obtain⟨m,rfl⟩:=F3 h0;exact(show ∀m:Nat,m<10->(m:Int).natAbs.log2<1920 by decide +kernel) m B2
theorem CU{n:Nat}(h:n<=100000):n<=sizeLine:=C9 h A4
abbrev RH:Str:=Str.ofString "01234567*"
theorem Uv:∀m:Nat,m<9->RH.cps.toList[m]?=some (if m=8 then 42 else 48+m):=by decide +kernel
def JP(n:Int)(k:Nat):Bool:=decide (V.int (Builtin.bitAnd (n/2^k) 1)=V.int 1)
def Jh(n:Int):List Int:=((List.range 9).filter (JP n)).map λ(k:Nat)=>(k:Int)
theorem nums_ne:∀m:Nat,m<511->Jh ((m:Int)+1)≠[]:=by decide +kernel
theorem Yz(n:Int):(Jh n).Pairwise (· < ·):=by
 unfold Jh;rw[U4];have:((List.range 9).filter (JP n)).Pairwise (· < ·):=V5.sublist List.filter_sublist;exact this.imp λh=>by omega
theorem nums_in(n:Int):∀m∈Jh n,0<=m/\m<=8:=λm hm=>by
 obtain⟨k,hk,rfl⟩:=D5.mp hm;have:=F8.mp (S8.mp hk).1;omega
seal L2.PA L2.PE L2.PS L2.PSs L2.PT L2.PW
abbrev amT:Str:=Str.ofString "amount"
abbrev plT:Str:=Str.ofString "places"
def unO:Option Int->Int
 |none=>8
 |some d=>d
inductive CG(H:Hp):Addr->AT->Prop where
 |am {q l:Addr} {s:Int} {ns:List Int} (h:H q=some (.tup [.str amT,.int s,.ref l])) (hl:H l=some (.lst (ns.map V.int))):CG H q (.am s ns)
 |pl {q l:Addr} {ws:List (Option Int)} (h:H q=some (.tup [.str plT,.ref l])) (hl:H l=some (.lst (ws.map λw=>V.int (unO w)))):CG H q (.pl ws)
structure Qm(H:Hp)(q:Addr)(c:AO):Prop where
 ex:∃(l:Addr)(ds:List Addr),H q=some (.tup [.int (unO c.cell),.ref l,.int c.makes])/\H l=some (.lst (ds.map V.ref))/\Paired (CG H) ds c.conds
structure Nj(H:Hp)(q:Addr)(r:AA):Prop where
 ex:∃cs:List Addr,H q=some (.lst (cs.map V.ref))/\Paired (Qm H) cs r
theorem CG.same{H H':Hp}{q:Addr}{d:AT}(s:Az H H')(h:CG H q d):CG H' q d:=by
 cases h with
 |am h hl=>exact .am (s _ _ h) (s _ _ hl)
 |pl h hl=>exact .pl (s _ _ h) (s _ _ hl)
theorem Qm.same{H H':Hp}{q:Addr}{c:AO}(s:Az H H')(h:Qm H q c):Qm H' q c:=by
 obtain⟨l,ds,h1,h2,h3⟩:=h.ex;exact⟨l,ds,s _ _ h1,s _ _ h2,Paired.imp (λ_ _ z=>z.same s) h3⟩
theorem Nj.same{H H':Hp}{q:Addr}{r:AA}(s:Az H H')(h:Nj H q r):Nj H' q r:=by
 obtain⟨cs,h1,h2⟩:=h.ex;exact⟨cs,s _ _ h1,Paired.imp (λ_ _ z=>z.same s) h2⟩
theorem unO_le{x:Option Int}(h:wOk x):0<=unO x/\unO x<=8:=by
 cases x with
 |none=>exact⟨by decide,by decide⟩
 |some d=>exact⟨h.1,Int.le_of_lt h.2⟩
theorem WG{x:Option Int}(h:wOk x):atI RH.cps.toList (unO x)=some (wC x):=by
 cases x with
 |none=>exact Ai (Uv 8 A4)
 |some d =>
  obtain⟨n,hn⟩:=F3 h.1;have h2:=h.2;have hn8:n≠8:=by omega
  show atI RH.cps.toList d=some (48+d.toNat);rw[hn,J8];have:=Uv n B2;rw[Y6 hn8]at this;exact Ai this
theorem RC{x:Option Int}(h:wOk x)(y:Int):BN x y=(decide (unO x=8) || decide (unO x=y)):=by
 cases x with
 |none=>rfl
 |some d =>
  have:=h.2;show decide (d=y)=(decide (d=8) || decide (d=y))
  rw[Y9 (by omega:¬d=8),Bool.false_or]
theorem join_w(ws:List (Option Int)):Str.join (Str.ofString "") (ws.map λw=>(⟨#[wC w]⟩:Str))=AU (.pl ws):=by
 have e3:Str.ofString "" = (⟨#[]⟩:Str):=by decide +kernel
 rw[e3];refine Nu.ext ?_;rw[Tx.EH,Tx.TR,M0];show(ws.map _).flatten=ws.map wC;induction ws with
 |nil=>rfl
 |cons x r ih=>rw[F7,R0,ih,F7];rfl
theorem YX{ns:List Int}(h:∀m∈ns,0<=m/\m<=8):Str.join (Str.ofString "") (ns.map λn=>Str.ofString (toString n))=DJ ns:=by
 have e3:Str.ofString "" = (⟨#[]⟩:Str):=by decide +kernel
 rw[e3];refine Nu.ext ?_;rw[Tx.EH,Tx.TR,M0];show(ns.map _).flatten=ns.map λn=>48+n.toNat;induction ns with
 |nil=>rfl
 |cons n r ih =>
  have h1:=h n C7;rw[F7,R0,ih λm hm=>h m (C6 _ hm)];show(Str.ofString (toString n)).cps.toList++_=_;rw[Tx.Ec h1.1 B2];rfl
theorem Ri{d:Int}(h0:0<=d)(h1:d<=9):(Str.ofString (toString d)).length=1:=by rw[Tx.Ec h0 h1];rfl
section
variable{P:Program}{w:World}{K:PySem.W.Frag}{mg:Str->Option Value}{base:Heap}{a:Ad}
inductive SpMix(vs:List V)(H:Hp)(Q:VK):Prop
 |mk (c k:Int) (_:vs=[.int c,.int k]) (_:0<=k) (_:k<=1000000) (_:∀i:Int,0<=i->Q (.int i) H):SpMix vs H Q
def Uy:Sp:=λvs H Q _=>SpMix vs H Q
theorem ok_mix{f:Addr}{fd:FuncData}(F:Fun K "_law_mix" "_law_mix" Ld f fd):AJ P w K mg base CX0 1 f fd Ip Uy:=by
 refine F.ok Nc (λvs H Q E h=>?_) (λcdv A outer s H vs Q E hr h=>?_)
 ·obtain⟨c,k,rfl,_⟩:=h;rfl
 ·obtain⟨c,k,rfl,h0,h1,q⟩:=h;refine⟨_,(Ac (Aq (i:=2) Nc.nd rfl (Or.inl rfl) (Ay Bb (Ay Es (Ay AL (Ay AL (Ay Bb (pv 0) Ae) (Ay Es Ae (pv 1))) Ae) (Ay AL Ae (Ay Es Ae (pv 1)))) Ae)) (Ag (Aw (Ay CT (Ay Bb (Ay Es (Ay AL (Ay CT (pv 2) Ae) (pv 1)) Ae) Ae) Ae)))),?_⟩
  try dsimp only[cxK]
  refine⟨_,rfl,_,_,rfl,rfl,(by show(0:Int)<998244353;decide),_,rfl,_,_,rfl,rfl,.inl ⟨by decide,by decide⟩,_,_,rfl,rfl,_,_,rfl,rfl,_,rfl,_,_,rfl,rfl,.inl ⟨by decide,by decide⟩,_,_,rfl,rfl,_,_,rfl,rfl,.inr ⟨by omega,by omega⟩,_,_,rfl,rfl,(by show(0:Int)<2147483647;decide),?_⟩;refine⟨_,rfl,_,_,rfl,rfl,⟨by decide,by decide⟩,_,rfl,_,_,rfl,rfl,_,_,rfl,rfl,.inr ⟨by decide,by decide⟩,_,_,rfl,rfl,(by show(0:Int)<2147483629;decide),_,_,rfl,rfl,⟨by decide,by decide⟩,?_⟩;exact q _ B2
inductive SpSt(vs:List V)(H:Hp)(Q:VK):Prop
 |mk (m:Addr) (x y v:Int) (_:vs=[.ref m,.int v]) (_:H m=some (.tup [.int x,.int y])) (_:GF x) (_:GF y) (_:∀d:Int,GF d->Q (.int d) H):SpSt vs H Q
def spSt:Sp:=λvs H Q _=>SpSt vs H Q
theorem ok_st{f:Addr}{fd:FuncData}(F:Fun K "_law_state_by" "_law_state_by" EL f fd):AJ P w K mg base CX0 1 f fd Dy spSt:=by
 refine F.ok Mj (λvs H Q E h=>?_) (λcdv A outer s H vs Q E hr h=>?_)
 ·obtain⟨m,x,y,v,rfl,_⟩:=h;rfl
 ·obtain⟨m,x,y,v,rfl,hm,hx,hy,q⟩:=h;refine⟨_,(Ac (AQ (AB GJ (Ay Bb (pv 1) Ae) Ae (AF _)) (Ag (Aw (Aj Am (pv 0) (Ay Bb (pv 1) Ae) (λ_ _=>rfl)))) AD) (Ag (Aw (Ay Bb (Ay CT (pv 1) Ae) Ae)))),?_⟩
  try dsimp only[cxK]
  refine⟨_,rfl,_,_,rfl,rfl,B1,_,_,rfl,rfl,_,rfl,?_⟩;refine Gz (λhc=>?_) (λ_=>?_)
  ·have hc':v%3<2:=X4 hc;rcases(show v%3=0\/v%3=1 by omega)with e|e
   ·exact⟨_,rfl,_,rfl,_,_,rfl,rfl,B1,m,_,_,.int x,rfl,rfl,SqT.of hm,(by rw[e];exact Ai (j:=0) rfl),q x hx⟩
   ·exact⟨_,rfl,_,rfl,_,_,rfl,rfl,B1,m,_,_,.int y,rfl,rfl,SqT.of hm,(by rw[e];exact Ai (j:=1) rfl),q y hy⟩
  ·exact⟨_,rfl,_,_,rfl,rfl,⟨by decide,by decide⟩,_,_,rfl,rfl,B6,q _ ⟨by omega,by omega⟩⟩
def Wu(H:Hp)(m:Addr):Prop:=∃x y:Int,H m=some (.tup [.int x,.int y])/\GF x/\GF y
theorem Wu.same{H H':Hp}{m:Addr}(s:Az H H')(h:Wu H m):Wu H' m:=by
 obtain⟨x,y,h1,h2⟩:=h;exact⟨x,y,s _ _ h1,h2⟩
inductive SpCo(vs:List V)(H:Hp)(Q:VK):Prop
 |mk (m:Addr) (sd j:Int) (_:vs=[.ref m,.int sd,.int j]) (_:Wu H m) (_:0<=j) (_:j<=900000) (_:∀(q:Addr)(d:AT)(H':Hp),Az H H'->CG H' q d->d.ok->Q (.ref q) H'):SpCo vs H Q
def spCo:Sp:=λvs H Q _=>SpCo vs H Q
theorem ok_co{f:Addr}{fd:FuncData}(F:Fun K "_law_condition_by" "_law_condition_by" Ck f fd)(T:Top K mg a)(aN:Cal P w K mg base CX0 1 "_law_mix" Ip Uy)(aG:Cal P w K mg base CX0 1 "_law_state_by" Dy spSt) :
  AJ P w K mg base CX0 2 f fd Dp spCo:=by
 refine F.ok BH (λvs H Q E h=>?_) (λcdv A outer s H vs Q E hr h=>?_)
 ·obtain⟨m,sd,j,rfl,_⟩:=h;rfl
 ·obtain⟨m,sd,j,rfl,⟨mx,my,hm,hx,hy⟩,h0,h1,k⟩:=h;refine⟨_,(Ac (AQ (AB Ct (Ay Bb (Ar aN (rm hr) rfl An (Aa (pv 1) (Aa (pv 2) Ab))) Ae) Ae (AF _)) (Ac (Aq (i:=3) BH.nd rfl (Or.inl rfl) (BX Ab)) (Ac (Cy Z6 rfl (Di rfl T.b_range (AK Ab)) (Bn (i:=4) BH.nd rfl (Or.inl rfl)) (Ac (Aq (i:=5) BH.nd rfl (Or.inl rfl) (Ar aN (rm hr) rfl An (Aa (pv 1) (AZ AL (Ay AL (pv 2) Ae) (pv 4) Ab)))) (Ag (AQ (AB Ct (Ay Bb (Ay CT (pv 5) Ae) Ae) Ae (AF _)) (Ag (BG (CS Z3 Z4 Z5 BD (pv 3) (Aa (Ar aG (rm hr) rfl An (Aa (pv 0) (Aa (pv 5) Ab))) Ab)))) (Ag (BG (CS Z3 Z4 Z5 BD (pv 3) (AK Ab)))))))) (Ag (Aw (EN (Mz (Aa (pv 3) Ab))))))) AD) (Ac (Aq (i:=6) BH.nd rfl (Or.inr rfl) (Ay AL (Ay Bb (Ar aN (rm hr) rfl An (Aa (pv 1) (AZ AL (pv 2) Ae Ab))) Ae) Ae)) (Ag (Aw (EN (Mz (Aa (Ar aG (rm hr) rfl An (Aa (pv 0) (Aa (Ar aN (rm hr) rfl An (Aa (pv 1) (AZ AL (pv 2) Ae Ab))) Ab))) (Aa (BW rfl (Bu.of (So:=Ah Ck) (No:=ER) (N:=["_law_k","_law_mask"]) (k:=1) (cs:=[6]) rfl rfl A1) (Di rfl T.b_range (AK Ab)) (λ_ _ _=>(AW (i:=0) A1 rfl rfl)) (λ_ _ _=>(pts_one (AB Ct (Ay op_and (Ay op_shr (pv 1) (pv 0)) Ae) Ae (AF _)))) (λ_ _ _=>(pv 0))) Ab)))))))),?_⟩
  try dsimp only[cxK]
  refine⟨_,rfl,_,rfl,sd,j,rfl,h0,by omega,λv hv=>⟨_,_,rfl,rfl,B1,rfl,_,rfl,?_⟩⟩;refine Gz (λ_=>?_) (λ_=>?_)
  ·refine⟨(by show 0<=sizeLine;decide),λl hl=>?_⟩;refine⟨8,rfl,by decide,by decide,Dl (n:=8) (λi σ H2=>∃(ws:List (Option Int))(u5 u6 u7:Option V),σ=[some (.ref m),some (.int sd),some (.int j),some (.ref l),u5,u6,u7]/\H2=upd H l (.lst (ws.map λw=>V.int (unO w)))/\ws.length=i/\∀x∈ws,wOk x) ⟨[],none,none,none,rfl,rfl,rfl,λx hx=>by simp at hx⟩ ?_ ?_⟩
   ·rintro i σ H2 hi ⟨ws,u5,u6,u7,rfl,rfl,hn,hw⟩;have lt:(ws.map λw=>V.int (unO w)).length<sizeLine:=by rw[B8,hn];exact F2 hi A4
    have hm2:upd H l (.lst (ws.map λw=>V.int (unO w))) m=some (.tup [.int mx,.int my]):=Ao hl _ _ hm;refine⟨_,rfl,_,rfl,_,_,rfl,rfl,_,rfl,_,_,rfl,rfl,sd,_,rfl,by omega,by omega,λv2 hv2=>?_⟩;have app:∀x:Option Int,wOk x->∀u6 u7,∃(ws':List (Option Int))(u5' u6' u7':Option V),([some (.ref m),some (.int sd),some (.int j),some (.ref l),some (.int (0+(i:Int))),u6,u7]:St)=[some (.ref m),some (.int sd),some (.int j),some (.ref l),u5',u6',u7'] /\
      upd (upd H l (.lst (ws.map λw=>V.int (unO w)))) l (.lst ((ws.map λw=>V.int (unO w))++[V.int (unO x)]))=upd H l (.lst (ws'.map λw=>V.int (unO w)))/\ws'.length=i+1/\∀x∈ws',wOk x:=λx hx u6 u7 =>
     ⟨ws++[x],_,_,_,rfl,by rw[FS,C5];rfl,by rw[C4,hn];rfl,λy hy=>by
      rcases D9.mp hy with q|q
      ·exact hw y q
      ·rw[D7.mp q];exact hx⟩
    refine⟨_,rfl,_,_,rfl,rfl,⟨by decide,by decide⟩,_,_,rfl,rfl,B1,rfl,_,rfl,?_⟩;refine Gz (λ_=>?_) (λ_=>?_)
    ·exact⟨_,rfl,.inl ⟨rfl,_,SqL.of Af⟩,_,rfl,_,rfl,m,mx,my,v2,rfl,hm2,hx,hy,λd hd=>⟨l,_,_,rfl,rfl,Af,lt,app (some d) hd _ _⟩⟩
    ·exact⟨_,rfl,.inl ⟨rfl,_,SqL.of Af⟩,l,_,_,rfl,rfl,Af,lt,app none trivial _ _⟩
   ·rintro σ H2 ⟨ws,u5,u6,u7,rfl,rfl,hn,hw⟩;refine⟨_,rfl,(by show 2<=sizeLine;decide),λq hq=>?_⟩;have s2:=(Ao (o:=.lst (ws.map λw=>V.int (unO w))) hl).trans (Ao (o:=.tup [.str plT,.ref l]) hq);exact k q (.pl ws) _ s2 (.pl Af (Ao hq _ _ Af)) ⟨hn,hw⟩
  ·refine⟨_,rfl,_,rfl,_,_,rfl,rfl,sd,_,rfl,by omega,by omega,λv2 hv2=>⟨_,_,rfl,rfl,(by show(0:Int)<511;decide),_,_,rfl,rfl,?_⟩⟩;have hmask:∃n:Nat,n<511/\v2%511+1=(n:Int)+1:=by
    obtain⟨n,hn⟩:=F3 (show 0<=v2%511 by omega);exact⟨n,by omega,by omega⟩
   refine⟨_,rfl,_,rfl,_,rfl,_,_,rfl,rfl,sd,_,rfl,by omega,by omega,λv3 hv3=>⟨m,mx,my,v3,rfl,hm,hx,hy,λd hd=>?_⟩⟩;refine⟨9,rfl,by decide,by decide,?_⟩;refine MU (n:=9) (λi acc H2=>H=H2/\acc=(((List.range i).filter (JP (v2%511+1))).map λ(k:Nat)=>V.int (k:Int))) ⟨rfl,rfl⟩ ?_ ?_
   ·rintro i acc H2 hi ⟨rfl,rfl⟩;have lt:(((List.range i).filter (JP (v2%511+1))).map λ(k:Nat)=>V.int (k:Int)).length<sizeLine:=by
     rw[B8];have:=List.length_filter_le (JP (v2%511+1)) (List.range i);rw[L8]at this;exact F6 (C9 this (T6 hi)) A4
    refine⟨⟨[some (.int (0+(i:Int)))],rfl,rfl⟩,lt,?_⟩;refine⟨_,rfl,_,rfl,_,_,rfl,rfl,(by show(0:Int)<=0+(i:Int);omega),_,_,rfl,rfl,rfl,_,rfl,?_⟩;have ei:(0+(i:Int)).toNat=i:=by omega
    have e:(List.range (i+1)).filter (JP (v2%511+1))=(List.range i).filter (JP (v2%511+1))++if JP (v2%511+1) i=true then [i]else []:=by
     rw[P1,List.filter_append,List.filter_cons,List.filter_nil]
    rw[ei];show if JP (v2%511+1) i=true then _ else _;refine Gz (λhb=>?_) (λhb=>?_)
    ·refine⟨_,rfl,rfl,?_⟩;rw[e,Y8 hb,C5];show _++[V.int (0+(i:Int))]=_++[V.int (i:Int)]
     rw[T8]
    ·refine⟨rfl,?_⟩;rw[e,Y6 hb,S9]
   ·rintro acc H2 ⟨rfl,rfl⟩ l hl;have enum:(((List.range 9).filter (JP (v2%511+1))).map λ(k:Nat)=>V.int (k:Int))=(Jh (v2%511+1)).map V.int:=by
     unfold Jh;rw[M0];rfl
    rw[enum];refine⟨(by show 3<=sizeLine;decide),λq hq=>?_⟩;have s2:=(Ao (o:=.lst ((Jh (v2%511+1)).map V.int)) hl).trans (Ao (o:=.tup [.str amT,.int d,.ref l]) hq);refine k q (.am d (Jh (v2%511+1))) _ s2 (.am Af (Ao hq _ _ Af)) ⟨hd,?_,nums_in _,Yz _⟩;obtain⟨n,hn,e⟩:=hmask;rw[e];exact nums_ne n hn
end
theorem pl_am:decide (V.str amT=V.str (Str.ofString "places"))=false:=by decide +kernel
theorem pl_pl:decide (V.str plT=V.str (Str.ofString "places"))=true:=by decide +kernel
section
variable{P:Program}{w:World}{K:PySem.W.Frag}{mg:Str->Option Value}{base:Heap}{a:Ad}
inductive SpWd(vs:List V)(H:Hp)(Q:VK):Prop
 |mk (q:Addr) (d:AT) (_:vs=[.ref q]) (_:CG H q d) (_:d.ok) (_:∀H',Az H H'->Q (.str (AU d)) H'):SpWd vs H Q
def spWd:Sp:=λvs H Q _=>SpWd vs H Q
theorem ok_wd{f:Addr}{fd:FuncData}(F:Fun K "_law_word" "_law_word" ED f fd)(T:Top K mg a):AJ P w K mg base CX0 1 f fd Jb spWd:=by
 refine F.ok QA (λvs H Q E h=>?_) (λcdv A outer s H vs Q E hr h=>?_)
 ·obtain⟨q,d,rfl,_⟩:=h;rfl
 ·obtain⟨q,d,rfl,hd,ho,k⟩:=h;have l0:(Str.ofString "").length=0:=by decide +kernel
  refine⟨_,(Ac (AQ (AB Ct (Aj Am (pv 0) Ae (λ_ _=>rfl)) CN (AF _)) (Ag (Aw (CS K1 A0f A0g LN CN (Aa (BW rfl (Bu.of (So:=Ah ED) (No:=Ji) (N:=["_law_state"]) (k:=1) (cs:=[]) rfl rfl A1) (BV (Aj Am (pv 0) Ae (λ_ _=>rfl))) (λ_ _ _=>(AW (i:=0) A1 rfl rfl)) (λ_ _ _=>BF) (λ_ _ _=>(Aj Zc CN (pv 0) (λ_ _=>rfl)))) Ab)))) AD) (Ag (Aw (Ay CA (Ay CA (Ba CD rfl T.b_str X9 (Aa (Aj Am (pv 0) Ae (λ_ _=>rfl)) Ab)) CN) (CS K1 A0f A0g LN CN (Aa (BW rfl (Bu.of (So:=Ah ED) (No:=Ji) (N:=["_law_k"]) (k:=1) (cs:=[]) rfl rfl A1) (BV (Aj Am (pv 0) Ae (λ_ _=>rfl))) (λ_ _ _=>(AW (i:=0) A1 rfl rfl)) (λ_ _ _=>BF) (λ_ _ _=>(Ba CD rfl T.b_str X9 (Aa (pv 0) Ab)))) Ab)))))),?_⟩
  try dsimp only[cxK]
  cases hd with
  |@pl l ws h hl =>
   refine⟨_,rfl,q,_,0,.str plT,rfl,rfl,SqT.of h,Ai (j:=0) rfl,rfl,_,rfl,?_⟩;rw[pl_pl];refine Cp ⟨rfl,_,rfl,q,_,1,.ref l,rfl,rfl,SqT.of h,Ai (j:=1) rfl,l,rfl,⟨_,SqL.of hl⟩,?_⟩;refine De (xs:=ws.map λw=>V.int (unO w)) (λi acc H4=>H=H4/\acc=((ws.take i).map λx=>(⟨#[wC x]⟩:Str)).map V.str) ⟨rfl,rfl⟩ (λi acc H4 _ z=>z.1▸SqL.of hl) ?_ ?_
   ·rintro i x acc H4 hx ⟨rfl,rfl⟩;rw[C0]at hx;obtain⟨n,en,rfl⟩:=D2.mp hx;have hn:=ho.2 n (D1 en);refine⟨⟨[some (.int (unO n))],rfl,rfl⟩,?_,Gc ⟨_,rfl,RH,_,wC n,rfl,rfl,A1,WG hn,rfl,?_⟩⟩
    ·rw[B8,B8,L5,ho.1];exact F6 (O7 _ _) A4
    ·rw[F5,en,C5,C5];rfl
   ·rintro acc H4 ⟨rfl,rfl⟩ p hp;rw[B8,J0];have hjok:JoinOk (Str.ofString "") (ws.map λx=>(⟨#[wC x]⟩:Str))=true:=by
     refine Tx.LR 1 (λt ht=>?_) ?_
     ·obtain⟨n,hn,rfl⟩:=D5.mp ht;exact C1 1
     ·rw[B8,l0,ho.1];decide
    refine⟨_,p,_,rfl,rfl,SqL.of Af,hjok,?_⟩;rw[join_w];exact k _ (Ao hp)
  |@am l st ns h hl =>
   obtain⟨hst,_,hn,hasc⟩:=ho;have hlen:=NN ns 0 A4 hn hasc;have hs9:st<=9:=by have:=hst.2;omega
   refine⟨_,rfl,q,_,0,.str amT,rfl,rfl,SqT.of h,Ai (j:=0) rfl,rfl,_,rfl,?_⟩;rw[pl_am];refine Bo ⟨_,rfl,q,_,1,.int st,rfl,rfl,SqT.of h,Ai (j:=1) rfl,st,rfl,Ef hst.1 hs9,_,_,rfl,rfl,CU (by erw [Ri hst.1 hs9];decide),rfl,_,rfl,q,_,2,.ref l,rfl,rfl,SqT.of h,Ai (j:=2) rfl,l,rfl,⟨_,SqL.of hl⟩,?_⟩;refine De (xs:=ns.map V.int) (λi acc H4=>H=H4/\acc=((ns.take i).map λn=>Str.ofString (toString n)).map V.str) ⟨rfl,rfl⟩ (λi acc H4 _ z=>z.1▸SqL.of hl) ?_ ?_
   ·rintro i x acc H4 hx ⟨rfl,rfl⟩;rw[C0]at hx;obtain⟨n,en,rfl⟩:=D2.mp hx;have hn':=hn n (D1 en);refine⟨⟨[some (.int n)],rfl,rfl⟩,?_,Gc ⟨_,rfl,n,rfl,Ef hn'.1 B2,rfl,?_⟩⟩
    ·rw[B8,B8,L5];exact F6 (O7 _ _) (F6 (show _<=9 by omega) A4)
    ·rw[F5,en,C5,C5];rfl
   ·rintro acc H4 ⟨rfl,rfl⟩ p hp;rw[B8,J0];have hjok:JoinOk (Str.ofString "") (ns.map λn=>Str.ofString (toString n))=true:=by
     refine Tx.LR 1 (λt ht=>?_) ?_
     ·obtain⟨n,hn2,rfl⟩:=D5.mp ht;have:=hn n hn2;rw[Ri this.1 B2];decide
     ·rw[B8,l0];omega
    refine⟨_,p,_,rfl,rfl,SqL.of Af,hjok,_,_,rfl,rfl,CU ?_,?_⟩
    ·rw[YX hn];have e1:(DJ ns).length=ns.length:=by rw[Nu.len];show(ns.map _).length=_;rw[B8]
     have e2:(Str.ofString "=").length=1:=by decide +kernel
     rw[Tx.app_len,e1,e2]
     erw [Ri hst.1 hs9]
     omega
    ·have e:Str.ofString (toString st)++Str.ofString "=" ++ Str.join (Str.ofString "") (ns.map λn=>Str.ofString (toString n))=AU (.am st ns):=by
      rw[YX hn,Tx.Ec hst.1 hs9,show Str.ofString "=" = (⟨#[61]⟩:Str) by decide +kernel];rfl
     have:=k _ (Ao (o:=.lst ((ns.map λn=>Str.ofString (toString n)).map V.str)) hp);rw[<-e]at this;exact this
inductive SpTx(vs:List V)(H:Hp)(Q:VK):Prop
 |mk (q:Addr) (r:AA) (_:vs=[.ref q]) (_:Nj H q r) (_:FR r) (_:∀H',Az H H'->Q (.str (CP r)) H'):SpTx vs H Q
def spTx:Sp:=λvs H Q _=>SpTx vs H Q
theorem ok_tx{f:Addr}{fd:FuncData}(F:Fun K "_law_text" "_law_text" FW f fd)(T:Top K mg a)(cF:Cal P w K mg base CX0 1 "_law_word" Jb spWd):AJ P w K mg base CX0 2 f fd Jc spTx:=by
 refine F.ok EU (λvs H Q E h=>?_) (λcdv A outer s H vs Q E hr h=>?_)
 ·obtain⟨q,r,rfl,_⟩:=h;rfl
 ·obtain⟨q,r,rfl,hR,ho,k⟩:=h;obtain⟨cs,hq,hcs⟩:=hR.ex;have ln:cs.length=r.length:=Z9 hcs;have f50:=ho.few;refine⟨_,(Ac (Aq (i:=1) EU.nd rfl (Or.inl rfl) (BX Ab)) (Ac (Cy Z6 rfl (BV (pv 0)) (Bn (i:=2) EU.nd rfl (Or.inl rfl)) (Ac (Aq (i:=3) EU.nd rfl (Or.inl rfl) (Ay QJ (BX (Aa (Aj Zc CN (Aj Am (pv 2) Ae (λ_ _=>rfl)) (λ_ _=>rfl)) Ab)) (BW rfl (Bu.of (So:=Ah FW) (No:=Ng) (N:=["_law_condition"]) (k:=1) (cs:=[]) rfl rfl A1) (BV (Aj Am (pv 2) Ae (λ_ _=>rfl))) (λ_ _ _=>(AW (i:=0) A1 rfl rfl)) (λ_ _ _=>BF) (λ_ _ _=>(Ar cF (rm hr) rfl An (Aa (pv 0) Ab)))))) (Ag (BG (CS Z3 Z4 Z5 BD (pv 1) (Aa (CS K1 A0f A0g LN CN (AZ QJ (pv 3) (BX (Aa (Ba CD rfl T.b_str X9 (Aa (Aj Am (pv 2) Ae (λ_ _=>rfl)) Ab)) Ab)) Ab)) Ab)))))) (Ag (Aw (CS K1 A0f A0g LN CN (Aa (pv 1) Ab)))))),?_⟩
  try dsimp only[cxK]
  refine⟨(by show 0<=sizeLine;decide),λpt hpt=>?_⟩;have hq1:∀o,upd H pt o q=some (.lst (cs.map V.ref)):=λo=>Ao hpt _ _ hq;refine⟨_,rfl,q,rfl,⟨_,SqL.of (hq1 _)⟩,LV (xs:=cs.map V.ref) (λi σ H2=>∃u2 u3:Option V,σ=[some (.ref q),some (.ref pt),u2,u3]/\Az H H2/\H2 pt=some (.lst ((r.take i).map λc=>V.str (AV c)))) ⟨none,none,rfl,Ao hpt,Af⟩ (λi σ H2 _ ⟨_,_,_,sm,_⟩=>SqL.of (sm _ _ hq)) ?_ ?_⟩
  ·rintro i x σ H2 hx ⟨u2,u3,rfl,sm,hp2⟩;rw[C0]at hx;obtain⟨cq,ecq,rfl⟩:=D2.mp hx;obtain⟨c,ec,hc⟩:=Paired.get hcs ecq;have mc:=D1 ec;have oc:=ho.ok c mc;have c50:=oc.few;obtain⟨cl,ds,h1,h2,h3⟩:=(hc.same sm).ex;have md9:c.makes<=9:=by have:=oc.makes.2;omega
   have un:=unO_le oc.cell;refine⟨_,rfl,cq,_,0,.int (unO c.cell),rfl,rfl,SqT.of h1,Ai (j:=0) rfl,RH,_,wC c.cell,rfl,rfl,A1,WG oc.cell,(by show 1<=sizeLine;decide),λw1 hw1=>?_⟩;have s1:=Ao (o:=.lst [.str ⟨#[wC c.cell]⟩]) hw1;refine⟨_,rfl,cq,_,1,.ref cl,rfl,rfl,SqT.of (s1 _ _ h1),Ai (j:=1) rfl,cl,rfl,⟨_,SqL.of (s1 _ _ h2)⟩,?_⟩;have hw1':upd H2 w1 (.lst [.str ⟨#[wC c.cell]⟩]) w1=some (.lst [.str ⟨#[wC c.cell]⟩]):=Af;generalize upd H2 w1 (.lst [.str ⟨#[wC c.cell]⟩])=H3 at s1 hw1'⊢;refine De (xs:=ds.map V.ref) (λj acc H4=>Az H3 H4/\acc=((c.conds.take j).map AU).map V.str) ⟨Az.refl H3,rfl⟩ (λj acc H4 _ z=>SqL.of (z.1 _ _ (s1 _ _ h2))) ?_ ?_
   ·rintro j x acc H4 hx ⟨s4,rfl⟩;rw[C0]at hx;obtain⟨dq,edq,rfl⟩:=D2.mp hx;obtain⟨d,ed,hd⟩:=Paired.get h3 edq;refine⟨⟨[some (.ref dq)],rfl,rfl⟩,?_,Gc ⟨_,rfl,dq,d,rfl,(hd.same s1).same s4,oc.conds d (D1 ed),λH5 s5=>⟨s4.trans s5,?_⟩⟩⟩
    ·rw[B8,B8,L5];exact F6 (O7 _ _) (F6 c50 A4)
    ·rw[F5,ed,C5,C5];rfl
   ·rintro acc H4 ⟨s4,rfl⟩ w2 hw2;have ld:ds.length=c.conds.length:=Z9 h3;rw[B8,ld,J0];have s5:=s4.trans (Ao (o:=.lst ((c.conds.map AU).map V.str)) hw2);have hw25:upd H4 w2 (.lst ((c.conds.map AU).map V.str)) w2=some (.lst ((c.conds.map AU).map V.str)):=Af;generalize upd H4 w2 (.lst ((c.conds.map AU).map V.str))=H5 at s5 hw25⊢;refine⟨w1,w2,_,_,rfl,rfl,s5 _ _ hw1',hw25,CU (by simp only[D4,R8,B8];omega),λw3 hw3=>?_⟩;have s6:=s5.trans (Ao (o:=.lst ([.str ⟨#[wC c.cell]⟩]++(c.conds.map AU).map V.str)) hw3);have hw36:upd H5 w3 (.lst ([.str ⟨#[wC c.cell]⟩]++(c.conds.map AU).map V.str)) w3=some (.lst ([.str ⟨#[wC c.cell]⟩]++(c.conds.map AU).map V.str)):=Af;generalize upd H5 w3 (.lst ([.str ⟨#[wC c.cell]⟩]++(c.conds.map AU).map V.str))=H6 at s6 hw36⊢;have s26:Az H2 H6:=s1.trans s6;refine⟨_,rfl,.inl ⟨rfl,_,SqL.of (s26 _ _ hp2)⟩,rfl,_,rfl,_,rfl,cq,_,2,.int c.makes,rfl,rfl,SqT.of (s26 _ _ h1),Ai (j:=2) rfl,c.makes,rfl,Ef oc.makes.1 md9,(by show 1<=sizeLine;decide),λw4 hw4=>?_⟩;have s7:=s26.trans (Ao (o:=.lst [.str (Str.ofString (toString c.makes))]) hw4);have hw47:upd H6 w4 (.lst [.str (Str.ofString (toString c.makes))]) w4=some (.lst [.str (Str.ofString (toString c.makes))]):=Af;have hw37:=Ao (o:=.lst [.str (Str.ofString (toString c.makes))]) hw4 _ _ hw36;generalize upd H6 w4 (.lst [.str (Str.ofString (toString c.makes))])=H7 at s7 hw47 hw37⊢;refine⟨w3,w4,_,_,rfl,rfl,hw37,hw47,CU (by simp only[C4,D4,R8,B8];omega),λw5 hw5=>?_⟩;have eL:([.str ⟨#[wC c.cell]⟩]++(c.conds.map AU).map V.str)++[.str (Str.ofString (toString c.makes))]=(wS c.cell::(c.conds.map AU++[sgD c.makes])).map V.str:=by
     rw[Tx.Ec oc.makes.1 md9,F7,C5];rfl
    rw[eL];have s8:=s7.trans (Ao (o:=.lst ((wS c.cell::(c.conds.map AU++[sgD c.makes])).map V.str)) hw5);have hw58:upd H7 w5 (.lst ((wS c.cell::(c.conds.map AU++[sgD c.makes])).map V.str)) w5=some (.lst ((wS c.cell::(c.conds.map AU++[sgD c.makes])).map V.str)):=Af;generalize upd H7 w5 (.lst ((wS c.cell::(c.conds.map AU++[sgD c.makes])).map V.str))=H8 at s8 hw58⊢;have lb:(Str.ofString " ").length=1:=by decide +kernel
    have hjok:JoinOk (Str.ofString " ") (wS c.cell::(c.conds.map AU++[sgD c.makes]))=true:=by
     refine Tx.LR 11 (λt ht=>?_) ?_
     ·rcases C3.mp ht with rfl|ht
      ·show 1<=11;decide
      ·rcases D9.mp ht with ht|ht
       ·obtain⟨d,hd,rfl⟩:=D5.mp ht;exact LZ (oc.conds d hd)
       ·rw[D7.mp ht];show 1<=11;decide
     ·rw[lb,D4,C4,B8,D4,R8];omega
    refine⟨_,w5,_,rfl,rfl,SqL.of hw58,hjok,?_⟩;have eC:Str.join (Str.ofString " ") (wS c.cell::(c.conds.map AU++[sgD c.makes]))=AV c:=by
     rw[show Str.ofString " " = (⟨#[32]⟩:Str) by decide +kernel];rfl
    rw[eC];refine⟨pt,_,_,rfl,rfl,s8 _ _ hp2,?_,?_⟩
    ·rw[B8,L5];exact F6 (O7 _ _) (F6 f50 A4)
    ·refine⟨_,_,rfl,λb o e=>?_,?_⟩
     ·have ne:b≠pt:=Av e hpt;rw[As ne];exact s8 _ _ (sm _ _ e)
     ·rw[Af,F5,ec,C5];rfl
  ·rintro σ H2 ⟨u2,u3,rfl,sm,hp2⟩;rw[B8,ln,J0]at hp2;have hp2':H2 pt=some (.lst ((r.map AV).map V.str)):=by rw[hp2,M0];rfl
   have em:Str.ofString "; " = Ni:=by decide +kernel
   have hjok:JoinOk (Str.ofString "; ") (r.map AV)=true:=by
    refine Tx.LR 1000 (λt ht=>?_) ?_
    ·obtain⟨c,hc,rfl⟩:=D5.mp ht;exact IA (ho.ok c hc)
    ·rw[B8,em,show Ni.length=2 from rfl];omega
   refine⟨rfl,_,rfl,_,pt,_,rfl,rfl,SqL.of hp2',hjok,?_⟩;rw[em];exact k H2 sm
end
section
variable{P:Program}{w:World}{K:PySem.W.Frag}{mg:Str->Option Value}{base:Heap}{a:Ad}
inductive SpHo(vs:List V)(H:Hp)(Q:VK):Prop
 |mk (q m:Addr) (d:AT) (ar:List Int) (_:vs=[.ref q,.ref m]) (_:CG H q d) (_:d.ok) (_:H m=some (.lst (ar.map V.int))) (_:ar.length=8) (_:Q (.bl (d.holds ar)) H):SpHo vs H Q
def spHo:Sp:=λvs H Q _=>SpHo vs H Q
theorem ok_ho{f:Addr}{fd:FuncData}(F:Fun K "_law_holds" "_law_holds" GY f fd)(T:Top K mg a):AJ P w K mg base CX0 1 f fd Iq spHo:=by
 refine F.ok Dr (λvs H Q E h=>?_) (λcdv A outer s H vs Q E hr h=>?_)
 ·obtain⟨q,m,d,ar,rfl,_⟩:=h;rfl
 ·obtain⟨q,m,d,ar,rfl,hd,ho,hm,a8,k⟩:=h;refine⟨_,(Ac (AQ (AB Ct (Aj Am (pv 0) Ae (λ_ _=>rfl)) CN (AF _)) (Ac (Cy Z6 rfl (Di rfl T.b_range (AK Ab)) (Bn (i:=2) Dr.nd rfl (Or.inl rfl)) (Ag (AQ (PW.pt (Mu (AB JK (Aj Ax (Aj Am (pv 0) Ae (λ_ _=>rfl)) (pv 2) (λ_ _=>rfl)) Ae (AF _)) (Jw (AB JK (Aj Ax (Aj Am (pv 0) Ae (λ_ _=>rfl)) (pv 2) (λ_ _=>rfl)) (Aj Ax (pv 1) (pv 2) (λ_ _=>rfl)) (AF _))))) (Ag (Aw Se)) AD))) (Ag (Aw Se))) AD) (Ac (Aq (i:=3) Dr.nd rfl (Or.inl rfl) Ae) (Ac (Cy Z6 rfl (BV (pv 1)) (Bn (i:=4) Dr.nd rfl (Or.inl rfl)) (Ag (AQ (AB Ct (pv 4) (Aj Am (pv 0) Ae (λ_ _=>rfl)) (AF _)) (Ag (Aq (i:=3) Dr.nd rfl (Or.inl rfl) (Ay AL (pv 3) Ae))) AD))) (Ag (Aw (CQ MC (pv 3) (Aj Am (pv 0) Ae (λ_ _=>rfl)) rfl)))))),?_⟩
  try dsimp only[cxK]
  cases hd with
  |@pl l ws h hl =>
   obtain⟨w8,hw⟩:=ho;refine⟨_,rfl,q,_,0,.str plT,rfl,rfl,SqT.of h,Ai (j:=0) rfl,rfl,_,rfl,?_⟩;rw[pl_pl];refine Cp ⟨8,rfl,by decide,by decide,Dl (n:=8) (λi σ H2=>H=H2/\(∃v,σ=[some (.ref q),some (.ref m),v,none,none])/\∀p∈(ws.zip ar).take i,BN p.1 p.2=true) ⟨rfl,⟨none,rfl⟩,λp hp=>by simp at hp⟩ ?_ ?_⟩
   ·rintro i σ H2 hi ⟨rfl,⟨v,rfl⟩,no⟩;have iW:i<ws.length:=by omega
    have iA:i<ar.length:=by omega
    have eW:atI (ws.map λw=>V.int (unO w)) (0+(i:Int))=some (V.int (unO ws[i])):=by rw[T8];exact Ai (by rw[C0,C8 iW];rfl)
    have eA:atI (ar.map V.int) (0+(i:Int))=some (V.int ar[i]):=by rw[T8];exact Ai (by rw[C0,C8 iA];rfl)
    have ez:(ws.zip ar)[i]?=some (ws[i],ar[i]):=by rw[U1];exact⟨C8 iW,C8 iA⟩
    have tk:=RC (hw ws[i] (R6 iW)) ar[i];refine⟨_,rfl,q,_,1,.ref l,rfl,rfl,SqT.of h,Ai (j:=1) rfl,_,rfl,l,_,_,_,rfl,rfl,SqL.of hl,eW,rfl,_,rfl,?_⟩;rw[Iz];have nx:BN ws[i] ar[i]=true->(∃v,([some (.ref q),some (.ref m),some (.int (0+(i:Int))),none,none]:St)=[some (.ref q),some (.ref m),v,none,none])/\∀p∈(ws.zip ar).take (i+1),BN p.1 p.2=true:=λh=>⟨⟨_,rfl⟩,λp hp=>by
     rw[F5,ez]at hp;rcases D9.mp hp with z|z
     ·exact no p z
     ·have:p=(ws[i],ar[i]):=by simpa using z
      rw[this];exact h⟩
    by_cases h8:unO ws[i]=8
    ·rw[Y7 h8]at tk⊢;exact Bo (Bo ⟨rfl,nx (by rw[tk];rfl)⟩)
    ·rw[Y9 h8]at tk⊢;refine Cp ⟨_,rfl,q,_,1,.ref l,rfl,rfl,SqT.of h,Ai (j:=1) rfl,_,rfl,l,_,_,_,rfl,rfl,SqL.of hl,eW,_,rfl,_,rfl,m,_,_,_,rfl,rfl,SqL.of hm,eA,rfl,_,rfl,?_⟩;rw[Iz];by_cases he:unO ws[i]=ar[i]
     ·rw[Y7 he]at tk⊢;exact Bo ⟨rfl,nx (by rw[tk];rfl)⟩
     ·rw[Y9 he]at tk⊢;refine Cp ?_;have e:AT.holds ar (.pl ws)=false:=by
       show(ws.zip ar).all _=false;rw[List.all_eq_false];exact⟨_,D1 ez,by rw[tk];exact D0⟩
      rw[e]at k;exact k
   ·rintro σ H2 ⟨rfl,⟨v,rfl⟩,no⟩;have e:AT.holds ar (.pl ws)=true:=by
     show(ws.zip ar).all _=true;rw[S5];intro p hp;have l8:(ws.zip ar).length=8:=by rw[V8];omega
     rw[<-l8,J0]at no;exact no p hp
    rw[e]at k;exact k
  |@am l st ns h hl =>
   refine⟨_,rfl,q,_,0,.str amT,rfl,rfl,SqT.of h,Ai (j:=0) rfl,rfl,_,rfl,?_⟩;rw[pl_am];refine Bo ?_;refine⟨_,rfl,m,rfl,⟨_,SqL.of hm⟩,LV (xs:=ar.map V.int) (λi σ H2=>H=H2/\∃v,σ=[some (.ref q),some (.ref m),none,some (.int (((ar.take i).countP (· == st):Nat):Int)),v]) ⟨rfl,none,rfl⟩ (λi σ H2 _ z=>z.1▸SqL.of hm) ?_ ?_⟩
   ·rintro i x σ H2 hx ⟨rfl,v,rfl⟩;rw[C0]at hx;obtain⟨n,en,rfl⟩:=D2.mp hx;have e:(((ar.take (i+1)).countP (· == st):Nat):Int)=(((ar.take i).countP (· == st):Nat):Int)+(if n=st then 1 else 0):=by
     rw[F5,en,List.countP_append];by_cases h:n=st<;>simp[h]
    refine⟨_,rfl,_,rfl,q,_,1,.int st,rfl,rfl,SqT.of h,Ai (j:=1) rfl,rfl,_,rfl,?_⟩;refine Gz (λhc=>?_) (λhc=>?_)
    ·have:n=st:=by
      have:=X4 hc;injection this
     refine⟨_,rfl,_,_,rfl,rfl,rfl,some (.int n),?_⟩;rw[e,Y8 this];rfl
    ·have:¬n=st:=λz=>hc (Y7 (by rw[z]));refine⟨rfl,some (.int n),?_⟩;rw[e,Y6 this,Q5];rfl
   ·rintro σ H2 ⟨rfl,v,rfl⟩;rw[B8,J0];refine⟨_,rfl,_,rfl,q,_,2,.ref l,rfl,rfl,SqT.of h,Ai (j:=2) rfl,l,_,rfl,.inl (SqL.of hl),rfl,PU _,?_⟩;show Q (.bl (inV _ _)) H;rw[Re];exact k
inductive SpDe(vs:List V)(H:Hp)(Q:VK):Prop
 |mk (q m:Addr) (r:AA) (cell:Int) (ar:List Int) (_:vs=[.ref q,.int cell,.ref m]) (_:Nj H q r) (_:FR r) (_:H m=some (.lst (ar.map V.int))) (_:ar.length=8) (_:∀H',Az H H'->Q (decV (IM r cell ar)) H'):SpDe vs H Q
def spDe:Sp:=λvs H Q _=>SpDe vs H Q
theorem ok_de{f:Addr}{fd:FuncData}(F:Fun K "_law_decides" "_law_decides" Fl f fd)(T:Top K mg a)(cA:Cal P w K mg base CX0 1 "_law_holds" Iq spHo):AJ P w K mg base CX0 2 f fd FB spDe:=by
 refine F.ok CI (λvs H Q E h=>?_) (λcdv A outer s H vs Q E hr h=>?_)
 ·obtain⟨q,m,r,cell,ar,rfl,_⟩:=h;rfl
 ·obtain⟨q,m,r,cell,ar,rfl,hR,ho,hm,a8,k⟩:=h;obtain⟨cs,hq,hcs⟩:=hR.ex;have ln:cs.length=r.length:=Z9 hcs;have f50:=ho.few;refine⟨_,(Ac (Cy Z6 rfl (Di rfl T.b_range (Aa (AR Cf rfl T.b_len K4 (Aa (pv 0) Ab)) Ab)) (Bn (i:=3) CI.nd rfl (Or.inl rfl)) (Ac (Aq (i:=4) CI.nd rfl (Or.inl rfl) (CQ MC (Aj Am (Aj Ax (pv 0) (pv 3) (λ_ _=>rfl)) Ae (λ_ _=>rfl)) (BX (Aa (pv 1) (AK Ab))) rfl)) (Ac (Cy Z6 rfl (BV (Aj Am (Aj Ax (pv 0) (pv 3) (λ_ _=>rfl)) Ae (λ_ _=>rfl))) (Bn (i:=5) CI.nd rfl (Or.inl rfl)) (Ag (Aq (i:=4) CI.nd rfl (Or.inl rfl) (Ii (pv 4) (Lf (Ar cA (rm hr) rfl An (Aa (pv 5) (Aa (pv 2) Ab)))))))) (Ag (AQ (Da (pv 4)) (Ag (Aw (pv 3))) AD))))) (Ag (Aw DC))),?_⟩
  try dsimp only[cxK]
  refine⟨_,rfl,q,_,rfl,.inl (SqL.of hq),_,rfl,by rw[B8];omega,by rw[B8];omega,?_⟩;rw[show(((cs.map V.ref).length:Nat):Int).toNat=cs.length by rw[B8,J8]];refine Dl (n:=cs.length) (λi σ H2=>Az H H2/\(∃u3 u4 u5:Option V,σ=[some (.ref q),some (.int cell),some (.ref m),u3,u4,u5])/\∀c∈r.take i,c.fits cell ar=false) ⟨Az.refl H,⟨none,none,none,rfl⟩,λc hc=>by simp at hc⟩ ?_ ?_
  ·rintro i σ H2 hi ⟨sm,⟨u3,u4,u5,rfl⟩,no⟩;have ecq:cs[i]?=some cs[i]:=C8 hi;obtain⟨c,ec,hc⟩:=Paired.get hcs ecq;have oc:=ho.ok c (D1 ec);obtain⟨cl,ds,h1,h2,h3⟩:=(hc.same sm).ex;have eI:atI (cs.map V.ref) (0+(i:Int))=some (.ref cs[i]):=by rw[T8];exact Ai (by rw[C0,ecq];rfl)
   refine⟨_,rfl,_,rfl,q,_,_,_,rfl,rfl,SqL.of (sm _ _ hq),eI,cs[i],_,0,.int (unO c.cell),rfl,rfl,SqT.of h1,Ai (j:=0) rfl,_,rfl,(by show 2<=sizeLine;decide),λt ht=>⟨t,_,rfl,.inl (SqL.of Af),rfl,rfl,?_⟩⟩;have s3:=Ao (o:=.lst [.int cell,.int 8]) ht;have eb:inV (.int (unO c.cell)) [.int cell,.int 8]=BN c.cell cell:=by
    have:=Re (unO c.cell) [cell,8];rw[show([cell,8]:List Int).map V.int=[V.int cell,V.int 8]from rfl]at this;rw[this,RC oc.cell];simp only[S6,List.any_nil,Bool.or_false];rw[show decide (cell=unO c.cell)=decide (unO c.cell=cell)from decide_eq_decide.mpr eq_comm,show decide (8=unO c.cell)=decide (unO c.cell=8)from decide_eq_decide.mpr eq_comm,Bool.or_comm]
   show(tSeq _ _) _ _ _;rw[eb];generalize upd H2 t (.lst [.int cell,.int 8])=H3 at s3⊢;refine⟨_,rfl,_,rfl,q,_,_,_,rfl,rfl,SqL.of (s3 _ _ (sm _ _ hq)),eI,cs[i],_,1,.ref cl,rfl,rfl,SqT.of (s3 _ _ h1),Ai (j:=1) rfl,cl,rfl,⟨_,SqL.of (s3 _ _ h2)⟩,?_⟩;refine LV (xs:=ds.map V.ref) (λj σ H4=>H3=H4/\∃v,σ=[some (.ref q),some (.int cell),some (.ref m),some (.int (0+(i:Int))),some (.bl (BN c.cell cell && (c.conds.take j).all (AT.holds ar))),v]) ⟨rfl,u5,by rw[List.take_zero,List.all_nil,W5];rfl⟩ (λj σ H4 _ z=>z.1▸SqL.of (s3 _ _ h2)) ?_ ?_
   ·rintro j x σ H4 hx ⟨rfl,v,rfl⟩;rw[C0]at hx;obtain⟨dq,edq,rfl⟩:=D2.mp hx;obtain⟨d,ed,hd⟩:=Paired.get h3 edq;refine⟨_,rfl,?_⟩;refine NO (b2:=AT.holds ar d) (λ_ Q' q'=>⟨_,rfl,_,rfl,dq,m,d,ar,rfl,hd.same s3,oc.conds d (D1 ed),s3 _ _ (sm _ _ hm),a8,q'⟩) ?_;refine⟨rfl,some (.ref dq),?_⟩;rw[F5,ed,List.all_append,Bool.and_assoc];show _=[_,_,_,_,some (V.bl (BN c.cell cell && ((c.conds.take j).all (AT.holds ar) && (AT.holds ar d && true)))),_]
    rw[W5];rfl
   ·rintro σ H4 ⟨rfl,v,rfl⟩;have ld:ds.length=c.conds.length:=Z9 h3;rw[B8,ld,J0];refine⟨_,rfl,_,rfl,?_⟩;show if c.fits cell ar=true then _ else _;cases ef:c.fits cell ar with
    |true =>
     refine Cp ⟨_,rfl,?_⟩;have e:IM r cell ar=some i:=by
      unfold IM;rw[S1];have hi:i<r.length:=(B9.mp ec).1;refine⟨hi,?_,λj hj=>?_⟩
      ·rw[(B9.mp ec).2];exact ef
      ·have:=no r[j] (List.mem_take_iff_getElem.mpr ⟨j,by omega,rfl⟩);rw[this];exact D0
     have:=k H3 (sm.trans s3);rw[e]at this;show Q (.int (0+(i:Int))) H3;rw[T8];exact this
    |false =>
     refine Bo ⟨sm.trans s3,⟨_,_,_,rfl⟩,λd hd=>?_⟩;rw[F5,ec]at hd;rcases D9.mp hd with z|z
     ·exact no d z
     ·have:d=c:=by simpa using z
      rw[this];exact ef
  ·rintro σ H2 ⟨sm,⟨u3,u4,u5,rfl⟩,no⟩;rw[ln,J0]at no;have e:IM r cell ar=none:=by
    unfold IM;rw[U2];exact no
   have:=k H2 sm;rw[e]at this;exact this
inductive SpBe(vs:List V)(H:Hp)(Q:VK):Prop
 |mk (q m:Addr) (r:AA) (cell:Int) (ar:List Int) (_:vs=[.ref q,.int cell,.ref m]) (_:Nj H q r) (_:FR r) (_:H m=some (.lst (ar.map V.int))) (_:ar.length=8) (_:∀H',Az H H'->Q (.int (Ci r cell ar)) H'):SpBe vs H Q
def spBe:Sp:=λvs H Q _=>SpBe vs H Q
theorem ok_be{f:Addr}{fd:FuncData}(F:Fun K "_law_becomes" "_law_becomes" Fo f fd)(T:Top K mg a)(bM:Cal P w K mg base CX0 2 "_law_decides" FB spDe):AJ P w K mg base CX0 3 f fd FD spBe:=by
 refine F.ok II (λvs H Q E h=>?_) (λcdv A outer s H vs Q E hr h=>?_)
 ·obtain⟨q,m,r,cell,ar,rfl,_⟩:=h;rfl
 ·obtain⟨q,m,r,cell,ar,rfl,hR,ho,hm,a8,k⟩:=h;refine⟨_,(Ac (Aq (i:=3) II.nd rfl (Or.inl rfl) (Ar bM (rm hr) rfl An (Aa (pv 0) (Aa (pv 1) (Aa (pv 2) Ab))))) (Ac (AQ (AB Jg (pv 3) DC (AF _)) (Ag (Aw (pv 1))) AD) (Ag (Aw (Aj Am (Aj Ax (pv 0) (pv 3) (λ_ _=>rfl)) Ae (λ_ _=>rfl)))))),?_⟩
  try dsimp only[cxK]
  refine⟨_,rfl,_,rfl,_,rfl,q,m,r,cell,ar,rfl,hR,ho,hm,a8,λH2 s2=>?_⟩;refine⟨_,rfl,rfl,_,rfl,?_⟩;cases e:IM r cell ar with
  |none =>
   refine Cp ⟨_,rfl,?_⟩;have:=k H2 s2;rw[Mc e]at this;exact this
  |some i =>
   obtain⟨c,ec,em⟩:=Mb e;obtain⟨cs,hq,hcs⟩:=(hR.same s2).ex;obtain⟨cq,ecq⟩:∃cq,cs[i]?=some cq:=by
    have ln:cs.length=r.length:=Z9 hcs;have:i<cs.length:=by rw[ln];exact(B9.mp ec).1
    exact⟨_,C8 this⟩
   obtain⟨c',ec',hc⟩:=Paired.get hcs ecq;rw[ec]at ec';cases ec';obtain⟨cl,ds,h1,_⟩:=hc.ex;refine Bo ⟨_,rfl,_,rfl,q,_,_,.ref cq,rfl,rfl,SqL.of hq,Ai (by rw[C0,ecq];rfl),cq,_,2,.int c.makes,rfl,rfl,SqT.of h1,Ai (j:=2) rfl,?_⟩;have:=k H2 s2;rw[em]at this;exact this
end
theorem UJ{ds:List Addr}{vs:List Int}(h:vs≠[]):ds.map V.ref≠vs.map V.int:=λz=>by
 cases vs with
 |nil=>exact h rfl
 |cons v r =>
  cases ds with
  |nil=>simp at z
  |cons d q=>simp at z
theorem CG.put{H:Hp}{l q:Addr}{ds:List Addr}{o:HO}{d:AT}(hl:H l=some (.lst (ds.map V.ref)))(h:CG H q d)(ok:d.ok):CG (upd H l o) q d:=by
 have other:∀{b v},H b=some v->v≠.lst (ds.map V.ref)->upd H l o b=some v:=λ{b v} e n=>by rw[As (AE e hl n)];exact e
 cases h with
 |@am l' s ns h hl'=>exact .am (other h A3) (other hl' λz=>UJ ok.2.1 (HO.lst.inj z).symm)
 |@pl l' ws h hl' =>
  refine .pl (other h A3) (other hl' λz=>?_);have z2:=(HO.lst.inj z).symm;rw[show(ws.map λw=>V.int (unO w))=(ws.map unO).map V.int by rw[M0];rfl]at z2;refine UJ (ds:=ds) (λq=>?_) z2;have:=X6 List.length q;rw[B8,ok.1]at this;cases this
theorem Paired.impMem{α β:Type}{F G:α->β->Prop}:∀{l:List α}{m:List β},(∀x y,y∈m->F x y->G x y)->Paired F l m->Paired G l m
 |_,_,_,.nil=>.nil
 |_,_,h,.cons r t=>.cons (h _ _ C7 r) (Paired.impMem (λx y hy=>h x y (C6 _ hy)) t)
def Pu(l0:Addr)(H:Hp)(q:Addr)(c:AO):Prop:=∃(l:Addr)(ds:List Addr),l≠l0/\H q=some (.tup [.int (unO c.cell),.ref l,.int c.makes])/\H l=some (.lst (ds.map V.ref))/\Paired (CG H) ds c.conds
theorem Pu.at{l0:Addr}{H:Hp}{q:Addr}{c:AO}(h:Pu l0 H q c):Qm H q c:=by
 obtain⟨l,ds,_,r⟩:=h;exact⟨l,ds,r⟩
theorem Pu.same{l0:Addr}{H H':Hp}{q:Addr}{c:AO}(s:Az H H')(h:Pu l0 H q c):Pu l0 H' q c:=by
 obtain⟨l,ds,n,h1,h2,h3⟩:=h;exact⟨l,ds,n,s _ _ h1,s _ _ h2,Paired.imp (λ_ _ z=>z.same s) h3⟩
theorem Pu.put{l0:Addr}{H:Hp}{q:Addr}{c:AO}{cs:List Addr}{o:HO}(hl:H l0=some (.lst (cs.map V.ref)))(h:Pu l0 H q c)(ok:c.ok):Pu l0 (upd H l0 o) q c:=by
 obtain⟨l,ds,n,h1,h2,h3⟩:=h;refine⟨l,ds,n,?_,?_,Paired.impMem (λx y hy z=>z.put hl (ok.conds y hy)) h3⟩
 ·rw[As (AE h1 hl A3)];exact h1
 ·rw[As n];exact h2
def c00:AO:=⟨some 0,[.am 0 [8]],0⟩
theorem c00_ok:c00.ok where
 cell:=⟨by decide,by decide⟩
 makes:=⟨by decide,by decide⟩
 few:=by show 1<=50;decide
 conds:=λd hd=>by
  rw[D7.mp hd];exact⟨⟨by decide,by decide⟩,by simp,λn hn=>by rw[D7.mp hn];exact⟨by decide,by decide⟩,List.pairwise_singleton _ _⟩
theorem Zw(r:AA):Ci (c00::r) 0 BC=0:=by
 unfold Ci;rw[P2];have:c00.fits 0 BC=true:=by decide
 rw[this];rfl
section
variable{P:Program}{w:World}{K:PySem.W.Frag}{mg:Str->Option Value}{base:Heap}{a:Ad}
inductive SpCl(vs:List V)(H:Hp)(Q:VK):Prop
 |mk (m:Addr) (sd j:Int) (_:vs=[.ref m,.int sd,.int j]) (_:Wu H m) (_:0<=j) (_:j<=800000) (_:∀(q l:Addr)(ds:List Addr)(c:AO)(H':Hp),Az H H'->H l=none->H' q=some (.tup [.int (unO c.cell),.ref l,.int c.makes])->H' l=some (.lst (ds.map V.ref))->Paired (CG H') ds c.conds->c.ok->Q (.ref q) H'):SpCl vs H Q
def spCl:Sp:=λvs H Q _=>SpCl vs H Q
theorem ok_cl{f:Addr}{fd:FuncData}(F:Fun K "_law_clause_by" "_law_clause_by" Ei f fd)(T:Top K mg a)(aN:Cal P w K mg base CX0 1 "_law_mix" Ip Uy)(aG:Cal P w K mg base CX0 1 "_law_state_by" Dy spSt)(aW:Cal P w K mg base CX0 2 "_law_condition_by" Dp spCo) :
  AJ P w K mg base CX0 3 f fd Ep spCl:=by
 refine F.ok Ca (λvs H Q E h=>?_) (λcdv A outer s H vs Q E hr h=>?_)
 ·obtain⟨m,sd,j,rfl,_⟩:=h;rfl
 ·obtain⟨m,sd,j,rfl,⟨mx,my,hm,hx,hy⟩,h0,h1,k⟩:=h;let J1:St->Hp->Prop:=fun σ H2=>∃x:Option Int,σ=[some (.ref m),some (.int sd),some (.int j),some (.int (unO x)),none,none]/\wOk x/\H=H2;refine⟨_,(Ac (Aq (i:=3) Ca.nd rfl (Or.inl rfl) Ae) (Ac (ps_ifJ J1 (AB Sf (Ay Bb (Ar aN (rm hr) rfl An (Aa (pv 1) (Aa (pv 2) Ab))) Ae) Ae (AF _)) (Ag (Aq (i:=3) Ca.nd rfl (Or.inl rfl) (Ar aG (rm hr) rfl An (Aa (pv 0) (Aa (Ar aN (rm hr) rfl An (Aa (pv 1) (AZ AL (pv 2) Ae Ab))) Ab))))) AD) (Ac (Aq (i:=4) Ca.nd rfl (Or.inl rfl) (BX Ab)) (Ac (Cy Z6 rfl (Di rfl T.b_range (AZ Bb (Ar aN (rm hr) rfl An (Aa (pv 1) (AZ AL (pv 2) Ae Ab))) Ae Ab)) (Bn (i:=5) Ca.nd rfl (Or.inl rfl)) (Ag (BG (CS Z3 Z4 Z5 BD (pv 4) (Aa (Ar aW (rm hr) rfl An (Aa (pv 0) (Aa (pv 1) (AZ AL (pv 2) (Ay Es Ae (Ay AL (pv 5) Ae)) Ab)))) Ab))))) (Ag (Aw (EN (Aa (pv 3) (Aa (pv 4) (Aa (Ar aG (rm hr) rfl An (Aa (pv 0) (Aa (Ar aN (rm hr) rfl An (Aa (pv 1) (AZ AL (pv 2) Ae Ab))) Ab))) Ab)))))))))),?_⟩
  try dsimp only[cxK]
  refine⟨⟨_,rfl,_,rfl,sd,j,rfl,h0,by omega,λv hv=>⟨_,_,rfl,rfl,B4,_,_,rfl,rfl,_,rfl,?_⟩⟩,?_⟩
  ·refine Gz (λ_=>?_) (λ_=>?_)
   ·exact⟨_,rfl,_,rfl,_,rfl,_,_,rfl,rfl,sd,_,rfl,by omega,by omega,λv2 hv2=>⟨m,mx,my,v2,rfl,hm,hx,hy,λd hd=>⟨some d,rfl,hd,rfl⟩⟩⟩
   ·exact⟨none,rfl,trivial,rfl⟩
  ·rintro σ H2 ⟨x,rfl,ox,rfl⟩;refine⟨(by show 0<=sizeLine;decide),λl hl=>?_⟩;refine⟨_,rfl,_,rfl,_,_,rfl,rfl,sd,_,rfl,by omega,by omega,λv hv=>?_⟩;obtain⟨n,hn0⟩:=F3 (show 0<=v%4 by omega);refine⟨_,_,rfl,rfl,B4,_,rfl,by omega,by omega,?_⟩;rw[show(v%4).toNat=n by omega];refine Dl (n:=n) (λi σ H2=>∃(ds:List Addr)(cn:List AT)(u7:Option V),σ=[some (.ref m),some (.int sd),some (.int j),some (.int (unO x)),some (.ref l),u7]/\Az H H2/\H2 l=some (.lst (ds.map V.ref))/\Paired (CG H2) ds cn/\cn.length=i/\∀d∈cn,d.ok)
    ⟨[],[],none,rfl,Ao hl,Af,.nil,rfl,λd hd=>by simp at hd⟩ ?_ ?_
   ·rintro i σ H2 hi ⟨ds,cn,u7,rfl,sm,hl2,pr,hn,oks⟩;have ld:=Z9 pr;refine⟨_,rfl,.inl ⟨rfl,_,SqL.of hl2⟩,_,rfl,_,rfl,_,rfl,_,rfl,_,_,rfl,rfl,_,_,rfl,rfl,.inl ⟨by decide,by decide⟩,_,_,rfl,rfl,m,sd,_,rfl,⟨mx,my,sm _ _ hm,hx,hy⟩,by omega,by omega,λq d H3 s3 hd od=>?_⟩;refine⟨l,_,_,rfl,rfl,s3 _ _ hl2,by rw[B8,ld,hn];exact F2 hi (CU B2),?_⟩;refine⟨ds++[q],cn++[d],_,rfl,λb o e=>?_,?_,?_,by rw[C4,hn];rfl,λe he=>?_⟩
    ·rw[As (Av e hl)];exact s3 _ _ (sm _ _ e)
    ·rw[Af,C5];rfl
    ·refine A0b (Paired.impMem (λx' y hy z=>(z.same s3).put (s3 _ _ hl2) (oks y hy)) pr) (hd.put (s3 _ _ hl2) od)
    ·rcases D9.mp he with z|z
     ·exact oks e z
     ·rw[D7.mp z];exact od
   ·rintro σ H2 ⟨ds,cn,u7,rfl,sm,hl2,pr,hn,oks⟩;refine⟨_,rfl,_,rfl,_,rfl,_,rfl,_,rfl,_,_,rfl,rfl,sd,_,rfl,by omega,by omega,λv2 hv2=>⟨m,mx,my,v2,rfl,sm _ _ hm,hx,hy,λd hd=>⟨(by show 3<=sizeLine;decide),λq hq=>?_⟩⟩⟩;have s3:=Ao (o:=.tup [.int (unO x),.ref l,.int d]) hq;exact k q l ds ⟨x,cn,d⟩ _ (sm.trans s3) hl Af (s3 _ _ hl2) (Paired.imp (λ_ _ z=>z.same s3) pr) ⟨ox,hd,(by show cn.length<=50;omega),oks⟩
inductive SpCs(K:PySem.W.Frag)(vs:List V)(H:Hp)(Q:VK):Prop
 |mk (l:Addr) (ns:List Int) (ft mn:Int) (_:vs=[.ref l,.int ft,.int mn]) (_:SqL K H l (ns.map V.int)) (_:0<=ft) (_:0<=mn) (_:mn<=40) (_:∀(q:Addr)(r:AA)(H':Hp),Az H H'->Nj H' q r->FR r->Ci r 0 BC=0->mn<=r.length->r.length<=mn+1->Q (.ref q) H'):SpCs K vs H Q
def spCs(K:PySem.W.Frag):Sp:=λvs H Q _=>SpCs K vs H Q
theorem ok_cs{f:Addr}{fd:FuncData}(F:Fun K "_law_clauses_by" "_law_clauses_by" DU f fd)(T:Top K mg a)(aB:Cal P w K mg base CX0 1 "_law_at" EZ (VG K))(bC:Cal P w K mg base CX0 3 "_law_clause_by" Ep spCl)(bO:Cal P w K mg base CX0 3 "_law_becomes" FD spBe) :
  AJ P w K mg base CX0 4 f fd Eb (spCs K):=by
 refine F.ok BS (λvs H Q E h=>?_) (λcdv A outer s H vs Q E hr h=>?_)
 ·obtain⟨l,ns,ft,mn,rfl,_⟩:=h;rfl
 ·obtain⟨l,ns,ft,mn,rfl,hS,h0,m0,m40,k⟩:=h;refine⟨_,(Ac (Aq (i:=3) BS.nd rfl (Or.inl rfl) (EN (AZ Bb (Ar aB (rm hr) rfl An (Aa (pv 0) (Aa (pv 1) Ab))) Ae (AZ Bb (Ar aB (rm hr) rfl An (Aa (pv 0) (AZ AL (pv 1) Ae Ab))) Ae Ab)))) (Ac (Aq (i:=4) BS.nd rfl (Or.inl rfl) (BX Ab)) (Ac (Cy Z6 rfl (Di rfl T.b_range (Aa (pv 2) Ab)) (Bn (i:=5) BS.nd rfl (Or.inl rfl)) (Ag (BG (CS Z3 Z4 Z5 BD (pv 4) (Aa (Ar bC (rm hr) rfl An (Aa (pv 3) (Aa (Ar aB (rm hr) rfl An (Aa (pv 0) (AZ AL (Ay AL (pv 1) Ae) (pv 5) Ab))) (AZ Es Ae (pv 5) Ab)))) Ab))))) (Ac (AQ (AB JK (Ar bO (rm hr) rfl An (Aa (pv 4) (AK (Tq (AK (AK (AK (AK (AK (AK (AK (AK Ab)))))))) Ab)))) Ae (AF _)) (Ag (Aq (i:=4) BS.nd rfl (Or.inl rfl) (Ay QJ (BX (Bz (AK (Tq (Bz (Mz (AK (Tq (AK Ab) Ab))) Ab) (AK Ab))) Ab)) (pv 4)))) AD) (Ag (Aw (pv 4))))))),?_⟩
  try dsimp only[cxK]
  refine⟨_,rfl,_,rfl,l,ns,ft,rfl,hS,h0,?_⟩;refine⟨_,_,rfl,rfl,B6,_,rfl,?_⟩;refine⟨_,rfl,_,_,rfl,rfl,l,ns,_,rfl,hS,by omega,?_⟩;refine⟨_,_,rfl,rfl,B6,(by show 2<=sizeLine;decide),λm hm=>?_⟩;have s1:=Ao (o:=.tup [.int (atN ns ft%8),.int (atN ns (ft+1)%8)]) hm;have hM:Wu (upd H m (.tup [.int (atN ns ft%8),.int (atN ns (ft+1)%8)])) m:=⟨_,_,Af,⟨by omega,by omega⟩,⟨by omega,by omega⟩⟩
  have s1':Az H (upd H m (.tup [.int (atN ns ft%8),.int (atN ns (ft+1)%8)])):=s1;show(tSeq _ _) _ _ (upd H m (.tup [.int (atN ns ft%8),.int (atN ns (ft+1)%8)]));generalize upd H m (.tup [.int (atN ns ft%8),.int (atN ns (ft+1)%8)])=H1 at s1 s1' hM⊢;refine⟨(by show 0<=sizeLine;decide),λcl hcl=>?_⟩;obtain⟨n,rfl⟩:=F3 m0;refine⟨_,rfl,_,rfl,by omega,by omega,?_⟩;rw[J8];refine Dl (n:=n) (λi σ H2=>∃(cs:List Addr)(r:AA)(u5:Option V),σ=[some (.ref l),some (.int ft),some (.int n),some (.ref m),some (.ref cl),u5]/\Az H1 H2/\H2 cl=some (.lst (cs.map V.ref))/\Paired (Pu cl H2) cs r/\r.length=i/\∀c∈r,c.ok)
   ⟨[],[],none,rfl,Ao hcl,Af,.nil,rfl,λd hd=>by simp at hd⟩ ?_ ?_
  ·rintro i σ H2 hi ⟨cs,r,u5,rfl,sm,hl2,pr,hn,oks⟩;have ld:=Z9 pr;have hS2:SqL K H2 l (ns.map V.int):=(s1'.trans sm).seq hS;refine⟨_,rfl,.inl ⟨rfl,_,SqL.of hl2⟩,_,rfl,_,rfl,_,rfl,_,_,rfl,rfl,_,rfl,_,_,rfl,rfl,l,ns,_,rfl,hS2,by omega,_,rfl,_,_,rfl,rfl,.inl ⟨by decide,by decide⟩,m,_,_,rfl,hM.same sm,by omega,by omega,λq l' ds c H3 s3 nl e1 e2 e3 oc=>?_⟩;refine⟨cl,_,_,rfl,rfl,s3 _ _ hl2,by rw[B8,ld,hn];exact F2 hi (CU B2),?_⟩;have nl':l'≠cl:=λz=>by rw[z,hl2]at nl;cases nl
   refine⟨cs++[q],r++[c],_,rfl,λb o e=>?_,?_,?_,by rw[C4,hn];rfl,λe he=>?_⟩
   ·rw[As (Av e hcl)];exact s3 _ _ (sm _ _ e)
   ·rw[Af,C5];rfl
   ·refine A0b (Paired.impMem (λx' y hy z=>(z.same s3).put (s3 _ _ hl2) (oks y hy)) pr) (Pu.put (s3 _ _ hl2) ⟨l',ds,nl',e1,e2,e3⟩ oc)
   ·rcases D9.mp he with z|z
    ·exact oks e z
    ·rw[D7.mp z];exact oc
  ·rintro σ H2 ⟨cs,r,u5,rfl,sm,hl2,pr,hn,oks⟩;have hR:Nj H2 cl r:=⟨cs,hl2,Paired.imp (λ_ _ z=>z.at) pr⟩
   have rk:FR r:=⟨by omega,oks⟩
   refine⟨_,rfl,(by show 8<=sizeLine;decide),λz8 hz8=>?_⟩;have s3:=Ao (o:=.lst (BC.map V.int)) hz8;refine⟨cl,z8,r,0,BC,rfl,hR.same s3,rk,Af,rfl,λH4 s4=>?_⟩;have s14:Az H H4:=((s1'.trans sm).trans s3).trans s4;have hR4:=(hR.same s3).same s4;refine⟨rfl,_,rfl,?_⟩;rw[Iz];by_cases hz:Ci r 0 BC=0
   ·rw[Y7 hz];exact Bo ⟨_,rfl,k cl r H4 s14 hR4 rk hz B2 B2⟩
   ·rw[Y9 hz];refine Cp ?_;refine⟨(by show 1<=sizeLine;decide),λb1 hb1=>⟨(by show 3<=sizeLine;decide),λb2 hb2=>⟨(by show 1<=sizeLine;decide),λb3 hb3=>⟨(by show 3<=sizeLine;decide),λb4 hb4=>⟨(by show 1<=sizeLine;decide),λb5 hb5=>?_⟩⟩⟩⟩⟩;generalize hH5:upd (upd (upd (upd (upd H4 b1 (.lst [.int 8])) b2 (.tup [.str (Str.ofString "amount"),.int 0,.ref b1])) b3 (.lst [.ref b2])) b4 (.tup [.int 0,.ref b3,.int 0])) b5 (.lst [.ref b4])=H5;have s5:Az H4 H5:=by rw[<-hH5];exact(((Ao hb1).trans (Ao hb2)).trans (Ao hb3)).trans ((Ao hb4).trans (Ao hb5))
    have e1:H5 b1=some (.lst [.int 8]):=by rw[<-hH5];exact Ao hb5 _ _ (Ao hb4 _ _ (Ao hb3 _ _ (Ao hb2 _ _ Af)))
    have e2:H5 b2=some (.tup [.str (Str.ofString "amount"),.int 0,.ref b1]):=by rw[<-hH5];exact Ao hb5 _ _ (Ao hb4 _ _ (Ao hb3 _ _ Af))
    have e3:H5 b3=some (.lst [.ref b2]):=by rw[<-hH5];exact Ao hb5 _ _ (Ao hb4 _ _ Af)
    have e4:H5 b4=some (.tup [.int 0,.ref b3,.int 0]):=by rw[<-hH5];exact Ao hb5 _ _ Af
    have e5:H5 b5=some (.lst [.ref b4]):=by rw[<-hH5];exact Af
    obtain⟨cs4,hcl4,pr4⟩:=(hR4.same s5).ex;have ld4:=Z9 pr4;refine⟨_,rfl,b5,cl,_,_,rfl,rfl,e5,hcl4,CU (by simp only[D4,R8,B8];omega),λq hq=>?_⟩;have s6:=Ao (o:=.lst ([V.ref b4]++cs4.map V.ref)) hq;have c0:Qm H5 b4 c00:=⟨b3,[b2],e4,e3,.cons (.am (ns:=[8]) e2 e1) .nil⟩
    refine⟨_,rfl,k q (c00::r) _ ((s14.trans s5).trans s6) ⟨b4::cs4,Af,.cons (c0.same s6) (Paired.imp (λ_ _ z=>z.same s6) pr4)⟩ ⟨by rw[D4];omega,λc hc=>?_⟩ (Zw r) (by rw[D4];omega) (by rw[D4];omega)⟩;rcases C3.mp hc with z|z
    ·rw[z];exact c00_ok
    ·exact oks c z
end
theorem Az.noneN{H H':Hp}(s:Az H H'){x:Addr}(n:H' x=none):H x=none:=by
 cases e:H x with
 |none=>rfl
 |some o=>rw[s _ _ e]at n;cases n
theorem OI{T:St->Hp->Prop}{C:Prop}(P:St->Hp->Prop)(h:(∀σ H,P σ H->T σ H)->C)(k:∀σ H,P σ H->T σ H):C:=h k
structure MA where
 tp:Addr
 l:Addr
 kc:Addr
 ds:List Addr
def jf2(gp mem:Addr):List (Str×V):=AS "memories" (.ref mem) (AS "grove" (.ref gp) [])
def jf5(gp mem pr l kc:Addr):List (Str×V):=AS "known_cells" (.ref kc) (AS "known_squares" (.ref l) (AS "rule" (.ref pr) (jf2 gp mem)))
theorem jf2_mem(gp mem:Addr):(jf2 gp mem).lookup ("memories" : Str)=some (V.ref mem):=by
 unfold jf2;rw[Ak,Y8 rfl]
theorem Za(gp mem:Addr){m:Str}(h1:¬m=("memories" : Str))(h2:¬m=("grove" : Str)):(jf2 gp mem).lookup m=none:=by
 unfold jf2;rw[Ak,Y6 h1,Ak,Y6 h2];rfl
section
variable(gp mem pr l kc:Addr)
theorem YZ:(jf5 gp mem pr l kc).lookup ("known_cells" : Str)=some (V.ref kc):=by
 unfold jf5;rw[Ak,Y8 rfl]
theorem YY:(jf5 gp mem pr l kc).lookup ("known_squares" : Str)=some (V.ref l):=by
 unfold jf5;rw[Ak,Y6 A1,Ak,Y8 rfl]
theorem jf5_ru:(jf5 gp mem pr l kc).lookup ("rule" : Str)=some (V.ref pr):=by
 unfold jf5;rw[Ak,Y6 A1,Ak,Y6 A1,Ak,Y8 rfl]
theorem DF:(jf5 gp mem pr l kc).lookup ("grove" : Str)=some (V.ref gp):=by
 unfold jf5 jf2;rw[Ak,Y6 A1,Ak,Y6 A1,Ak,Y6 A1,Ak,Y6 A1,Ak,Y8 rfl]
theorem Lk{m:Str}(h1:¬m=("known_cells" : Str))(h2:¬m=("known_squares" : Str))(h3:¬m=("rule" : Str))(h4:¬m=("memories" : Str))(h5:¬m=("grove" : Str)):(jf5 gp mem pr l kc).lookup m=none:=by
 unfold jf5;rw[Ak,Y6 h1,Ak,Y6 h2,Ak,Y6 h3,Za _ _ h4 h5]
theorem VS:(jf5 gp mem pr l kc).lookup ("after" : Str)=none:=Lk _ _ _ _ _ A1 A1 A1 A1 A1
theorem VR:(jf5 gp mem pr l kc).lookup ("check_jump" : Str)=none:=Lk _ _ _ _ _ A1 A1 A1 A1 A1
theorem LJ:(jf5 gp mem pr l kc).lookup ("reckoned" : Str)=none:=Lk _ _ _ _ _ A1 A1 A1 A1 A1
theorem VQ:(jf5 gp mem pr l kc).lookup ("fresh" : Str)=none:=Lk _ _ _ _ _ A1 A1 A1 A1 A1
theorem YB:(jf5 gp mem pr l kc).lookup ("four_halfway" : Str)=none:=Lk _ _ _ _ _ A1 A1 A1 A1 A1
theorem noJ_mid:(jf5 gp mem pr l kc).lookup ("middle_after" : Str)=none:=Lk _ _ _ _ _ A1 A1 A1 A1 A1
theorem YC:(jf5 gp mem pr l kc).lookup ("cell_after" : Str)=none:=Lk _ _ _ _ _ A1 A1 A1 A1 A1
end
inductive Nv:HO->Prop
 |tup {xs:List V}:Nv (.tup xs)
 |ins {C dx:Addr} {fs:List (Str×V)} (h1:1<=fs.length) (h2:fs.length<=3):Nv (.ins C dx fs)
theorem NC(f:Str)(v:V):∀fs:List (Str×V),1<=(AS f v fs).length
 |[]=>C1 1
 | (g,x)::r=>by
  unfold AS;split
  ·rw[D4];lia
  ·rw[D4];lia
theorem Dq.kp{a:Ad}{H H':Hp}{p:Addr}{c:AT}(k:∀b o,H b=some o->Nv o->H' b=some o)(h:Dq a H p c):Dq a H' p c:=by
 cases h with
 |am h ht=>exact .am (k _ _ h (.ins (NC _ _ _) (C9 (Bv _ _ _) (P8 (C9 (Bv _ _ _) (by show 0+1<=2;decide)))))) (k _ _ ht .tup)
 |pl h ht=>exact .pl (k _ _ h (.ins (NC _ _ _) (C9 (Bv _ _ _) (by show 0+1<=3;decide)))) (k _ _ ht .tup)
theorem BU.kp{a:Ad}{H H':Hp}{p:Addr}{c:AO}(k:∀b o,H b=some o->Nv o->H' b=some o)(h:BU a H p c):BU a H' p c:=by
 obtain⟨dx,t,cs,h1,h2,h3⟩:=h.ex;exact⟨dx,t,cs,k _ _ h1 (.ins (NC _ _ _) (C9 (Bv _ _ _) (P8 (C9 (Bv _ _ _) (P8 (C9 (Bv _ _ _) (by show 0+1<=1;decide))))))),k _ _ h2 .tup,Paired.imp (λ_ _ z=>z.kp k) h3⟩
theorem CF.kp{a:Ad}{H H':Hp}{p:Addr}{x:Str}{r:AA}(k:∀b o,H b=some o->Nv o->H' b=some o)(h:CF a H p x r):CF a H' p x r:=by
 obtain⟨dx,t,cs,h1,h2,h3⟩:=h.ex;exact⟨dx,t,cs,k _ _ h1 (.ins (NC _ _ _) (C9 (Bv _ _ _) (P8 (C9 (Bv _ _ _) (by show 0+1<=2;decide))))),k _ _ h2 .tup,Paired.imp (λ_ _ z=>z.kp k) h3⟩
def mK(ms:List (Str×MA)):List (Key×V):=ms.map λe=>(Sum.inr e.1,V.ref e.2.tp)
theorem UV(t:Str):∀ms:List (Str×MA),(∃m,(t,m)∈ms/\BM (mK ms) (Sum.inr t)=some (.ref m.tp))\/(BM (mK ms) (Sum.inr t)=none/\∀e∈ms,e.1≠t)
 |[]=>.inr ⟨rfl,λe he=>nomatch he⟩
 |e::r=>by
  by_cases h:e.1=t
  ·refine .inl ⟨e.2,?_,?_⟩
   ·rw[<-h];exact C7
   ·exact BO (p:=(Sum.inr e.1,V.ref e.2.tp)) (r:=mK r) (by rw[h])
  ·have n:BM (mK (e::r)) (Sum.inr t)=BM (mK r) (Sum.inr t):=BB (p:=(Sum.inr e.1,V.ref e.2.tp)) (r:=mK r) λz=>h (Sum.inr.inj z);rcases UV t r with ⟨m,h1,h2⟩|⟨h1,h2⟩
   ·exact .inl ⟨m,C6 _ h1,n.trans h2⟩
   ·refine .inr ⟨n.trans h1,λx hx=>?_⟩;rcases C3.mp hx with z|z
    ·rw[z];exact h
    ·exact h2 x z
inductive ChgR(H H':Hp)(t:Str)(ms ms':List (Str×MA))(m:MA):Prop
 |old (_:(t,m)∈ms) (_:ms'=ms):ChgR H H' t ms ms' m
 |new (_:ms'=ms++[(t,m)]) (_:∀e∈ms,e.1≠t) (_:H m.tp=none/\H m.l=none/\H m.kc=none/\∀d∈m.ds,H d=none) (_:H' m.tp=some (.tup [.ref m.l,.ref m.kc])) (_:H' m.l=some (.lst (m.ds.map V.ref))) (_:H' m.kc=some (.dT [])) (_:∀d∈m.ds,H' d=some (.dK [])) (_:m.ds.length=47) (_:m.ds.Nodup):ChgR H H' t ms ms' m
section
variable{P:Program}{w:World}{K:PySem.W.Frag}{mg:Str->Option Value}{base:Heap}{a:Ad}
inductive ZG(a:Ad)(vs:List V)(H:Hp)(Q:VK):Prop
 |mk (p:Addr) (t:Str) (r:AA) (_:vs=[.ref p]) (_:CF a H p t r) (_:Q (.str t) H):ZG a vs H Q
def Td(a:Ad):Sp:=λvs H Q _=>ZG a vs H Q
theorem ok_show{f:Addr}{fd:FuncData}(F:Fun K "shown_rule" "shown_rule" GT f fd)(T:Top K mg a):AJ P w K mg base CX0 1 f fd Il (Td a):=by
 refine F.ok Pd (λvs H Q E h=>?_) (λcdv A outer s H vs Q E hr h=>?_)
 ·obtain⟨p,t,r,rfl,_⟩:=h;rfl
 ·obtain⟨p,t,r,rfl,hR,k⟩:=h;obtain⟨dx,tt,cs,h1,h2,h3⟩:=hR.ex;refine⟨_,(Ag (Aw (AC (pv 0) rfl))),?_⟩
  try dsimp only[cxK]
  exact xwf rfl rfl h1 T.cl_Rule T.na_Rule_text (Zo A1) k
inductive SpChg(a:Ad)(vs:List V)(H:Hp)(Q:VK):Prop
 |mk (p dx mem pr:Addr) (fs:List (Str×V)) (t:Str) (r:AA) (ms:List (Str×MA)) (_:vs=[.ref p,.ref pr]) (_:H p=some (.ins a.c_Jumps dx fs)) (_:fs.lookup ("memories" : Str)=some (.ref mem)) (_:fs.length<=10) (_:H mem=some (.dK (mK ms))) (_:ms.length<=1000) (_:∀e∈ms,H e.2.tp=some (.tup [.ref e.2.l,.ref e.2.kc])) (_:CF a H pr t r) (_:∀(H':Hp)(m:MA)(ms':List (Str×MA)),(∀b o,H b=some o->b≠p->b≠mem->H' b=some o)->H' p=some (.ins a.c_Jumps dx (AS "known_cells" (.ref m.kc) (AS "known_squares" (.ref m.l) (AS "rule" (.ref pr) fs))))->H' mem=some (.dK (mK ms'))->ChgR H H' t ms ms' m->Q .non H'):SpChg a vs H Q
def WU(a:Ad):Sp:=λvs H Q _=>SpChg a vs H Q
theorem ok_chg{f:Addr}{fd:FuncData}(F:Fun K "change" "Jumps.change" DW f fd)(T:Top K mg a)(bY:Cal P w K mg base CX0 1 "shown_rule" Il (Td a)):AJ P w K mg base CX0 2 f fd FF (WU a):=by
 refine F.ok IJ (λvs H Q E h=>?_) (λcdv A outer s H vs Q E hr h=>?_)
 ·obtain⟨p,dx,mem,pr,fs,t,r,ms,rfl,_⟩:=h;rfl
 ·obtain⟨p,dx,mem,pr,fs,t,r,ms,rfl,hp,hmem,hfs,hm,few,tps,hR,k⟩:=h;refine⟨_,(Ac (Aq (i:=2) IJ.nd rfl (Or.inl rfl) (Ar bY (rm hr) rfl An (Aa (pv 1) Ab))) (Ac (AQ (pt_cmp (VJ (FK hr) (pv 2) (AC (pv 0) rfl))) (Ag (Ig (FK hr) (AC (pv 0) rfl) (pv 2) (EN (Aa (BW rfl (Bu.of (So:=Ah DW) (No:=Jl) (N:=["e"]) (k:=1) (cs:=[]) rfl rfl A1) (Di rfl T.b_range (AZ BY (Cb rfl T.k_TOP_LEVEL) Ae Ab)) (λ_ _ _=>(AW (i:=0) A1 rfl rfl)) (λ_ _ _=>BF) (λ_ _ _=>LF)) (Aa Oq Ab))) rfl)) AD) (Ac (Cz (pv 0) (pv 1) rfl) (Ac (Cz (pv 0) (Aj Am (QI (FK hr) (AC (pv 0) rfl) (pv 2) (λ_ _=>rfl)) Ae (λ_ _=>rfl)) rfl) (Ag (Cz (pv 0) (Aj Am (QI (FK hr) (AC (pv 0) rfl) (pv 2) (λ_ _=>rfl)) Ae (λ_ _=>rfl)) rfl)))))),?_⟩
  try dsimp only[cxK]
  have npm:p≠mem:=AE hp hm A3;refine xq1 rfl ⟨pr,t,r,rfl,hR,?_⟩;apply OI (fun σ H1=>σ=[some (.ref p),some (.ref pr),some (.str t)]/\∃(m:MA)(ms':List (Str×MA)),(∀b o,H b=some o->b≠mem->H1 b=some o)/\H1 mem=some (.dK (mK ms'))/\BM (mK ms') (Sum.inr t)=some (.ref m.tp)/\H1 m.tp=some (.tup [.ref m.l,.ref m.kc])/\ChgR H H1 t ms ms' m/\m.tp≠p/\(H m.tp=none->m.l≠p/\m.kc≠p/\∀d∈m.ds,d≠p))
  ·intro rest;refine xw2 rfl rfl (xq5 hp T.cl_Jumps T.na_Jumps_memories hmem ⟨mem,(xq1 rfl ⟨IO.k (k:=Sum.inr t) hm,(xq1 rfl ?_)⟩)⟩);rcases UV t ms with ⟨m,m1,m2⟩|⟨no,nk⟩
   ·rw[m2];refine Bo (rest _ _ ⟨rfl,m,ms,λb o e _=>e,hm,m2,tps _ m1,.old m1 rfl,AE (tps _ m1) hp A3,λz=>?_⟩);rw[tps _ m1]at z;cases z
   ·rw[no];refine Cp ?_;refine xq2 rfl rfl (xq1 rfl ⟨by decide,by decide,?_⟩);refine MU (n:=47) (λi acc H2=>Az H H2/\∃ds:List Addr,acc=ds.map V.ref/\ds.length=i/\(∀d∈ds,H2 d=some (.dK []))/\(∀d∈ds,H d=none)/\ds.Nodup) ⟨Az.refl H,[],rfl,rfl,λd hd=>(nomatch hd),λd hd=>(nomatch hd),.nil⟩ ?_ ?_
    ·rintro i acc H2 hi ⟨sm,ds,rfl,ln,c1,c2,nd⟩;refine⟨⟨[some (.int (0+(i:Int)))],rfl,rfl⟩,?_,Gc λd hd=>⟨sm.trans (Ao hd),ds++[d],by rw[C5];rfl,by rw[C4,ln];rfl,λx hx=>?_,λx hx=>?_,?_⟩⟩
     ·rw[B8,ln];exact F2 hi A4
     ·rcases D9.mp hx with z|z
      ·exact Ao hd _ _ (c1 x z)
      ·rw[D7.mp z];exact Af
     ·rcases D9.mp hx with z|z
      ·exact c2 x z
      ·rw[D7.mp z];exact Az.noneN sm hd
     ·rw[P4];refine⟨nd,by simp,λx hx y hy z=>?_⟩;rw[D7.mp hy]at z;rw[<-z,c1 x hx]at hd;cases hd
    ·rintro acc H2 ⟨sm,ds,rfl,ln,c1,c2,nd⟩ l hl;generalize e_s3:upd H2 l _=H3;obtain⟨s3,hl3⟩:=alc hl e_s3;intro kc hkc;generalize e_s4:upd H3 kc _=H4;obtain⟨s4,hk4⟩:=alc hkc e_s4;refine⟨(by show 2<=sizeLine;decide),λtp htp=>?_⟩;show ∃_,_;generalize dF:upd H4 tp _=H5;obtain⟨s5,ht5⟩:=alc htp dF;have n1:H l=none:=Az.noneN sm hl;have n2:H kc=none:=Az.noneN (sm.trans s3) hkc;have n3:H tp=none:=Az.noneN ((sm.trans s3).trans s4) htp;have s05:=((sm.trans s3).trans s4).trans s5;have hm5:=s05 _ _ hm;refine xwf rfl rfl (s05 _ _ hp) T.cl_Jumps T.na_Jumps_memories hmem (xq1 rfl ⟨mem,(xq1 rfl ⟨Mf.k (k:=Sum.inr t) hm5 ?_,?_⟩)⟩)
     ·unfold mK;rw[B8];exact F6 few A4
     ·rw[LC _ no];have e6:mK ms++[(Sum.inr t,V.ref tp)]=mK (ms++[(t,⟨tp,l,kc,ds⟩)]):=by unfold mK;rw[C5];rfl
      rw[e6];have k6:∀b o,H5 b=some o->b≠mem->upd H5 mem (.dK (mK (ms++[(t,⟨tp,l,kc,ds⟩)]))) b=some o:=λb o e n=>by rw[As n];exact e
      have hm6:upd H5 mem (.dK (mK (ms++[(t,⟨tp,l,kc,ds⟩)]))) mem=some (.dK (mK (ms++[(t,⟨tp,l,kc,ds⟩)]))):=Af;generalize upd H5 mem (.dK (mK (ms++[(t,⟨tp,l,kc,ds⟩)])))=H6 at k6 hm6⊢;have nm:∀{x:Addr},H x=none->x≠mem:=λz y=>by rw[y,hm]at z;cases z
      have np:∀{x:Addr},H x=none->x≠p:=λz y=>by rw[y,hp]at z;cases z
      refine rest _ _ ⟨rfl,⟨tp,l,kc,ds⟩,ms++[(t,⟨tp,l,kc,ds⟩)],λb o e n=>k6 _ _ (s05 _ _ e) n,hm6,?_,k6 _ _ ht5 (nm n3),.new rfl nk ⟨n3,n1,n2,c2⟩ (k6 _ _ ht5 (nm n3)) (k6 _ _ (s5 _ _ (s4 _ _ hl3)) (nm n1)) (k6 _ _ (s5 _ _ hk4) (nm n2)) (λd hd=>k6 _ _ (s5 _ _ (s4 _ _ (s3 _ _ (c1 d hd)))) (nm (c2 d hd))) ln nd,np n3,λ_=>⟨np n1,np n2,λd hd=>np (c2 d hd)⟩⟩;rw[<-e6];rw[Qo no];exact BO rfl
  rintro σ H1 ⟨rfl,m,ms',k1,hm1,vv,ht1,chg,ntp,nnew⟩;have hp1:=k1 _ _ hp npm;have lf:fs.length<1000:=by lia
  have put:∀{Hk:Hp}{fs':List (Str×V)}(fs'':List (Str×V)),Hk p=some (.ins a.c_Jumps dx fs')->(∀b o,Hk b=some o->b≠p->upd Hk p (.ins a.c_Jumps dx fs'') b=some o)/\upd Hk p (.ins a.c_Jumps dx fs'') p=some (.ins a.c_Jumps dx fs''):=λ{Hk fs'} fs'' e=>⟨λb o e n=>by rw[As n];exact e,Af⟩
  refine xw2 rfl rfl ⟨p,_,dx,fs,rfl,hp1,T.cl_Jumps,T.na_Jumps_rule,lf,?_⟩;obtain⟨k2,hp2⟩:=put (AS "rule" (.ref pr) fs) hp1;generalize upd H1 p (.ins a.c_Jumps dx (AS "rule" (.ref pr) fs))=H2 at k2 hp2⊢;have l2:=Bv ("rule" : Str) (.ref pr) fs;have look2:(AS "rule" (.ref pr) fs).lookup ("memories" : Str)=some (.ref mem):=by rw[Ak,Y6 A1];exact hmem
  have hm2:=k2 _ _ hm1 (Z1 npm);have ht2:=k2 _ _ ht1 ntp;refine xwf rfl rfl hp2 T.cl_Jumps T.na_Jumps_memories look2 (xq1 rfl ⟨mem,.ref m.tp,rfl,vv▸IO.k (k:=Sum.inr t) hm2,(xq4 rfl rfl (SqT.of ht2) (Ai (j:=0) rfl) (xq1 rfl ⟨p,_,dx,(xq1 rfl ⟨hp2,T.cl_Jumps,T.na_Jumps_known_squares,by lia,?_⟩)⟩))⟩);obtain⟨k3,hp3⟩:=put (AS "known_squares" (.ref m.l) (AS "rule" (.ref pr) fs)) hp2;generalize upd H2 p (.ins a.c_Jumps dx (AS "known_squares" (.ref m.l) (AS "rule" (.ref pr) fs)))=H3 at k3 hp3⊢;have l3:=Bv ("known_squares" : Str) (.ref m.l) (AS "rule" (.ref pr) fs);have look3:(AS "known_squares" (.ref m.l) (AS "rule" (.ref pr) fs)).lookup ("memories" : Str)=some (.ref mem):=by rw[Ak,Y6 A1];exact look2
  have hm3:=k3 _ _ hm2 (Z1 npm);have ht3:=k3 _ _ ht2 ntp;refine xwf rfl rfl hp3 T.cl_Jumps T.na_Jumps_memories look3 (xq1 rfl ⟨mem,.ref m.tp,rfl,vv▸IO.k (k:=Sum.inr t) hm3,(xq4 rfl rfl (SqT.of ht3) (Ai (j:=1) rfl) (xq1 rfl ⟨p,_,dx,(xq1 rfl ⟨hp3,T.cl_Jumps,T.na_Jumps_known_cells,by lia,?_⟩)⟩))⟩);obtain⟨k4,hp4⟩:=put (AS "known_cells" (.ref m.kc) (AS "known_squares" (.ref m.l) (AS "rule" (.ref pr) fs))) hp3;have k14:∀b o,H1 b=some o->b≠p->upd H3 p (.ins a.c_Jumps dx (AS "known_cells" (.ref m.kc) (AS "known_squares" (.ref m.l) (AS "rule" (.ref pr) fs)))) b=some o:=λb o e n=>k4 _ _ (k3 _ _ (k2 _ _ e n) n) n;refine k _ m ms' (λb o e n1 n2=>k14 _ _ (k1 _ _ e n2) n1) hp4 (k14 _ _ hm1 (Z1 npm)) ?_;cases chg with
  |old h1 h2=>exact .old h1 h2
  |new h1 h2 h3 h4 h5 h6 h7 h8 h9 =>
   obtain⟨y1,y2,y3⟩:=nnew h3.1;exact .new h1 h2 h3 (k14 _ _ h4 ntp) (k14 _ _ h5 y1) (k14 _ _ h6 y2) (λd hd=>k14 _ _ (h7 d hd) (y3 d hd)) h8 h9
inductive Rt(a:Ad)(vs:List V)(H:Hp)(Q:VK):Prop
 |mk (p dx gp pr:Addr) (t:Str) (r:AA) (_:vs=[.ref p,.ref gp,.ref pr]) (_:H p=some (.ins a.c_Jumps dx [])) (_:CF a H pr t r) (_:∀(H':Hp)(mem:Addr)(m:MA),(∀b o,H b=some o->b≠p->H' b=some o)->H mem=none->H' p=some (.ins a.c_Jumps dx (jf5 gp mem pr m.l m.kc))->H' mem=some (.dK (mK [(t,m)]))->(H m.tp=none/\H m.l=none/\H m.kc=none/\∀d∈m.ds,H d=none)->H' m.tp=some (.tup [.ref m.l,.ref m.kc])->H' m.l=some (.lst (m.ds.map V.ref))->H' m.kc=some (.dT [])->(∀d∈m.ds,H' d=some (.dK []))->m.ds.length=47->m.ds.Nodup->(∀d∈m.ds,d≠mem)->Q .non H'):Rt a vs H Q
def Qv(a:Ad):Sp:=λvs H Q _=>Rt a vs H Q
theorem Ys{f:Addr}{fd:FuncData}(F:Fun K "__init__" "Jumps.__init__" GZ f fd)(T:Top K mg a)(bF:BZ P w K mg base CX0 2 a.c_Jumps "change" FF (WU a)):AJ P w K mg base CX0 3 f fd Ir (Qv a):=by
 refine F.ok Pg (λvs H Q E h=>?_) (λcdv A outer s H vs Q E hr h=>?_)
 ·obtain⟨p,dx,gp,pr,t,r,rfl,_⟩:=h;rfl
 ·obtain⟨p,dx,gp,pr,t,r,rfl,hp,hR,k⟩:=h;refine⟨_,(Ac (Cz (pv 0) (pv 1) rfl) (Ac (Cz (pv 0) LF rfl) (Ag (BG (AG (pv 0) bF (rm hr) An (Aa (pv 2) Ab)))))),?_⟩
  try dsimp only[cxK]
  refine xw2 rfl rfl ⟨p,_,dx,[],rfl,hp,T.cl_Jumps,T.na_Jumps_grove,B3,?_⟩;have k1:∀b o,H b=some o->b≠p->upd H p (.ins a.c_Jumps dx (AS "grove" (.ref gp) [])) b=some o:=λb o e n=>by rw[As n];exact e
  have hp1:upd H p (.ins a.c_Jumps dx (AS "grove" (.ref gp) [])) p=some (.ins a.c_Jumps dx (AS "grove" (.ref gp) [])):=Af;have kn:∀b,upd H p (.ins a.c_Jumps dx (AS "grove" (.ref gp) [])) b=none->H b=none:=λb e=>by
   by_cases z:b=p
   ·rw[z,hp1]at e;cases e
   ·rw[As z]at e;exact e
  generalize upd H p (.ins a.c_Jumps dx (AS "grove" (.ref gp) []))=H1 at k1 hp1 kn⊢;intro mem hmem;generalize dM:upd H1 mem _=H2;obtain⟨s2,hm2⟩:=alc hmem dM;have nmp:mem≠p:=λz=>by rw[z,hp1]at hmem;cases hmem
  refine xq1 rfl ⟨p,_,dx,(xq1 rfl ⟨s2 _ _ hp1,T.cl_Jumps,T.na_Jumps_memories,B5,?_⟩)⟩;have k3:∀b o,H2 b=some o->b≠p->upd H2 p (.ins a.c_Jumps dx (jf2 gp mem)) b=some o:=λb o e n=>by rw[As n];exact e
  have hp3:upd H2 p (.ins a.c_Jumps dx (jf2 gp mem)) p=some (.ins a.c_Jumps dx (jf2 gp mem)):=Af;have kn3:∀b,upd H2 p (.ins a.c_Jumps dx (jf2 gp mem)) b=none->H b=none:=λb e=>by
   by_cases z:b=p
   ·rw[z,hp3]at e;cases e
   ·rw[As z]at e;exact kn _ (Az.noneN s2 e)
  rw[show AS ("memories" : Str) (V.ref mem) (AS ("grove" : Str) (V.ref gp) [])=jf2 gp mem from rfl];generalize upd H2 p (.ins a.c_Jumps dx (jf2 gp mem))=H3 at k3 hp3 kn3⊢;have k03:∀b o,H b=some o->b≠p->H3 b=some o:=λb o e n=>k3 _ _ (s2 _ _ (k1 _ _ e n)) n;have hm3:=k3 _ _ hm2 nmp;have hR3:CF a H3 pr t r:=by
   refine hR.kp λb o e n=>k03 _ _ e λz=>?_;rw[z,hp]at e;cases e;cases n with
   |ins h1 _=>cases h1
  refine xwn rfl rfl hp3 (Za _ _ A1 A1) rfl ⟨p,dx,mem,pr,jf2 gp mem,t,r,[],rfl,hp3,jf2_mem _ _,by rw[show(jf2 gp mem).length=2 from rfl];decide,hm3,L7 _,λe he=>(nomatch he),hR3,λH' m ms' fr hp' hm' chg=>?_⟩;cases chg with
  |old h1 _=>cases h1
  |new h1 h2 h3 h4 h5 h6 h7 h8 h9 =>
   rw[h1]at hm';refine k H' mem m (λb o e n=>fr _ _ (k03 _ _ e n) n ?_) (kn _ hmem) hp' hm' ⟨kn3 _ h3.1,kn3 _ h3.2.1,kn3 _ h3.2.2.1,λd hd=>kn3 _ (h3.2.2.2 d hd)⟩ h4 h5 h6 h7 h8 h9 λd hd z=>?_
   ·intro z;rw[z]at e;rw[kn _ hmem]at e;cases e
   ·have:=h3.2.2.2 d hd;rw[z,hm3]at this;cases this
end
def qO(G:Gv)(n k:Nat):Nat:=match G[n]? with
 |some q=>(q.parts.getD k 0).toNat
 |none=>0
def cel(G:Gv):Nat->Nat->Nat->Nat->Nat
 |0,n,_,_=>n
 |l+1,n,x,y=>cel G l (qO G n ((x/2^l)%2+2*((y/2^l)%2))) x y
def stp(r:AA)(c:Nat->Nat->Int):Nat->Nat->Int:=λx y=>Ci r (c x y) [c (x-1) (y-1),c x (y-1),c (x+1) (y-1),c (x-1) y,c (x+1) y,c (x-1) (y+1),c x (y+1),c (x+1) (y+1)]
def Bh(r:AA):Nat->(Nat->Nat->Int)->Nat->Nat->Int
 |0,c=>c
 |n+1,c=>stp r (Bh r n c)
def Cr(G:Gv)(l n:Nat):Nat->Nat->Int:=λx y=>(cel G l n x y:Int)
def JR(r:AA)(G:Gv)(e n m:Nat):Prop:=∃l:Nat,Al G n ((l+2:Nat):Int)/\e<=l/\Al G m ((l+1:Nat):Int)/\∀x y,x<2^(l+1)->y<2^(l+1)->Cr G (l+1) m x y=Bh r (2^e) (Cr G (l+2) n) (x+2^l) (y+2^l)
theorem GOk.four{G:Gv}(ok:GOk G){n l:Nat}(h:Al G n ((l+1:Nat):Int)):∃x y z w:Nat,G[n]?=some ⟨[(x:Int),(y:Int),(z:Int),(w:Int)],((l+1:Nat):Int)⟩/\Al G x (l:Int)/\Al G y (l:Int)/\Al G z (l:Int)/\Al G w (l:Int):=by
 obtain⟨q,e,el⟩:=h;have h8:8<=n:=by
  refine O8 λz=>?_;rw[ok.leaf n z]at e;cases e;have:(0:Int)=((l+1:Nat):Int):=el;lia
 obtain⟨x,y,z,w,p,⟨l1,l2,l3,l4⟩,_⟩:=ok.node n q e h8;have e1:q.lev-1=(l:Int):=by lia
 rw[e1]at l1 l2 l3 l4;refine⟨x,y,z,w,?_,l1,l2,l3,l4⟩;rw[e];cases q with
 |mk pp ll=>cases p;cases el;rfl
theorem GOk.cell{G:Gv}(ok:GOk G){n:Nat}(h:Al G n 0):n<8:=by
 obtain⟨q,e,el⟩:=h;refine U7 λz=>?_;obtain⟨_,_,_,_,_,_,h1,_⟩:=ok.node n q e z;lia
theorem Ee{G:Gv}{n x y z w:Nat}{l:Int}(e:G[n]?=some ⟨[(x:Int),(y:Int),(z:Int),(w:Int)],l⟩):qO G n 0=x/\qO G n 1=y/\qO G n 2=z/\qO G n 3=w:=by
 unfold qO;rw[e];exact⟨rfl,rfl,rfl,rfl⟩
theorem Le{G:Gv}(ok:GOk G){n l:Nat}(h:Al G n ((l+1:Nat):Int)){k:Nat}(hk:k<4):Al G (qO G n k) (l:Int):=by
 obtain⟨x,y,z,w,e,h1,h2,h3,h4⟩:=ok.four h;obtain⟨q1,q2,q3,q4⟩:=Ee e
 match k,hk with
 |0,_=>rw[q1];exact h1
 |1,_=>rw[q2];exact h2
 |2,_=>rw[q3];exact h3
 |3,_=>rw[q4];exact h4
theorem SQ{G G':Gv}{i:Nat}(ok:GOk G)(go:AH G G' i):∀(l n:Nat),Al G n (l:Int)->∀x y,cel G' l n x y=cel G l n x y
 |0,n,_,x,y=>rfl
 |l+1,n,h,x,y=>by
  have e:∀k,qO G' n k=qO G n k:=λk=>by
   obtain⟨q,e,_⟩:=h;unfold qO;rw[go.get e,e]
  show cel G' l (qO G' n _) x y=cel G l (qO G n _) x y;rw[e];exact SQ ok go l _ (Le ok h A0) x y
theorem CM{G G':Gv}{i:Nat}(ok:GOk G)(go:AH G G' i){l n:Nat}(h:Al G n (l:Int)):Cr G' l n=Cr G l n:=by
 funext x y
 unfold Cr;rw[SQ ok go l n h]
theorem JR.goes{r:AA}{G G':Gv}{i e n m:Nat}(ok:GOk G)(go:AH G G' i)(h:JR r G e n m):JR r G' e n m:=by
 obtain⟨l,h1,h2,h3,h4⟩:=h;refine⟨l,go.lev h1,h2,go.lev h3,λx y hx hy=>?_⟩;rw[CM ok go h1,CM ok go h3];exact h4 x y hx hy
def Bs(G:Gv):Prop:=∀j:Nat,j<48->G[8+j]?=some ⟨[(bareN j:Int),(bareN j:Int),(bareN j:Int),(bareN j:Int)],(j:Int)+1⟩
theorem Bs.goes{G G':Gv}{i:Nat}(h:Bs G)(go:AH G G' i):Bs G':=λj hj=>go.get (h j hj)
theorem Bs.zero{G:Gv}(h:Bs G):∀(l:Nat),l<=48->∀x y,cel G l (bareN l) x y=0
 |0,_,x,y=>rfl
 |l+1,hl,x,y=>by
  obtain⟨q1,q2,q3,q4⟩:=Ee (h l A0);have e:∀k,k<4->qO G (8+l) k=bareN l:=λk hk=>by
   match k,hk with
   |0,_=>exact q1
   |1,_=>exact q2
   |2,_=>exact q3
   |3,_=>exact q4
  show cel G l (qO G (8+l) _) x y=0;rw[e _ A0];exact h.zero l A0 x y
theorem RD{r:AA}(h:Ci r 0 BC=0):∀k,Bh r k (λ_ _=>0)=λ_ _=>0
 |0=>rfl
 |k+1=>by
  show stp r (Bh r k _)=_;rw[RD h k]
  funext x y
  exact h
theorem Bs.lev{G:Gv}(ok:GOk G)(h:Bs G):∀l:Nat,l<=48->Al G (bareN l) (l:Int)
 |0,_=>⟨_,ok.leaf 0 A4,rfl⟩
 |l+1,hl=>⟨_,h l A0,by show(l:Int)+1=((l+1:Nat):Int);lia⟩
theorem JR.bare{r:AA}{G:Gv}(ok:GOk G)(h:Bs G)(re:Ci r 0 BC=0){l e:Nat}(hl:l+2<=48)(he:e<=l):JR r G e (bareN (l+2)) (bareN (l+1)):=by
 refine⟨l,h.lev ok _ hl,he,h.lev ok _ A0,λx y _ _=>?_⟩;have z:∀k,k<=48->Cr G k (bareN k)=λ_ _=>0:=λk hk=>by
  funext x y
  unfold Cr;rw[h.zero k hk x y];rfl
 rw[z _ hl,z _ A0,RD re]
theorem Zy{r:AA}(h:FR r){cell:Int}(hc:GF cell)(ar:List Int):GF (Ci r cell ar):=by
 cases e:IM r cell ar with
 |none=>rw[Mc e];exact hc
 |some i =>
  obtain⟨c,h1,h2⟩:=Mb e;rw[h2];exact(h.ok c (D1 h1)).makes
theorem Zr:∀xs:List Int,xs.length=8->∃a b c d e f g h,xs=[a,b,c,d,e,f,g,h]
 |[a,b,c,d,e,f,g,h],_=>⟨a,b,c,d,e,f,g,h,rfl⟩
structure IE(H:Hp)(g:GA)(G:Gv)(N M:Nat)(r:AA)(m:MA):Prop where
 tp:H m.tp=some (.tup [.ref m.l,.ref m.kc])
 l:H m.l=some (.lst (m.ds.map V.ref))
 ap:m.l≠g.lv/\m.l≠g.pt/\m.kc≠g.nm
 len:m.ds.length=47
 nd:m.ds.Nodup
 sq:∀(e:Nat) d,m.ds[e]?=some d->∃kv,H d=some (.dK kv)/\kv.length<=N/\(∀p∈kv,∃i,p.1=Sum.inl i)/\∀(n:Nat) v,BM kv (Sum.inl (n:Int))=some v->∃k:Nat,v=.int (k:Int)/\JR r G e n k
 ce:∃kc,H m.kc=some (.dT kc)/\kc.length<=M/\∀(ks:List Int) v,BM kc (kOf ks)=some v->∃c ar,ks=c::ar/\v=.int (Ci r c ar)
theorem IE.mono{H:Hp}{g:GA}{G:Gv}{N M N' M':Nat}{r:AA}{m:MA}(h:IE H g G N M r m)(e1:N<=N')(e2:M<=M'):IE H g G N' M' r m:=by
 refine⟨h.tp,h.l,h.ap,h.len,h.nd,λe d ed=>?_,?_⟩
 ·obtain⟨kv,h1,h2,h3,h4⟩:=h.sq e d ed;exact⟨kv,h1,C9 h2 e1,h3,h4⟩
 ·obtain⟨kc,h1,h2,h3⟩:=h.ce;exact⟨kc,h1,C9 h2 e2,h3⟩
theorem IE.kp{H H':Hp}{g:GA}{G G':Gv}{N M i:Nat}{r:AA}{m:MA}(h:IE H g G N M r m)(ok:GOk G)(go:AH G G' i)(k:∀b o,H b=some o->b=m.tp\/b=m.l\/b∈m.ds\/b=m.kc->H' b=some o):IE H' g G' N M r m:=by
 refine⟨k _ _ h.tp (.inl rfl),k _ _ h.l (.inr (.inl rfl)),h.ap,h.len,h.nd,λe d ed=>?_,?_⟩
 ·obtain⟨kv,h1,h2,h3,h4⟩:=h.sq e d ed;refine⟨kv,k _ _ h1 (.inr (.inr (.inl (D1 ed)))),h2,h3,λn v hv=>?_⟩;obtain⟨x,e1,e2⟩:=h4 n v hv;exact⟨x,e1,e2.goes ok go⟩
 ·obtain⟨kc,h1,h2,h3⟩:=h.ce;exact⟨kc,k _ _ h1 (.inr (.inr (.inr rfl))),h2,h3⟩
structure JW(a:Ad)(H:Hp)(g:GA)(G:Gv)(N M:Nat)(p dx mem pr:Addr)(r:AA)(m:MA):Prop where
 gr:AI a H g G
 ok:GOk G
 bs:Bs G
 br:H g.br=some (.lst ((Df 48).map V.int))
 nbr:g.br≠g.lv/\g.br≠g.pt
 hp:H p=some (.ins a.c_Jumps dx (jf5 g.p mem pr m.l m.kc))
 ru:CF a H pr (CP r) r
 rok:FR r
 rest:Ci r 0 BC=0
 me:IE H g G N M r m
theorem JW.same{a:Ad}{H H':Hp}{g:GA}{G:Gv}{N M:Nat}{p dx mem pr:Addr}{r:AA}{m:MA}(s:Az H H')(h:JW a H g G N M p dx mem pr r m):JW a H' g G N M p dx mem pr r m :=
 ⟨h.gr.same s,h.ok,h.bs,s _ _ h.br,h.nbr,s _ _ h.hp,h.ru.same s,h.rok,h.rest,h.me.kp h.ok (AH.refl h.ok) λb o e _=>s _ _ e⟩
theorem JW.mono{a:Ad}{H:Hp}{g:GA}{G:Gv}{N M N' M':Nat}{p dx mem pr:Addr}{r:AA}{m:MA}(h:JW a H g G N M p dx mem pr r m)(e1:N<=N')(e2:M<=M'):JW a H g G N' M' p dx mem pr r m :=
 ⟨h.gr,h.ok,h.bs,h.br,h.nbr,h.hp,h.ru,h.rok,h.rest,h.me.mono e1 e2⟩
theorem IE.fr{a:Ad}{H H':Hp}{g:GA}{G G':Gv}{N M i:Nat}{r:AA}{m:MA}(h:IE H g G N M r m)(hg:AI a H g G)(ok:GOk G)(f:Fr g H H')(go:AH G G' i):IE H' g G' N M r m:=by
 obtain⟨ts,h3,_⟩:=hg.pt;refine h.kp ok go λb o e w=>?_;rcases w with z|z|z|z
 ·have e2:=h.tp;rw[<-z,e]at e2;cases e2;exact f _ _ e (AE e hg.lv A3) (AE e h3 A3) (AE e hg.nm A3)
 ·have e2:=h.l;rw[z]at e⊢;rw[e]at e2;cases e2;exact f _ _ e h.ap.1 h.ap.2.1 (AE e hg.nm A3)
 ·obtain⟨j,hj⟩:=F9 z;obtain⟨kv,e2,_⟩:=h.sq j b hj;rw[e]at e2;cases e2;exact f _ _ e (AE e hg.lv A3) (AE e h3 A3) (AE e hg.nm A3)
 ·obtain⟨kc,e2,_⟩:=h.ce;rw[z]at e⊢;rw[e]at e2;cases e2;exact f _ _ e (AE e hg.lv A3) (AE e h3 A3) h.ap.2.2
theorem CF.fr{a:Ad}{H H':Hp}{g:GA}{G:Gv}{p:Addr}{x:Str}{r:AA}(h:CF a H p x r)(hg:AI a H g G)(f:Fr g H H'):CF a H' p x r:=by
 obtain⟨ts,h3,_⟩:=hg.pt;exact h.kp λb o e n=>f _ _ e (AE e hg.lv (by intro z;rw[z]at n;cases n)) (AE e h3 (by intro z;rw[z]at n;cases n)) (AE e hg.nm (by intro z;rw[z]at n;cases n))
theorem JW.fr{a:Ad}{H H':Hp}{g:GA}{G G':Gv}{N M i:Nat}{p dx mem pr:Addr}{r:AA}{m:MA}(h:JW a H g G N M p dx mem pr r m)(f:Fr g H H')(hg':AI a H' g G')(go:AH G G' i):JW a H' g G' N M p dx mem pr r m:=by
 obtain⟨ts,h3,_⟩:=h.gr.pt;refine⟨hg',go.ok,h.bs.goes go,f _ _ h.br h.nbr.1 h.nbr.2 (AE h.br h.gr.nm A3),h.nbr,f _ _ h.hp (AE h.hp h.gr.lv A3) (AE h.hp h3 A3) (AE h.hp h.gr.nm A3),h.ru.fr h.gr f,h.rok,h.rest,h.me.fr h.gr h.ok f go⟩
def FrJ(g:GA)(m:MA)(H H':Hp):Prop:=∀b o,H b=some o->b≠g.lv->b≠g.pt->b≠g.nm->b≠m.kc->b∉m.ds->H' b=some o
theorem FrJ.trans{g:GA}{m:MA}{H1 H2 H3:Hp}(h:FrJ g m H1 H2)(k:FrJ g m H2 H3):FrJ g m H1 H3:=λb o e n1 n2 n3 n4 n5=>k _ _ (h _ _ e n1 n2 n3 n4 n5) n1 n2 n3 n4 n5
theorem Fr.j{g:GA}{m:MA}{H1 H2:Hp}(h:Fr g H1 H2):FrJ g m H1 H2:=λb o e n1 n2 n3 _ _=>h _ _ e n1 n2 n3
theorem Az.j{g:GA}{m:MA}{H1 H2:Hp}(h:Az H1 H2):FrJ g m H1 H2:=λb o e _ _ _ _ _=>h _ _ e
theorem JW.putC{a:Ad}{H:Hp}{g:GA}{G:Gv}{N M:Nat}{p dx mem pr:Addr}{r:AA}{m:MA}{kc:List (List Key×V)}(h:JW a H g G N M p dx mem pr r m)(len:kc.length<=M+1)(sem:∀(ks:List Int) v,BM kc (kOf ks)=some v->∃c ar,ks=c::ar/\v=.int (Ci r c ar)):JW a (upd H m.kc (.dT kc)) g G N (M+1) p dx mem pr r m:=by
 obtain⟨kc0,hk,_⟩:=h.me.ce;have other:∀{b v},H b=some v->(∀kk,v≠.dT kk)->upd H m.kc (.dT kc) b=some v:=λ{b v} e n=>by rw[As (AE e hk (n _))];exact e
 obtain⟨ts,h3,h4⟩:=h.gr.pt;refine⟨⟨other h.gr.hp B0,other h.gr.lv B0,⟨ts,other h3 B0,PairedM.imp (λt q z=>other z B0) h4⟩,by rw[As (Z1 h.me.ap.2.2)];exact h.gr.nm,h.gr.ne⟩,h.ok,h.bs,other h.br B0,h.nbr,other h.hp B0,h.ru.kp λb o e n=>other e λkk z=>(by rw[z]at n;cases n),h.rok,h.rest,⟨other h.me.tp B0,other h.me.l B0,h.me.ap,h.me.len,h.me.nd,λe d ed=>?_,⟨kc,Af,len,sem⟩⟩⟩;obtain⟨kv,q1,q2,q3,q4⟩:=h.me.sq e d ed;exact⟨kv,other q1 B0,q2,q3,q4⟩
theorem JW.putS{a:Ad}{H:Hp}{g:GA}{G:Gv}{N M:Nat}{p dx mem pr:Addr}{r:AA}{m:MA}{e:Nat}{d:Addr}{kv:List (Key×V)}{n k:Nat}(h:JW a H g G N M p dx mem pr r m)(ed:m.ds[e]?=some d)(hd:H d=some (.dK kv))(jr:JR r G e n k):JW a (upd H d (.dK (EE kv (Sum.inl (n:Int)) (.int (k:Int))))) g G (N+1) M p dx mem pr r m:=by
 have other:∀{b v},H b=some v->(∀kk,v≠.dK kk)->upd H d (.dK (EE kv (Sum.inl (n:Int)) (.int (k:Int)))) b=some v:=λ{b v} e n=>by rw[As (AE e hd (n _))];exact e
 obtain⟨ts,h3,h4⟩:=h.gr.pt;obtain⟨kc,c1,c2,c3⟩:=h.me.ce;refine⟨⟨other h.gr.hp B0,other h.gr.lv B0,⟨ts,other h3 B0,PairedM.imp (λt q z=>other z B0) h4⟩,other h.gr.nm B0,h.gr.ne⟩,h.ok,h.bs,other h.br B0,h.nbr,other h.hp B0,h.ru.kp λb o e n=>other e λkk z=>(by rw[z]at n;cases n),h.rok,h.rest,⟨other h.me.tp B0,other h.me.l B0,h.me.ap,h.me.len,h.me.nd,λe' d' ed'=>?_,⟨kc,other c1 B0,c2,c3⟩⟩⟩;obtain⟨kv',q1,q2,q3,q4⟩:=h.me.sq e' d' ed';by_cases z:e'=e
 ·rw[z,ed]at ed';cases ed';rw[hd]at q1;cases q1;subst z;refine⟨_,Af,C9 (Ga _ _ _) A0,λq hq=>?_,λn' v hv=>?_⟩
  ·unfold EE at hq;split at hq
   ·obtain⟨q0,h0,rfl⟩:=D5.mp hq;split
    ·exact q3 q0 h0
    ·exact q3 q0 h0
   ·rcases D9.mp hq with y|y
    ·exact q3 q y
    ·rw[D7.mp y];exact⟨_,rfl⟩
  ·rw[Ll]at hv;split at hv
   ·rename_i y;have:n'=n:=by have:=Sum.inl.inj y;lia
    rw[this];cases hv;exact⟨k,rfl,jr⟩
   ·exact q4 n' v hv
 ·have nd:d'≠d:=λy=>z (by
   rw[y]at ed';exact(List.getElem?_inj (B9.mp ed').1 h.me.nd).mp (ed'.trans ed.symm))
  exact⟨kv',by rw[As nd];exact q1,C9 q2 A0,q3,q4⟩
section
variable{P:Program}{w:World}{K:PySem.W.Frag}{mg:Str->Option Value}{base:Heap}{a:Ad}
inductive ZR(a:Ad)(vs:List V)(H:Hp)(Q:VK):Prop
 |mk (p dx mem pr t:Addr) (g:GA) (G:Gv) (N M:Nat) (r:AA) (m:MA) (c:Int) (ar:List Int) (_:vs=[.ref p,.ref t]) (_:JW a H g G N M p dx mem pr r m) (_:H t=some (.tup ((c::ar).map V.int))) (_:ar.length=8) (_:∀x∈c::ar,GF x) (_:M<9000000) (_:∀H',(∀b o,H b=some o->b≠m.kc->H' b=some o)->JW a H' g G N (M+1) p dx mem pr r m->Q (.int (Ci r c ar)) H'):ZR a vs H Q
def UC(a:Ad):Sp:=λvs H Q _=>ZR a vs H Q
theorem ok_cel{f:Addr}{fd:FuncData}(F:Fun K "cell_after" "Jumps.cell_after" Cw f fd)(T:Top K mg a)(b8:BZ P w K mg base CX0 4 a.c_Grove "state_of" Er (WI a))(aQ:BZ P w K mg base CX0 3 a.c_Grove "leaf" EW (Qt a))(bE:Cal P w K mg base CX0 5 "becomes" Jz (UD a)):AJ P w K mg base CX0 6 f fd DE (UC a):=by
 refine F.ok Cj (λvs H Q E h=>?_) (λcdv A outer s H vs Q E hr h=>?_)
 ·obtain⟨p,dx,mem,pr,t,g,G,N,M,r,m,c,ar,rfl,_⟩:=h;rfl
 ·obtain⟨p,dx,mem,pr,t,g,G,N,M,r,m,c,ar,rfl,hj,ht,h8,sts,few,k⟩:=h;obtain⟨kc,c1,c2,c3⟩:=hj.me.ce;have htk:H t=some (.tup ((kOf (c::ar)).map kV)):=by rw[YW];exact ht
  refine⟨_,(Ac (Aq (i:=2) Cj.nd rfl (Or.inl rfl) (LG (FK hr) (AC (pv 0) rfl) (pv 1) ⟨rfl,rfl,rfl,rfl⟩)) (Ac (AQ (AB Jg (pv 2) DC (AF _)) (Ac (Ie (i:=3) rfl Cj.nd rfl rfl (Bu.of (So:=Ah Cw) (No:=FI) (N:=["one","self"]) (k:=1) (cs:=[0]) rfl rfl A1) (To (pv 1)) (λ_ _ _=>(AW (i:=0) A1 rfl rfl)) (λ_ _ _=>BF) (λ_ _ _=>(AG (QH (K:=K) rfl (pv 1) rfl) b8 (rm hr) An (Aa (pv 0) Ab)))) (Ac (Aq (i:=2) Cj.nd rfl (Or.inl rfl) (AG (AC (pv 0) rfl) aQ (rm hr) An (Aa (Ar bE (rm hr) rfl An (Aa (AC (pv 0) rfl) (Aa (Aj Ax (pv 3) Ae (λ_ _=>rfl)) (Aa (Sd UE (pv 3) (QF Ae) po_none) Ab)))) Ab))) (Ag (Ig (FK hr) (AC (pv 0) rfl) (pv 1) (pv 2) rfl)))) AD) (Ag (Aw (pv 2))))),?_⟩
  try dsimp only[cxK]
  refine xwf rfl rfl hj.hp T.cl_Jumps T.na_Jumps_known_cells (YZ _ _ _ _ _) ⟨m.kc,rfl,.inr ⟨_,.inl c1⟩,(xq1 rfl ⟨_,IO.t (k:=kOf (c::ar)) c1 htk,?_⟩)⟩;cases ev:BM kc (kOf (c::ar))with
  |some v =>
   obtain⟨c',ar',e1,e2⟩:=c3 _ v ev;cases e1;rw[e2];exact xq1 rfl ⟨rfl,(xq1 rfl (Bo (xq1 rfl (k H (λb o e _=>e) (hj.mono (C1 _) (R3 _))))))⟩
  |none =>
   refine xq1 rfl ⟨rfl,(xq1 rfl (Cp ?_))⟩;refine xq1 rfl ⟨t,rfl,⟨_,SqT.of ht⟩,?_⟩;refine Ro (xs:=(c::ar).map V.int) (λi acc H2=>H=H2/\acc=((c::ar).take i).map V.int) ⟨rfl,rfl⟩ (λi acc H2 _ z=>z.1▸SqT.of ht) ?_ ?_
   ·rintro i v acc H2 ev2 ⟨rfl,rfl⟩;rw[C0]at ev2;obtain⟨x,ex,rfl⟩:=D2.mp ev2;obtain⟨x0,x8⟩:=sts x (D1 ex);obtain⟨n,rfl⟩:=F3 x0;refine⟨⟨[some (.int (n:Int))],rfl,rfl⟩,?_,Gc (xq1 rfl (xq5 hj.hp T.cl_Jumps T.na_Jumps_grove (DF _ _ _ _ _) (xq3 rfl hj.gr.hp (Tv g) (xq1 rfl ⟨g,G,n,_,rfl,hj.gr,hj.ok.leaf n A0,rfl,rfl,?_⟩))))⟩
    ·rw[B8,L5];exact F6 (O7 _ _) (by rw[D4,h8];decide)
    ·rw[F5,ex,Q4,C5];rfl
   ·rintro acc H2 ⟨rfl,rfl⟩ L hL;rw[B8,J0];generalize e_s1:upd H L _=H1;obtain⟨s1,hL1⟩:=alc hL e_s1;have hj1:=hj.same s1;refine xwf rfl rfl hj1.hp T.cl_Jumps T.na_Jumps_grove (DF _ _ _ _ _) (xq3 rfl hj1.gr.hp (UQ g) (xwf rfl rfl hj1.hp T.cl_Jumps T.na_Jumps_rule (jf5_ru _ _ _ _ _) (xwi rfl rfl rfl (SqL.of hL1) (Ai (j:=0) rfl) ?_)));refine xq1 rfl ⟨1,rfl,L,(xq1 rfl ⟨SqL.of hL1,λSL hSL=>?_⟩)⟩;have ecut:TZ ((c::ar).map V.int) (some 1) none=ar.map V.int:=by
     obtain⟨x1,x2,x3,x4,x5,x6,x7,x8,rfl⟩:=Zr ar h8;rfl
    rw[ecut];generalize dM:upd H1 SL _=H2;obtain⟨s2,hS2⟩:=alc hSL dM;have hj2:=hj1.same s2;refine⟨pr,SL,_,r,c,ar,rfl,hj2.ru,hj2.rok.rok,hS2,λH3 s3=>?_⟩;have hj3:=hj2.same s3;have s03:=(s1.trans s2).trans s3;have bst:=Zy hj.rok (sts c C7) ar;refine⟨g.p,_,rfl,bst.1,bst.2,?_⟩;refine xq1 rfl (xq1 rfl (xq5 hj3.hp T.cl_Jumps T.na_Jumps_known_cells (YZ _ _ _ _ _) (xq1 rfl ⟨m.kc,(xq1 rfl ⟨Mf.t (k:=kOf (c::ar)) (s03 _ _ c1) (s03 _ _ htk) (F6 (show kc.length<=9000000 by lia) A4),?_⟩)⟩)));refine xq1 rfl (k _ (λb o e n=>by rw[As n];exact s03 _ _ e) (hj3.putC (C9 (Ga _ _ _) A0) λks v hv=>?_));rw[Ll]at hv;split at hv
    ·rename_i y;rw[LQ y];cases hv;exact⟨c,ar,rfl,rfl⟩
    ·exact c3 ks v hv
end
def FrC(g:GA)(m:MA)(H H':Hp):Prop:=∀b o,H b=some o->b≠g.lv->b≠g.pt->b≠g.nm->b≠m.kc->H' b=some o
theorem FrC.trans{g:GA}{m:MA}{H1 H2 H3:Hp}(h:FrC g m H1 H2)(k:FrC g m H2 H3):FrC g m H1 H3:=λb o e n1 n2 n3 n4=>k _ _ (h _ _ e n1 n2 n3 n4) n1 n2 n3 n4
theorem FrC.j{g:GA}{m:MA}{H1 H2:Hp}(h:FrC g m H1 H2):FrJ g m H1 H2:=λb o e n1 n2 n3 n4 _=>h _ _ e n1 n2 n3 n4
theorem Fr.c{g:GA}{m:MA}{H1 H2:Hp}(h:Fr g H1 H2):FrC g m H1 H2:=λb o e n1 n2 n3 _=>h _ _ e n1 n2 n3
def spNo:Sp:=λ_ _ _ _=>False
theorem AJ.no{P:Program}{w:World}{K:PySem.W.Frag}{mg:Str->Option Value}{base:Heap}{CX:CXT}{k:Nat}{f:Addr}{fd:FuncData}{ps:List Str}:AJ P w K mg base CX k f fd ps spNo :=
 ⟨λ_ _ _ _ h=>h.elim,λ_ _ _ _ _ _ _ _ _ _ _ _ _ h=>h.elim⟩
theorem bareJ{l:Nat}(h:l<=48):((Df 48).map V.int)[l]?=some (.int (bareN l:Int)):=by
 unfold Df;rw[C0,C0,N8 A0];rfl
section
variable{P:Program}{w:World}{K:PySem.W.Frag}{mg:Str->Option Value}{base:Heap}{a:Ad}
theorem tretl {ts:TA} {D:Md} {σ:St} {H:Hp} (h:ts σ H λxs H1=>xs.length<=sizeLine/\∀p,H1 p=none->D.rt (.ref p) (upd H1 p (.lst xs))):tRet (tLst ts) D σ H:=h
theorem FT {ta:TE} {tr:TA} {σ:St} {H:Hp} {Q:List V->Hp->Prop} (h:ta σ H λx H1=>tr σ H1 λxs H2=>Q (x::xs) H2):CH ta tr σ H Q:=h
theorem ixt{K:PySem.W.Frag}{σ:St}{i:Nat}{H:Hp}{t:Addr}{xs:List V}{j:Int}{v:V}{Q:VK}(r:σ[i]?=some (some (.ref t)))(h:H t=some (.tup xs))(e:atI xs j=some v)(k:Q v H):tOp (JG K) (GE i) (tC (V.int j)) σ H Q:=⟨_,r,t,xs,j,v,rfl,rfl,SqT.of h,e,k⟩
theorem ixp{K:PySem.W.Frag}{H:Hp}{p t:Addr}{ts:List Addr}{n:Nat}{Q:VK}(h:H p=some (.lst (ts.map V.ref)))(e:ts[n]?=some t)(k:Q (.ref t) H):rIxL K (.ref p) (.int n) H Q:=⟨p,_,n,_,rfl,rfl,SqL.of h,Ai (by rw[C0,e];rfl),k⟩
structure Ln(a:Ad)(g:GA)(H0:Hp)(G0:Gv)(j:Nat)(H:Hp)(G:Gv):Prop where
 fr:Fr g H0 H
 kt:∀{b:Addr}{xs:List V},H0 b=some (.tup xs)->H b=some (.tup xs)
 gr:AI a H g G
 go:AH G0 G j
theorem lnk{a:Ad}{H0 H:Hp}{g:GA}{G0 G:Gv}{j:Nat}{u:Addr}{x y z w:Nat}{l:Int}{Q:VK}(s:Ln a g H0 G0 j H G)(hu:H u=none)(lv:Al G0 x l/\Al G0 y l/\Al G0 z l/\Al G0 w l)(h47:l<=47)(few:G0.length+j<9000000)
  (k:∀(n:Nat)(G':Gv)(H':Hp),Ln a g H0 G0 (j+1) H' G'->AH G G' 1->G'[n]?=some ⟨[(x:Int),(y:Int),(z:Int),(w:Int)],l+1⟩->Q (.int n) H'):Ue a [.ref g.p,.ref u] (upd H u (.tup [.int x,.int y,.int z,.int w])) Q:=by
 generalize e_1:upd H u _=H1;obtain⟨s1,h1⟩:=alc hu e_1;have i1:=s.gr.same s1;have lf:=s.go.few;refine⟨g,G,u,x,y,z,w,l,rfl,i1,s.go.ok,h1,⟨s.go.lev lv.1,s.go.lev lv.2.1,s.go.lev lv.2.2.1,s.go.lev lv.2.2.2⟩,h47,by lia,λn G' H' fr hg go e=>k n G' H' ⟨s.fr.trans ((Az.fr s1).trans fr),λ{b xs} e=>?_,hg,s.go.trans go⟩ go e⟩;obtain⟨us,q3,_⟩:=i1.pt;have e':=s1 _ _ (s.kt e);exact fr _ _ e' (AE e' i1.lv A3) (AE e' q3 A3) (AE e' i1.nm A3)
theorem ttup {ts:TA} {σ:St} {H:Hp} {Q:VK} (h:ts σ H λxs H1=>xs.length<=sizeLine/\∀p,H1 p=none->Q (.ref p) (upd H1 p (.tup xs))):WD ts σ H Q:=h
theorem al9{P:Int->Prop}{a b c d e f g h i:Int}(ha:P a)(hb:P b)(hc:P c)(hd:P d)(he:P e)(hf:P f)(hg:P g)(hh:P h)(hi:P i):∀x∈[a,b,c,d,e,f,g,h,i],P x:=by
 intro x hx;simp only[C3,F0,X7]at hx;rcases hx with rfl|rfl|rfl|rfl|rfl|rfl|rfl|rfl|rfl<;>assumption
structure Lc(g:GA)(m:MA)(H0 H:Hp):Prop where
 fr:FrC g m H0 H
 kt:∀{b:Addr}{xs:List V},H0 b=some (.tup xs)->H b=some (.tup xs)
theorem celT{a:Ad}{H0 H:Hp}{g:GA}{G:Gv}{N M:Nat}{p dx mem pr u:Addr}{r:AA}{m:MA}{c:Int}{ar:List Int}{Q:VK}(hj:JW a H g G N M p dx mem pr r m)(lc:Lc g m H0 H)(hu:H u=none)(sts:∀x∈c::ar,GF x)(hl:ar.length=8)(hM:M<9000000)
  (h:∀(k:Nat)(Y:Hp),Ci r c ar=k->k<8->Lc g m H0 Y->JW a Y g G N (M+1) p dx mem pr r m->Q (.int k) Y):ZR a [.ref p,.ref u] (upd H u (.tup ((c::ar).map V.int))) Q:=by
 generalize e_1:upd H u _=X;obtain⟨s,hv⟩:=alc hu e_1;have i:=hj.same s;refine⟨p,dx,mem,pr,u,g,G,N,M,r,m,c,ar,rfl,i,hv,hl,sts,hM,λY fr hj'=>?_⟩;obtain⟨z1,z2⟩:=Zy hj.rok (sts c (.head ..)) ar;obtain⟨k,e⟩:=F3 z1;rw[e];refine h k Y e A0 ⟨lc.fr.trans λb o e _ _ _ n4=>fr _ _ (s _ _ e) n4,λ{b xs} e=>?_⟩ hj';obtain⟨kc,c1,_⟩:=i.me.ce;have e:=s _ _ (lc.kt e);exact fr _ _ e (AE e c1 A3)
theorem cel9{K:PySem.W.Frag}{a:Ad}{H0 H:Hp}{g:GA}{G:Gv}{N M:Nat}{p dx mem pr:Addr}{r:AA}{m:MA}{σ:St}{Q:VK}{i1 i2 i3 i4 i5 i6 i7 i8 i9:Nat}{t1 t2 t3 t4 t5 t6 t7 t8 t9:Addr}{xs1 xs2 xs3 xs4 xs5 xs6 xs7 xs8 xs9:List V}{j1 j2 j3 j4 j5 j6 j7 j8 j9 c1 c2 c3 c4 c5 c6 c7 c8 c9:Int}(hj:JW a H g G N M p dx mem pr r m)(lc:Lc g m H0 H)(h1:H0 t1=some (.tup xs1))(h2:H0 t2=some (.tup xs2))(h3:H0 t3=some (.tup xs3))(h4:H0 t4=some (.tup xs4))(h5:H0 t5=some (.tup xs5))(h6:H0 t6=some (.tup xs6))(h7:H0 t7=some (.tup xs7))(h8:H0 t8=some (.tup xs8))(h9:H0 t9=some (.tup xs9))(sts:∀x∈[c1,c2,c3,c4,c5,c6,c7,c8,c9],GF x)(hM:M<9000000)
  (k:∀(k:Nat)(Y:Hp),Ci r c1 [c2,c3,c4,c5,c6,c7,c8,c9]=k->k<8->Lc g m H0 Y->JW a Y g G N (M+1) p dx mem pr r m->Q (.int k) Y) (e:σ[0]?=some (some (.ref p))/\(σ[i1]?=some (some (.ref t1))/\atI xs1 j1=some (.int c1))/\(σ[i2]?=some (some (.ref t2))/\atI xs2 j2=some (.int c2))/\(σ[i3]?=some (some (.ref t3))/\atI xs3 j3=some (.int c3))/\(σ[i4]?=some (some (.ref t4))/\atI xs4 j4=some (.int c4))/\(σ[i5]?=some (some (.ref t5))/\atI xs5 j5=some (.int c5))/\(σ[i6]?=some (some (.ref t6))/\atI xs6 j6=some (.int c6))/\(σ[i7]?=some (some (.ref t7))/\atI xs7 j7=some (.int c7))/\(σ[i8]?=some (some (.ref t8))/\atI xs8 j8=some (.int c8))/\(σ[i9]?=some (some (.ref t9))/\atI xs9 j9=some (.int c9)):=by exact⟨rfl,⟨rfl,rfl⟩,⟨rfl,rfl⟩,⟨rfl,rfl⟩,⟨rfl,rfl⟩,⟨rfl,rfl⟩,⟨rfl,rfl⟩,⟨rfl,rfl⟩,⟨rfl,rfl⟩,⟨rfl,rfl⟩⟩) :
  Uq a.c_Jumps "cell_after" (UC a) [] E0 (GE 0) (CH (WD (CH (tOp (JG K) (GE i1) (tC (V.int j1))) (CH (tOp (JG K) (GE i2) (tC (V.int j2))) (CH (tOp (JG K) (GE i3) (tC (V.int j3))) (CH (tOp (JG K) (GE i4) (tC (V.int j4))) (CH (tOp (JG K) (GE i5) (tC (V.int j5))) (CH (tOp (JG K) (GE i6) (tC (V.int j6))) (CH (tOp (JG K) (GE i7) (tC (V.int j7))) (CH (tOp (JG K) (GE i8) (tC (V.int j8))) (CH (tOp (JG K) (GE i9) (tC (V.int j9))) Pb)))))))))) Pb) σ H Q:=by
 apply Be;intro G_ hG_;obtain⟨r0,⟨r1,e1⟩,⟨r2,e2⟩,⟨r3,e3⟩,⟨r4,e4⟩,⟨r5,e5⟩,⟨r6,e6⟩,⟨r7,e7⟩,⟨r8,e8⟩,⟨r9,e9⟩⟩:=e;apply hG_;clear hG_ G_;exact⟨_,r0,(xq3 rfl hj.hp (YC _ _ _ _ _) (ixt r1 (lc.kt h1) e1 (ixt r2 (lc.kt h2) e2 (ixt r3 (lc.kt h3) e3 (ixt r4 (lc.kt h4) e4 (ixt r5 (lc.kt h5) e5 (ixt r6 (lc.kt h6) e6 (ixt r7 (lc.kt h7) e7 (ixt r8 (lc.kt h8) e8 (ixt r9 (lc.kt h9) e9 ⟨(by show 9<=sizeLine;decide),λ_ hu=>celT hj lc hu sts rfl hM k⟩))))))))))⟩
inductive ZJ(a:Ad)(vs:List V)(H:Hp)(Q:VK):Prop
 |mk (p dx mem pr:Addr) (g:GA) (G:Gv) (N M:Nat) (r:AA) (m:MA) (n:Nat) (_:vs=[.ref p,.int n]) (_:JW a H g G N M p dx mem pr r m) (_:Al G n ((1+1:Nat):Int)) (_:M<8500000) (_:G.length<8000000) (_:∀(k:Nat)(G':Gv)(H':Hp),FrC g m H H'->JW a H' g G' N (M+4) p dx mem pr r m->AH G G' 1->JR r G' 0 n k->Q (.int k) H'):ZJ a vs H Q
def Qs(a:Ad):Sp:=λvs H Q _=>ZJ a vs H Q
theorem ok_mid2{f:Addr}{fd:FuncData}(F:Fun K "middle_after" "Jumps.middle_after" CY f fd)(T:Top K mg a)(a9:BZ P w K mg base CX0 2 a.c_Grove "linked" AX (EI a))(aH:BZ P w K mg base CX0 6 a.c_Jumps "cell_after" DE (UC a)):AJ P w K mg base CX0 7 f fd Cc (Qs a):=by
 refine F.ok Bg (λvs H Q E h=>?_) (λcdv A outer s H vs Q E hr h=>?_)
 ·apply Be;intro G_ hG_;obtain⟨p,dx,mem,pr,g,G,N,M,r,m,n,rfl,_⟩:=h;apply hG_;clear hG_ G_;rfl
 ·apply Be;intro G_ hG_;obtain⟨p,dx,mem,pr,g,G,N,M,r,m,n,rfl,hj,hl,fewM,few,k⟩:=h;obtain⟨qa,qb,qc,qd,en,la,lb,lc,ld⟩:=hj.ok.four hl;obtain⟨a0,a1,a2,a3,ea,la0,la1,la2,la3⟩:=hj.ok.four (l:=0) la;obtain⟨b0,b1,b2,b3,eb,lb0,lb1,lb2,lb3⟩:=hj.ok.four (l:=0) lb;obtain⟨c0,c1,c2,c3,ec,lc0,lc1,lc2,lc3⟩:=hj.ok.four (l:=0) lc;obtain⟨d0,d1,d2,d3,ed,ld0,ld1,ld2,ld3⟩:=hj.ok.four (l:=0) ld;obtain⟨ts,h3,h4⟩:=hj.gr.pt;obtain⟨t,et,ht⟩:=PairedM.get h4 en;obtain⟨ta,eta,hta⟩:=PairedM.get h4 ea;obtain⟨tb,etb,htb⟩:=PairedM.get h4 eb;obtain⟨tc,etc,htc⟩:=PairedM.get h4 ec;obtain⟨td,etd,htd⟩:=PairedM.get h4 ed;apply hG_;clear hG_ G_;refine⟨_,(Ac (Aq (i:=2) Bg.nd rfl (Or.inl rfl) (Aj Ax (AC (AC (pv 0) rfl) rfl) (pv 1) (λ_ _=>rfl))) (Ac (Aq (i:=3) Bg.nd rfl (Or.inl rfl) (Aj Ax (AC (AC (pv 0) rfl) rfl) (Aj Am (pv 2) Ae (λ_ _=>rfl)) (λ_ _=>rfl))) (Ac (Aq (i:=4) Bg.nd rfl (Or.inl rfl) (Aj Ax (AC (AC (pv 0) rfl) rfl) (Aj Am (pv 2) Ae (λ_ _=>rfl)) (λ_ _=>rfl))) (Ac (Aq (i:=5) Bg.nd rfl (Or.inl rfl) (Aj Ax (AC (AC (pv 0) rfl) rfl) (Aj Am (pv 2) Ae (λ_ _=>rfl)) (λ_ _=>rfl))) (Ac (Aq (i:=6) Bg.nd rfl (Or.inl rfl) (Aj Ax (AC (AC (pv 0) rfl) rfl) (Aj Am (pv 2) Ae (λ_ _=>rfl)) (λ_ _=>rfl))) (Ag (Aw (AG (AC (pv 0) rfl) a9 (rm hr) An (Bz (Aa (AG (pv 0) aH (rm hr) An (Bz (Aa (Aj Am (pv 3) Ae (λ_ _=>rfl)) (Aa (Aj Am (pv 3) Ae (λ_ _=>rfl)) (Aa (Aj Am (pv 3) Ae (λ_ _=>rfl)) (Aa (Aj Am (pv 4) Ae (λ_ _=>rfl)) (Aa (Aj Am (pv 3) Ae (λ_ _=>rfl)) (Aa (Aj Am (pv 4) Ae (λ_ _=>rfl)) (Aa (Aj Am (pv 5) Ae (λ_ _=>rfl)) (Aa (Aj Am (pv 5) Ae (λ_ _=>rfl)) (Aa (Aj Am (pv 6) Ae (λ_ _=>rfl)) Ab))))))))) Ab)) (Aa (AG (pv 0) aH (rm hr) An (Bz (Aa (Aj Am (pv 4) Ae (λ_ _=>rfl)) (Aa (Aj Am (pv 3) Ae (λ_ _=>rfl)) (Aa (Aj Am (pv 4) Ae (λ_ _=>rfl)) (Aa (Aj Am (pv 4) Ae (λ_ _=>rfl)) (Aa (Aj Am (pv 3) Ae (λ_ _=>rfl)) (Aa (Aj Am (pv 4) Ae (λ_ _=>rfl)) (Aa (Aj Am (pv 5) Ae (λ_ _=>rfl)) (Aa (Aj Am (pv 6) Ae (λ_ _=>rfl)) (Aa (Aj Am (pv 6) Ae (λ_ _=>rfl)) Ab))))))))) Ab)) (Aa (AG (pv 0) aH (rm hr) An (Bz (Aa (Aj Am (pv 5) Ae (λ_ _=>rfl)) (Aa (Aj Am (pv 3) Ae (λ_ _=>rfl)) (Aa (Aj Am (pv 3) Ae (λ_ _=>rfl)) (Aa (Aj Am (pv 4) Ae (λ_ _=>rfl)) (Aa (Aj Am (pv 5) Ae (λ_ _=>rfl)) (Aa (Aj Am (pv 6) Ae (λ_ _=>rfl)) (Aa (Aj Am (pv 5) Ae (λ_ _=>rfl)) (Aa (Aj Am (pv 5) Ae (λ_ _=>rfl)) (Aa (Aj Am (pv 6) Ae (λ_ _=>rfl)) Ab))))))))) Ab)) (Aa (AG (pv 0) aH (rm hr) An (Bz (Aa (Aj Am (pv 6) Ae (λ_ _=>rfl)) (Aa (Aj Am (pv 3) Ae (λ_ _=>rfl)) (Aa (Aj Am (pv 4) Ae (λ_ _=>rfl)) (Aa (Aj Am (pv 4) Ae (λ_ _=>rfl)) (Aa (Aj Am (pv 5) Ae (λ_ _=>rfl)) (Aa (Aj Am (pv 6) Ae (λ_ _=>rfl)) (Aa (Aj Am (pv 5) Ae (λ_ _=>rfl)) (Aa (Aj Am (pv 6) Ae (λ_ _=>rfl)) (Aa (Aj Am (pv 6) Ae (λ_ _=>rfl)) Ab))))))))) Ab)) Ab)))) Ab))))))))),?_⟩
  try dsimp only[cxK]
  refine Bw ?_;intro r_k0 s_k0 k0 hk E_k0;refine xwf rfl rfl hj.hp T.cl_Jumps T.na_Jumps_grove (DF _ _ _ _ _) (xq5 hj.gr.hp T.cl_Grove T.na_Grove_parts (CB g) (xq1 rfl (ixp h3 et ?_)));refine hk ?_;refine Bw ?_;intro r_k1 s_k1 k1 hk E_k1;refine xwf rfl rfl hj.hp T.cl_Jumps T.na_Jumps_grove (DF _ _ _ _ _) (xq5 hj.gr.hp T.cl_Grove T.na_Grove_parts (CB g) (ixt rfl ht rfl (ixp h3 eta ?_)));refine hk ?_;refine Bw ?_;intro r_k2 s_k2 k2 hk E_k2;refine xwf rfl rfl hj.hp T.cl_Jumps T.na_Jumps_grove (DF _ _ _ _ _) (xq5 hj.gr.hp T.cl_Grove T.na_Grove_parts (CB g) (ixt rfl ht rfl (ixp h3 etb ?_)));refine hk ?_;refine Bw ?_;intro r_k3 s_k3 k3 hk E_k3;refine xwf rfl rfl hj.hp T.cl_Jumps T.na_Jumps_grove (DF _ _ _ _ _) (xq5 hj.gr.hp T.cl_Grove T.na_Grove_parts (CB g) (ixt rfl ht rfl (ixp h3 etc ?_)));refine hk ?_;refine Bw ?_;intro r_k4 s_k4 k4 hk E_k4;refine xwf rfl rfl hj.hp T.cl_Jumps T.na_Jumps_grove (DF _ _ _ _ _) (xq5 hj.gr.hp T.cl_Grove T.na_Grove_parts (CB g) (ixt rfl ht rfl (ixp h3 etd ?_)));refine hk ?_;have st:∀{x:Nat},Al G x ((0:Nat):Int)->GF (x:Int):=λ{x} h=>by
   have:=hj.ok.cell h;exact⟨by lia,by lia⟩
  have c_:Lc g m H H:=⟨λ_ _ e _ _ _ _=>e,λe=>e⟩
  refine xwf rfl rfl hj.hp T.cl_Jumps T.na_Jumps_grove (DF _ _ _ _ _) (xq3 rfl hj.gr.hp (BQ g) ?_);refine FT (ttup (FT (cel9 hj c_ hta hta hta htb hta htb htc htc htd (al9 (st la3) (st la0) (st la1) (st lb0) (st la2) (st lb2) (st lc0) (st lc1) (st ld0)) A0 λk0 Y0 ek0 kl0 x0 j0=>?_)));refine FT (cel9 j0 x0 htb hta htb htb hta htb htc htd htd (al9 (st lb2) (st la1) (st lb0) (st lb1) (st la3) (st lb3) (st lc1) (st ld0) (st ld1)) A0 λk1 Y1 ek1 kl1 x1 j1=>?_);refine FT (cel9 j1 x1 htc hta hta htb htc htd htc htc htd (al9 (st lc1) (st la2) (st la3) (st lb2) (st lc0) (st ld0) (st lc2) (st lc3) (st ld2)) A0 λk2 Y2 ek2 kl2 x2 j2=>?_);refine FT (cel9 j2 x2 htd hta htb htb htc htd htc htd htd (al9 (st ld0) (st la3) (st lb2) (st lb3) (st lc1) (st ld1) (st lc3) (st ld2) (st ld3)) A0 λk3 Y3 ek3 kl3 x3 j3=>?_);have lf:∀{k:Nat},k<8->Al G k ((0:Nat):Int):=λ{k} h=>⟨_,hj.ok.leaf k h,rfl⟩
  refine⟨(by show 4<=sizeLine;decide),λu hu=>lnk (⟨.refl _ _,λe=>e,j3.gr,.refl hj.ok⟩:Ln a g Y3 G 0 Y3 G) hu ⟨lf kl0,lf kl1,lf kl2,lf kl3⟩ A4 A0 λx G' H' s go e=>?_⟩;refine k x G' H' (x3.fr.trans (Fr.c s.fr)) (j3.fr s.fr s.gr go) go ⟨0,go.lev hl,C1 0,⟨_,e,rfl⟩,?_⟩;apply Be;intro G_ hG_;obtain⟨rfl,rfl,rfl,rfl⟩:=Ee (go.get ea);obtain⟨rfl,rfl,rfl,rfl⟩:=Ee (go.get eb);obtain⟨rfl,rfl,rfl,rfl⟩:=Ee (go.get ec);obtain⟨rfl,rfl,rfl,rfl⟩:=Ee (go.get ed);obtain⟨rfl,rfl,rfl,rfl⟩:=Ee (go.get en);obtain⟨rfl,rfl,rfl,rfl⟩:=Ee e;apply hG_;clear hG_ G_;intro x' y' hx hy
  match x',hx,y',hy with
  |0,_,0,_=>exact ek0.symm
  |1,_,0,_=>exact ek1.symm
  |0,_,1,_=>exact ek2.symm
  |1,_,1,_=>exact ek3.symm
inductive SpCj(a:Ad)(vs:List V)(H:Hp)(Q:VK):Prop
 |mk (p dx gp mem pr l kc:Addr) (g:GA) (G:Gv) (n e:Nat) (q:Sq) (_:vs=[.ref p,.int n,.int e]) (_:H p=some (.ins a.c_Jumps dx (jf5 g.p mem pr l kc))) (_:AI a H g G) (_:G[n]?=some q) (_:2+(e:Int)<=q.lev) (_:Q .non H):SpCj a vs H Q
def spCj(a:Ad):Sp:=λvs H Q _=>SpCj a vs H Q
theorem ok_cj{f:Addr}{fd:FuncData}(F:Fun K "check_jump" "Jumps.check_jump" DB f fd)(T:Top K mg a)(aA:BZ P w K mg base CX0 3 a.c_Grove "level_of" Bm (Nb a))(aM:Cal P w K mg base CX0 1 "is_whole" En VF):AJ P w K mg base CX0 4 f fd DD (spCj a):=by
 refine F.ok EQ (λvs H Q E h=>?_) (λcdv A outer s H vs Q E hr h=>?_)
 ·apply Be;intro G_ hG_;obtain⟨p,dx,gp,mem,pr,l,kc,g,G,n,e,q,rfl,_⟩:=h;apply hG_;clear hG_ G_;rfl
 ·apply Be;intro G_ hG_;obtain⟨p,dx,gp,mem,pr,l,kc,g,G,n,e,q,rfl,hp,hg,eq,hl,k⟩:=h;apply hG_;clear hG_ G_;refine⟨_,(Ac (Aq (i:=3) EQ.nd rfl (Or.inl rfl) (AG (AC (pv 0) rfl) aA (rm hr) An (Aa (pv 1) Ab))) (Ac (AQ (AB GJ (pv 3) (Cb rfl T.k_LEAST_JUMPED) (AF _)) (Ag Bk) AD) (Ag (AQ (PW.pt (On (DX (Da (Ar aM (rm hr) rfl An (Aa (pv 2) Ab)))) (Mt (DX (Sa LI LI Ae (pv 2) (Ay BY (pv 3) (Cb rfl T.k_LEAST_JUMPED))))))) (Ag Bk) AD)))),?_⟩
  try dsimp only[cxK]
  refine xwf rfl rfl hp T.cl_Jumps T.na_Jumps_grove (DF _ _ _ _ _) (xq3 rfl hg.hp (Et g) (xq1 rfl ⟨g,G,n,q,rfl,hg,eq,?_⟩));refine xwb rfl rfl rfl (xq1 rfl ?_);rw[Y9 (by lia:¬q.lev<2)];refine Bo ?_;refine⟨_,rfl,_,rfl,true,rfl,Bo ⟨_,rfl,_,_,rfl,rfl,_,rfl,?_⟩⟩;rw[Y7 (by lia:(0:Int)<=(e:Int))];refine Cp (xwb rfl rfl rfl (xq2 rfl rfl (xq1 rfl ?_)));rw[Y7 (by lia:(e:Int)<=q.lev-2)];exact Bo k
end
end J
namespace J
open PySem L2
theorem Rm(G:Gv):∀(l n x y i j:Nat),cel G l n (x+2^l*i) (y+2^l*j)=cel G l n x y
 |0,n,x,y,i,j=>rfl
 |l+1,n,x,y,i,j=>by
  show cel G l (qO G n (((x+2^(l+1)*i)/2^l)%2+2*(((y+2^(l+1)*j)/2^l)%2))) (x+2^(l+1)*i) (y+2^(l+1)*j)=cel G l (qO G n ((x/2^l)%2+2*((y/2^l)%2))) x y;have p:0<2^l:=U3 A4;have e:∀i:Nat,2^(l+1)*i=2^l*(2*i):=λi=>by rw[F4,Nat.mul_assoc]
  rw[e i,e j,N6 _ _ p,N6 _ _ p,O0,O0];exact Rm G l _ x y (2*i) (2*j)
theorem OX(G:Gv)(l n:Nat){x y i j:Nat}(hx:x<2^l)(hy:y<2^l)(hi:i<2)(hj:j<2):Cr G (l+1) n (x+2^l*i) (y+2^l*j)=Cr G l (qO G n (i+2*j)) x y:=by
 unfold Cr;show((cel G l (qO G n (((x+2^l*i)/2^l)%2+2*(((y+2^l*j)/2^l)%2))) (x+2^l*i) (y+2^l*j):Nat):Int)=_;have p:0<2^l:=U3 A4;rw[N6 _ _ p,N6 _ _ p,M8 hx,M8 hy,M5,M5,O1 hi,O1 hj,Rm]
theorem RF(r:AA)(c:Nat->Nat->Int)(n:Nat):∀m,Bh r (m+n) c=Bh r m (Bh r n c)
 |0=>by rw[M5];rfl
 |m+1=>by
  rw[show m+1+n=(m+n)+1 by lia];show stp r (Bh r (m+n) c)=stp r (Bh r m (Bh r n c));rw[RF r c n m]
theorem RE(r:AA){c d:Nat->Nat->Int}{X Y:Nat}:∀(k x y:Nat),k<=x->k<=y->(∀u v,x-k<=u->u<=x+k->y-k<=v->v<=y+k->c u v=d (u+X) (v+Y))->Bh r k c x y=Bh r k d (x+X) (y+Y)
 |0,x,y,_,_,h=>h x y A0 A0 A0 A0
 |k+1,x,y,hx,hy,h=>by
  have ih:∀u v,x-1<=u->u<=x+1->y-1<=v->v<=y+1->Bh r k c u v=Bh r k d (u+X) (v+Y):=λu v h1 h2 h3 h4=>RE r k u v A0 A0 λa b q1 q2 q3 q4=>h a b A0 A0 A0 A0;show Ci r (Bh r k c x y) [Bh r k c (x-1) (y-1),Bh r k c x (y-1),Bh r k c (x+1) (y-1),Bh r k c (x-1) y,Bh r k c (x+1) y,Bh r k c (x-1) (y+1),Bh r k c x (y+1),Bh r k c (x+1) (y+1)]=Ci r (Bh r k d (x+X) (y+Y)) [Bh r k d (x+X-1) (y+Y-1),Bh r k d (x+X) (y+Y-1),Bh r k d (x+X+1) (y+Y-1),Bh r k d (x+X-1) (y+Y),Bh r k d (x+X+1) (y+Y),Bh r k d (x+X-1) (y+Y+1),Bh r k d (x+X) (y+Y+1),Bh r k d (x+X+1) (y+Y+1)];rw[ih x y A0 A0 A0 A0,ih (x-1) (y-1) A0 A0 A0 A0,ih x (y-1) A0 A0 A0 A0,ih (x+1) (y-1) A0 A0 A0 A0,ih (x-1) y A0 A0 A0 A0,ih (x+1) y A0 A0 A0 A0,ih (x-1) (y+1) A0 A0 A0 A0,ih x (y+1) A0 A0 A0 A0,ih (x+1) (y+1) A0 A0 A0 A0];rw[show x-1+X=x+X-1 by lia,show y-1+Y=y+Y-1 by lia,show x+1+X=x+X+1 by lia,show y+1+Y=y+Y+1 by lia]
def Vw(G:Gv)(c:Nat->Nat->Int)(l m X Y:Nat):Prop:=∀x y,x<2^l->y<2^l->Cr G l m x y=c (x+X) (y+Y)
theorem Vw.q{G:Gv}{c:Nat->Nat->Int}{l m X Y i j:Nat}(h:Vw G c (l+1) m X Y)(hi:i<2)(hj:j<2):Vw G c l (qO G m (i+2*j)) (X+2^l*i) (Y+2^l*j):=λx y hx hy=>by
 rw[<-OX G l m hx hy hi hj,h _ _ ?_ ?_]
 ·rw[show x+2^l*i+X=x+(X+2^l*i) by lia,show y+2^l*j+Y=y+(Y+2^l*j) by lia]
 ·rw[F4];have:2^l*i<=2^l*1:=J9 _ A0;lia
 ·rw[F4];have:2^l*j<=2^l*1:=J9 _ A0;lia
theorem Vw.of{G:Gv}{c:Nat->Nat->Int}{l m X Y:Nat}(h0:Vw G c l (qO G m 0) X Y)(h1:Vw G c l (qO G m 1) (X+2^l) Y)(h2:Vw G c l (qO G m 2) X (Y+2^l))(h3:Vw G c l (qO G m 3) (X+2^l) (Y+2^l)):Vw G c (l+1) m X Y:=λx y hx hy=>by
 rw[F4]at hx hy;by_cases zx:x<2^l
 ·by_cases zy:y<2^l
  ·have:=OX G l m zx zy (i:=0) (j:=0) A4 A4;rw[show x+2^l*0=x by lia,show y+2^l*0=y by lia]at this;rw[this];exact h0 x y zx zy
  ·have:=OX G l m zx (y:=y-2^l) A0 (i:=0) (j:=1) A4 A4;rw[show x+2^l*0=x by lia,show y-2^l+2^l*1=y by lia]at this;rw[this,h2 x (y-2^l) zx A0,show y-2^l+(Y+2^l)=y+Y by lia]
 ·by_cases zy:y<2^l
  ·have:=OX G l m (x:=x-2^l) A0 zy (i:=1) (j:=0) A4 A4;rw[show y+2^l*0=y by lia,show x-2^l+2^l*1=x by lia]at this;rw[this,h1 (x-2^l) y A0 zy,show x-2^l+(X+2^l)=x+X by lia]
  ·have:=OX G l m (x:=x-2^l) (y:=y-2^l) A0 A0 (i:=1) (j:=1) A4 A4;rw[show x-2^l+2^l*1=x by lia,show y-2^l+2^l*1=y by lia]at this;rw[this,h3 (x-2^l) (y-2^l) A0 A0,show x-2^l+(X+2^l)=x+X by lia,show y-2^l+(Y+2^l)=y+Y by lia]
theorem Vw.jump{G:Gv}{r:AA}{c:Nat->Nat->Int}{l e m k X Y:Nat}(h:Vw G c (l+2) m X Y)(he:e<=l)(j:∀x y,x<2^(l+1)->y<2^(l+1)->Cr G (l+1) k x y=Bh r (2^e) (Cr G (l+2) m) (x+2^l) (y+2^l)):Vw G (Bh r (2^e) c) (l+1) k (X+2^l) (Y+2^l):=λx y hx hy=>by
 have p:2^e<=2^l:=M6 A4 he;have p1:2^(l+1)=2^l*2:=F4 ..;have p2:2^(l+2)=2^l*2*2:=by rw[F4,F4]
 rw[j x y hx hy,RE r (X:=X) (Y:=Y) (2^e) (x+2^l) (y+2^l) A0 A0 λu v h1 h2 h3 h4=>h u v A0 A0];rw[show x+2^l+X=x+(X+2^l) by lia,show y+2^l+Y=y+(Y+2^l) by lia]
seal L2.PA L2.PE L2.PS L2.PSs L2.PT L2.PW
theorem Vw.at'{G:Gv}{c:Nat->Nat->Int}{l m X Y X' Y':Nat}(h:Vw G c l m X Y)(e1:X=X')(e2:Y=Y'):Vw G c l m X' Y':=by
 subst e1;subst e2;exact h
theorem Vw.goes{G G':Gv}{c:Nat->Nat->Int}{l m X Y i:Nat}(h:Vw G c l m X Y)(ok:GOk G)(go:AH G G' i)(lv:Al G m (l:Int)):Vw G' c l m X Y:=λx y hx hy=>by
 rw[CM ok go lv];exact h x y hx hy
section
variable{P:Program}{w:World}{K:PySem.W.Frag}{mg:Str->Option Value}{base:Heap}{a:Ad}
inductive ZI(a:Ad)(vs:List V)(H:Hp)(Q:VK):Prop
 |mk (g:GA) (G:Gv) (n l:Nat) (_:vs=[.ref g.p,.int n]) (_:AI a H g G) (_:GOk G) (_:Al G n ((l+1+1:Nat):Int)) (_:l<=46) (_:G.length<8000000) (_:∀(L:Addr)(ks:List Nat)(G':Gv)(H':Hp),Fr g H H'->AI a H' g G'->AH G G' 5->H' L=some (.lst (ks.map λ(k:Nat)=>V.int (k:Int)))->ks.length=9->(∀i j,i<3->j<3->∃k,ks[i+3*j]?=some k/\Al G' k ((l+1:Nat):Int)/\Vw G' (Cr G (l+2) n) (l+1) k (2^l*i) (2^l*j))->Q (.ref L) H'):ZI a vs H Q
def NU(a:Ad):Sp:=λvs H Q _=>ZI a vs H Q
theorem YM{K:PySem.W.Frag}{a:Ad}{H0 H:Hp}{g:GA}{G0 G:Gv}{j:Nat}{σ:St}{i1 i2 i3 i4:Nat}{t1 t2 t3 t4:Addr}{xs1 xs2 xs3 xs4:List V}{j1 j2 j3 j4:Int}{x y z w:Nat}{l:Int}{Q:VK}(s:Ln a g H0 G0 j H G)(h1:H0 t1=some (.tup xs1))(h2:H0 t2=some (.tup xs2))(h3:H0 t3=some (.tup xs3))(h4:H0 t4=some (.tup xs4))(lv:Al G0 x l/\Al G0 y l/\Al G0 z l/\Al G0 w l)(few:l<=47/\G0.length+j<9000000)
  (k:∀(n:Nat)(G':Gv)(H':Hp),Ln a g H0 G0 (j+1) H' G'->AH G G' 1->G'[n]?=some ⟨[(x:Int),(y:Int),(z:Int),(w:Int)],l+1⟩->Q (.int n) H') (e:(σ[0]?=some (some (.ref g.p))/\σ[i1]?=some (some (.ref t1))/\σ[i2]?=some (some (.ref t2))/\σ[i3]?=some (some (.ref t3))/\σ[i4]?=some (some (.ref t4)))/\atI xs1 j1=some (.int x)/\atI xs2 j2=some (.int y)/\atI xs3 j3=some (.int z)/\atI xs4 j4=some (.int w):=by exact⟨⟨rfl,rfl,rfl,rfl,rfl⟩,rfl,rfl,rfl,rfl⟩):Uq a.c_Grove "linked" (EI a) [] E0 (GE 0) (CH (WD (CH (tOp (JG K) (GE i1) (tC (V.int j1))) (CH (tOp (JG K) (GE i2) (tC (V.int j2))) (CH (tOp (JG K) (GE i3) (tC (V.int j3))) (CH (tOp (JG K) (GE i4) (tC (V.int j4))) Pb))))) Pb) σ H Q:=by
 apply Be;intro G_ hG_;obtain⟨⟨r,r1,r2,r3,r4⟩,e1,e2,e3,e4⟩:=e;apply hG_;clear hG_ G_;exact⟨_,r,(xq3 rfl s.gr.hp (BQ g) (ixt r1 (s.kt h1) e1 (ixt r2 (s.kt h2) e2 (ixt r3 (s.kt h3) e3 (ixt r4 (s.kt h4) e4 ⟨(by show 4<=sizeLine;decide),λ_ hu=>lnk s hu lv few.1 few.2 k⟩)))))⟩
theorem vw4{G:Gv}{c:Nat->Nat->Int}{l m x y z w X Y:Nat}{lv:Int}(e:G[m]?=some ⟨[(x:Int),(y:Int),(z:Int),(w:Int)],lv⟩)(h0:Vw G c l x (2^l*X) (2^l*Y))(h1:Vw G c l y (2^l*(X+1)) (2^l*Y))(h2:Vw G c l z (2^l*X) (2^l*(Y+1)))(h3:Vw G c l w (2^l*(X+1)) (2^l*(Y+1))):Vw G c (l+1) m (2^l*X) (2^l*Y):=by
 apply Be;intro G_ hG_;obtain⟨rfl,rfl,rfl,rfl⟩:=Ee e;apply hG_;clear hG_ G_;exact .of h0 h1 h2 h3
theorem vwQ{G:Gv}{c:Nat->Nat->Int}{l m x y z w X Y:Nat}{lv:Int}(e:G[m]?=some ⟨[(x:Int),(y:Int),(z:Int),(w:Int)],lv⟩)(v:Vw G c (l+1) m (2^l*X) (2^l*Y)):Vw G c l x (2^l*X) (2^l*Y)/\Vw G c l y (2^l*(X+1)) (2^l*Y)/\Vw G c l z (2^l*X) (2^l*(Y+1))/\Vw G c l w (2^l*(X+1)) (2^l*(Y+1)):=by
 apply Be;intro G_ hG_;obtain⟨rfl,rfl,rfl,rfl⟩:=Ee e;apply hG_;clear hG_ G_;exact⟨v.q (i:=0) (j:=0) A4 A4,(v.q (i:=1) (j:=0) A4 A4).at' A0 rfl,(v.q (i:=0) (j:=1) A4 A4).at' rfl A0,(v.q (i:=1) (j:=1) A4 A4).at' A0 A0⟩
theorem ok_nine{f:Addr}{fd:FuncData}(F:Fun K "nine_parts" "nine_parts" GV f fd)(T:Top K mg a)(a9:BZ P w K mg base CX0 2 a.c_Grove "linked" AX (EI a)):AJ P w K mg base CX0 3 f fd DZ (NU a):=by
 refine F.ok CJ (λvs H Q E h=>?_) (λcdv A outer s H vs Q E hr h=>?_)
 ·apply Be;intro G_ hG_;obtain⟨g,G,n,l,rfl,_⟩:=h;apply hG_;clear hG_ G_;rfl
 ·apply Be;intro G_ hG_;obtain⟨g,G,n,l,rfl,hg,ok,hl,l46,few,k⟩:=h;obtain⟨qa,qb,qc,qd,en,la,lb,lc,ld⟩:=ok.four hl;obtain⟨a0,a1,a2,a3,ea,la0,la1,la2,la3⟩:=ok.four la;obtain⟨b0,b1,b2,b3,eb,lb0,lb1,lb2,lb3⟩:=ok.four lb;obtain⟨c0,c1,c2,c3,ec,lc0,lc1,lc2,lc3⟩:=ok.four lc;obtain⟨d0,d1,d2,d3,ed,ld0,ld1,ld2,ld3⟩:=ok.four ld;obtain⟨ts,h3,h4⟩:=hg.pt;obtain⟨t,et,ht⟩:=PairedM.get h4 en;obtain⟨ta,eta,hta⟩:=PairedM.get h4 ea;obtain⟨tb,etb,htb⟩:=PairedM.get h4 eb;obtain⟨tc,etc,htc⟩:=PairedM.get h4 ec;obtain⟨td,etd,htd⟩:=PairedM.get h4 ed;apply hG_;clear hG_ G_;have s0:Ln a g H G 0 H G:=⟨.refl _ _,λe=>e,hg,.refl ok⟩
  refine⟨_,(Ac (Aq (i:=2) CJ.nd rfl (Or.inl rfl) (Aj Ax (AC (pv 0) rfl) (pv 1) (λ_ _=>rfl))) (Ac (Aq (i:=3) CJ.nd rfl (Or.inl rfl) (Aj Ax (AC (pv 0) rfl) (Aj Am (pv 2) Ae (λ_ _=>rfl)) (λ_ _=>rfl))) (Ac (Aq (i:=4) CJ.nd rfl (Or.inl rfl) (Aj Ax (AC (pv 0) rfl) (Aj Am (pv 2) Ae (λ_ _=>rfl)) (λ_ _=>rfl))) (Ac (Aq (i:=5) CJ.nd rfl (Or.inl rfl) (Aj Ax (AC (pv 0) rfl) (Aj Am (pv 2) Ae (λ_ _=>rfl)) (λ_ _=>rfl))) (Ac (Aq (i:=6) CJ.nd rfl (Or.inl rfl) (Aj Ax (AC (pv 0) rfl) (Aj Am (pv 2) Ae (λ_ _=>rfl)) (λ_ _=>rfl))) (Ag (Aw (BX (Aa (Aj Am (pv 2) Ae (λ_ _=>rfl)) (Aa (AG (pv 0) a9 (rm hr) An (Bz (Aa (Aj Am (pv 3) Ae (λ_ _=>rfl)) (Aa (Aj Am (pv 4) Ae (λ_ _=>rfl)) (Aa (Aj Am (pv 3) Ae (λ_ _=>rfl)) (Aa (Aj Am (pv 4) Ae (λ_ _=>rfl)) Ab)))) Ab)) (Aa (Aj Am (pv 2) Ae (λ_ _=>rfl)) (Aa (AG (pv 0) a9 (rm hr) An (Bz (Aa (Aj Am (pv 3) Ae (λ_ _=>rfl)) (Aa (Aj Am (pv 3) Ae (λ_ _=>rfl)) (Aa (Aj Am (pv 5) Ae (λ_ _=>rfl)) (Aa (Aj Am (pv 5) Ae (λ_ _=>rfl)) Ab)))) Ab)) (Aa (AG (pv 0) a9 (rm hr) An (Bz (Aa (Aj Am (pv 3) Ae (λ_ _=>rfl)) (Aa (Aj Am (pv 4) Ae (λ_ _=>rfl)) (Aa (Aj Am (pv 5) Ae (λ_ _=>rfl)) (Aa (Aj Am (pv 6) Ae (λ_ _=>rfl)) Ab)))) Ab)) (Aa (AG (pv 0) a9 (rm hr) An (Bz (Aa (Aj Am (pv 4) Ae (λ_ _=>rfl)) (Aa (Aj Am (pv 4) Ae (λ_ _=>rfl)) (Aa (Aj Am (pv 6) Ae (λ_ _=>rfl)) (Aa (Aj Am (pv 6) Ae (λ_ _=>rfl)) Ab)))) Ab)) (Aa (Aj Am (pv 2) Ae (λ_ _=>rfl)) (Aa (AG (pv 0) a9 (rm hr) An (Bz (Aa (Aj Am (pv 5) Ae (λ_ _=>rfl)) (Aa (Aj Am (pv 6) Ae (λ_ _=>rfl)) (Aa (Aj Am (pv 5) Ae (λ_ _=>rfl)) (Aa (Aj Am (pv 6) Ae (λ_ _=>rfl)) Ab)))) Ab)) (Aa (Aj Am (pv 2) Ae (λ_ _=>rfl)) Ab))))))))))))))))),?_⟩
  try dsimp only[cxK]
  refine Bw ?_;intro r_k0 s_k0 k0 hk E_k0;refine xwf rfl rfl hg.hp T.cl_Grove T.na_Grove_parts (CB g) (xq1 rfl (ixp h3 et ?_));refine hk ?_;refine Bw ?_;intro r_k1 s_k1 k1 hk E_k1;refine xwf rfl rfl hg.hp T.cl_Grove T.na_Grove_parts (CB g) (ixt rfl ht rfl (ixp h3 eta ?_));refine hk ?_;refine Bw ?_;intro r_k2 s_k2 k2 hk E_k2;refine xwf rfl rfl hg.hp T.cl_Grove T.na_Grove_parts (CB g) (ixt rfl ht rfl (ixp h3 etb ?_));refine hk ?_;refine Bw ?_;intro r_k3 s_k3 k3 hk E_k3;refine xwf rfl rfl hg.hp T.cl_Grove T.na_Grove_parts (CB g) (ixt rfl ht rfl (ixp h3 etc ?_));refine hk ?_;refine Bw ?_;intro r_k4 s_k4 k4 hk E_k4;refine xwf rfl rfl hg.hp T.cl_Grove T.na_Grove_parts (CB g) (ixt rfl ht rfl (ixp h3 etd ?_));refine hk ?_;refine tretl (FT (ixt rfl (s0.kt ht) rfl (FT (YM s0 hta htb hta htb ⟨la1,lb0,la3,lb2⟩ ⟨by lia,by lia⟩ λm1 G1 H1 s1 go1 e1=>?_))));refine FT (ixt rfl (s1.kt ht) rfl (FT (YM s1 hta hta htc htc ⟨la2,la3,lc0,lc1⟩ ⟨by lia,by lia⟩ λm3 G3 H3 s3 go3 e3=>?_)));refine FT (YM s3 hta htb htc htd ⟨la3,lb2,lc1,ld0⟩ ⟨by lia,by lia⟩ λm4 G4 H4 s4 go4 e4=>?_);refine FT (YM s4 htb htb htd htd ⟨lb2,lb3,ld0,ld1⟩ ⟨by lia,by lia⟩ λm5 G5 H5 s5 go5 e5=>?_);refine FT (ixt rfl (s5.kt ht) rfl (FT (YM s5 htc htd htc htd ⟨lc1,ld0,lc3,ld2⟩ ⟨by lia,by lia⟩ λm7 G7 H7 s7 go7 e7=>?_)));refine FT (ixt rfl (s7.kt ht) rfl ⟨(by show 9<=sizeLine;decide),λL hL=>?_⟩);have gz:=s7.go;have sL:=Ao (o:=.lst (([qa,m1,qb,m3,m4,m5,qc,m7,qd]:List Nat).map λ(k:Nat)=>V.int (k:Int))) hL;refine k L [qa,m1,qb,m3,m4,m5,qc,m7,qd] G7 _ (s7.fr.trans (Az.fr sL)) (s7.gr.same sL) gz Af rfl ?_;have v0:Vw G (Cr G (l+2) n) (l+1+1) n (2^(l+1)*0) (2^(l+1)*0):=λx y _ _=>rfl;have p1:2^(l+1)=2^l*2:=F4 ..;apply Be;intro G_ hG_;obtain⟨va,vb,vc,vd⟩:=vwQ (gz.get en) (v0.goes ok gz hl);apply hG_;clear hG_ G_;have va:=va.at' (X':=2^l*0) (Y':=2^l*0) A0 A0;have vb:=vb.at' (X':=2^l*2) (Y':=2^l*0) A0 A0;have vc:=vc.at' (X':=2^l*0) (Y':=2^l*2) A0 A0;have vd:=vd.at' (X':=2^l*2) (Y':=2^l*2) A0 A0;apply Be;intro G_ hG_;obtain⟨va0,va1,va2,va3⟩:=vwQ (gz.get ea) va;obtain⟨vb0,vb1,vb2,vb3⟩:=vwQ (gz.get eb) vb;obtain⟨vc0,vc1,vc2,vc3⟩:=vwQ (gz.get ec) vc;obtain⟨vd0,vd1,vd2,vd3⟩:=vwQ (gz.get ed) vd;apply hG_;clear hG_ G_;have g5:=go7.get e5;have g4:=go7.get (go5.get e4);have g3:=go7.get (go5.get (go4.get e3));have g1:=go7.get (go5.get (go4.get (go3.get e1)));intro i j hi hj
  match i,hi,j,hj with
  |0,_,0,_=>exact⟨qa,rfl,gz.lev la,va⟩
  |1,_,0,_=>exact⟨m1,rfl,⟨_,g1,rfl⟩,vw4 g1 va1 vb0 va3 vb2⟩
  |2,_,0,_=>exact⟨qb,rfl,gz.lev lb,vb⟩
  |0,_,1,_=>exact⟨m3,rfl,⟨_,g3,rfl⟩,vw4 g3 va2 va3 vc0 vc1⟩
  |1,_,1,_=>exact⟨m4,rfl,⟨_,g4,rfl⟩,vw4 g4 va3 vb2 vc1 vd0⟩
  |2,_,1,_=>exact⟨m5,rfl,⟨_,g5,rfl⟩,vw4 g5 vb2 vb3 vd0 vd1⟩
  |0,_,2,_=>exact⟨qc,rfl,gz.lev lc,vc⟩
  |1,_,2,_=>exact⟨m7,rfl,⟨_,e7,rfl⟩,vw4 e7 vc1 vd0 vc3 vd2⟩
  |2,_,2,_=>exact⟨qd,rfl,gz.lev ld,vd⟩
inductive Vu(vs:List V)(H:Hp)(Q:VK):Prop
 |mk (L:Addr) (k0 k1 k2 k3 k4 k5 k6 k7 k8:Nat) (_:vs=[.ref L]) (_:H L=some (.lst [.int k0,.int k1,.int k2,.int k3,.int k4,.int k5,.int k6,.int k7,.int k8])) (_:∀(M t0 t1 t2 t3:Addr)(H':Hp),Az H H'->H' M=some (.lst [.ref t0,.ref t1,.ref t2,.ref t3])->H' t0=some (.tup [.int k0,.int k1,.int k3,.int k4])->H' t1=some (.tup [.int k1,.int k2,.int k4,.int k5])->H' t2=some (.tup [.int k3,.int k4,.int k6,.int k7])->H' t3=some (.tup [.int k4,.int k5,.int k7,.int k8])->Q (.ref M) H'):Vu vs H Q
def Lr:Sp:=λvs H Q _=>Vu vs H Q
theorem Yv{f:Addr}{fd:FuncData}(F:Fun K "fours_of" "fours_of" JY f fd)(T:Top K mg a):AJ P w K mg base CX0 1 f fd Fz Lr:=by
 refine F.ok RS (λvs H Q E h=>?_) (λcdv A outer s H vs Q E hr h=>?_)
 ·apply Be;intro G_ hG_;obtain⟨L,k0,k1,k2,k3,k4,k5,k6,k7,k8,rfl,_⟩:=h;apply hG_;clear hG_ G_;rfl
 ·apply Be;intro G_ hG_;obtain⟨L,k0,k1,k2,k3,k4,k5,k6,k7,k8,rfl,hL,k⟩:=h;apply hG_;clear hG_ G_;refine⟨_,(Ag (Aw (BX (Bz (Aa (Aj Ax (pv 0) Ae (λ_ _=>rfl)) (Aa (Aj Ax (pv 0) Ae (λ_ _=>rfl)) (Aa (Aj Ax (pv 0) Ae (λ_ _=>rfl)) (Aa (Aj Ax (pv 0) Ae (λ_ _=>rfl)) Ab)))) (Bz (Aa (Aj Ax (pv 0) Ae (λ_ _=>rfl)) (Aa (Aj Ax (pv 0) Ae (λ_ _=>rfl)) (Aa (Aj Ax (pv 0) Ae (λ_ _=>rfl)) (Aa (Aj Ax (pv 0) Ae (λ_ _=>rfl)) Ab)))) (Bz (Aa (Aj Ax (pv 0) Ae (λ_ _=>rfl)) (Aa (Aj Ax (pv 0) Ae (λ_ _=>rfl)) (Aa (Aj Ax (pv 0) Ae (λ_ _=>rfl)) (Aa (Aj Ax (pv 0) Ae (λ_ _=>rfl)) Ab)))) (Bz (Aa (Aj Ax (pv 0) Ae (λ_ _=>rfl)) (Aa (Aj Ax (pv 0) Ae (λ_ _=>rfl)) (Aa (Aj Ax (pv 0) Ae (λ_ _=>rfl)) (Aa (Aj Ax (pv 0) Ae (λ_ _=>rfl)) Ab)))) Ab))))))),?_⟩
  try dsimp only[cxK]
  refine xwi rfl rfl rfl (SqL.of hL) (Ai (j:=0) rfl) (xwi rfl rfl rfl (SqL.of hL) (Ai (j:=1) rfl) (xwi rfl rfl rfl (SqL.of hL) (Ai (j:=3) rfl) (xwi rfl rfl rfl (SqL.of hL) (Ai (j:=4) rfl) ⟨(by show 4<=sizeLine;decide),λt0 ht0=>?_⟩)));have s0:=Ao (o:=.tup [.int (k0:Int),.int (k1:Int),.int (k3:Int),.int (k4:Int)]) ht0;have h0:upd H t0 (.tup [.int (k0:Int),.int (k1:Int),.int (k3:Int),.int (k4:Int)]) t0=some (.tup [.int (k0:Int),.int (k1:Int),.int (k3:Int),.int (k4:Int)]):=Af;generalize hX0:upd H t0 (.tup [.int (k0:Int),.int (k1:Int),.int (k3:Int),.int (k4:Int)])=X0 at s0 h0;have hL0:=s0 _ _ hL
  first|rw[hX0]|(show ∃_,_;rw[hX0])|skip
  refine xwi rfl rfl rfl (SqL.of hL0) (Ai (j:=1) rfl) (xwi rfl rfl rfl (SqL.of hL0) (Ai (j:=2) rfl) (xwi rfl rfl rfl (SqL.of hL0) (Ai (j:=4) rfl) (xwi rfl rfl rfl (SqL.of hL0) (Ai (j:=5) rfl) ⟨(by show 4<=sizeLine;decide),λt1 ht1=>?_⟩)));have s1:=Ao (o:=.tup [.int (k1:Int),.int (k2:Int),.int (k4:Int),.int (k5:Int)]) ht1;have h1:upd X0 t1 (.tup [.int (k1:Int),.int (k2:Int),.int (k4:Int),.int (k5:Int)]) t1=some (.tup [.int (k1:Int),.int (k2:Int),.int (k4:Int),.int (k5:Int)]):=Af;generalize hX1:upd X0 t1 (.tup [.int (k1:Int),.int (k2:Int),.int (k4:Int),.int (k5:Int)])=X1 at s1 h1;have hL1:=s1 _ _ hL0
  first|rw[hX1]|(show ∃_,_;rw[hX1])|skip
  refine xwi rfl rfl rfl (SqL.of hL1) (Ai (j:=3) rfl) (xwi rfl rfl rfl (SqL.of hL1) (Ai (j:=4) rfl) (xwi rfl rfl rfl (SqL.of hL1) (Ai (j:=6) rfl) (xwi rfl rfl rfl (SqL.of hL1) (Ai (j:=7) rfl) ⟨(by show 4<=sizeLine;decide),λt2 ht2=>?_⟩)));have s2:=Ao (o:=.tup [.int (k3:Int),.int (k4:Int),.int (k6:Int),.int (k7:Int)]) ht2;have h2:upd X1 t2 (.tup [.int (k3:Int),.int (k4:Int),.int (k6:Int),.int (k7:Int)]) t2=some (.tup [.int (k3:Int),.int (k4:Int),.int (k6:Int),.int (k7:Int)]):=Af;generalize hX2:upd X1 t2 (.tup [.int (k3:Int),.int (k4:Int),.int (k6:Int),.int (k7:Int)])=X2 at s2 h2;have hL2:=s2 _ _ hL1
  first|rw[hX2]|(show ∃_,_;rw[hX2])|skip
  refine xwi rfl rfl rfl (SqL.of hL2) (Ai (j:=4) rfl) (xwi rfl rfl rfl (SqL.of hL2) (Ai (j:=5) rfl) (xwi rfl rfl rfl (SqL.of hL2) (Ai (j:=7) rfl) (xwi rfl rfl rfl (SqL.of hL2) (Ai (j:=8) rfl) ⟨(by show 4<=sizeLine;decide),λt3 ht3=>?_⟩)));have s3:=Ao (o:=.tup [.int (k4:Int),.int (k5:Int),.int (k7:Int),.int (k8:Int)]) ht3;have h3:upd X2 t3 (.tup [.int (k4:Int),.int (k5:Int),.int (k7:Int),.int (k8:Int)]) t3=some (.tup [.int (k4:Int),.int (k5:Int),.int (k7:Int),.int (k8:Int)]):=Af;generalize hX3:upd X2 t3 (.tup [.int (k4:Int),.int (k5:Int),.int (k7:Int),.int (k8:Int)])=X3 at s3 h3;have hL3:=s3 _ _ hL2
  first|rw[hX3]|(show ∃_,_;rw[hX3])|skip
  refine⟨(by show 4<=sizeLine;decide),λM hM=>?_⟩;have s4:=Ao (o:=.lst [.ref t0,.ref t1,.ref t2,.ref t3]) hM;exact k M t0 t1 t2 t3 _ ((((s0.trans s1).trans s2).trans s3).trans s4) Af (s4 _ _ (s3 _ _ (s2 _ _ (s1 _ _ h0)))) (s4 _ _ (s3 _ _ (s2 _ _ h1))) (s4 _ _ (s3 _ _ h2)) (s4 _ _ h3)
inductive SpMet(a:Ad)(vs:List V)(H:Hp)(Q:VK):Prop
 |mk (g:GA) (G:Gv) (t:Addr) (f0 f1 f2 f3 l:Nat) (_:vs=[.ref g.p,.ref t]) (_:AI a H g G) (_:GOk G) (_:H t=some (.tup [.int f0,.int f1,.int f2,.int f3])) (_:Al G f0 ((l+1:Nat):Int)/\Al G f1 ((l+1:Nat):Int)/\Al G f2 ((l+1:Nat):Int)/\Al G f3 ((l+1:Nat):Int)) (_:l<=47) (_:G.length<9000000) (_:∀(k:Nat)(G':Gv)(H':Hp),Fr g H H'->AI a H' g G'->AH G G' 1->G'[k]?=some ⟨[((qO G f0 3:Nat):Int),((qO G f1 2:Nat):Int),((qO G f2 1:Nat):Int),((qO G f3 0:Nat):Int)],(l:Int)+1⟩->Q (.int k) H'):SpMet a vs H Q
def Uz(a:Ad):Sp:=λvs H Q _=>SpMet a vs H Q
theorem ok_met{f:Addr}{fd:FuncData}(F:Fun K "met_in_the_middle" "met_in_the_middle" Do f fd)(T:Top K mg a)(a9:BZ P w K mg base CX0 2 a.c_Grove "linked" AX (EI a)):AJ P w K mg base CX0 3 f fd Cm (Uz a):=by
 refine F.ok EC (λvs H Q E h=>?_) (λcdv A outer s H vs Q E hr h=>?_)
 ·apply Be;intro G_ hG_;obtain⟨g,G,t,f0,f1,f2,f3,l,rfl,_⟩:=h;apply hG_;clear hG_ G_;rfl
 ·apply Be;intro G_ hG_;obtain⟨g,G,t,f0,f1,f2,f3,l,rfl,hg,ok,ht,⟨l0,l1,l2,l3⟩,h47,few,k⟩:=h;obtain⟨ts,h3,h4⟩:=hg.pt;obtain⟨x00,x01,x02,x03,e0,m00,m01,m02,m03⟩:=ok.four l0;obtain⟨u0,eu0,hu0⟩:=PairedM.get h4 e0;obtain⟨y00,y01,y02,y03⟩:=Ee e0;obtain⟨x10,x11,x12,x13,e1,m10,m11,m12,m13⟩:=ok.four l1;obtain⟨u1,eu1,hu1⟩:=PairedM.get h4 e1;obtain⟨y10,y11,y12,y13⟩:=Ee e1;obtain⟨x20,x21,x22,x23,e2,m20,m21,m22,m23⟩:=ok.four l2;obtain⟨u2,eu2,hu2⟩:=PairedM.get h4 e2;obtain⟨y20,y21,y22,y23⟩:=Ee e2;obtain⟨x30,x31,x32,x33,e3,m30,m31,m32,m33⟩:=ok.four l3;obtain⟨u3,eu3,hu3⟩:=PairedM.get h4 e3;obtain⟨y30,y31,y32,y33⟩:=Ee e3;apply hG_;clear hG_ G_;rw[y03,y12,y21,y30]at k;refine⟨_,(Ac (Aq (i:=2) EC.nd rfl (Or.inl rfl) (AC (pv 0) rfl)) (Ag (Aw (AG (pv 0) a9 (rm hr) An (Bz (Aa (Aj Am (Aj Ax (pv 2) (Aj Am (pv 1) Ae (λ_ _=>rfl)) (λ_ _=>rfl)) Ae (λ_ _=>rfl)) (Aa (Aj Am (Aj Ax (pv 2) (Aj Am (pv 1) Ae (λ_ _=>rfl)) (λ_ _=>rfl)) Ae (λ_ _=>rfl)) (Aa (Aj Am (Aj Ax (pv 2) (Aj Am (pv 1) Ae (λ_ _=>rfl)) (λ_ _=>rfl)) Ae (λ_ _=>rfl)) (Aa (Aj Am (Aj Ax (pv 2) (Aj Am (pv 1) Ae (λ_ _=>rfl)) (λ_ _=>rfl)) Ae (λ_ _=>rfl)) Ab)))) Ab))))),?_⟩
  try dsimp only[cxK]
  refine xwf rfl rfl hg.hp T.cl_Grove T.na_Grove_parts (CB g) ?_;refine xwn rfl rfl hg.hp (BQ g) rfl (xwi rfl rfl rfl (SqT.of ht) (Ai (j:=0) rfl) (xq4 rfl rfl (SqL.of h3) (Ai (by rw[C0,eu0];rfl)) (xq4 rfl rfl (SqT.of hu0) (Ai (j:=3) rfl) (xwj rfl rfl rfl rfl (SqT.of ht) (Ai (j:=1) rfl) (xq4 rfl rfl (SqL.of h3) (Ai (by rw[C0,eu1];rfl)) (xq4 rfl rfl (SqT.of hu1) (Ai (j:=2) rfl) (xwj rfl rfl rfl rfl (SqT.of ht) (Ai (j:=2) rfl) (xq4 rfl rfl (SqL.of h3) (Ai (by rw[C0,eu2];rfl)) (xq4 rfl rfl (SqT.of hu2) (Ai (j:=1) rfl) (xwj rfl rfl rfl rfl (SqT.of ht) (Ai (j:=3) rfl) (xq4 rfl rfl (SqL.of h3) (Ai (by rw[C0,eu3];rfl)) (xq4 rfl rfl (SqT.of hu3) (Ai (j:=0) rfl) ⟨(by show 4<=sizeLine;decide),λu hu=>?_⟩))))))))))));have s1:=Ao (o:=.tup [.int (x03:Int),.int (x12:Int),.int (x21:Int),.int (x30:Int)]) hu;exact⟨g,G,u,x03,x12,x21,x30,(l:Int),rfl,hg.same s1,ok,Af,⟨m03,m12,m21,m30⟩,by lia,few,λn G' H' fr hg' go e=>k n G' H' ((Az.fr s1).trans fr) hg' go e⟩
end
end J
namespace J
open PySem L2
def Sv(o:HO):Prop:=Nv o\/∃xs:List V,o=.lst xs/\xs.length<=50
def KpS(H H':Hp):Prop:=∀b o,H b=some o->Sv o->H' b=some o
theorem Sv.lst{xs:List V}(h:xs.length<=50):Sv (.lst xs):=.inr ⟨xs,rfl,h⟩
theorem Bs.long{G:Gv}(h:Bs G):56<=G.length:=(B9.mp (h 47 A4)).1
theorem Sv.nl{b x:Addr}{H:Hp}{o:HO}{xs:List V}(s:Sv o)(e:H b=some o)(ex:H x=some (.lst xs))(lx:50<xs.length):b≠x:=λz=>by
 rw[z,ex]at e;cases e;rcases s with s|⟨ys,ey,ly⟩
 ·cases s
 ·cases ey;lia
theorem Sv.nt{b x:Addr}{H:Hp}{o:HO}{k:List (List Key×V)}(s:Sv o)(e:H b=some o)(ex:H x=some (.dT k)):b≠x:=λz=>by
 rw[z,ex]at e;cases e;rcases s with s|⟨ys,ey,ly⟩
 ·cases s
 ·cases ey
theorem Sv.nk{b x:Addr}{H:Hp}{o:HO}{k:List (Key×V)}(s:Sv o)(e:H b=some o)(ex:H x=some (.dK k)):b≠x:=λz=>by
 rw[z,ex]at e;cases e;rcases s with s|⟨ys,ey,ly⟩
 ·cases s
 ·cases ey
theorem Fr.kps{a:Ad}{H H':Hp}{g:GA}{G:Gv}(f:Fr g H H')(hg:AI a H g G)(l56:56<=G.length):KpS H H':=by
 intro b o e s;obtain⟨ts,h3,h4⟩:=hg.pt;have lt:ts.length=G.length:=Z9 h4;exact f _ _ e (s.nl e hg.lv (by rw[B8];lia)) (s.nl e h3 (by rw[B8];lia)) (s.nt e hg.nm)
theorem FrJ.kps{a:Ad}{H H':Hp}{g:GA}{G:Gv}{N M:Nat}{r:AA}{m:MA}(f:FrJ g m H H')(hg:AI a H g G)(l56:56<=G.length)(hm:IE H g G N M r m):KpS H H':=by
 intro b o e s;obtain⟨ts,h3,h4⟩:=hg.pt;obtain⟨kc,c1,_⟩:=hm.ce;have lt:ts.length=G.length:=Z9 h4;refine f _ _ e (s.nl e hg.lv (by rw[B8];lia)) (s.nl e h3 (by rw[B8];lia)) (s.nt e hg.nm) (s.nt e c1) λz=>?_;obtain⟨j,hj⟩:=F9 z;obtain⟨kv,e2,_⟩:=hm.sq j b hj;exact s.nk e e2 rfl
theorem Vk{G:Gv}(ok:GOk G):∀(l:Nat){n m:Nat},Al G n (l:Int)->Al G m (l:Int)->(∀x y,x<2^l->y<2^l->Cr G l n x y=Cr G l m x y)->n=m
 |0,n,m,_,_,h=>Z8 (h 0 0 A4 A4)
 |l+1,n,m,hn,hm,h=>by
  have part:∀i j,i<2->j<2->qO G n (i+2*j)=qO G m (i+2*j):=λi j hi hj=>by
   refine Vk ok l (Le ok hn A0) (Le ok hm A0) λx y hx hy=>?_;rw[<-OX G l n hx hy hi hj,<-OX G l m hx hy hi hj];have bi:2^l*i<=2^l*1:=J9 _ A0;have bj:2^l*j<=2^l*1:=J9 _ A0;exact h _ _ (by rw[F4];lia) (by rw[F4];lia)
  obtain⟨x,y,z,w,e,_⟩:=ok.four hn;obtain⟨x',y',z',w',e',_⟩:=ok.four hm;obtain⟨a0,a1,a2,a3⟩:=Ee e;obtain⟨b0,b1,b2,b3⟩:=Ee e';have p0:=part 0 0 A4 A4;have p1:=part 1 0 A4 A4;have p2:=part 0 1 A4 A4;have p3:=part 1 1 A4 A4;have p0:x=x':=a0.symm.trans (p0.trans b0);have p1:y=y':=a1.symm.trans (p1.trans b1);have p2:z=z':=a2.symm.trans (p2.trans b2);have p3:w=w':=a3.symm.trans (p3.trans b3);refine ok.one e e' ?_;rw[p0,p1,p2,p3]
abbrev Sht:=Nat->Nat->Int
abbrev KTy:=Nat->Nat->Sht->Prop
def Ug(l:Nat)(φ ψ:Sht):Prop:=∀x y,x<2^(l+2)->y<2^(l+2)->φ x y=ψ x y
def s47(f:Nat->Nat):Nat:=((List.range 47).map f).sum
theorem Us(f:Nat->Nat)(e:Nat):∀l:List Nat,l.Nodup->(l.map λi=>if i=e then f i+1 else f i).sum=(l.map f).sum+if e∈l then 1 else 0
 |[],_=>by simp
 |a::l,h=>by
  rw[N4]at h;rw[F7,F7,O6,O6,Us f e l h.2];by_cases z:a=e
  ·subst z;rw[Y8 rfl,Y6 h.1,Y8 C7];lia
  ·rw[Y6 z];by_cases y:e∈l
   ·rw[Y8 y,Y8 (C6 _ y)];lia
   ·rw[Y6 y,Y6 (λq=>by rcases C3.mp q with rfl|q;exact z rfl;exact y q)];lia
theorem UH(f:Nat->Nat){e:Nat}(h:e<47):s47 (λi=>if i=e then f i+1 else f i)=s47 f+1:=by
 unfold s47;rw[Us f e _ List.nodup_range,Y8 (F8.mpr h)]
theorem Rc{α β:Type}(R:α->β->Prop)(inj:∀x x' y,R x y->R x' y->x=x'):∀(l:List β)(ks:List α),ks.Nodup->(∀k∈ks,∃y∈l,R k y)->ks.length<=l.length
 |[],ks,_,h=>by
  cases ks with
  |nil=>exact C1 _
  |cons k ks=>obtain⟨y,hy,_⟩:=h k C7;cases hy
 |y::l,ks,nd,h=>by
  classical
  have ih:=Rc R inj l (ks.filter λk=>decide (¬R k y)) (nd.sublist List.filter_sublist) λk hk=>by
   rw[S8,decide_eq_true_iff]at hk;obtain⟨z,hz,rz⟩:=h k hk.1;rcases C3.mp hz with rfl|hz
   ·exact absurd rz hk.2
   ·exact⟨z,hz,rz⟩
  have few:∀ks:List α,ks.Nodup->ks.length<=(ks.filter λk=>decide (¬R k y)).length+1:=by
   intro ks;induction ks with
   |nil=>intro _;exact L7 _
   |cons k ks ih2 =>
    intro nd2;rw[N4]at nd2;by_cases z:R k y
    ·have:ks.filter (λk=>decide (¬R k y))=ks:=List.filter_eq_self.mpr λx hx=>Y7 λq=>nd2.1 (by rw[inj k x y z q];exact hx);rw[List.filter_cons_of_neg (by simp[z]),this,D4];exact C1 _
    ·rw[List.filter_cons_of_pos (by simp[z]),D4,D4];have:=ih2 nd2.2;lia
  have:=few ks nd;rw[D4];lia
structure Jt(Κ:KTy)(N:Nat):Prop where
 ls:∃M:Nat->Nat,s47 M<=N/\∀e,∃Ls:List (Nat×Sht),Ls.length<=M e/\∀l φ,Κ l e φ->∃ψ,(l,ψ)∈Ls/\Ug l φ ψ
 ext:∀{l e φ ψ},Κ l e φ->Ug l φ ψ->Κ l e ψ
theorem Ut(f:Nat->Nat):∀(l:List Nat){e:Nat},e∈l->f e<=(l.map f).sum
 |a::l,e,h=>by
  rw[F7,O6];rcases C3.mp h with rfl|h
  ·exact S4 _ _
  ·exact C9 (Ut f l h) (Nat.le_add_left _ _)
theorem Lm{f g:Nat->Nat}:∀{l:List Nat},(∀e∈l,f e<=g e)->(l.map f).sum<=(l.map g).sum
 |[],_=>C1 _
 |a::l,h=>by
  have:=Lm (l:=l) λe he=>h e (C6 _ he);have:=h a C7;rw[F7,O6,F7,O6];lia
structure Cn(H:Hp)(G:Gv)(m:MA)(Κ:KTy)(b:Nat)(f:Nat->Nat):Prop where
 sq:∀(e:Nat) d,m.ds[e]?=some d->∃kv,H d=some (.dK kv)/\kv.length=f e/\(kv.map (·.1)).Nodup/\∀k∈kv.map (·.1),∃n l:Nat,k=Sum.inl (n:Int)/\Al G n ((l+2:Nat):Int)/\Κ l e (Cr G (l+2) n)
 gl:G.length<=b+10*s47 f
 ce:∃kc,H m.kc=some (.dT kc)/\kc.length<=b+10*s47 f
theorem Cn.few'{H:Hp}{G:Gv}{m:MA}{Κ:KTy}{b:Nat}{f M:Nat->Nat}(h:Cn H G m Κ b f)(ok:GOk G)(fin:∀e,∃Ls:List (Nat×Sht),Ls.length<=M e/\∀l φ,Κ l e φ->∃ψ,(l,ψ)∈Ls/\Ug l φ ψ)(len:m.ds.length=47){e:Nat}(he:e<47):f e<=M e:=by
 have e47:e<m.ds.length:=by rw[len];exact he
 obtain⟨kv,_,h2,h3,h4⟩:=h.sq e (m.ds[e]'e47) (C8 _);obtain⟨Ls,l1,l2⟩:=fin e;refine C9 ?_ l1;rw[<-h2,<-B8 (f:=(·.1)) (as:=kv)];refine Rc (λ(k:Key)(q:Nat×Sht)=>∃n:Nat,k=Sum.inl (n:Int)/\Al G n ((q.1+2:Nat):Int)/\Ug q.1 (Cr G (q.1+2) n) q.2) ?_ Ls _ h3 λk hk=>?_
 ·rintro x x' ⟨l,ψ⟩ ⟨n,rfl,a1,a2⟩ ⟨n',rfl,b1,b2⟩;rw[Vk ok _ a1 b1 λx y hx hy=>(a2 x y hx hy).trans (b2 x y hx hy).symm]
 ·obtain⟨n,l,rfl,a1,a2⟩:=h4 k hk;obtain⟨ψ,m1,m2⟩:=l2 l _ a2;exact⟨_,m1,n,rfl,a1,m2⟩
theorem Cn.sum{H:Hp}{G:Gv}{m:MA}{Κ:KTy}{b N:Nat}{f:Nat->Nat}(h:Cn H G m Κ b f)(ok:GOk G)(fin:Jt Κ N)(len:m.ds.length=47):s47 f<=N:=by
 obtain⟨M,h1,h2⟩:=fin.ls;exact C9 (Lm λe he=>h.few' ok h2 len (F8.mp he)) h1
theorem Cn.few{H:Hp}{G:Gv}{m:MA}{Κ:KTy}{b N:Nat}{f:Nat->Nat}(h:Cn H G m Κ b f)(ok:GOk G)(fin:Jt Κ N)(len:m.ds.length=47){e:Nat}(he:e<47):f e<=N:=C9 (Ut f _ (F8.mpr he)) (h.sum ok fin len)
theorem Cn.mono{H:Hp}{G:Gv}{m:MA}{Κ:KTy}{b b':Nat}{f:Nat->Nat}(h:Cn H G m Κ b f)(e:b<=b'):Cn H G m Κ b' f:=by
 obtain⟨kc,h1,h2⟩:=h.ce;have:=h.gl;exact⟨h.sq,by lia,kc,h1,by lia⟩
theorem Cn.kp{H H':Hp}{G G':Gv}{m:MA}{Κ:KTy}{b i:Nat}{f:Nat->Nat}(h:Cn H G m Κ b f)(ok:GOk G)(go:AH G G' i)(k1:∀d∈m.ds,∀o,H d=some o->H' d=some o)(k2:∀kc,H m.kc=some (.dT kc)->∃kc',H' m.kc=some (.dT kc')/\kc'.length<=kc.length+i):Cn H' G' m Κ (b+i) f:=by
 refine⟨λe d ed=>?_,?_,?_⟩
 ·obtain⟨kv,h1,h2,h3,h4⟩:=h.sq e d ed;refine⟨kv,k1 d (D1 ed) _ h1,h2,h3,λk hk=>?_⟩;obtain⟨n,l,e1,e2,e3⟩:=h4 k hk;exact⟨n,l,e1,go.lev e2,by rw[CM ok go e2];exact e3⟩
 ·have:=h.gl;have:=go.few;lia
 ·obtain⟨kc,h1,h2⟩:=h.ce;obtain⟨kc',h3,h4⟩:=k2 kc h1;exact⟨kc',h3,by lia⟩
structure JZ(a:Ad)(H:Hp)(g:GA)(G:Gv)(Κ:KTy)(N b:Nat)(p dx mem pr:Addr)(r:AA)(m:MA):Prop where
 jw:JW a H g G N (b+10*N) p dx mem pr r m
 cn:∃f,Cn H G m Κ b f
section
variable{a:Ad}{H H':Hp}{g:GA}{G G':Gv}{Κ:KTy}{N b i:Nat}{p dx mem pr:Addr}{r:AA}{m:MA}
theorem JZ.sz(h:JZ a H g G Κ N b p dx mem pr r m)(fin:Jt Κ N):G.length<=b+10*N:=by
 obtain⟨f,c⟩:=h.cn;have:=c.gl;have:=c.sum h.jw.ok fin h.jw.me.len;lia
theorem JZ.mono{b':Nat}(h:JZ a H g G Κ N b p dx mem pr r m)(e:b<=b'):JZ a H g G Κ N b' p dx mem pr r m:=by
 obtain⟨f,c⟩:=h.cn;exact⟨h.jw.mono (C1 _) A0,f,c.mono e⟩
theorem JZ.same(h:JZ a H g G Κ N b p dx mem pr r m)(s:Az H H'):JZ a H' g G Κ N b p dx mem pr r m:=by
 obtain⟨f,c⟩:=h.cn;exact⟨JW.same s h.jw,f,c.kp (i:=0) h.jw.ok (AH.refl h.jw.ok) (λd _ o e=>s _ _ e) λkc e=>⟨kc,s _ _ e,C1 _⟩⟩
theorem JZ.fr(h:JZ a H g G Κ N b p dx mem pr r m)(f:Fr g H H')(hg':AI a H' g G')(go:AH G G' i):JZ a H' g G' Κ N (b+i) p dx mem pr r m:=by
 obtain⟨f',c⟩:=h.cn;obtain⟨ts,h3,_⟩:=h.jw.gr.pt;refine⟨(h.jw.fr f hg' go).mono (C1 _) A0,f',c.kp h.jw.ok go (λd hd o e=>?_) λkc e=>⟨kc,?_,by lia⟩⟩
 ·obtain⟨j,hj⟩:=F9 hd;obtain⟨kv,e2,_⟩:=c.sq j d hj;rw[e]at e2;cases e2;exact f _ _ e (AE e h.jw.gr.lv A3) (AE e h3 A3) (AE e h.jw.gr.nm A3)
 ·exact f _ _ e (AE e h.jw.gr.lv A3) (AE e h3 A3) h.jw.me.ap.2.2
def No(H:Hp)(m:MA)(e n:Nat):Prop:=∀d kv,m.ds[e]?=some d->H d=some (.dK kv)->BM kv (Sum.inl (n:Int))=none
def Up(l:Nat)(G:Gv)(H H':Hp)(m:MA):Prop:=∀e n l':Nat,Al G n ((l'+2:Nat):Int)->l<=l'->No H m e n->No H' m e n
theorem Up.refl(l:Nat)(G:Gv)(H:Hp)(m:MA):Up l G H H m:=λ_ _ _ _ _ h=>h
theorem Up.trans{l:Nat}{H1 H2 H3:Hp}(h:Up l G H1 H2 m)(k:Up l G' H2 H3 m)(go:AH G G' i):Up l G H1 H3 m:=λe n l' a1 a2 a3=>k e n l' (go.lev a1) a2 (h e n l' a1 a2 a3)
theorem Up.mono{l l2:Nat}(h:Up l G H H' m)(e:l<=l2):Up l2 G H H' m:=λe' n l' a1 a2 a3=>h e' n l' a1 (C9 e a2) a3
theorem Up.of(l:Nat){N M:Nat}(hm:IE H g G N M r m)(k:∀d∈m.ds,∀o,H d=some o->H' d=some o):Up l G H H' m:=λe n l' _ _ h d kv ed hd=>by
 obtain⟨kv',e2,_⟩:=hm.sq e d ed;have:=k d (D1 ed) _ e2;rw[hd]at this;cases this;exact h d _ ed e2
theorem JZ.upS(l:Nat)(h:JZ a H g G Κ N b p dx mem pr r m)(s:Az H H'):Up l G H H' m:=Up.of l h.jw.me λd _ o e=>s _ _ e
theorem JZ.upF(l:Nat)(h:JZ a H g G Κ N b p dx mem pr r m)(f:Fr g H H'):Up l G H H' m:=Up.of l h.jw.me λd hd o e=>by
 obtain⟨ts,h3,_⟩:=h.jw.gr.pt;obtain⟨j,hj⟩:=F9 hd;obtain⟨kv,e2,_⟩:=h.jw.me.sq j d hj;rw[e]at e2;cases e2;exact f _ _ e (AE e h.jw.gr.lv A3) (AE e h3 A3) (AE e h.jw.gr.nm A3)
theorem JW.tc{M:Nat}{kc:List (List Key×V)}(h:JW a H g G N M p dx mem pr r m)(hk:H m.kc=some (.dT kc)):JW a H g G N kc.length p dx mem pr r m:=by
 obtain⟨kc',c1,_,c3⟩:=h.me.ce;rw[hk]at c1;cases c1;exact⟨h.gr,h.ok,h.bs,h.br,h.nbr,h.hp,h.ru,h.rok,h.rest,⟨h.me.tp,h.me.l,h.me.ap,h.me.len,h.me.nd,h.me.sq,_,hk,C1 _,c3⟩⟩
theorem JZ.mid{f:Nat->Nat}{kc:List (List Key×V)}(h:JZ a H g G Κ N b p dx mem pr r m)(c:Cn H G m Κ b f)(hk:H m.kc=some (.dT kc))(fr:FrC g m H H')(hj:JW a H' g G' N (kc.length+4) p dx mem pr r m)(go:AH G G' 1):JZ a H' g G' Κ N (b+4) p dx mem pr r m/\∀l,Up l G H H' m:=by
 obtain⟨ts,h3,_⟩:=h.jw.gr.pt;have kd:∀d∈m.ds,∀o,H d=some o->H' d=some o:=λd hd o e=>by
  obtain⟨j,hj⟩:=F9 hd;obtain⟨kv,e2,_⟩:=h.jw.me.sq j d hj;rw[e]at e2;cases e2;exact fr _ _ e (AE e h.jw.gr.lv A3) (AE e h3 A3) (AE e h.jw.gr.nm A3) (AE e hk A3)
 obtain⟨kc',c1,c2,c3⟩:=hj.me.ce;obtain⟨kc2,d1,d2,_⟩:=h.jw.me.ce;rw[hk]at d1;cases d1;have me:=hj.me;refine⟨⟨⟨hj.gr,hj.ok,hj.bs,hj.br,hj.nbr,hj.hp,hj.ru,hj.rok,hj.rest,⟨me.tp,me.l,me.ap,me.len,me.nd,me.sq,kc',c1,by lia,c3⟩⟩,f,c.kp (i:=4) h.jw.ok (go.mono A4) kd λkc2 e=>⟨kc',c1,by rw[hk]at e;cases e;exact c2⟩⟩,λl=>Up.of l h.jw.me kd⟩
theorem JZ.put{e n k l:Nat}{d:Addr}{kv:List (Key×V)}(h:JZ a H g G Κ N (b+10) p dx mem pr r m)(fin:Jt Κ N)(ed:m.ds[e]?=some d)(hd:H d=some (.dK kv))(no:BM kv (Sum.inl (n:Int))=none)(lv:Al G n ((l+2:Nat):Int))(hk:Κ l e (Cr G (l+2) n))(jr:JR r G e n k):JZ a (upd H d (.dK (EE kv (Sum.inl (n:Int)) (.int (k:Int))))) g G Κ N b p dx mem pr r m/\Up (l+1) G H (upd H d (.dK (EE kv (Sum.inl (n:Int)) (.int (k:Int))))) m:=by
 obtain⟨f,c⟩:=h.cn;have e47:e<47:=by rw[<-h.jw.me.len];exact(B9.mp ed).1
 have jw':=h.jw.putS ed hd jr;obtain⟨kv0,q1,q2,q3,q4⟩:=c.sq e d ed;rw[hd]at q1;cases q1;have pe:=LC (.int (k:Int)) no;rw[pe]at jw'⊢;have nn:(Sum.inl (n:Int):Key)∉kv.map (·.1):=λz=>by
  obtain⟨q,hq,eq⟩:=D5.mp z;have:(kv.find? λkv=>decide (kv.1=(Sum.inl (n:Int):Key)))=none:=by
   unfold BM at no;cases y:kv.find? λkv=>decide (kv.1=(Sum.inl (n:Int):Key))with
   |none=>rfl
   |some w=>rw[y]at no;cases no
  have:=List.find?_eq_none.mp this q hq;exact this (Y7 eq)
 obtain⟨kc,c1,c2⟩:=c.ce;have gl:=c.gl;have oth:∀{d':Addr}{e':Nat},m.ds[e']?=some d'->e'≠e->d'≠d:=λ{d' e'} ed' z y=>z (by
  rw[y]at ed';exact(List.getElem?_inj (B9.mp ed').1 h.jw.me.nd).mp (ed'.trans ed.symm))
 have cn':Cn (upd H d (.dK (kv++[(Sum.inl (n:Int),.int (k:Int))]))) G m Κ b (λi=>if i=e then f i+1 else f i):=by
  refine⟨λe' d' ed'=>?_,by rw[UH f e47];lia,kc,?_,by rw[UH f e47];lia⟩
  ·by_cases z:e'=e
   ·subst z;rw[ed]at ed';cases ed';refine⟨_,Af,by rw[Y8 rfl,C4,q2];rfl,?_,λk' hk'=>?_⟩
    ·rw[C5,P4];refine⟨q3,by simp,λx hx y hy=>?_⟩;rw[D7.mp hy];exact λz=>nn ((show x=Sum.inl (n:Int)from z)▸hx)
    ·rw[C5]at hk';rcases D9.mp hk' with y|y
     ·exact q4 k' y
     ·rw[D7.mp y];exact⟨n,l,rfl,lv,hk⟩
   ·obtain⟨kv',w1,w2,w3,w4⟩:=c.sq e' d' ed';exact⟨kv',by rw[As (oth ed' z)];exact w1,by rw[Y6 z];exact w2,w3,w4⟩
  ·rw[As (AE c1 hd A3)];exact c1
 refine⟨⟨?_,_,cn'⟩,λe' n' l' a1 a2 a3 d' kv' ed' hd'=>?_⟩
 ·have fw:∀{e':Nat},e'<47->(if e'=e then f e'+1 else f e')<=N:=λ{e'} he=>cn'.few h.jw.ok fin h.jw.me.len he;have sm:=cn'.sum h.jw.ok fin h.jw.me.len;obtain⟨kc',d1,d2⟩:=cn'.ce;have me:=jw'.me;obtain⟨kc2,r1,r2,r3⟩:=me.ce;rw[d1]at r1;cases r1;refine⟨jw'.gr,jw'.ok,jw'.bs,jw'.br,jw'.nbr,jw'.hp,jw'.ru,jw'.rok,jw'.rest,⟨me.tp,me.l,me.ap,me.len,me.nd,λe' d' ed'=>?_,kc',d1,by lia,r3⟩⟩;obtain⟨kw,u1,u2,u3,u4⟩:=me.sq e' d' ed';obtain⟨kw',v1,v2,_⟩:=cn'.sq e' d' ed';rw[u1]at v1;cases v1;exact⟨kw,u1,by rw[v2];exact fw (by rw[<-h.jw.me.len];exact(B9.mp ed').1),u3,u4⟩
 ·by_cases z:e'=e
  ·subst z;rw[ed]at ed';cases ed';rw[Af]at hd';cases hd';rw[<-pe,Ll];have ne:n'≠n:=λy=>by
    subst y;have:((l'+2:Nat):Int)=((l+2:Nat):Int):=by
     obtain⟨q,w1,w2⟩:=a1;obtain⟨q',w3,w4⟩:=lv;rw[w1]at w3;cases w3;exact w2.symm.trans w4
    lia
   rw[Y6 (λy=>ne (by have:=Sum.inl.inj y;lia))];exact a3 d kv ed hd
  ·rw[As (oth ed' z)]at hd';exact a3 d' kv' ed' hd'
end
seal L2.PA L2.PE L2.PS L2.PSs L2.PT L2.PW
structure ClK(r:AA)(Κ:KTy):Prop where
 nine1:∀{l e φ},Κ (l+1) e φ->e<=l->∀i j,i<3->j<3->Κ l e λx y=>φ (x+2^(l+1)*i) (y+2^(l+1)*j)
 nine2:∀{l φ},Κ (l+1) (l+1) φ->∀i j,i<3->j<3->Κ l l λx y=>φ (x+2^(l+1)*i) (y+2^(l+1)*j)
 four:∀{l φ},Κ (l+1) (l+1) φ->∀i j,i<2->j<2->Κ l l λx y=>Bh r (2^l) φ (x+(2^(l+1)*i+2^l)) (y+(2^(l+1)*j+2^l))
theorem Al.one{G:Gv}{n:Nat}{i j:Int}(h:Al G n i)(k:Al G n j):i=j:=by
 obtain⟨q,e1,e2⟩:=h;obtain⟨p,f1,f2⟩:=k;rw[e1]at f1;cases f1;exact e2.symm.trans f2
theorem JR.view{r:AA}{G:Gv}{c:Nat->Nat->Int}{e n m l X Y:Nat}(h:JR r G e n m)(lv:Al G n ((l+2:Nat):Int))(v:Vw G c (l+2) n X Y):Al G m ((l+1:Nat):Int)/\e<=l/\Vw G (Bh r (2^e) c) (l+1) m (X+2^l) (Y+2^l):=by
 apply Be;intro G_ hG_;obtain⟨l',h1,h2,h3,h4⟩:=h;apply hG_;clear hG_ G_;have e':l'=l:=by
  have:=h1.one lv;lia
 subst e';exact⟨h3,h2,v.jump h2 h4⟩
theorem Vw.jr{r:AA}{G:Gv}{e n m l:Nat}(lv:Al G n ((l+1+2:Nat):Int))(he:e<=l+1)(lm:Al G m ((l+1+1:Nat):Int))(v:Vw G (Bh r (2^e) (Cr G (l+1+2) n)) (l+1+1) m (2^(l+1)) (2^(l+1))):JR r G e n m:=⟨l+1,lv,he,lm,v⟩
theorem YJ{G G':Gv}{c:Nat->Nat->Int}{l f0 f1 f2 f3 z X Y i:Nat}(ok:GOk G)(go:AH G G' i)(l0:Al G f0 ((l+1:Nat):Int))(l1:Al G f1 ((l+1:Nat):Int))(l2:Al G f2 ((l+1:Nat):Int))(l3:Al G f3 ((l+1:Nat):Int))(v0:Vw G c (l+1) f0 X Y)(v1:Vw G c (l+1) f1 (X+2^(l+1)) Y)(v2:Vw G c (l+1) f2 X (Y+2^(l+1)))(v3:Vw G c (l+1) f3 (X+2^(l+1)) (Y+2^(l+1)))(e:G'[z]?=some ⟨[((qO G f0 3:Nat):Int),((qO G f1 2:Nat):Int),((qO G f2 1:Nat):Int),((qO G f3 0:Nat):Int)],(l:Int)+1⟩):Vw G' c (l+1) z (X+2^l) (Y+2^l):=by
 have p1:2^(l+1)=2^l*2:=F4 ..;apply Be;intro G_ hG_;obtain⟨w0,w1,w2,w3⟩:=Ee e;apply hG_;clear hG_ G_;have u0:=(v0.q (i:=1) (j:=1) A4 A4).goes ok go (Le ok l0 A4);have u1:=(v1.q (i:=0) (j:=1) A4 A4).goes ok go (Le ok l1 A4);have u2:=(v2.q (i:=1) (j:=0) A4 A4).goes ok go (Le ok l2 A4);have u3:=(v3.q (i:=0) (j:=0) A4 A4).goes ok go (Le ok l3 A4);refine Vw.of ?_ ?_ ?_ ?_
 ·rw[w0];exact u0.at' A0 A0
 ·rw[w1];exact u1.at' A0 A0
 ·rw[w2];exact u2.at' A0 A0
 ·rw[w3];exact u3.at' A0 A0
theorem MO{G G':Gv}{c:Nat->Nat->Int}{l f0 f1 f2 f3 z X Y i:Nat}{L:Int}(ok:GOk G)(go:AH G G' i)(l0:Al G f0 (l:Int))(l1:Al G f1 (l:Int))(l2:Al G f2 (l:Int))(l3:Al G f3 (l:Int))(v0:Vw G c l f0 X Y)(v1:Vw G c l f1 (X+2^l) Y)(v2:Vw G c l f2 X (Y+2^l))(v3:Vw G c l f3 (X+2^l) (Y+2^l))(e:G'[z]?=some ⟨[(f0:Int),(f1:Int),(f2:Int),(f3:Int)],L⟩):Vw G' c (l+1) z X Y:=by
 apply Be;intro G_ hG_;obtain⟨w0,w1,w2,w3⟩:=Ee e;apply hG_;clear hG_ G_;refine Vw.of ?_ ?_ ?_ ?_
 ·rw[w0];exact v0.goes ok go l0
 ·rw[w1];exact v1.goes ok go l1
 ·rw[w2];exact v2.goes ok go l2
 ·rw[w3];exact v3.goes ok go l3
theorem UR:∀xs:List Nat,xs.length=9->∃a b c d e f g h i,xs=[a,b,c,d,e,f,g,h,i]
 |[a,b,c,d,e,f,g,h,i],_=>⟨a,b,c,d,e,f,g,h,i,rfl⟩
theorem OR:∀xs:List Nat,xs.length=4->∃a b c d,xs=[a,b,c,d]
 |[a,b,c,d],_=>⟨a,b,c,d,rfl⟩
def toV(k:Nat):V:=.int (k:Int)
def Nine(G:Gv)(c:Nat->Nat->Int)(l X:Nat)(ys:List Nat):Prop:=∀i j,i<3->j<3->∃y,ys[i+3*j]?=some y/\Al G y (l:Int)/\Vw G c l y (2^l*i+X) (2^l*j+X)
theorem PJ {r:AA} {G3 G5:Gv} {c:Nat->Nat->Int} {l e x:Nat} {ks ys:List Nat} (ok:GOk G3) (go:AH G3 G5 x) (h:∀i j,i<3->j<3->∃k,ks[i+3*j]?=some k/\Al G3 k ((l+1+1:Nat):Int)/\Vw G3 c (l+1+1) k (2^(l+1)*i) (2^(l+1)*j)) (pr:Paired (λk y=>JR r G5 e k y) ks ys):Nine G5 (Bh r (2^e) c) (l+1) (2^l) ys:=λi j hi hj=>by
 apply Be;intro G_ hG_;obtain⟨k,h1,h2,h3⟩:=h i j hi hj;obtain⟨y,h4,h5⟩:=Paired.get pr h1;obtain⟨q1,_,q3⟩:=h5.view (go.lev h2) (h3.goes ok go h2);apply hG_;clear hG_ G_;exact⟨y,h4,q1,q3⟩
theorem Ow{G:Gv}{c:Nat->Nat->Int}{l X:Nat}{H:Hp}{y0 y1 y2 y3 y4 y5 y6 y7 y8:Nat}{t0 t1 t2 t3:Addr}(nj:Nine G c l X [y0,y1,y2,y3,y4,y5,y6,y7,y8])(h0:H t0=some (.tup [.int y0,.int y1,.int y3,.int y4]))(h1:H t1=some (.tup [.int y1,.int y2,.int y4,.int y5]))(h2:H t2=some (.tup [.int y3,.int y4,.int y6,.int y7]))(h3:H t3=some (.tup [.int y4,.int y5,.int y7,.int y8]))(t:Nat)(tt:Addr)(et:[t0,t1,t2,t3][t]?=some tt) :
  ∃f0 f1 f2 f3:Nat,H tt=some (.tup [.int f0,.int f1,.int f2,.int f3])/\(Al G f0 (l:Int)/\Al G f1 (l:Int)/\Al G f2 (l:Int)/\Al G f3 (l:Int))/\Vw G c l f0 (2^l*(t%2)+X) (2^l*(t/2)+X)/\Vw G c l f1 (2^l*(t%2)+X+2^l) (2^l*(t/2)+X)/\Vw G c l f2 (2^l*(t%2)+X) (2^l*(t/2)+X+2^l)/\Vw G c l f3 (2^l*(t%2)+X+2^l) (2^l*(t/2)+X+2^l):=by
 have t4:t<4:=(B9.mp et).1;have mx:=Nat.mul_succ (2^l) (t%2);have my:=Nat.mul_succ (2^l) (t/2);obtain⟨f0,e0,l0,v0⟩:=nj (t%2) (t/2) A0 A0;obtain⟨f1,e1,l1,v1⟩:=nj (t%2+1) (t/2) A0 A0;obtain⟨f2,e2,l2,v2⟩:=nj (t%2) (t/2+1) A0 A0;obtain⟨f3,e3,l3,v3⟩:=nj (t%2+1) (t/2+1) A0 A0;refine⟨f0,f1,f2,f3,?_,⟨l0,l1,l2,l3⟩,v0,v1.at' A0 rfl,v2.at' rfl A0,v3.at' A0 A0⟩
 match t,t4,et with
 |0,_,et=>cases e0;cases e1;cases e2;cases e3;cases et;exact h0
 |1,_,et=>cases e0;cases e1;cases e2;cases e3;cases et;exact h1
 |2,_,et=>cases e0;cases e1;cases e2;cases e3;cases et;exact h2
 |3,_,et=>cases e0;cases e1;cases e2;cases e3;cases et;exact h3
theorem Rr{α:Type}{P:Nat->α->Prop}{zs:List α}{z:α}{i:Nat}(lz:zs.length=i)(h:∀t z',zs[t]?=some z'->P t z')(hz:P i z):∀t z',(zs++[z])[t]?=some z'->P t z':=λt z' e=>by
 by_cases ti:t<i
 ·rw[M4 A0]at e;exact h t z' e
 ·have:t=i:=by
   have:=(B9.mp e).1;rw[C4,lz]at this;have:t<i+1:=this;lia
  subst this;rw[J6 A0,lz,V4]at e;cases e;exact hz
section
variable{P:Program}{w:World}{K:PySem.W.Frag}{mg:Str->Option Value}{base:Heap}{a:Ad}
inductive ZH(a:Ad)(L:Nat)(vs:List V)(H:Hp)(Q:VK):Prop
 |mk (p dx mem pr:Addr) (g:GA) (G:Gv) (Κ:KTy) (N b:Nat) (r:AA) (m:MA) (n l e:Nat) (_:vs=[.ref p,.int n,.int e]) (_:JZ a H g G Κ N b p dx mem pr r m) (_:Jt Κ N) (_:ClK r Κ) (_:Al G n ((l+2:Nat):Int)) (_:l<L) (_:e<=l) (_:Κ l e (Cr G (l+2) n)) (_:b+10*N+10*(l+1)<8000000) (_:∀(k:Nat)(G':Gv)(H':Hp)(i:Nat),FrJ g m H H'->JZ a H' g G' Κ N b p dx mem pr r m->AH G G' i->JR r G' e n k->Up (l+1) G H H' m->Q (.int k) H'):ZH a L vs H Q
def Ge(a:Ad)(L:Nat):Sp:=λvs H Q _=>ZH a L vs H Q
inductive ZO(a:Ad)(L:Nat)(vs:List V)(H:Hp)(Q:VK):Prop
 |mk (p dx mem pr:Addr) (g:GA) (G:Gv) (Κ:KTy) (N b:Nat) (r:AA) (m:MA) (n l e:Nat) (_:vs=[.ref p,.int n,.int e]) (_:JZ a H g G Κ N b p dx mem pr r m) (_:Jt Κ N) (_:ClK r Κ) (_:Al G n ((l+2:Nat):Int)) (_:l<L) (_:e<=l) (_:Κ l e (Cr G (l+2) n)) (_:b+10*N+10*(l+1)<8000000) (_:∀(k:Nat)(G':Gv)(H':Hp)(i:Nat),FrJ g m H H'->JZ a H' g G' Κ N (b+10) p dx mem pr r m->AH G G' i->JR r G' e n k->Up l G H H' m->Q (.int k) H'):ZO a L vs H Q
def Tg(a:Ad)(L:Nat):Sp:=λvs H Q _=>ZO a L vs H Q
inductive Vs(a:Ad)(L:Nat)(vs:List V)(H:Hp)(Q:VK):Prop
 |mk (p dx mem pr:Addr) (g:GA) (G:Gv) (Κ:KTy) (N b:Nat) (r:AA) (m:MA) (n l:Nat) (_:vs=[.ref p,.int n,.int ((l+1:Nat):Int)]) (_:JZ a H g G Κ N b p dx mem pr r m) (_:Jt Κ N) (_:ClK r Κ) (_:Al G n ((l+1+2:Nat):Int)) (_:l<L) (_:Κ (l+1) (l+1) (Cr G (l+1+2) n)) (_:b+10*N+10*(l+2)<8000000) (_:∀(A:Addr)(f0 f1 f2 f3:Nat)(G':Gv)(H':Hp)(i:Nat),FrJ g m H H'->JZ a H' g G' Κ N (b+9) p dx mem pr r m->AH G G' i->Up (l+1) G H H' m->H' A=some (.lst [toV f0,toV f1,toV f2,toV f3])->(Al G' f0 ((l+2:Nat):Int)/\Al G' f1 ((l+2:Nat):Int)/\Al G' f2 ((l+2:Nat):Int)/\Al G' f3 ((l+2:Nat):Int))->(Vw G' (Bh r (2^l) (Cr G (l+1+2) n)) (l+2) f0 (2^l) (2^l)/\Vw G' (Bh r (2^l) (Cr G (l+1+2) n)) (l+2) f1 (2^l+2^(l+1)) (2^l)/\Vw G' (Bh r (2^l) (Cr G (l+1+2) n)) (l+2) f2 (2^l) (2^l+2^(l+1))/\Vw G' (Bh r (2^l) (Cr G (l+1+2) n)) (l+2) f3 (2^l+2^(l+1)) (2^l+2^(l+1)))->Q (.ref A) H'):Vs a L vs H Q
def Qw(a:Ad)(L:Nat):Sp:=λvs H Q _=>Vs a L vs H Q
theorem Yt{L d:Nat}{f:Addr}{fd:FuncData}(F:Fun K "four_halfway" "Jumps.four_halfway" Bj f fd)(T:Top K mg a)(d3:3<=d)(aP:Cal P w K mg base CX0 3 "nine_parts" DZ (NU a))(aS:Cal P w K mg base CX0 1 "fours_of" Fz Lr)(a9:BZ P w K mg base CX0 2 a.c_Grove "linked" AX (EI a))(aC:BZ P w K mg base CX0 d a.c_Jumps "reckoned" Bl (Ge a L)):AJ P w K mg base CX0 (d+1) f fd BI (Qw a L):=by
 refine F.ok Ed (λvs H Q E h=>?_) (λcdv A outer s H vs Q E hr h=>?_)
 ·apply Be;intro G_ hG_;obtain⟨p,dx,mem,pr,g,G,Κ,N,b,r,m,n,l,rfl,_⟩:=h;apply hG_;clear hG_ G_;rfl
 ·apply Be;intro G_ hG_;obtain⟨p,dx,mem,pr,g,G,Κ,N,b,r,m,n,l,rfl,hz,fin,cl,hl,hL,hκ,few,k⟩:=h;have hj:=hz.jw;have sz:=hz.sz fin;apply hG_;clear hG_ G_;refine⟨_,(Ac (Ie (i:=3) rfl Ed.nd rfl rfl (Bu.of (So:=Ah Bj) (No:=Db) (N:=["part","self","e"]) (k:=1) (cs:=[0,2]) rfl rfl A1) (BV (Ar aP (rm hr) rfl An (Aa (AC (pv 0) rfl) (Aa (pv 1) Ab)))) (λ_ _ _=>(AW (i:=0) A1 rfl rfl)) (λ_ _ _=>BF) (λ_ _ _=>(AG (pv 1) aC (rm hr) An (Aa (pv 0) (AZ BY (pv 2) Ae Ab))))) (Ag (Aw (BW rfl (Bu.of (So:=Ah Bj) (No:=Db) (N:=["four","self"]) (k:=1) (cs:=[0]) rfl rfl A1) (BV (Ar aS (rm hr) rfl An (Aa (pv 3) Ab))) (λ_ _ _=>(AW (i:=0) A1 rfl rfl)) (λ_ _ _=>BF) (λ_ _ _=>(AG (QH (K:=K) rfl (pv 1) rfl) a9 (rm hr) An (Aa (pv 0) Ab))))))),?_⟩
  try dsimp only[cxK]
  obtain⟨q9,eq9,el9⟩:=id hl;have l46:l<=45:=by have:=(hj.ok.lev eq9).2;lia
  refine xwf rfl rfl hj.hp T.cl_Jumps T.na_Jumps_grove (DF _ _ _ _ _) (xq1 rfl ⟨g,G,n,l+1,rfl,hj.gr,hj.ok,hl,by lia,by lia,λA9 ks G3 H3 fr3 hg3 go3 hA3 l9 nine=>?_⟩);have hz3:=hz.fr fr3 hg3 go3;have hj3:=hz3.jw;have sz3:=hz3.sz fin
  skip
  have lv9:∀(t k:Nat),ks[t]?=some k->Al G3 k ((l+2:Nat):Int):=λt k e=>by
   have ht:=(B9.mp e).1;obtain⟨k',e1,e2,_⟩:=nine (t%3) (t/3) A0 A0;rw[show t%3+3*(t/3)=t by lia,e]at e1;cases e1;exact e2
  have kk9:∀(t k:Nat),ks[t]?=some k->Κ l l (Cr G3 (l+2) k):=λt k e=>by
   have ht:=(B9.mp e).1;obtain⟨k',e1,_,v⟩:=nine (t%3) (t/3) A0 A0;rw[show t%3+3*(t/3)=t by lia,e]at e1;cases e1;exact fin.ext (cl.nine2 hκ (t%3) (t/3) A0 A0) λx y hx hy=>(v x y hx hy).symm
  refine⟨A9,rfl,⟨_,SqL.of hA3⟩,?_⟩;refine De (xs:=ks.map λ(k:Nat)=>V.int (k:Int)) (λi acc H5=>∃(G5:Gv)(ys:List Nat)(c5:Nat),acc=ys.map toV/\ys.length=i/\FrJ g m H3 H5/\JZ a H5 g G5 Κ N (b+5) p dx mem pr r m/\AH G3 G5 c5/\Up (l+1) G3 H3 H5 m/\Paired (λk y=>JR r G5 l k y) (ks.take i) ys) ⟨G3,[],0,rfl,rfl,λb o e _ _ _ _ _=>e,hz3,AH.refl hj3.ok,Up.refl _ _ _ _,.nil⟩ (λi acc H5 _ z=>by obtain⟨_,_,_,_,_,fr,_⟩:=z;exact SqL.of ((fr.kps hj3.gr hj3.bs.long hj3.me) _ _ hA3 (.lst (by rw[B8];lia)))) ?_ ?_
  ·rintro i v acc H5 ev z5_;apply Be;intro G_ hG_;obtain⟨G5,ys,c5,rfl,ly,fr5,hz5,go5,up5,pr5⟩:=z5_;apply hG_;clear hG_ G_;rw[C0]at ev;obtain⟨k5,ek,rfl⟩:=D2.mp ev;have i9:i<9:=by have:=(B9.mp ek).1;lia
   have hj5:=hz5.jw
   skip
   refine⟨⟨[some (.int (k5:Int))],rfl,rfl⟩,by rw[B8,ly];exact T5 i9 A4,Gc (xwn rfl rfl hj5.hp (LJ _ _ _ _ _) rfl (xwb rfl rfl rfl ⟨p,dx,mem,pr,g,G5,Κ,N,b+5,r,m,k5,l,l,(show [V.ref p,V.int (k5:Int),V.int (((l+1:Nat):Int)-1)]=[V.ref p,V.int (k5:Int),V.int (l:Int)] by rw[show((l+1:Nat):Int)-1=(l:Int) by lia]),hz5,fin,cl,go5.lev (lv9 i k5 ek),hL,C1 l,(by rw[CM hj3.ok go5 (lv9 i k5 ek)];exact kk9 i k5 ek),by lia,λy G6 H6 c6 fr6 hz6 go6 jr6 up6=>⟨G6,ys++[y],_,by rw[C5];rfl,by rw[C4,ly];rfl,fr5.trans fr6,hz6,go5.trans go6,up5.trans up6 go5,?_⟩⟩))⟩;rw[F5,ek,Q4];exact A0b (Paired.imp (λk y z=>z.goes hj5.ok go6) pr5) jr6
  rintro acc H5 z2_ A5 hA5;apply Be;intro G_ hG_;obtain⟨G5,ys,c5,rfl,ly,fr5,hz5,go5,up5,pr5⟩:=z2_;have hj5:=hz5.jw;apply hG_;clear hG_ G_;rw[B8,l9]at ly;rw[B8,J0]at pr5;have nj:=PJ hj3.ok go5 nine pr5;apply Be;intro G_ hG_;obtain⟨y0,y1,y2,y3,y4,y5,y6,y7,y8,rfl⟩:=UR ys ly;apply hG_;clear hG_ G_
  skip
  generalize dF:upd H5 A5 _=H6;obtain⟨s5,hA5'⟩:=alc hA5 dF;have hz6:=hz5.same s5;have hj6:=hz6.jw;have f06:FrJ g m H H6:=(Fr.j fr3).trans (fr5.trans (Az.j s5));refine xq1 rfl ⟨A5,y0,y1,y2,y3,y4,y5,y6,y7,y8,rfl,hA5',λMM t0 t1 t2 t3 H7 s7 hM ht0 ht1 ht2 ht3=>?_⟩;have hz7:=hz6.same s7;have hj7:=hz7.jw;refine⟨MM,rfl,⟨_,SqL.of hM⟩,?_⟩;have p1:2^(l+1)=2^l*2:=F4 ..;have four:=Ow nj ht0 ht1 ht2 ht3;have okG5:=hj7.ok;refine De (xs:=[t0,t1,t2,t3].map V.ref) (λi acc H8=>∃(G8:Gv)(zs:List Nat),acc=zs.map toV/\zs.length=i/\Fr g H7 H8/\JZ a H8 g G8 Κ N (b+5+i) p dx mem pr r m/\AH G5 G8 i/\∀(t z:Nat),zs[t]?=some z->Al G8 z ((l+2:Nat):Int)/\Vw G8 (Bh r (2^l) (Cr G (l+1+2) n)) (l+1+1) z (2^(l+1)*(t%2)+2^l) (2^(l+1)*(t/2)+2^l)) ⟨G5,[],rfl,rfl,Fr.refl g H7,hz7,AH.refl okG5,λt z e=>(nomatch e)⟩ (λi acc H8 _ z=>by obtain⟨_,_,_,_,fr,_⟩:=z;exact SqL.of ((fr.kps hj7.gr hj7.bs.long) _ _ hM (.lst (by show 4<=50;decide)))) ?_ ?_
  ·rintro i v acc H8 ev z5_;apply Be;intro G_ hG_;obtain⟨G8,zs,rfl,lz,fr8,hz8,go8,vz⟩:=z5_;have hj8:=hz8.jw;have sz8:=hz8.sz fin;apply hG_;clear hG_ G_;rw[C0]at ev;obtain⟨tt,et,rfl⟩:=D2.mp ev;have i4:i<4:=(B9.mp et).1;apply Be;intro G_ hG_;obtain⟨f0,f1,f2,f3,htt,⟨m0,m1,m2,m3⟩,w0,w1,w2,w3⟩:=four i tt et;apply hG_;clear hG_ G_
   skip
   refine⟨⟨[some (.ref tt)],rfl,rfl⟩,by rw[B8,lz];exact T5 i4 A4,Gc (xwf rfl rfl hj8.hp T.cl_Jumps T.na_Jumps_grove (DF _ _ _ _ _) (xq3 rfl hj8.gr.hp (BQ g) (xq1 rfl ⟨g,G8,tt,f0,f1,f2,f3,((l+1:Nat):Int),rfl,hj8.gr,hj8.ok,(fr8.kps hj7.gr hj7.bs.long) _ _ htt (.inl .tup),⟨go8.lev m0,go8.lev m1,go8.lev m2,go8.lev m3⟩,by lia,by lia,λz G9 H9 fr9 hg9 go9 e9=>⟨G9,zs++[z],by rw[C5];rfl,by rw[C4,lz];rfl,fr8.trans fr9,hz8.fr fr9 hg9 go9,go8.trans go9,?_⟩⟩)))⟩;refine Rr lz (λt z' e=>?_) ?_
   ·obtain⟨q1,q2⟩:=vz t z' e;exact⟨go9.lev q1,q2.goes hj8.ok go9 q1⟩
   ·exact⟨⟨_,e9,by show((l+1:Nat):Int)+1=((l+2:Nat):Int);lia⟩,MO okG5 (go8.trans go9) m0 m1 m2 m3 w0 w1 w2 w3 e9⟩
  rintro acc H8 z2_ A8 hA8;apply Be;intro G_ hG_;obtain⟨G8,zs,rfl,lz,fr8,hz8,go8,vz⟩:=z2_;have hj8:=hz8.jw;have sz8:=hz8.sz fin;apply hG_;clear hG_ G_;apply Be;intro G_ hG_;obtain⟨z0,z1,z2,z3,rfl⟩:=OR zs lz;apply hG_;clear hG_ G_;have s8:Az H8 (upd H8 A8 (.lst ([z0,z1,z2,z3].map toV))):=Ao hA8;have go4:AH G5 G8 4:=go8;obtain⟨q0,x0⟩:=vz 0 z0 rfl;obtain⟨q1,x1⟩:=vz 1 z1 rfl;obtain⟨q2,x2⟩:=vz 2 z2 rfl;obtain⟨q3,x3⟩:=vz 3 z3 rfl;refine k A8 z0 z1 z2 z3 G8 _ _ (f06.trans ((Az.j s7).trans ((Fr.j fr8).trans (Az.j s8)))) (hz8.same s8) ((go3.trans go5).trans go4) (((((hz.upF (l+1) fr3).trans up5 go3).trans (hz5.upS _ s5) (go3.trans go5)).trans (hz6.upS _ s7) (go3.trans go5)).trans ((hz7.upF _ fr8).trans (hz8.upS _ s8) go8) (go3.trans go5)) Af ⟨q0,q1,q2,q3⟩ ⟨x0.at' A0 A0,x1.at' A0 A0,x2.at' A0 A0,x3.at' A0 A0⟩
theorem ok_freA{L d:Nat}{f:Addr}{fd:FuncData}(F:Fun K "fresh" "Jumps.fresh" Cg f fd)(T:Top K mg a)(d7:7<=d)(aD:BZ P w K mg base CX0 7 a.c_Jumps "middle_after" Cc (Qs a))(a9:BZ P w K mg base CX0 2 a.c_Grove "linked" AX (EI a))(aP:Cal P w K mg base CX0 3 "nine_parts" DZ (NU a))(aS:Cal P w K mg base CX0 1 "fours_of" Fz Lr)(aF:Cal P w K mg base CX0 3 "met_in_the_middle" Cm (Uz a))(aC:BZ P w K mg base CX0 d a.c_Jumps "reckoned" Bl (Ge a L))(cB:BZ P w K mg base CX0 (d+1) a.c_Jumps "four_halfway" BI (Qw a L)):AJ P w K mg base CX0 (d+2) f fd Dv (Tg a (L+1)):=by
 refine F.ok DR (λvs H Q E h=>?_) (λcdv A outer s H vs Q E hr h=>?_)
 ·apply Be;intro G_ hG_;obtain⟨p,dx,mem,pr,g,G,Κ,N,b,r,m,n,l,e,rfl,_⟩:=h;apply hG_;clear hG_ G_;rfl
 ·apply Be;intro G_ hG_;obtain⟨p,dx,mem,pr,g,G,Κ,N,b,r,m,n,l,e,rfl,hz,fin,cl,hl,hL,he,hκ,few,k⟩:=h;have hj:=hz.jw;have sz:=hz.sz fin;obtain⟨q,eq,el⟩:=id hl;apply hG_;clear hG_ G_;have l48:=(hj.ok.lev eq).2;have l46:l<=46:=by lia
  refine⟨_,(Ac (Aq (i:=3) DR.nd rfl (Or.inr rfl) (AC (pv 0) rfl)) (Ac (Aq (i:=4) DR.nd rfl (Or.inl rfl) (Aj Ax (AC (pv 3) rfl) (pv 1) (λ_ _=>rfl))) (Ac (AQ (AB Ct (pv 1) (Aj Ax (AC (pv 3) rfl) (pv 4) (λ_ _=>rfl)) (AF _)) (Ag (Aw (Aj Ax (AC (pv 3) rfl) (Ay BY (pv 4) Ae) (λ_ _=>rfl)))) AD) (Ac (AQ (AB Ct (pv 4) (Cb rfl T.k_LEAST_JUMPED) (AF _)) (Ag (Aw (AG (pv 0) aD (rm hr) An (Aa (pv 1) Ab)))) AD) (Ac (AQ (AB GJ (pv 2) (Ay BY (pv 4) (Cb rfl T.k_LEAST_JUMPED)) (AF _)) (Ac (Ie (i:=5) rfl DR.nd rfl rfl (Bu.of (So:=Ah Cg) (No:=EB) (N:=["part","self","e"]) (k:=1) (cs:=[0,2]) rfl rfl A1) (BV (Ar aP (rm hr) rfl An (Aa (pv 3) (Aa (pv 1) Ab)))) (λ_ _ _=>(AW (i:=0) A1 rfl rfl)) (λ_ _ _=>BF) (λ_ _ _=>(AG (pv 1) aC (rm hr) An (Aa (pv 0) (Aa (pv 2) Ab))))) (Ag (Aw (AG (pv 3) a9 (rm hr) An (Aa (Ba Ch rfl T.b_tuple K3 (Aa (BW rfl (Bu.of (So:=Ah Cg) (No:=EB) (N:=["four","grove"]) (k:=1) (cs:=[3]) rfl rfl A1) (BV (Ar aS (rm hr) rfl An (Aa (pv 5) Ab))) (λ_ _ _=>(AW (i:=0) A1 rfl rfl)) (λ_ _ _=>BF) (λ_ _ _=>(Ar aF (rm hr) rfl An (Aa (pv 1) (Aa (pv 0) Ab))))) Ab)) Ab))))) AD) (Ag (Aw (AG (pv 3) a9 (rm hr) An (Aa (Ba Ch rfl T.b_tuple K3 (Aa (BW rfl (Bu.of (So:=Ah Cg) (No:=EB) (N:=["four","self","e"]) (k:=1) (cs:=[0,2]) rfl rfl A1) (BV (AG (pv 0) cB (rm hr) An (Aa (pv 1) (Aa (pv 2) Ab)))) (λ_ _ _=>(AW (i:=0) A1 rfl rfl)) (λ_ _ _=>BF) (λ_ _ _=>(AG (pv 1) aC (rm hr) An (Aa (pv 0) (AZ BY (pv 2) Ae Ab))))) Ab)) Ab))))))))),?_⟩
  try dsimp only[cxK]
  refine xwf rfl rfl hj.hp T.cl_Jumps T.na_Jumps_grove (DF _ _ _ _ _) ?_;refine xq1 rfl ⟨g.p,_,g.dx,_,_,rfl,hj.gr.hp,T.cl_Grove,T.na_Grove_levels,FM g,_,rfl,g.lv,_,(n:Int),.int ((l+2:Nat):Int),rfl,rfl,SqL.of hj.gr.lv,Ai (by rw[C0,eq,<-el];rfl),?_⟩;refine xq1 rfl (xq1 rfl ⟨g.p,_,g.dx,_,_,rfl,hj.gr.hp,T.cl_Grove,T.na_Grove_bares,Jp g,_,rfl,g.br,_,((l+2:Nat):Int),.int (bareN (l+2):Int),rfl,rfl,SqL.of hj.br,Ai (bareJ A0),rfl,_,rfl,?_⟩);refine Gz (λhc=>?_) (λhc=>?_)
  ·have ei:n=bareN (l+2):=by
    have:=X4 hc;injection this with this
    exact Z8 this
   refine xwf rfl rfl hj.gr.hp T.cl_Grove T.na_Grove_bares (Jp g) (xwb rfl rfl rfl (xq4 rfl rfl (SqL.of hj.br) (by rw[show((l+2:Nat):Int)-1=((l+1:Nat):Int) by lia];exact Ai (bareJ A0)) ?_));refine k (bareN (l+1)) G H 0 (λb o e _ _ _ _ _=>e) (hz.mono A0) (AH.refl hj.ok) ?_ (Up.refl _ _ _ _);rw[ei];exact JR.bare hj.ok hj.bs hj.rest A0 he
  refine xq1 rfl ⟨rfl,(xq1 rfl ?_)⟩;cases l with
  |zero =>
   refine(show ∀{b:Bool}{A B:Prop},b=true->A->(if b=true then A else B)from λh x=>by rw[h];exact Cp x) (Y7 rfl) ?_;have e0:e=0:=by lia
   subst e0;obtain⟨ff,cn⟩:=hz.cn;obtain⟨kc,c1,c2⟩:=cn.ce;have sm:=cn.sum hj.ok fin hj.me.len;refine xwn rfl rfl hj.hp (noJ_mid _ _ _ _ _) rfl ⟨p,dx,mem,pr,g,G,N,kc.length,r,m,n,rfl,hj.tc c1,hl,by lia,by lia,λk' G' H' fr hj' go jr=>?_⟩;obtain⟨z1,z2⟩:=hz.mid cn c1 fr hj' go;exact k k' G' H' 1 fr.j (z1.mono A0) go jr (z2 _)
  |succ l =>
   refine(show ∀{b:Bool}{A B:Prop},b=false->B->(if b=true then A else B)from λh x=>by rw[h];exact Bo x) (Y9 (by intro z;injection z with z;have z:((l+1+2:Nat):Int)=2:=z;lia)) ?_;have hL:l<L:=by lia
   have p1:2^(l+1)=2^l*2:=F4 ..;refine xw2 rfl rfl (xq2 rfl rfl (xq2 rfl rfl (xq1 rfl ?_)));refine Gz (λhc=>?_) (λhc=>?_)
   ·have el':e<=l:=by
     have hc:=X4 hc;have hc:(e:Int)<((l+1+2:Nat):Int)-2:=hc;lia
    obtain⟨q9,eq9,el9⟩:=id hl;have l46:l<=45:=by have:=(hj.ok.lev eq9).2;lia
    refine xw2 rfl rfl ⟨g,G,n,l+1,rfl,hj.gr,hj.ok,hl,by lia,by lia,λA9 ks G3 H3 fr3 hg3 go3 hA3 l9 nine=>?_⟩;have hz3:=hz.fr fr3 hg3 go3;have hj3:=hz3.jw;have sz3:=hz3.sz fin
    skip
    have lv9:∀(t k:Nat),ks[t]?=some k->Al G3 k ((l+2:Nat):Int):=λt k e=>by
     have ht:=(B9.mp e).1;obtain⟨k',e1,e2,_⟩:=nine (t%3) (t/3) A0 A0;rw[show t%3+3*(t/3)=t by lia,e]at e1;cases e1;exact e2
    have kk9:∀(t k:Nat),ks[t]?=some k->Κ l e (Cr G3 (l+2) k):=λt k e=>by
     have ht:=(B9.mp e).1;obtain⟨k',e1,_,v⟩:=nine (t%3) (t/3) A0 A0;rw[show t%3+3*(t/3)=t by lia,e]at e1;cases e1;exact fin.ext (cl.nine1 hκ el' (t%3) (t/3) A0 A0) λx y hx hy=>(v x y hx hy).symm
    refine⟨A9,rfl,⟨_,SqL.of hA3⟩,?_⟩;refine De (xs:=ks.map λ(k:Nat)=>V.int (k:Int)) (λi acc H5=>∃(G5:Gv)(ys:List Nat)(c5:Nat),acc=ys.map toV/\ys.length=i/\FrJ g m H3 H5/\JZ a H5 g G5 Κ N (b+5) p dx mem pr r m/\AH G3 G5 c5/\Up (l+1) G3 H3 H5 m/\Paired (λk y=>JR r G5 e k y) (ks.take i) ys) ⟨G3,[],0,rfl,rfl,λb o e _ _ _ _ _=>e,hz3,AH.refl hj3.ok,Up.refl _ _ _ _,.nil⟩ (λi acc H5 _ z=>by obtain⟨_,_,_,_,_,fr,_⟩:=z;exact SqL.of ((fr.kps hj3.gr hj3.bs.long hj3.me) _ _ hA3 (.lst (by rw[B8];lia)))) ?_ ?_
    ·rintro i v acc H5 ev z5_;apply Be;intro G_ hG_;obtain⟨G5,ys,c5,rfl,ly,fr5,hz5,go5,up5,pr5⟩:=z5_;apply hG_;clear hG_ G_;rw[C0]at ev;obtain⟨k5,ek,rfl⟩:=D2.mp ev;have i9:i<9:=by have:=(B9.mp ek).1;lia
     have hj5:=hz5.jw
     skip
     refine⟨⟨[some (.int (k5:Int))],rfl,rfl⟩,by rw[B8,ly];exact T5 i9 A4,Gc (xwn rfl rfl hj5.hp (LJ _ _ _ _ _) rfl (xq1 rfl ⟨p,dx,mem,pr,g,G5,Κ,N,b+5,r,m,k5,l,e,rfl,hz5,fin,cl,go5.lev (lv9 i k5 ek),hL,el',(by rw[CM hj3.ok go5 (lv9 i k5 ek)];exact kk9 i k5 ek),by lia,λy G6 H6 c6 fr6 hz6 go6 jr6 up6=>⟨G6,ys++[y],_,by rw[C5];rfl,by rw[C4,ly];rfl,fr5.trans fr6,hz6,go5.trans go6,up5.trans up6 go5,?_⟩⟩))⟩;rw[F5,ek,Q4];exact A0b (Paired.imp (λk y z=>z.goes hj5.ok go6) pr5) jr6
    rintro acc H5 z2_ A5 hA5;apply Be;intro G_ hG_;obtain⟨G5,ys,c5,rfl,ly,fr5,hz5,go5,up5,pr5⟩:=z2_;have hj5:=hz5.jw;apply hG_;clear hG_ G_;rw[B8,l9]at ly;rw[B8,J0]at pr5;have nj:=PJ hj3.ok go5 nine pr5;apply Be;intro G_ hG_;obtain⟨y0,y1,y2,y3,y4,y5,y6,y7,y8,rfl⟩:=UR ys ly;apply hG_;clear hG_ G_
    skip
    generalize dF:upd H5 A5 _=H6;obtain⟨s5,hA5'⟩:=alc hA5 dF;have hz6:=hz5.same s5;have hj6:=hz6.jw;have f06:FrJ g m H H6:=(Fr.j fr3).trans (fr5.trans (Az.j s5));refine xwm rfl rfl hj6.gr.hp (BQ g) ?_;refine xq1 rfl ⟨A5,y0,y1,y2,y3,y4,y5,y6,y7,y8,rfl,hA5',λMM t0 t1 t2 t3 H7 s7 hM ht0 ht1 ht2 ht3=>?_⟩;have hz7:=hz6.same s7;have hj7:=hz7.jw;refine⟨MM,rfl,⟨_,SqL.of hM⟩,?_⟩;have four:=Ow nj ht0 ht1 ht2 ht3;have okG5:=hj7.ok;refine De (xs:=[t0,t1,t2,t3].map V.ref) (λi acc H8=>∃(G8:Gv)(zs:List Nat),acc=zs.map toV/\zs.length=i/\Fr g H7 H8/\JZ a H8 g G8 Κ N (b+5+i) p dx mem pr r m/\AH G5 G8 i/\∀(t z:Nat),zs[t]?=some z->Al G8 z ((l+1:Nat):Int)/\Vw G8 (Bh r (2^e) (Cr G (l+1+2) n)) (l+1) z (2^(l+1)*(t%2)+2^(l+1)) (2^(l+1)*(t/2)+2^(l+1))) ⟨G5,[],rfl,rfl,Fr.refl g H7,hz7,AH.refl okG5,λt z e=>(nomatch e)⟩ (λi acc H8 _ z=>by obtain⟨_,_,_,_,fr,_⟩:=z;exact SqL.of ((fr.kps hj7.gr hj7.bs.long) _ _ hM (.lst (by show 4<=50;decide)))) ?_ ?_
    ·rintro i v acc H8 ev z5_;apply Be;intro G_ hG_;obtain⟨G8,zs,rfl,lz,fr8,hz8,go8,vz⟩:=z5_;have hj8:=hz8.jw;have sz8:=hz8.sz fin;apply hG_;clear hG_ G_;rw[C0]at ev;obtain⟨tt,et,rfl⟩:=D2.mp ev;have i4:i<4:=(B9.mp et).1;apply Be;intro G_ hG_;obtain⟨f0,f1,f2,f3,htt,⟨m0,m1,m2,m3⟩,w0,w1,w2,w3⟩:=four i tt et;apply hG_;clear hG_ G_
     skip
     have qg:∀{f:Nat}(j:Nat),Al G5 f ((l+1:Nat):Int)->qO G8 f j=qO G5 f j:=λ{f} j h=>by
      obtain⟨q,e,_⟩:=h;unfold qO;rw[go8.get e,e]
     refine⟨⟨[some (.ref tt)],rfl,rfl⟩,by rw[B8,lz];exact T5 i4 A4,Gc (xw2 rfl rfl ⟨g,G8,tt,f0,f1,f2,f3,l,rfl,hj8.gr,hj8.ok,(fr8.kps hj7.gr hj7.bs.long) _ _ htt (.inl .tup),⟨go8.lev m0,go8.lev m1,go8.lev m2,go8.lev m3⟩,by lia,by lia,λz G9 H9 fr9 hg9 go9 e9=>⟨G9,zs++[z],by rw[C5];rfl,by rw[C4,lz];rfl,fr8.trans fr9,hz8.fr fr9 hg9 go9,go8.trans go9,?_⟩⟩)⟩;rw[qg 3 m0,qg 2 m1,qg 1 m2,qg 0 m3]at e9;refine Rr lz (λt z' e=>?_) ?_
     ·obtain⟨q1,q2⟩:=vz t z' e;exact⟨go9.lev q1,q2.goes hj8.ok go9 q1⟩
     ·exact⟨⟨_,e9,by show(l:Int)+1=((l+1:Nat):Int);lia⟩,(YJ okG5 (go8.trans go9) m0 m1 m2 m3 w0 w1 w2 w3 e9).at' A0 A0⟩
    rintro acc H8 z2_ A8 hA8;apply Be;intro G_ hG_;obtain⟨G8,zs,rfl,lz,fr8,hz8,go8,vz⟩:=z2_;have hj8:=hz8.jw;have sz8:=hz8.sz fin;apply hG_;clear hG_ G_;apply Be;intro G_ hG_;obtain⟨z0,z1,z2,z3,rfl⟩:=OR zs lz;apply hG_;clear hG_ G_;have go4:AH G5 G8 4:=go8;have hz8:JZ a H8 g G8 Κ N (b+5+4) p dx mem pr r m:=hz8;have sz8:=hz8.sz fin;have go08:=(go3.trans go5).trans go4;have f08:FrJ g m H H8:=f06.trans ((Az.j s7).trans (Fr.j fr8));generalize dL:upd H8 A8 _=H9;obtain⟨s8,hA8'⟩:=alc hA8 dL;refine⟨A8,(xq1 rfl (.inl ⟨SqL.of hA8',λu hu=>?_⟩))⟩;have hz9:=hz8.same s8;have hj9:=hz9.jw;obtain⟨q0,x0⟩:=vz 0 z0 rfl;obtain⟨q1,x1⟩:=vz 1 z1 rfl;obtain⟨q2,x2⟩:=vz 2 z2 rfl;obtain⟨q3,x3⟩:=vz 3 z3 rfl
    skip
    refine lnk (⟨.refl _ _,λe=>e,hj9.gr,.refl hj9.ok⟩:Ln a g H9 G8 0 H9 G8) hu ⟨q0,q1,q2,q3⟩ A0 A0 λz G11 H11 l11 go11 e11=>?_;refine k z G11 H11 _ (f08.trans ((Az.j s8).trans (Fr.j l11.fr))) ((hz9.fr l11.fr l11.gr go11).mono A0) (go08.trans go11) ?_ (((((hz.upF (l+1) fr3).trans up5 go3).trans (hz5.upS _ s5) (go3.trans go5)).trans (hz6.upS _ s7) (go3.trans go5)).trans (((hz7.upF _ fr8).trans (hz8.upS _ s8) go8).trans (hz9.upF _ l11.fr) go8) (go3.trans go5));have goz:=go08.trans go11;refine Vw.jr (goz.lev hl) he ⟨_,e11,by show((l+1:Nat):Int)+1=((l+1+1:Nat):Int);lia⟩ ?_;rw[CM hj.ok goz hl];exact MO hj9.ok go11 q0 q1 q2 q3 (x0.at' A0 A0) (x1.at' A0 A0) (x2.at' A0 A0) (x3.at' A0 A0) e11
   ·have el':e=l+1:=by
     have hc:¬(e:Int)<((l+1+2:Nat):Int)-2:=λz=>hc (Y7 z);lia
    subst el';refine xwm rfl rfl hj.gr.hp (BQ g) ?_;refine xwn rfl rfl hj.hp (YB _ _ _ _ _) rfl (xq1 rfl ⟨p,dx,mem,pr,g,G,Κ,N,b,r,m,n,l,rfl,hz,fin,cl,hl,hL,hκ,by lia,λA7 f0 f1 f2 f3 G5 H7 i5 f07 hz7 go5 up7 hA7 lvs vws=>?_⟩);apply Be;intro G_ hG_;obtain⟨m0,m1,m2,m3⟩:=lvs;obtain⟨w0,w1,w2,w3⟩:=vws;apply hG_;clear hG_ G_
    skip
    refine⟨A7,rfl,⟨_,SqL.of hA7⟩,?_⟩;have hj7:=hz7.jw;have okG5:=hj7.ok;have four:∀(t f:Nat),[f0,f1,f2,f3][t]?=some f->Al G5 f ((l+2:Nat):Int)/\Vw G5 (Bh r (2^l) (Cr G (l+1+2) n)) (l+2) f (2^(l+1)*(t%2)+2^l) (2^(l+1)*(t/2)+2^l):=λt f et=>by
     match t,et with
     |0,et=>cases et;exact⟨m0,w0.at' A0 A0⟩
     |1,et=>cases et;exact⟨m1,w1.at' A0 A0⟩
     |2,et=>cases et;exact⟨m2,w2.at' A0 A0⟩
     |3,et=>cases et;exact⟨m3,w3.at' A0 A0⟩
     |j+4,et=>cases et
    have dbl:Bh r (2^l) (Bh r (2^l) (Cr G (l+1+2) n))=Bh r (2^(l+1)) (Cr G (l+1+2) n):=by
     rw[<-RF,p1,Nat.mul_two]
    refine De (xs:=[f0,f1,f2,f3].map toV) (λi acc H8=>∃(G8:Gv)(zs:List Nat)(c8:Nat),acc=zs.map toV/\zs.length=i/\FrJ g m H7 H8/\JZ a H8 g G8 Κ N (b+9) p dx mem pr r m/\AH G5 G8 c8/\Up (l+1) G5 H7 H8 m/\∀(t z:Nat),zs[t]?=some z->Al G8 z ((l+1:Nat):Int)/\Vw G8 (Bh r (2^(l+1)) (Cr G (l+1+2) n)) (l+1) z (2^(l+1)*(t%2)+2^(l+1)) (2^(l+1)*(t/2)+2^(l+1))) ⟨G5,[],0,rfl,rfl,λb o e _ _ _ _ _=>e,hz7,AH.refl okG5,Up.refl _ _ _ _,λt z e=>(nomatch e)⟩ (λi acc H8 _ z=>by obtain⟨_,_,_,_,_,fr,_⟩:=z;exact SqL.of ((fr.kps hj7.gr hj7.bs.long hj7.me) _ _ hA7 (.lst (by show 4<=50;decide)))) ?_ ?_
    ·rintro i v acc H8 ev z5_;apply Be;intro G_ hG_;obtain⟨G8,zs,c8,rfl,lz,fr8,hz8,go8,up8,vz⟩:=z5_;have hj8:=hz8.jw;have sz8:=hz8.sz fin;apply hG_;clear hG_ G_;rw[C0]at ev;obtain⟨ff,et,rfl⟩:=D2.mp ev;have i4:i<4:=(B9.mp et).1;obtain⟨mf,wf⟩:=four i ff et
     skip
     refine⟨⟨[some (toV ff)],rfl,rfl⟩,by rw[B8,lz];exact T5 i4 A4,Gc (xwn rfl rfl hj8.hp (LJ _ _ _ _ _) rfl (xwb rfl rfl rfl ⟨p,dx,mem,pr,g,G8,Κ,N,b+9,r,m,ff,l,l,(show [V.ref p,V.int (ff:Int),V.int (((l+1:Nat):Int)-1)]=[V.ref p,V.int (ff:Int),V.int (l:Int)] by rw[show((l+1:Nat):Int)-1=(l:Int) by lia]),hz8,fin,cl,go8.lev mf,hL,C1 l,(by rw[CM okG5 go8 mf];exact fin.ext (cl.four hκ (i%2) (i/2) A0 A0) λx y hx hy=>(wf x y hx hy).symm),by lia,λz G9 H9 c9 fr9 hz9 go9 jr9 up9=>⟨G9,zs++[z],_,by rw[C5];rfl,by rw[C4,lz];rfl,fr8.trans fr9,hz9,go8.trans go9,up8.trans up9 go8,?_⟩⟩))⟩;refine Rr lz (λt z' e=>?_) ?_
     ·obtain⟨q1,q2⟩:=vz t z' e;exact⟨go9.lev q1,q2.goes hj8.ok go9 q1⟩
     ·obtain⟨r1,_,r3⟩:=jr9.view ((go8.trans go9).lev mf) (wf.goes okG5 (go8.trans go9) mf);rw[dbl]at r3;exact⟨r1,r3.at' A0 A0⟩
    rintro acc H8 z2_ A8 hA8;apply Be;intro G_ hG_;obtain⟨G8,zs,c8,rfl,lz,fr8,hz8,go8,up8,vz⟩:=z2_;have hj8:=hz8.jw;have sz8:=hz8.sz fin;apply hG_;clear hG_ G_;apply Be;intro G_ hG_;obtain⟨z0,z1,z2,z3,rfl⟩:=OR zs lz;apply hG_;clear hG_ G_;have go08:=go5.trans go8;have f08:FrJ g m H H8:=f07.trans fr8;generalize dL:upd H8 A8 _=H9;obtain⟨s8,hA8'⟩:=alc hA8 dL;refine⟨A8,(xq1 rfl (.inl ⟨SqL.of hA8',λu hu=>?_⟩))⟩;have hz9:=hz8.same s8;have hj9:=hz9.jw;obtain⟨q0,x0⟩:=vz 0 z0 rfl;obtain⟨q1,x1⟩:=vz 1 z1 rfl;obtain⟨q2,x2⟩:=vz 2 z2 rfl;obtain⟨q3,x3⟩:=vz 3 z3 rfl
    skip
    refine lnk (⟨.refl _ _,λe=>e,hj9.gr,.refl hj9.ok⟩:Ln a g H9 G8 0 H9 G8) hu ⟨q0,q1,q2,q3⟩ A0 A0 λz G11 H11 l11 go11 e11=>?_;refine k z G11 H11 _ (f08.trans ((Az.j s8).trans (Fr.j l11.fr))) ((hz9.fr l11.fr l11.gr go11).mono A0) (go08.trans go11) ?_ ((up7.trans up8 go5).trans ((hz8.upS _ s8).trans (hz9.upF _ l11.fr) (AH.refl hj8.ok)) go08);have goz:=go08.trans go11;refine Vw.jr (goz.lev hl) he ⟨_,e11,by show((l+1:Nat):Int)+1=((l+1+1:Nat):Int);lia⟩ ?_;rw[CM hj.ok goz hl];exact MO hj9.ok go11 q0 q1 q2 q3 (x0.at' A0 A0) (x1.at' A0 A0) (x2.at' A0 A0) (x3.at' A0 A0) e11
theorem ok_recB{L d:Nat}{f:Addr}{fd:FuncData}(F:Fun K "reckoned" "Jumps.reckoned" Dg f fd)(T:Top K mg a)(cV:BZ P w K mg base CX0 d a.c_Jumps "fresh" Dv (Tg a L)):AJ P w K mg base CX0 (d+1) f fd Bl (Ge a L):=by
 refine F.ok DQ (λvs H Q E h=>?_) (λcdv A outer s H vs Q E hr h=>?_)
 ·apply Be;intro G_ hG_;obtain⟨p,dx,mem,pr,g,G,Κ,N,b,r,m,n,l,e,rfl,_⟩:=h;apply hG_;clear hG_ G_;rfl
 ·apply Be;intro G_ hG_;obtain⟨p,dx,mem,pr,g,G,Κ,N,b,r,m,n,l,e,rfl,hz,fin,cl,hl,hL,he,hκ,few,k⟩:=h;have hj:=hz.jw;have sz:=hz.sz fin;apply hG_;clear hG_ G_;obtain⟨q,eq,el⟩:=id hl;have l48:=(hj.ok.lev eq).2;have e47:e<m.ds.length:=by rw[hj.me.len];lia
  obtain⟨d,ed⟩:∃d,m.ds[e]?=some d:=⟨m.ds[e]'e47,C8 _⟩
  apply Be;intro G_ hG_;obtain⟨kv,hd,dl,dk,dv⟩:=hj.me.sq e d ed;apply hG_;clear hG_ G_;refine⟨_,(Ac (Aq (i:=3) DQ.nd rfl (Or.inl rfl) (LG (FK hr) (Aj Ax (AC (pv 0) rfl) (pv 2) (λ_ _=>rfl)) (pv 1) ⟨rfl,rfl,rfl,rfl⟩)) (Ac (AQ (AB Jg (pv 3) DC (AF _)) (Ac (Aq (i:=3) DQ.nd rfl (Or.inl rfl) (AG (pv 0) cV (rm hr) An (Aa (pv 1) (Aa (pv 2) Ab)))) (Ag (Ig (FK hr) (Aj Ax (AC (pv 0) rfl) (pv 2) (λ_ _=>rfl)) (pv 1) (pv 3) rfl))) AD) (Ag (Aw (pv 3))))),?_⟩
  try dsimp only[cxK]
  have ed':atI (m.ds.map V.ref) (e:Int)=some (.ref d):=Ai (by rw[C0,ed];rfl);refine xwf rfl rfl hj.hp T.cl_Jumps T.na_Jumps_known_squares (YY _ _ _ _ _) (xwi rfl rfl rfl (SqL.of hj.me.l) ed' ⟨d,rfl,.inl ⟨_,.inl hd⟩,(xq1 rfl ⟨_,IO.k (k:=Sum.inl (n:Int)) hd,?_⟩)⟩);apply OI (fun σ H1=>∃(x:Nat)(G':Gv),σ=[some (.ref p),some (.int (n:Int)),some (.int (e:Int)),some (.int (x:Int))]/\FrJ g m H H1/\JZ a H1 g G' Κ N b p dx mem pr r m/\(∃i,AH G G' i)/\JR r G' e n x/\Up (l+1) G H H1 m)
  ·intro rest;refine xq1 rfl ⟨rfl,(xq1 rfl ?_)⟩;cases ev:BM kv (Sum.inl (n:Int))with
   |some v =>
    obtain⟨x,rfl,jr⟩:=dv n v ev;exact Bo (rest _ _ ⟨x,G,rfl,λb o e _ _ _ _ _=>e,hz,⟨0,AH.refl hj.ok⟩,jr,Up.refl _ _ _ _⟩)
   |none =>
    refine Cp ?_;refine xwn rfl rfl hj.hp (VQ _ _ _ _ _) rfl (xq1 rfl ⟨p,dx,mem,pr,g,G,Κ,N,b,r,m,n,l,e,rfl,hz,fin,cl,hl,hL,he,hκ,few,λx G' H' i' fr hz' go jr up=>?_⟩);apply Be;intro G_ hG_;have hj':=hz'.jw;obtain⟨kv',hd',dl',dk',dv'⟩:=hj'.me.sq e d ed;apply hG_;clear hG_ G_;refine xw2 rfl rfl (xq5 hj'.hp T.cl_Jumps T.na_Jumps_known_squares (YY _ _ _ _ _) (xwi rfl rfl rfl (SqL.of hj'.me.l) ed' (xq1 rfl ⟨d,(xq1 rfl ⟨Mf.k (k:=Sum.inl (n:Int)) hd' (F6 (show kv'.length<=9000000 by lia) A4),?_⟩)⟩)));have no':=up e n l hl (C1 l) (λd2 kv2 ed2 hd2=>by rw[ed]at ed2;cases ed2;rw[hd]at hd2;cases hd2;exact ev) d kv' ed hd';obtain⟨z1,z2⟩:=hz'.put fin ed hd' no' (go.lev hl) (by rw[CM hj.ok go hl];exact hκ) jr;exact rest _ _ ⟨x,G',rfl,λb o e n1 n2 n3 n4 n5=>by rw[As (λz=>n5 (by rw[z];exact D1 ed))];exact fr _ _ e n1 n2 n3 n4 n5,z1,⟨i',go⟩,jr,(up.mono (R3 l)).trans z2 go⟩
  rintro σ H1 z2_;apply Be;intro G_ hG_;obtain⟨x,G',rfl,fr,hz',⟨i',go⟩,jr,up⟩:=z2_;apply hG_;clear hG_ G_;exact xq1 rfl (k x G' H1 i' fr hz' go jr up)
theorem UP{f fh ff:Addr}{fd fdh fdf:FuncData}(F:Fun K "reckoned" "Jumps.reckoned" Dg f fd)(Fh:Fun K "four_halfway" "Jumps.four_halfway" Bj fh fdh)(Ff:Fun K "fresh" "Jumps.fresh" Cg ff fdf)(T:Top K mg a)(Me:Pt K a.c_Jumps "reckoned" f)(Bi:CV K fd Bl [])(Meh:Pt K a.c_Jumps "four_halfway" fh)(Bih:CV K fdh BI [])(Mef:Pt K a.c_Jumps "fresh" ff)(Bif:CV K fdf Dv [])(aD:BZ P w K mg base CX0 7 a.c_Jumps "middle_after" Cc (Qs a))(a9:BZ P w K mg base CX0 2 a.c_Grove "linked" AX (EI a))(aP:Cal P w K mg base CX0 3 "nine_parts" DZ (NU a))(aS:Cal P w K mg base CX0 1 "fours_of" Fz Lr)(aF:Cal P w K mg base CX0 3 "met_in_the_middle" Cm (Uz a)):∀L,AJ P w K mg base CX0 (10+3*L) f fd Bl (Ge a L)
 |0=>(AJ.no (k:=10)).imp λvs H Q E h=>by
  apply Be;intro G_ hG_;obtain⟨p,dx,mem,pr,g,G,Κ,N,b,r,m,n,l,e,_,_,_,_,_,hL,_⟩:=h;apply hG_;clear hG_ G_;exact absurd hL (N1 l)
 |L+1=>by
  have ih:=UP F Fh Ff T Me Bi Meh Bih Mef Bif aD a9 aP aS aF L;have M1:BZ P w K mg base CX0 (10+3*L) a.c_Jumps "reckoned" Bl (Ge a L):=⟨⟨_,_,ih,Me,Bi⟩,T.cl_Jumps⟩
  have h2:=Yt Fh T A0 aP aS a9 M1;have M2:BZ P w K mg base CX0 (10+3*L+1) a.c_Jumps "four_halfway" BI (Qw a L):=⟨⟨_,_,h2,Meh,Bih⟩,T.cl_Jumps⟩
  have h3:=ok_freA Ff T A0 aD a9 aP aS aF M1 M2;have M3:BZ P w K mg base CX0 (10+3*L+2) a.c_Jumps "fresh" Dv (Tg a (L+1)):=⟨⟨_,_,h3,Mef,Bif⟩,T.cl_Jumps⟩
  exact ok_recB F T M3
theorem VM{L d:Nat}{f:Addr}{fd:FuncData}(F:Fun K "after" "Jumps.after" Gm f fd)(T:Top K mg a)(d4:4<=d)(aY:BZ P w K mg base CX0 4 a.c_Jumps "check_jump" DD (spCj a))(aC:BZ P w K mg base CX0 d a.c_Jumps "reckoned" Bl (Ge a L)):AJ P w K mg base CX0 (d+1) f fd Gu (Ge a L):=by
 refine F.ok Oe (λvs H Q E h=>?_) (λcdv A outer s H vs Q E hr h=>?_)
 ·apply Be;intro G_ hG_;obtain⟨p,dx,mem,pr,g,G,Κ,N,b,r,m,n,l,e,rfl,_⟩:=h;apply hG_;clear hG_ G_;rfl
 ·apply Be;intro G_ hG_;obtain⟨p,dx,mem,pr,g,G,Κ,N,b,r,m,n,l,e,rfl,hz,fin,cl,hl,hL,he,hκ,few,k⟩:=h;have hj:=hz.jw;have sz:=hz.sz fin;obtain⟨q,eq,el⟩:=id hl;apply hG_;clear hG_ G_;refine⟨_,(Ac (BG (AG (pv 0) aY (rm hr) An (Aa (pv 1) (Aa (pv 2) Ab)))) (Ag (Aw (AG (pv 0) aC (rm hr) An (Aa (pv 1) (Aa (pv 2) Ab)))))),?_⟩
  try dsimp only[cxK]
  refine xwn rfl rfl hj.hp (VR _ _ _ _ _) rfl (xq1 rfl ⟨p,dx,g.p,mem,pr,m.l,m.kc,g,G,n,e,q,rfl,hj.hp,hj.gr,eq,by rw[el];lia,?_⟩);exact xwn rfl rfl hj.hp (LJ _ _ _ _ _) rfl (xq1 rfl ⟨p,dx,mem,pr,g,G,Κ,N,b,r,m,n,l,e,rfl,hz,fin,cl,hl,hL,he,hκ,few,k⟩)
end
theorem CK(l:Nat):(2:Int)^(l+1)=2^l+2^l:=by rw[S3];lia
def IF(x y w h r:Int):Prop:=-r<=x/\-r<=y/\x+w<=r/\y+h<=r
instance(x y w h r:Int):Decidable (IF x y w h r):=by unfold IF;infer_instance
theorem lies_b(x y w h r:Int):(decide (-r<=x) && (decide (-r<=y) && (decide (x+w<=r) && decide (y+h<=r))))=decide (IF x y w h r):=by
 rw[S0];simp only[P9,A4f];exact Iff.rfl
structure Wid(G:Gv)(n f w:Nat):Prop where
 ex:∃(q:Sq)(x y z v a b c d:Nat),IC G n f q x y z v/\G[a]?=some ⟨[(bareN n:Int),(bareN n:Int),(bareN n:Int),(x:Int)],(n:Int)+1⟩/\G[b]?=some ⟨[(bareN n:Int),(bareN n:Int),(y:Int),(bareN n:Int)],(n:Int)+1⟩ /\
  G[c]?=some ⟨[(bareN n:Int),(z:Int),(bareN n:Int),(bareN n:Int)],(n:Int)+1⟩/\G[d]?=some ⟨[(v:Int),(bareN n:Int),(bareN n:Int),(bareN n:Int)],(n:Int)+1⟩/\G[w]?=some ⟨[(a:Int),(b:Int),(c:Int),(d:Int)],(n:Int)+2⟩
theorem Wid.lev{G:Gv}{n f w:Nat}(h:Wid G n f w):Al G w ((n+2:Nat):Int):=by
 obtain⟨q,x,y,z,v,a,b,c,d,nd,ea,eb,ec,ed,ew⟩:=h.ex;exact⟨_,ew,by show(n:Int)+2=_;lia⟩
theorem Wid.app{G G':Gv}{k n f w:Nat}(go:AH G G' k)(h:Wid G n f w):Wid G' n f w:=by
 obtain⟨q,x,y,z,v,a,b,c,d,nd,ea,eb,ec,ed,ew⟩:=h.ex;exact⟨q,x,y,z,v,a,b,c,d,nd.app go,go.get ea,go.get eb,go.get ec,go.get ed,go.get ew⟩
theorem GN{G r:Gv}(e:G=G0++r){n:Nat}(h:n<=48):Al G (bareN n) (n:Int):=by
 rw[e];exact(Zj n h).app
theorem bareL_at'{l:Nat}(h:l<=48):((Df 48).map V.int)[l]?=some (.int (bareN l:Int)):=by
 unfold Df;rw[C0,C0,N8 A0];rfl
section
variable{P:Program}{w:World}{K:PySem.W.Frag}{mg:Str->Option Value}{base:Heap}{a:Ad}
inductive SpLie(vs:List V)(H:Hp)(Q:VK):Prop
 |mk (t:Addr) (x y w h r:Int) (_:vs=[.ref t,.int r]) (_:H t=some (.tup [.int x,.int y,.int w,.int h])) (_:Q (.bl (decide (IF x y w h r))) H):SpLie vs H Q
def RM:Sp:=λvs H Q _=>SpLie vs H Q
theorem ok_lie{f:Addr}{fd:FuncData}(F:Fun K "lies_within" "lies_within" Gi f fd)(T:Top K mg a):AJ P w K mg base CX0 1 f fd Du RM:=by
 refine F.ok Oa (λvs H Q E h=>?_) (λcdv A outer s H vs Q E hr h=>?_)
 ·obtain⟨t,x,y,w,h,r,rfl,_⟩:=h;rfl
 ·obtain⟨t,x,y,wd,hh,r,rfl,ht,k⟩:=h;rw[<-lies_b]at k;refine⟨_,(Ag (Aw (Ii (CQ LI (LE GO (pv 1)) (Aj Am (pv 0) Ae (λ_ _=>rfl)) (AF _)) (Ii (CQ LI (LE GO (pv 1)) (Aj Am (pv 0) Ae (λ_ _=>rfl)) (AF _)) (Ii (CQ LI (Ay AL (Aj Am (pv 0) Ae (λ_ _=>rfl)) (Aj Am (pv 0) Ae (λ_ _=>rfl))) (pv 1) (AF _)) (Lf (CQ LI (Ay AL (Aj Am (pv 0) Ae (λ_ _=>rfl)) (Aj Am (pv 0) Ae (λ_ _=>rfl))) (pv 1) (AF _)))))))),?_⟩
  try dsimp only[cxK]
  refine xw3 rfl rfl rfl (xq4 rfl rfl (SqT.of ht) (Ai (j:=0) rfl) (xq2 rfl rfl (NO (λ_ Q1 q1=>?_) k)));refine xw3 rfl rfl rfl (xq4 rfl rfl (SqT.of ht) (Ai (j:=1) rfl) (xq2 rfl rfl (NO (λ_ Q2 q2=>?_) q1)));refine xwi rfl rfl rfl (SqT.of ht) (Ai (j:=0) rfl) (xwi rfl rfl rfl (SqT.of ht) (Ai (j:=2) rfl) (xq2 rfl rfl (xwb rfl rfl rfl (NO (λ_ Q3 q3=>?_) q2))));exact xwi rfl rfl rfl (SqT.of ht) (Ai (j:=1) rfl) (xwi rfl rfl rfl (SqT.of ht) (Ai (j:=3) rfl) (xq2 rfl rfl (xwb rfl rfl rfl q3)))
inductive Vo(a:Ad)(vs:List V)(H:Hp)(Q:VK):Prop
 |mk (g:GA) (G:Gv) (i n:Nat) (_:vs=[.ref g.p,.int i]) (_:AI a H g G) (_:Al G i ((n+1:Nat):Int)) (_:n<48) (_:Q (.int (2^n)) H):Vo a vs H Q
def Ju(a:Ad):Sp:=λvs H Q _=>Vo a vs H Q
theorem Yo{f:Addr}{fd:FuncData}(F:Fun K "reach_of" "reach_of" JU f fd)(T:Top K mg a)(aA:BZ P w K mg base CX0 3 a.c_Grove "level_of" Bm (Nb a)):AJ P w K mg base CX0 4 f fd Em (Ju a):=by
 refine F.ok RO (λvs H Q E h=>?_) (λcdv A outer s H vs Q E hr h=>?_)
 ·obtain⟨g,G,i,n,rfl,_⟩:=h;rfl
 ·obtain⟨g,G,i,n,rfl,hg,⟨q,e,el⟩,n48,k⟩:=h;refine⟨_,(Ag (Aw (Ay Li Ae (Ay BY (AG (pv 0) aA (rm hr) An (Aa (pv 1) Ab)) Ae)))),?_⟩
  try dsimp only[cxK]
  have en:q.lev=(n:Int)+1:=by rw[el];lia
  refine xwn rfl rfl hg.hp (Et g) rfl ⟨g,G,i,q,rfl,hg,e,(xq2 rfl rfl (xq2 rfl rfl ⟨⟨by lia,by lia,by decide⟩,?_⟩))⟩;show Q (.int (1*2^(q.lev-1).toNat)) H;rw[Qp n en];exact k
inductive Vx(a:Ad)(vs:List V)(H:Hp)(Q:VK):Prop
 |mk (g:GA) (G:Gv) (_:vs=[.ref g.p]) (_:Bp a H g G) (_:Q (.int (bareN 1:Int)) H):Vx a vs H Q
def NB(a:Ad):Sp:=λvs H Q _=>Vx a vs H Q
theorem Yy{f:Addr}{fd:FuncData}(F:Fun K "bare_field" "bare_field" GX f fd)(T:Top K mg a):AJ P w K mg base CX0 1 f fd EV (NB a):=by
 refine F.ok Pf (λvs H Q E h=>?_) (λcdv A outer s H vs Q E hr h=>?_)
 ·obtain⟨g,G,rfl,_⟩:=h;rfl
 ·obtain⟨g,G,rfl,fu,k⟩:=h;exact⟨_,(Ag (Aw (Aj Ax (AC (pv 0) rfl) (Cb rfl T.k_LEAST_LEVEL) (λ_ _=>rfl)))),(xwf rfl rfl fu.at'.hp T.cl_Grove T.na_Grove_bares (Jp g) (xq4 rfl rfl (SqL.of fu.br) (Ai (j:=1) (bareL_at' A0)) k))⟩
inductive SpWid(a:Ad)(vs:List V)(H:Hp)(Q:VK):Prop
 |mk (g:GA) (G:Gv) (f n:Nat) (_:vs=[.ref g.p,.int f]) (_:Bp a H g G) (_:Al G f ((n+1:Nat):Int)) (_:n<47) (_:G.length<8900000) (_:∀(w:Nat)(G':Gv)(H':Hp),Fr g H H'->AI a H' g G'->AH G G' 5->Wid G' n f w->Q (.int w) H'):SpWid a vs H Q
def Uw(a:Ad):Sp:=λvs H Q _=>SpWid a vs H Q
theorem ok_wid{f:Addr}{fd:FuncData}(F:Fun K "widened" "widened" Mm f fd)(T:Top K mg a)(aA:BZ P w K mg base CX0 3 a.c_Grove "level_of" Bm (Nb a))(a9:BZ P w K mg base CX0 2 a.c_Grove "linked" AX (EI a)):AJ P w K mg base CX0 4 f fd Jy (Uw a):=by
 refine F.ok GQ (λvs H Q E h=>?_) (λcdv A outer s H vs Q E hr h=>?_)
 ·obtain⟨g,G,f',n,rfl,_⟩:=h;rfl
 ·obtain⟨g,G,f',n,rfl,fu,hl,n47,few,k⟩:=h;obtain⟨q,x,y,z,v,nd⟩:=BP fu.ok hl;have lq:=nd.lev;obtain⟨ts,h3,h4⟩:=fu.at'.pt;obtain⟨t,et,ht⟩:=PairedM.get h4 nd.g;have ht:H t=some (.tup [.int x,.int y,.int z,.int v]):=by
   have ht:H t=some (.tup (q.parts.map V.int)):=ht;rw[nd.ps]at ht;exact ht
  obtain⟨r,e0⟩:=fu.g0;have lb:=GN e0 (n:=n) A0;refine⟨_,(Ac (Aq (i:=2) GQ.nd rfl (Or.inl rfl) (AG (pv 0) aA (rm hr) An (Aa (pv 1) Ab))) (Ac (AQ (PW.pt (On (AB GJ (pv 2) (Cb rfl T.k_LEAST_LEVEL) (AF _)) (Mt (AB Ct (pv 2) (Cb rfl T.k_TOP_LEVEL) (AF _))))) (Ag Bk) AD) (Ac (Aq (i:=3) GQ.nd rfl (Or.inl rfl) (Aj Ax (AC (pv 0) rfl) (pv 1) (λ_ _=>rfl))) (Ac (Aq (i:=4) GQ.nd rfl (Or.inl rfl) (Aj Ax (AC (pv 0) rfl) (Ay BY (pv 2) Ae) (λ_ _=>rfl))) (Ag (Aw (AG (pv 0) a9 (rm hr) An (Bz (Aa (AG (pv 0) a9 (rm hr) An (Bz (Aa (pv 4) (Aa (pv 4) (Aa (pv 4) (Aa (Aj Am (pv 3) Ae (λ_ _=>rfl)) Ab)))) Ab)) (Aa (AG (pv 0) a9 (rm hr) An (Bz (Aa (pv 4) (Aa (pv 4) (Aa (Aj Am (pv 3) Ae (λ_ _=>rfl)) (Aa (pv 4) Ab)))) Ab)) (Aa (AG (pv 0) a9 (rm hr) An (Bz (Aa (pv 4) (Aa (Aj Am (pv 3) Ae (λ_ _=>rfl)) (Aa (pv 4) (Aa (pv 4) Ab)))) Ab)) (Aa (AG (pv 0) a9 (rm hr) An (Bz (Aa (Aj Am (pv 3) Ae (λ_ _=>rfl)) (Aa (pv 4) (Aa (pv 4) (Aa (pv 4) Ab)))) Ab)) Ab)))) Ab)))))))),?_⟩
  try dsimp only[cxK]
  refine xq1 rfl ⟨g.p,g.dx,(xq1 rfl ⟨fu.at'.hp,Et g,(xq1 rfl ⟨g,G,f',q,rfl,fu.at',nd.g,?_⟩)⟩)⟩;refine xwb rfl rfl rfl (xq1 rfl ?_);rw[Y9 (by lia:¬q.lev<1)];refine Bo (xq1 rfl ⟨rfl,(xq1 rfl ?_)⟩);rw[Y9 (by intro z;injection z with z;lia)];refine Bo (xwf rfl rfl fu.at'.hp T.cl_Grove T.na_Grove_parts (CB g) (xwi rfl rfl rfl (SqL.of h3) (Ai (by rw[C0,et];rfl)) ?_));refine xwf rfl rfl fu.at'.hp T.cl_Grove T.na_Grove_bares (Jp g) (xwb rfl rfl rfl (xq4 rfl rfl (SqL.of fu.br) (by rw[show q.lev-1=(n:Int) by lia];exact Ai (bareL_at' A0)) ?_));refine xq1 rfl ⟨g.p,g.dx,(xq1 rfl ⟨fu.at'.hp,BQ g,?_⟩)⟩;refine xq1 rfl ⟨g.p,g.dx,(xq1 rfl ⟨fu.at'.hp,BQ g,(xw3 rfl rfl rfl (xwi rfl rfl rfl (SqT.of ht) (Ai (j:=0) rfl) ⟨(by show 4<=sizeLine;decide),λt1 ht1=>?_⟩))⟩)⟩;have s1:=AN (o:=.tup [.int (bareN n:Int),.int (bareN n:Int),.int (bareN n:Int),.int x]) ht1;refine⟨g,G,t1,bareN n,bareN n,bareN n,x,(n:Int),rfl,fu.at'.same s1,fu.ok,Af,⟨lb,lb,lb,nd.hx⟩,by lia,by lia,λa1 G1 H1 fr1 hg1 go1 e1=>?_⟩;have f1:=(Az.fr s1).trans fr1;have htA:=f1.tup fu.at' ht;have n1:=go1.few;refine xwn rfl rfl hg1.hp (BQ g) rfl (xwj rfl rfl rfl rfl (SqT.of htA) (Ai (j:=1) rfl) (xq1 rfl ⟨(by show 4<=sizeLine;decide),λt2 ht2=>?_⟩));have s2:=AN (o:=.tup [.int (bareN n:Int),.int (bareN n:Int),.int y,.int (bareN n:Int)]) ht2;refine⟨g,G1,t2,bareN n,bareN n,y,bareN n,(n:Int),rfl,hg1.same s2,go1.ok,Af,⟨go1.lev lb,go1.lev lb,go1.lev nd.hy,go1.lev lb⟩,by lia,by lia,λa2 G2 H2 fr2 hg2 go2 e2=>?_⟩;have f2:=f1.trans ((Az.fr s2).trans fr2);have htB:=f2.tup fu.at' ht;have n2:=go2.few;have go12:=go1.trans go2;refine xwn rfl rfl hg2.hp (BQ g) rfl (xwi rfl rfl rfl (SqT.of htB) (Ai (j:=2) rfl) (xw2 rfl rfl ⟨(by show 4<=sizeLine;decide),λt3 ht3=>?_⟩));have s3:=AN (o:=.tup [.int (bareN n:Int),.int z,.int (bareN n:Int),.int (bareN n:Int)]) ht3;refine⟨g,G2,t3,bareN n,z,bareN n,bareN n,(n:Int),rfl,hg2.same s3,go2.ok,Af,⟨go12.lev lb,go12.lev nd.hz,go12.lev lb,go12.lev lb⟩,by lia,by lia,λa3 G3 H3 fr3 hg3 go3 e3=>?_⟩;have f3:=f2.trans ((Az.fr s3).trans fr3);have htC:=f3.tup fu.at' ht;have n3:=go3.few;have go13:=go12.trans go3;refine xwn rfl rfl hg3.hp (BQ g) rfl (xq4 rfl rfl (SqT.of htC) (Ai (j:=3) rfl) (xw3 rfl rfl rfl ⟨(by show 4<=sizeLine;decide),λt4 ht4=>?_⟩));have s4:=AN (o:=.tup [.int v,.int (bareN n:Int),.int (bareN n:Int),.int (bareN n:Int)]) ht4;refine⟨g,G3,t4,v,bareN n,bareN n,bareN n,(n:Int),rfl,hg3.same s4,go3.ok,Af,⟨go13.lev nd.hw,go13.lev lb,go13.lev lb,go13.lev lb⟩,by lia,by lia,λa4 G4 H4 fr4 hg4 go4 e4=>?_⟩;have f4:=f3.trans ((Az.fr s4).trans fr4);have n4:=go4.few;have go14:=go13.trans go4;refine⟨(by show 4<=sizeLine;decide),λt5 ht5=>?_⟩;have s5:=AN (o:=.tup [.int a1,.int a2,.int a3,.int a4]) ht5;have E1:=(go2.trans (go3.trans go4)).get e1;have E2:=(go3.trans go4).get e2;have E3:=go4.get e3;refine⟨g,G4,t5,a1,a2,a3,a4,(n:Int)+1,rfl,hg4.same s5,go4.ok,Af,⟨⟨_,E1,rfl⟩,⟨_,E2,rfl⟩,⟨_,E3,rfl⟩,⟨_,e4,rfl⟩⟩,by lia,by lia,λw' G5 H5 fr5 hg5 go5 e5=>?_⟩;have go15:=go14.trans go5;exact k w' G5 H5 (f4.trans ((Az.fr s5).trans fr5)) hg5 go15 ⟨q,x,y,z,v,a1,a2,a3,a4,nd.app go15,go5.get E1,go5.get E2,go5.get E3,go5.get e4,by rw[e5,show(n:Int)+1+1=(n:Int)+2 by lia]⟩
end
structure Ny(G:Gv)(n i:Nat)(qs:Nat->Nat)(ps:Nat->Nat->Nat):Prop where
 node:∃q,IC G (n+1) i q (qs 0) (qs 1) (qs 2) (qs 3)
 sub:∀k,k<4->∃q,IC G n (qs k) q (ps k 0) (ps k 1) (ps k 2) (ps k 3)
theorem Ny.app{G G':Gv}{k n i:Nat}{qs:Nat->Nat}{ps:Nat->Nat->Nat}(go:AH G G' k)(h:Ny G n i qs ps):Ny G' n i qs ps:=by
 obtain⟨q,nd⟩:=h.node;exact⟨⟨q,nd.app go⟩,λk hk=>by obtain⟨q,nd⟩:=h.sub k hk;exact⟨q,nd.app go⟩⟩
def f4(x y z w:Nat)(k:Nat):Nat:=match k with|0=>x|1=>y|2=>z|_=>w
theorem deep_of{G:Gv}(ok:GOk G){n i:Nat}(h:Al G i ((n+2:Nat):Int)):∃qs ps,Ny G n i qs ps:=by
 obtain⟨q,x,y,z,w,nd⟩:=BP ok (n:=n+1) h;obtain⟨_,x0,x1,x2,x3,nx⟩:=BP ok nd.hx;obtain⟨_,y0,y1,y2,y3,ny⟩:=BP ok nd.hy;obtain⟨_,z0,z1,z2,z3,nz⟩:=BP ok nd.hz;obtain⟨_,w0,w1,w2,w3,nw⟩:=BP ok nd.hw;refine⟨f4 x y z w,λk=>match k with|0=>f4 x0 x1 x2 x3|1=>f4 y0 y1 y2 y3|2=>f4 z0 z1 z2 z3|_=>f4 w0 w1 w2 w3,⟨q,nd⟩,λk hk=>?_⟩
 match k,hk with
 |0,_=>exact⟨_,nx⟩
 |1,_=>exact⟨_,ny⟩
 |2,_=>exact⟨_,nz⟩
 |3,_=>exact⟨_,nw⟩
theorem IC.nat{G:Gv}{n i:Nat}{q:Sq}{x y z w:Nat}(h:IC G n i q x y z w){j:Nat}(hj:j<4):q.parts[j]?=some ((f4 x y z w j:Nat):Int)/\Al G (f4 x y z w j) n:=by
 rw[h.ps]
 match j,hj with
 |0,_=>exact⟨rfl,h.hx⟩
 |1,_=>exact⟨rfl,h.hy⟩
 |2,_=>exact⟨rfl,h.hz⟩
 |3,_=>exact⟨rfl,h.hw⟩
theorem OU(p:Nat->Nat){j:Nat}(hj:j<4):f4 (p 0) (p 1) (p 2) (p 3) j=p j:=by
 match j,hj with
 |0,_=>rfl
 |1,_=>rfl
 |2,_=>rfl
 |3,_=>rfl
def BA(n:Nat)(ps:Nat->Nat->Nat):Prop:=∀k j,k<4->j<4->j+k≠3->ps k j=bareN n
def ES(G:Gv):Nat->Nat->Nat->Prop
 |0,_,_=>False
 |1,f,r=>r=f
 |n+2,f,r=>∃qs ps,Ny G n f qs ps/\((¬BA n ps/\r=f)\/(BA n ps/\∃m,G[m]?=some ⟨[(ps 0 3:Int),(ps 1 2:Int),(ps 2 1:Int),(ps 3 0:Int)],(n:Int)+1⟩/\ES G (n+1) m r))
theorem ES.app{G G':Gv}{k:Nat}(go:AH G G' k):∀{n f r:Nat},ES G n f r->ES G' n f r
 |0,_,_,h=>h
 |1,_,_,h=>h
 |n+2,f,r,h=>by
  obtain⟨qs,ps,d,h⟩:=h;refine⟨qs,ps,d.app go,?_⟩;rcases h with h|⟨h1,m,h2,h3⟩
  ·exact .inl h
  ·exact .inr ⟨h1,m,go.get h2,ES.app go h3⟩
section
variable{P:Program}{w:World}{K:PySem.W.Frag}{mg:Str->Option Value}{base:Heap}{a:Ad}
theorem Ij{H:Hp}{g:GA}{G:Gv}(h:AI a H g G){n i:Nat}{q:Sq}{x y z w:Nat}(nd:IC G n i q x y z w):∃(ts:List Addr)(t:Addr),H g.pt=some (.lst (ts.map V.ref))/\(ts.map V.ref)[i]?=some (.ref t)/\H t=some (.tup [.int x,.int y,.int z,.int w]):=by
 obtain⟨ts,h3,h4⟩:=h.pt;obtain⟨t,et,ht⟩:=PairedM.get h4 nd.g;refine⟨ts,t,h3,by rw[C0,et];rfl,?_⟩;have ht:H t=some (.tup (q.parts.map V.int)):=ht;rw[nd.ps]at ht;exact ht
inductive SpMid(a:Ad)(vs:List V)(H:Hp)(Q:VK):Prop
 |mk (g:GA) (G:Gv) (i n:Nat) (qs:Nat->Nat) (ps:Nat->Nat->Nat) (_:vs=[.ref g.p,.int i]) (_:AI a H g G) (_:GOk G) (_:Ny G n i qs ps) (_:n<47) (_:G.length<8900000) (_:∀(m:Nat)(G':Gv)(H':Hp),Fr g H H'->AI a H' g G'->AH G G' 1->G'[m]?=some ⟨[(ps 0 3:Int),(ps 1 2:Int),(ps 2 1:Int),(ps 3 0:Int)],(n:Int)+1⟩->Q (.int m) H'):SpMid a vs H Q
def WN(a:Ad):Sp:=λvs H Q _=>SpMid a vs H Q
theorem ok_mid{f:Addr}{fd:FuncData}(F:Fun K "middle_of" "middle_of" FV f fd)(T:Top K mg a)(a9:BZ P w K mg base CX0 2 a.c_Grove "linked" AX (EI a)):AJ P w K mg base CX0 3 f fd IZ (WN a):=by
 refine F.ok Lx (λvs H Q E h=>?_) (λcdv A outer s H vs Q E hr h=>?_)
 ·obtain⟨g,G,i,n,qs,ps,rfl,_⟩:=h;rfl
 ·obtain⟨g,G,i,n,qs,ps,rfl,hg,ok,dp,n47,few,k⟩:=h;obtain⟨q,nd⟩:=dp.node;obtain⟨ts,t,h3,et,ht⟩:=Ij hg nd;refine⟨_,(Ac (Ie (i:=2) rfl Lx.nd rfl rfl (Bu.of (So:=Ah FV) (No:=Nf) (N:=["quarter","grove"]) (k:=1) (cs:=[0]) rfl rfl A1) (To (Aj Ax (AC (pv 0) rfl) (pv 1) (λ_ _=>rfl))) (λ_ _ _=>(AW (i:=0) A1 rfl rfl)) (λ_ _ _=>BF) (λ_ _ _=>(Aj (Zb (K:=K) rfl) (QH (K:=K) rfl (pv 1) rfl) (pv 0) (λ_ _=>rfl)))) (Ag (Aw (AG (pv 0) a9 (rm hr) An (Bz (Aa (Aj Am (Aj Ax (pv 2) Ae (λ_ _=>rfl)) Ae (λ_ _=>rfl)) (Aa (Aj Am (Aj Ax (pv 2) Ae (λ_ _=>rfl)) Ae (λ_ _=>rfl)) (Aa (Aj Am (Aj Ax (pv 2) Ae (λ_ _=>rfl)) Ae (λ_ _=>rfl)) (Aa (Aj Am (Aj Ax (pv 2) Ae (λ_ _=>rfl)) Ae (λ_ _=>rfl)) Ab)))) Ab))))),?_⟩
  try dsimp only[cxK]
  refine xwf rfl rfl hg.hp T.cl_Grove T.na_Grove_parts (CB g) (xwi rfl rfl rfl (SqL.of h3) (Ai et) ⟨t,rfl,⟨_,SqT.of ht⟩,?_⟩);have sub:∀k,k<4->∃tk,(ts.map V.ref)[qs k]?=some (.ref tk)/\H tk=some (.tup [.int (ps k 0),.int (ps k 1),.int (ps k 2),.int (ps k 3)]):=λk hk=>by
   obtain⟨qk,ndk⟩:=dp.sub k hk;obtain⟨ts',tk,h3',et',ht'⟩:=Ij hg ndk;rw[h3]at h3';have h3':=HO.lst.inj (Z2 h3');exact⟨tk,by rw[h3'];exact et',ht'⟩
  obtain⟨t0,e0,p0⟩:=sub 0 A4;obtain⟨t1,e1,p1⟩:=sub 1 A4;obtain⟨t2,e2,p2⟩:=sub 2 A4;obtain⟨t3,e3,p3⟩:=sub 3 A4;have all:∀(j:Nat)(v:V),[V.int (qs 0:Int),V.int (qs 1:Int),V.int (qs 2:Int),V.int (qs 3:Int)][j]?=some v->∃(k:Nat)(tk:Addr),v=.int (k:Int)/\(ts.map V.ref)[k]?=some (.ref tk)/\[V.ref t0,V.ref t1,V.ref t2,V.ref t3][j]?=some (.ref tk):=λj v ev=>by
   match j,ev with
   |0,ev=>cases ev;exact⟨qs 0,t0,rfl,e0,rfl⟩
   |1,ev=>cases ev;exact⟨qs 1,t1,rfl,e1,rfl⟩
   |2,ev=>cases ev;exact⟨qs 2,t2,rfl,e2,rfl⟩
   |3,ev=>cases ev;exact⟨qs 3,t3,rfl,e3,rfl⟩
   |j+4,ev=>simp at ev
  refine Ro (xs:=[.int (qs 0:Int),.int (qs 1:Int),.int (qs 2:Int),.int (qs 3:Int)]) (λj acc H2=>H=H2/\acc=[V.ref t0,V.ref t1,V.ref t2,V.ref t3].take j) ⟨rfl,rfl⟩ (λj acc H2 _ z=>z.1▸SqT.of ht) ?_ ?_
  ·rintro j v acc H2 ev ⟨rfl,rfl⟩;obtain⟨k',tk,rfl,ek,el⟩:=all j v ev;refine⟨⟨[some (.int k')],rfl,rfl⟩,by rw[L5];exact FJ (by show min j 4<10000000;lia),Gc (xwf rfl rfl hg.hp T.cl_Grove T.na_Grove_parts (CB g) (xwi rfl rfl rfl (SqL.of h3) (Ai ek) ⟨rfl,?_⟩))⟩;rw[F5,el];rfl
  ·rintro acc H2 ⟨rfl,rfl⟩ L hL;have s1:=AN (o:=.lst [V.ref t0,V.ref t1,V.ref t2,V.ref t3]) hL;have hL1:upd H L (.lst [V.ref t0,V.ref t1,V.ref t2,V.ref t3]) L=some (.lst [V.ref t0,V.ref t1,V.ref t2,V.ref t3]):=Af;rw[show(List.take [V.int (qs 0:Int),V.int (qs 1:Int),V.int (qs 2:Int),V.int (qs 3:Int)].length [V.ref t0,V.ref t1,V.ref t2,V.ref t3])=[V.ref t0,V.ref t1,V.ref t2,V.ref t3]from rfl];generalize upd H L (.lst [V.ref t0,V.ref t1,V.ref t2,V.ref t3])=H1 at s1 hL1⊢;have hg1:=hg.same s1;refine xwn rfl rfl hg1.hp (BQ g) rfl (xq4 rfl rfl (SqL.of hL1) (Ai (j:=0) rfl) (xq4 rfl rfl (SqT.of (s1 _ _ p0)) (Ai (j:=3) rfl) (xwi rfl rfl rfl (SqL.of hL1) (Ai (j:=1) rfl) (xq4 rfl rfl (SqT.of (s1 _ _ p1)) (Ai (j:=2) rfl) ?_))));refine xwi rfl rfl rfl (SqL.of hL1) (Ai (j:=2) rfl) (xq4 rfl rfl (SqT.of (s1 _ _ p2)) (Ai (j:=1) rfl) (xwi rfl rfl rfl (SqL.of hL1) (Ai (j:=3) rfl) (xq4 rfl rfl (SqT.of (s1 _ _ p3)) (Ai (j:=0) rfl) ⟨(by show 4<=sizeLine;decide),λt4 ht4=>?_⟩)));have s2:=AN (o:=.tup [.int (ps 0 3),.int (ps 1 2),.int (ps 2 1),.int (ps 3 0)]) ht4;obtain⟨_,n0⟩:=dp.sub 0 A4;obtain⟨_,n1⟩:=dp.sub 1 A4;obtain⟨_,n2⟩:=dp.sub 2 A4;obtain⟨_,n3⟩:=dp.sub 3 A4;exact⟨g,G,t4,ps 0 3,ps 1 2,ps 2 1,ps 3 0,(n:Int),rfl,hg1.same s2,ok,Af,⟨n0.hw,n1.hz,n2.hy,n3.hx⟩,by lia,by lia,λm G' H' fr hg' go e=>k m G' H' ((Az.fr s1).trans ((Az.fr s2).trans fr)) hg' go e⟩
inductive SpBA(a:Ad)(vs:List V)(H:Hp)(Q:VK):Prop
 |mk (g:GA) (G:Gv) (i n:Nat) (qs:Nat->Nat) (ps:Nat->Nat->Nat) (_:vs=[.ref g.p,.int i]) (_:Bp a H g G) (_:Ny G n i qs ps) (_:n<47) (_:(BA n ps->∀H',Az H H'->Q (.bl true) H')) (_:(¬BA n ps->∀H',Az H H'->Q (.bl false) H')):SpBA a vs H Q
def spBA(a:Ad):Sp:=λvs H Q _=>SpBA a vs H Q
theorem ok_ba{f:Addr}{fd:FuncData}(F:Fun K "is_bare_around" "is_bare_around" Eh f fd)(T:Top K mg a):AJ P w K mg base CX0 1 f fd Eo (spBA a):=by
 refine F.ok BK (λvs H Q E h=>?_) (λcdv A outer s H vs Q E hr h=>?_)
 ·obtain⟨g,G,i,n,qs,ps,rfl,_⟩:=h;rfl
 ·obtain⟨g,G,i,n,qs,ps,rfl,fu,dp,n47,k1,k2⟩:=h;obtain⟨q,nd⟩:=dp.node;have lq:=nd.lev;obtain⟨ts,t,h3,et,ht⟩:=Ij fu.at' nd;refine⟨_,(Ac (Aq (i:=2) BK.nd rfl (Or.inl rfl) (Aj Ax (AC (pv 0) rfl) (Ay BY (Aj Ax (AC (pv 0) rfl) (pv 1) (λ_ _=>rfl)) Ae) (λ_ _=>rfl))) (Ac (Cy Z6 rfl (ND true rfl T.b_enumerate (Aa (Aj Ax (AC (pv 0) rfl) (pv 1) (λ_ _=>rfl)) Ab)) (Op rfl (Ds (Bn (i:=3) BK.nd rfl (Or.inl rfl)) (Ds (Bn (i:=4) BK.nd rfl (Or.inl rfl)) LD))) (Ag (Cy Z6 rfl (ND true rfl T.b_enumerate (Aa (Aj Ax (AC (pv 0) rfl) (pv 4) (λ_ _=>rfl)) Ab)) (Op rfl (Ds (Bn (i:=5) BK.nd rfl (Or.inl rfl)) (Ds (Bn (i:=6) BK.nd rfl (Or.inl rfl)) LD))) (Ag (AQ (PW.pt (Mu (AB JK (pv 6) (pv 2) (AF _)) (Jw (AB JK (pv 5) (Ay BY Ae (pv 3)) (AF _))))) (Ag (Aw Se)) AD))))) (Ag (Aw Se)))),?_⟩
  try dsimp only[cxK]
  refine xwf rfl rfl fu.at'.hp T.cl_Grove T.na_Grove_bares (Jp g) (xwf rfl rfl fu.at'.hp T.cl_Grove T.na_Grove_levels (FM g) (xwi rfl rfl rfl (SqL.of fu.at'.lv) (Ai (by rw[C0,nd.g];rfl)) (xq2 rfl rfl (xq4 rfl rfl (SqL.of fu.br) (by rw[show q.lev-2=(n:Int) by lia];exact Ai (bareL_at' A0)) ?_))));refine xwf rfl rfl fu.at'.hp T.cl_Grove T.na_Grove_parts (CB g) (xwi rfl rfl rfl (SqL.of h3) (Ai et) ⟨t,rfl,⟨_,SqT.of ht⟩,?_⟩);refine LW (b:=true) (xs:=[.int (qs 0:Int),.int (qs 1:Int),.int (qs 2:Int),.int (qs 3:Int)]) (λj σ H2=>Az H H2/\(∃u3 u4 u5 u6:Option V,σ=[some (.ref g.p),some (.int i),some (.int (bareN n:Int)),u3,u4,u5,u6])/\∀k' j',k'<j->k'<4->j'<4->j'+k'≠3->ps k' j'=bareN n) ⟨Az.refl H,⟨none,none,none,none,rfl⟩,λk' j' h=>absurd h (N1 _)⟩ (λj σ H2 _ z=>SqT.of (z.1 _ _ ht)) ?_ ?_
  ·rintro j v σ H2 T' ev ⟨sm,⟨u3,u4,u5,u6,rfl⟩,al⟩ nT;have hj:j<4:=(B9.mp ev).1;have ev':v=.int (qs j:Int):=by
    match j,hj,ev with
    |0,_,ev=>cases ev;rfl
    |1,_,ev=>cases ev;rfl
    |2,_,ev=>cases ev;rfl
    |3,_,ev=>cases ev;rfl
   subst ev';obtain⟨qk,ndk⟩:=dp.sub j hj;have s2:=sm.trans (AN (o:=.tup [.int j,.int (qs j)]) nT);refine SD Af ?_;generalize upd H2 T' (.tup [.int j,.int (qs j)])=H3 at s2⊢;obtain⟨ts3,t3,h33,et3,ht3⟩:=Ij (fu.at'.same s2) ndk;refine xwf rfl rfl ((fu.at'.same s2).hp) T.cl_Grove T.na_Grove_parts (CB g) (xwi rfl rfl rfl (SqL.of h33) (Ai et3) ⟨t3,rfl,⟨_,SqT.of ht3⟩,?_⟩);refine LW (b:=true) (xs:=[.int (ps j 0:Int),.int (ps j 1:Int),.int (ps j 2:Int),.int (ps j 3:Int)]) (λj2 σ H4=>Az H3 H4/\(∃u5 u6:Option V,σ=[some (.ref g.p),some (.int i),some (.int (bareN n:Int)),some (.int j),some (.int (qs j)),u5,u6])/\∀j',j'<j2->j'<4->j'+j≠3->ps j j'=bareN n) ⟨Az.refl H3,⟨_,_,rfl⟩,λj' h=>absurd h (N1 _)⟩ (λj2 σ H4 _ z=>SqT.of (z.1 _ _ ht3)) ?_ ?_
   ·rintro j2 v σ H4 T2 ev ⟨sm2,⟨u5,u6,rfl⟩,al2⟩ nT2;have hj2:j2<4:=(B9.mp ev).1;have ev':v=.int (ps j j2:Int):=by
     match j2,hj2,ev with
     |0,_,ev=>cases ev;rfl
     |1,_,ev=>cases ev;rfl
     |2,_,ev=>cases ev;rfl
     |3,_,ev=>cases ev;rfl
    subst ev';have s4:=sm2.trans (AN (o:=.tup [.int j2,.int (ps j j2)]) nT2);refine SD Af ?_;generalize upd H4 T2 (.tup [.int j2,.int (ps j j2)])=H5 at s4⊢;refine xw2 rfl rfl ⟨rfl,(xq1 rfl ?_)⟩;refine WC (b2:=!decide (V.int (j2:Int)=V.int (3-(j:Int)))) (λ_ Q' q=>(xw2 rfl rfl (xq2 rfl rfl ⟨rfl,(xq1 rfl q)⟩))) ?_;refine Gz (λhc=>?_) (λhc=>?_)
    ·refine k2 (λba=>?_) H5 (s2.trans s4);rw[P9]at hc;have c2:¬j2+j=3:=λz=>by
      have:=hc.2;rw[Y7 (show V.int (j2:Int)=V.int (3-(j:Int)) by congr 1;lia)]at this;cases this
     have c1:=hc.1;rw[ba j j2 hj hj2 c2,Y7 rfl]at c1;cases c1
    ·refine⟨s4,⟨_,_,rfl⟩,λj' h1 h2 h3'=>?_⟩;rcases P5.mp h1 with h|h
     ·exact al2 j' h h2 h3'
     ·subst h;refine Z7 λz=>hc ?_;rw[Y9 (show ¬V.int (ps j j':Int)=V.int (bareN n:Int) by intro q;injection q with q;exact z (Z8 q)),Y9 (show ¬V.int (j':Int)=V.int (3-(j:Int)) by intro q;injection q with q;lia)];rfl
   ·rintro σ H4 ⟨sm2,⟨u5,u6,rfl⟩,al2⟩;refine⟨s2.trans sm2,⟨_,_,_,_,rfl⟩,λk' j' h1 h2 h3' h4=>?_⟩;rcases P5.mp h1 with h|h
    ·exact al k' j' h h2 h3' h4
    ·subst h;exact al2 j' h3' h3' h4
  ·rintro σ H2 ⟨sm,⟨u3,u4,u5,u6,rfl⟩,al⟩;exact k1 (λk' j' h1 h2 h3'=>al k' j' h1 h1 h2 h3') H2 sm
end
theorem ES.lev{G:Gv}:∀{l f r:Nat},Al G f (l:Int)->ES G l f r->∃n,n+1<=l/\Al G r ((n+1:Nat):Int)
 |0,_,_,_,h=>h.elim
 |1,f,r,hl,h=>by
  have h:r=f:=h;subst h;exact⟨0,C1 _,hl⟩
 |n+2,f,r,hl,h=>by
  apply Be;intro G_ hG_;obtain⟨qs,ps,d,h⟩:=h;apply hG_;clear hG_ G_;rcases h with ⟨_,rfl⟩|⟨_,m,e,h⟩
  ·exact⟨n+1,C1 _,hl⟩
  ·obtain⟨k,hk,lk⟩:=ES.lev (l:=n+1) ⟨_,e,by show(n:Int)+1=_;lia⟩ h;exact⟨k,by lia,lk⟩
section
variable{P:Program}{w:World}{K:PySem.W.Frag}{mg:Str->Option Value}{base:Heap}{a:Ad}
inductive ZE(a:Ad)(vs:List V)(H:Hp)(Q:VK):Prop
 |mk (g:GA) (G:Gv) (f n:Nat) (_:vs=[.ref g.p,.int f]) (_:Bp a H g G) (_:Al G f ((n+1:Nat):Int)) (_:G.length<8800000) (_:∀(r:Nat)(G':Gv)(H':Hp),Fr g H H'->Bp a H' g G'->AH G G' 48->ES G' (n+1) f r->Q (.int r) H'):ZE a vs H Q
def NR(a:Ad):Sp:=λvs H Q _=>ZE a vs H Q
theorem ok_trim{f:Addr}{fd:FuncData}(F:Fun K "trimmed" "trimmed" Mo f fd)(T:Top K mg a)(aA:BZ P w K mg base CX0 3 a.c_Grove "level_of" Bm (Nb a))(bB:Cal P w K mg base CX0 1 "is_bare_around" Eo (spBA a))(cD:Cal P w K mg base CX0 3 "middle_of" IZ (WN a)):AJ P w K mg base CX0 4 f fd GI (NR a):=by
 refine F.ok JS (λvs H Q E h=>?_) (λcdv A outer s H vs Q E hr h=>?_)
 ·apply Be;intro G_ hG_;obtain⟨g,G,f',n,rfl,_⟩:=h;apply hG_;clear hG_ G_;rfl
 ·apply Be;intro G_ hG_;obtain⟨g,G,f',n,rfl,fu,hl,few,k⟩:=h;obtain⟨q,eq,lq⟩:=id hl;apply hG_;clear hG_ G_;have n48:n+1<=48:=by have:=(fu.ok.lev eq).2;lia
  refine⟨_,(Ac (AQ (AB GJ (AG (pv 0) aA (rm hr) An (Aa (pv 1) Ab)) (Cb rfl T.k_LEAST_LEVEL) (AF _)) (Ag Bk) AD) (Ac (Aq (i:=2) JS.nd rfl (Or.inl rfl) (pv 1)) (Ac (IV Z6 (PW.pt (Mu (AB Sf (Aj Ax (AC (pv 0) rfl) (pv 2) (λ_ _=>rfl)) (Cb rfl T.k_LEAST_LEVEL) (AF _)) (Jw (Da (Ar bB (rm hr) rfl An (Aa (pv 0) (Aa (pv 2) Ab))))))) (Ag (Aq (i:=2) JS.nd rfl (Or.inl rfl) (Ar cD (rm hr) rfl An (Aa (pv 0) (Aa (pv 2) Ab)))))) (Ag (Aw (pv 2)))))),?_⟩
  try dsimp only[cxK]
  refine xq1 rfl ⟨g.p,g.dx,(xq1 rfl ⟨fu.at'.hp,Et g,(xq1 rfl ⟨g,G,f',q,rfl,fu.at',eq,(xq2 rfl rfl (xq1 rfl ?_))⟩)⟩)⟩;rw[Y9 (by lia:¬q.lev<1)];refine Bo (xq1 rfl ?_);refine⟨λm σ H2=>∃(G':Gv)(c:Nat),σ=[some (.ref g.p),some (.int f'),some (.int c)]/\Fr g H H2/\Bp a H2 g G'/\AH G G' (n-m)/\m<=n/\Al G' c ((m+1:Nat):Int)/\∀(r:Nat)(G'':Gv)(k:Nat),AH G' G'' k->ES G'' (m+1) c r->ES G'' (n+1) f' r,⟨n,G,f',rfl,Fr.refl g H,fu,(AH.refl fu.ok).mono A0,C1 _,hl,λ_ _ _ _ h=>h⟩,?_⟩;rintro m σ H2 z3_;apply Be;intro G_ hG_;obtain⟨G',c,rfl,fr,fu2,go,mn,lc,tr⟩:=z3_;apply hG_;clear hG_ G_;have gf:=go.few;obtain⟨qc,ec,lqc⟩:=id lc;refine xwf rfl rfl fu2.at'.hp T.cl_Grove T.na_Grove_levels (FM g) (xwi rfl rfl rfl (SqL.of fu2.at'.lv) (Ai (by rw[C0,ec];rfl)) (xq2 rfl rfl (xq1 rfl ?_)));cases m with
  |zero =>
   rw[Y9 (by lia:¬(1:Int)<qc.lev)];exact Bo (Bo (xq1 rfl (k c G' H2 fr fu2 (go.mono A0) (tr c G' 0 (AH.refl fu2.ok) rfl))))
  |succ m =>
   rw[Y7 (by lia:(1:Int)<qc.lev)];obtain⟨qs,ps,dp⟩:=deep_of fu2.ok lc;refine Cp (xw2 rfl rfl ⟨g,G',c,m,qs,ps,rfl,fu2,dp,by lia,λba H3 s3=>⟨true,rfl,Cp ?_⟩,λnba H3 s3=>⟨false,rfl,Bo ?_⟩⟩)
   ·refine⟨fun σ' H'=>∃(G2:Gv)(c2:Nat),σ'=[some (.ref g.p),some (.int f'),some (.int c2)]/\Fr g H H'/\Bp a H' g G2/\AH G G2 (n-m)/\m<=n/\Al G2 c2 ((m+1:Nat):Int)/\∀(r:Nat)(G'':Gv)(k:Nat),AH G2 G'' k->ES G'' (m+1) c2 r->ES G'' (n+1) f' r,fun σ' H' z=>⟨m,by lia,z⟩,?_⟩;refine xw2 rfl rfl ⟨g,G',c,m,qs,ps,rfl,fu2.at'.same s3,fu2.ok,dp,by lia,by lia,λc2 G2 H4 fr4 hg4 go4 e4=>?_⟩;have fu4:=(fu2.same s3).fr fr4 hg4 go4;refine⟨G2,c2,rfl,fr.trans ((Az.fr s3).trans fr4),fu4,(go.trans go4).mono A0,by lia,⟨_,e4,by show(m:Int)+1=_;lia⟩,λr G'' k' go5 t5=>?_⟩;exact tr r G'' _ (go4.trans go5) ⟨qs,ps,dp.app (go4.trans go5),.inr ⟨ba,c2,go5.get e4,t5⟩⟩
   ·exact xq1 rfl (k c G' H3 (fr.trans (Az.fr s3)) (fu2.same s3) (go.mono A0) (tr c G' 0 (AH.refl fu2.ok) ⟨qs,ps,dp,.inl ⟨nba,rfl⟩⟩))
def MV(G:Gv)(n f:Nat):Nat->Nat->Prop
 |0,w=>w=f
 |k+1,w=>∃u,MV G n f k u/\Wid G (n+k) u w
theorem MV.app{G G':Gv}{m n f:Nat}(go:AH G G' m):∀{k w:Nat},MV G n f k w->MV G' n f k w
 |0,_,h=>h
 |k+1,w,h=>by
  obtain⟨u,h1,h2⟩:=h;exact⟨u,MV.app go h1,h2.app go⟩
inductive SpWO(a:Ad)(vs:List V)(H:Hp)(Q:VK):Prop
 |mk (g:GA) (G:Gv) (f n:Nat) (t:Addr) (x y wd ht:Int) (_:vs=[.ref g.p,.int f,.ref t]) (_:Bp a H g G) (_:Al G f ((n+1:Nat):Int)) (_:n<=40) (_:H t=some (.tup [.int x,.int y,.int wd,.int ht])) (_:IF x y wd ht (2^40)) (_:G.length<8700000) (_:∀(k w:Nat)(G':Gv)(H':Hp),Fr g H H'->Bp a H' g G'->AH G G' (5*k)->n+k<=40->MV G' n f k w->Al G' w ((n+k+1:Nat):Int)->IF x y wd ht (2^(n+k))->(∀j,j<k->¬IF x y wd ht (2^(n+j)))->Q (.int w) H'):SpWO a vs H Q
def spWO(a:Ad):Sp:=λvs H Q _=>SpWO a vs H Q
theorem ok_wo{f:Addr}{fd:FuncData}(F:Fun K "widened_over" "widened_over" Fd f fd)(T:Top K mg a)(aJ:Cal P w K mg base CX0 1 "lies_within" Du RM)(aK:Cal P w K mg base CX0 4 "reach_of" Em (Ju a))(bD:Cal P w K mg base CX0 4 "widened" Jy (Uw a)):AJ P w K mg base CX0 5 f fd Ft (spWO a):=by
 refine F.ok EJ (λvs H Q E h=>?_) (λcdv A outer s H vs Q E hr h=>?_)
 ·apply Be;intro G_ hG_;obtain⟨g,G,f',n,t,x,y,wd,ht,rfl,_⟩:=h;apply hG_;clear hG_ G_;rfl
 ·apply Be;intro G_ hG_;obtain⟨g,G,f',n,t,x,y,wd,hh,rfl,fu,hl,n40,ht,li,few,k⟩:=h;apply hG_;clear hG_ G_;refine⟨_,(Ac (Aq (i:=3) EJ.nd rfl (Or.inl rfl) (pv 1)) (Ac (IV Z6 (DX (Da (Ar aJ (rm hr) rfl An (Aa (pv 2) (Aa (Ar aK (rm hr) rfl An (Aa (pv 0) (Aa (pv 3) Ab))) Ab))))) (Ag (Aq (i:=3) EJ.nd rfl (Or.inl rfl) (Ar bD (rm hr) rfl An (Aa (pv 0) (Aa (pv 3) Ab)))))) (Ag (Aw (pv 3))))),?_⟩
  try dsimp only[cxK]
  refine xq1 rfl ?_;refine⟨λm σ H2=>∃(G':Gv)(c j:Nat),σ=[some (.ref g.p),some (.int f'),some (.ref t),some (.int c)]/\Fr g H H2/\Bp a H2 g G'/\AH G G' (5*j)/\n+j+m=40/\Al G' c ((n+j+1:Nat):Int)/\MV G' n f' j c/\∀i,i<j->¬IF x y wd hh (2^(n+i)),⟨40-n,G,f',0,rfl,Fr.refl g H,fu,AH.refl fu.ok,by lia,hl,rfl,λi hi=>absurd hi (N1 _)⟩,?_⟩;rintro m σ H2 z3_;apply Be;intro G_ hG_;obtain⟨G',c,j,rfl,fr,fu2,go,e40,lc,wn,no⟩:=z3_;apply hG_;clear hG_ G_;have gf:=go.few;have ht2:=fr.tup fu.at' ht;refine xq1 rfl (xq1 rfl (xq1 rfl ⟨g,G',c,n+j,rfl,fu2.at',lc,by lia,t,x,y,wd,hh,_,rfl,ht2,_,rfl,?_⟩));by_cases hL:IF x y wd hh (2^(n+j))
  ·rw[Y7 hL];exact Bo (xq1 rfl (k j c G' H2 fr fu2 go A0 wn lc hL no))
  ·rw[Y9 hL];have m0:m≠0:=λz=>by
    subst z;have:n+j=40:=by lia
    rw[this]at hL;exact hL li
   refine Cp ⟨fun σ' H'=>∃(G2:Gv)(c2 j2:Nat),σ'=[some (.ref g.p),some (.int f'),some (.ref t),some (.int c2)]/\Fr g H H'/\Bp a H' g G2/\AH G G2 (5*j2)/\n+j2+(m-1)=40/\Al G2 c2 ((n+j2+1:Nat):Int)/\MV G2 n f' j2 c2/\∀i,i<j2->¬IF x y wd hh (2^(n+i)),fun σ' H' z=>⟨m-1,by lia,z⟩,?_⟩;refine xw2 rfl rfl ⟨g,G',c,n+j,rfl,fu2,lc,by lia,by lia,λc2 G2 H3 fr3 hg3 go3 wi=>?_⟩;refine⟨G2,c2,j+1,rfl,fr.trans fr3,fu2.fr fr3 hg3 go3,(go.trans go3).mono A0,by lia,?_,⟨c,wn.app go3,wi⟩,λi hi=>?_⟩
   ·have:=wi.lev;rw[show n+(j+1)+1=n+j+2 by lia];exact this
   ·rcases P5.mp hi with h|h
    ·exact no i h
    ·rw[h];exact hL
end
def st4(x y z w k j:Nat)(i:Nat):Nat:=if i=k then j else f4 x y z w i
def quad(l x y:Nat):Nat:=x/2^l+2*(y/2^l)
theorem Gb{l x:Nat}(h:x<2^(l+1)):x/2^l<2:=by
 rw[V9 (U3 A4),T4,<-F4];exact h
theorem Dx{l x y:Nat}(hx:x<2^(l+1))(hy:y<2^(l+1)):quad l x y<4:=by
 have h1:=Gb hx;have h2:=Gb hy;unfold quad;lia
theorem GH(l:Nat):((2^l:Nat):Int)=(2:Int)^l:=J7 2 l
theorem quad_c(l x y:Nat):(x:Int)/2^l+2*((y:Int)/2^l)=((quad l x y:Nat):Int):=by
 unfold quad;rw[<-GH,M7,N9,Int.natCast_ediv,Int.natCast_ediv];rfl
theorem mod_c(l x:Nat):(x:Int)%2^l=((x%2^l:Nat):Int):=by rw[<-GH,Int.natCast_emod]
theorem set4(x y z w j:Nat){k:Nat}(hk:k<4):([V.int (x:Int),V.int (y:Int),V.int (z:Int),V.int (w:Int)].set k (.int j))=[V.int (st4 x y z w k j 0:Int),V.int (st4 x y z w k j 1:Int),V.int (st4 x y z w k j 2:Int),V.int (st4 x y z w k j 3:Int)]:=by
 match k,hk with
 |0,_=>rfl
 |1,_=>rfl
 |2,_=>rfl
 |3,_=>rfl
def Rep(G:Gv)(s:Nat):Nat->Nat->Nat->Nat->Nat->Prop
 |0,_,_,_,r=>r=s
 |l+1,i,x,y,r=>∃(q:Sq)(a b c d j:Nat),IC G l i q a b c d/\Rep G s l (f4 a b c d (quad l x y)) (x%2^l) (y%2^l) j/\G[r]?=some ⟨[(st4 a b c d (quad l x y) j 0:Int),(st4 a b c d (quad l x y) j 1:Int),(st4 a b c d (quad l x y) j 2:Int),(st4 a b c d (quad l x y) j 3:Int)],(l:Int)+1⟩
theorem Rep.app{G G':Gv}{m s:Nat}(go:AH G G' m):∀{l i x y r:Nat},Rep G s l i x y r->Rep G' s l i x y r
 |0,_,_,_,_,h=>h
 |l+1,i,x,y,r,h=>by
  obtain⟨q,a,b,c,d,j,nd,h1,e⟩:=h;exact⟨q,a,b,c,d,j,nd.app go,Rep.app go h1,go.get e⟩
theorem Rep.lev{G:Gv}(ok:GOk G){s:Nat}(hs:s<8):∀{l i x y r:Nat},Rep G s l i x y r->Al G r (l:Int)
 |0,_,_,_,r,h=>by
  have h:r=s:=h;subst h;exact⟨_,ok.leaf r hs,rfl⟩
 |l+1,_,_,_,_,h=>by
  obtain⟨q,a,b,c,d,j,nd,h1,e⟩:=h;exact⟨_,e,by show(l:Int)+1=_;lia⟩
section
variable{P:Program}{w:World}{K:PySem.W.Frag}{mg:Str->Option Value}{base:Heap}{a:Ad}
inductive SpRep(a:Ad)(n:Nat)(vs:List V)(H:Hp)(Q:VK):Prop
 |mk (g:GA) (G:Gv) (i l x y s:Nat) (_:vs=[.ref g.p,.int i,.int x,.int y,.int s]) (_:AI a H g G) (_:GOk G) (_:Al G i (l:Int)) (_:l<n) (_:x<2^l) (_:y<2^l) (_:s<8) (_:G.length+l<8900000) (_:∀(r:Nat)(G':Gv)(H':Hp),Fr g H H'->AI a H' g G'->AH G G' l->Rep G' s l i x y r->Q (.int r) H'):SpRep a n vs H Q
def Ux(a:Ad)(n:Nat):Sp:=λvs H Q _=>SpRep a n vs H Q
theorem Yn{f:Addr}{fd:FuncData}(F:Fun K "replaced" "replaced" JT f fd)(T:Top K mg a)(hm:mg "replaced" = some (.ref f))(Bi:CV K fd Fu [])(aQ:BZ P w K mg base CX0 3 a.c_Grove "leaf" EW (Qt a))(a9:BZ P w K mg base CX0 2 a.c_Grove "linked" AX (EI a)):∀n,AJ P w K mg base CX0 (n+4) f fd Fu (Ux a n)
 |0=>by
  refine F.ok DH (λvs H Q E h=>?_) (λcdv A outer s H vs Q E hr h=>?_)
  ·obtain⟨g,G,i,l,x,y,s,rfl,_,_,_,h0,_⟩:=h;exact absurd h0 (N1 _)
  ·obtain⟨g,G,i,l,x,y,s,rfl,_,_,_,h0,_⟩:=h;exact absurd h0 (N1 _)
 |n+1=>by
  have bH:Cal P w K mg base CX0 (n+4) "replaced" Fu (Ux a n):=⟨f,fd,Yn F T hm Bi aQ a9 n,hm,F.kp,Bi⟩
  refine F.ok DH (λvs H Q E h=>?_) (λcdv A outer s H vs Q E hr h=>?_)
  ·obtain⟨g,G,i,l,x,y,s,rfl,_⟩:=h;rfl
  ·obtain⟨g,G,i,l,x,y,st,rfl,hg,ok,hl,ln,hx,hy,s8,few,k⟩:=h;obtain⟨q0,e0,l0⟩:=id hl;refine⟨_,(Ac (Aq (i:=5) DH.nd rfl (Or.inl rfl) (Aj Ax (AC (pv 0) rfl) (pv 1) (λ_ _=>rfl))) (Ac (AQ (AB Ct (pv 5) Ae (AF _)) (Ag (Aw (AG (pv 0) aQ (rm hr) An (Aa (pv 4) Ab)))) AD) (Ac (Aq (i:=6) DH.nd rfl (Or.inl rfl) (Ay Li Ae (Ay BY (pv 5) Ae))) (Ac (Aq (i:=7) DH.nd rfl (Or.inl rfl) (Ba Rn rfl T.b_list PyProof.Rows.boot_list (Aa (Aj Ax (AC (pv 0) rfl) (pv 1) (λ_ _=>rfl)) Ab))) (Ac (Aq (i:=8) DH.nd rfl (Or.inl rfl) (Ay AL (Ay Sg (pv 2) (pv 6)) (Ay Es Ae (Ay Sg (pv 3) (pv 6))))) (Ac (ps_asg (Ar bH (rm hr) rfl An (Aa (pv 0) (Aa (Aj Ax (pv 7) (pv 8) (λ_ _=>rfl)) (AZ Bb (pv 2) (pv 6) (AZ Bb (pv 3) (pv 6) (Aa (pv 4) Ab)))))) (pg_sub (pv 7) (pv 8) WW)) (Ag (Aw (AG (pv 0) a9 (rm hr) An (Aa (Ba Ch rfl T.b_tuple K3 (Aa (pv 7) Ab)) Ab)))))))))),?_⟩
   try dsimp only[cxK]
   refine⟨_,rfl,g.p,_,g.dx,_,_,rfl,hg.hp,T.cl_Grove,T.na_Grove_levels,FM g,_,rfl,g.lv,_,(i:Int),.int q0.lev,rfl,rfl,SqL.of hg.lv,Ai (by rw[C0,e0];rfl),?_⟩;cases l with
   |zero =>
    rw[l0];exact xq1 rfl ⟨rfl,(xq1 rfl (Cp (xwn rfl rfl hg.hp (UQ g) rfl ⟨g.p,(st:Int),rfl,by lia,by lia,k st G H (Fr.refl g H) hg (AH.refl ok) rfl⟩)))⟩
   |succ l =>
    have l0':q0.lev=(l:Int)+1:=by rw[l0];lia
    have l48:=(ok.lev e0).2;have lt64:=pow2_lt (l:=l) A0;have lpos:=QE l;obtain⟨q,p0,p1,p2,p3,nd⟩:=BP ok hl;obtain⟨ts,t,h3,et,ht⟩:=Ij hg nd;refine xq1 rfl ⟨rfl,(xq1 rfl ?_)⟩;rw[Y9 (by intro z;injection z with z;lia)];refine Bo (xwb rfl rfl rfl (xq2 rfl rfl ⟨⟨by lia,by lia,by decide⟩,?_⟩));rw[show(λ(i j:Int)=>V.int (i*2^j.toNat)) 1 (q0.lev-1)=V.int (2^l)from X6 V.int (Qp l l0')];refine xwf rfl rfl hg.hp T.cl_Grove T.na_Grove_parts (CB g) (xwi rfl rfl rfl (SqL.of h3) (Ai et) ⟨t,(xq1 rfl ⟨.inr (SqT.of ht),λL hL=>?_⟩)⟩);have aL:Ap g L:=Ap.new hg hL;have s1:=AN (o:=.lst [.int p0,.int p1,.int p2,.int p3]) hL;have hL1:upd H L (.lst [.int p0,.int p1,.int p2,.int p3]) L=some (.lst [.int p0,.int p1,.int p2,.int p3]):=Af;generalize upd H L (.lst [.int p0,.int p1,.int p2,.int p3])=H1 at s1 hL1⊢;have hg1:=hg.same s1;have qk:=Dx hx hy;refine xw2 rfl rfl (xq2 rfl rfl ⟨⟨lpos,lt64⟩,(xw2 rfl rfl (xq2 rfl rfl ⟨⟨lpos,lt64⟩,(xq2 rfl rfl ⟨.inl ⟨by decide,by decide⟩,(xq2 rfl rfl ?_)⟩)⟩))⟩);rw[show(λ(i j:Int)=>V.int (i+j)) ((x:Int)/2^l) (2*((y:Int)/2^l))=V.int ((quad l x y:Nat):Int)from X6 V.int (quad_c l x y)];have atq:[V.int (p0:Int),V.int (p1:Int),V.int (p2:Int),V.int (p3:Int)][quad l x y]?=some (.int (f4 p0 p1 p2 p3 (quad l x y):Int)):=by
     generalize quad l x y=kk at qk⊢
     match kk,qk with
     |0,_=>rfl
     |1,_=>rfl
     |2,_=>rfl
     |3,_=>rfl
    have lvq:Al G (f4 p0 p1 p2 p3 (quad l x y)) (l:Int):=(nd.nat qk).2;refine xw3 rfl rfl rfl (xq4 rfl rfl (SqL.of hL1) (Ai atq) (xw2 rfl rfl (xq2 rfl rfl ⟨lpos,(xw2 rfl rfl (xq2 rfl rfl ⟨lpos,(xq1 rfl ?_)⟩))⟩)));refine⟨g,G,f4 p0 p1 p2 p3 (quad l x y),l,x%2^l,y%2^l,st,by rw[<-mod_c,<-mod_c];rfl,hg1,ok,lvq,by lia,L9 _ (U3 A4),L9 _ (U3 A4),s8,by lia,λj G1 H2 fr hg2 go rp=>?_⟩;have gf:=go.few;have hL2:=fr.get aL hL1;refine xw2 rfl rfl ⟨L,_,((quad l x y:Nat):Int),quad l x y,rfl,rfl,hL2,by unfold ixN;rw[Y8 A0,Y8 (by show((quad l x y:Nat):Int)<((4:Nat):Int);lia),J8],?_⟩;rw[set4 p0 p1 p2 p3 j qk];have hg3:=hg2.put (o:=.lst [V.int (st4 p0 p1 p2 p3 (quad l x y) j 0:Int),V.int (st4 p0 p1 p2 p3 (quad l x y) j 1:Int),V.int (st4 p0 p1 p2 p3 (quad l x y) j 2:Int),V.int (st4 p0 p1 p2 p3 (quad l x y) j 3:Int)]) hL2 aL.1 aL.2.1;have hL3:upd H2 L (.lst [V.int (st4 p0 p1 p2 p3 (quad l x y) j 0:Int),V.int (st4 p0 p1 p2 p3 (quad l x y) j 1:Int),V.int (st4 p0 p1 p2 p3 (quad l x y) j 2:Int),V.int (st4 p0 p1 p2 p3 (quad l x y) j 3:Int)]) L=some (.lst [V.int (st4 p0 p1 p2 p3 (quad l x y) j 0:Int),V.int (st4 p0 p1 p2 p3 (quad l x y) j 1:Int),V.int (st4 p0 p1 p2 p3 (quad l x y) j 2:Int),V.int (st4 p0 p1 p2 p3 (quad l x y) j 3:Int)]):=Af;have fr3:Fr g H (upd H2 L (.lst [V.int (st4 p0 p1 p2 p3 (quad l x y) j 0:Int),V.int (st4 p0 p1 p2 p3 (quad l x y) j 1:Int),V.int (st4 p0 p1 p2 p3 (quad l x y) j 2:Int),V.int (st4 p0 p1 p2 p3 (quad l x y) j 3:Int)])):=λb o e m1 m2 m3=>by
     rw[As (Av e hL)];exact fr _ _ (s1 _ _ e) m1 m2 m3
    generalize upd H2 L (.lst [V.int (st4 p0 p1 p2 p3 (quad l x y) j 0:Int),V.int (st4 p0 p1 p2 p3 (quad l x y) j 1:Int),V.int (st4 p0 p1 p2 p3 (quad l x y) j 2:Int),V.int (st4 p0 p1 p2 p3 (quad l x y) j 3:Int)])=H3 at hg3 hL3 fr3⊢;refine xwn rfl rfl hg3.hp (BQ g) rfl ⟨L,(xq1 rfl (.inl ⟨SqL.of hL3,λt4 ht4=>?_⟩))⟩;have s4:=AN (o:=.tup [V.int (st4 p0 p1 p2 p3 (quad l x y) j 0:Int),V.int (st4 p0 p1 p2 p3 (quad l x y) j 1:Int),V.int (st4 p0 p1 p2 p3 (quad l x y) j 2:Int),V.int (st4 p0 p1 p2 p3 (quad l x y) j 3:Int)]) ht4;have ndG:=nd.app go;have lj:=rp.lev go.ok s8;have lst:∀ii,ii<4->Al G1 (st4 p0 p1 p2 p3 (quad l x y) j ii) (l:Int):=λii hi=>by
     unfold st4;split
     ·exact lj
     ·exact(ndG.nat hi).2
    refine⟨g,G1,t4,_,_,_,_,(l:Int),rfl,hg3.same s4,go.ok,Af,⟨lst 0 A4,lst 1 A4,lst 2 A4,lst 3 A4⟩,by lia,by lia,λr G2 H4 fr4 hg4 go4 e4=>?_⟩;exact k r G2 H4 (fr3.trans ((Az.fr s4).trans fr4)) hg4 (go.trans go4) ⟨q,p0,p1,p2,p3,j,nd.app (go.trans go4),rp.app go4,e4⟩
structure JF(G:Gv)(n f:Nat)(x y:Int)(s r:Nat)(k w i:Nat):Prop where
 le:n+k<=40
 wid:MV G n f k w
 lw:Al G w ((n+k+1:Nat):Int)
 li:IF x y 1 1 (2^(n+k))
 no:∀j,j<k->¬IF x y 1 1 (2^(n+j))
 rep:Rep G s (n+k+1) w (x+2^(n+k)).toNat (y+2^(n+k)).toNat i
 tr:ES G (n+k+1) i r
theorem UZ{x y:Int}{m:Nat}(h:IF x y 1 1 (2^m)):(x+2^m).toNat<2^(m+1)/\(y+2^m).toNat<2^(m+1)/\0<=x+2^m/\0<=y+2^m:=by
 obtain⟨h1,h2,h3,h4⟩:=h;have e:=GH (m+1);rw[CK]at e;have p:=QE m;refine⟨?_,?_,by lia,by lia⟩<;>lia
inductive Vq(a:Ad)(vs:List V)(H:Hp)(Q:VK):Prop
 |mk (g:GA) (G:Gv) (f n:Nat) (x y:Int) (s:Nat) (_:vs=[.ref g.p,.int f,.int x,.int y,.int s]) (_:Bp a H g G) (_:Al G f ((n+1:Nat):Int)) (_:n<=40) (_:IF x y 1 1 (2^40)) (_:s<8) (_:G.length<8000000) (_:∀(r k w i:Nat)(G':Gv)(H':Hp),Fr g H H'->Bp a H' g G'->AH G G' 400->JF G' n f x y s r k w i->Q (.int r) H'):Vq a vs H Q
def Qr(a:Ad):Sp:=λvs H Q _=>Vq a vs H Q
theorem Yq{f:Addr}{fd:FuncData}(F:Fun K "planted" "planted" Mq f fd)(T:Top K mg a)(aJ:Cal P w K mg base CX0 1 "lies_within" Du RM)(bA:Cal P w K mg base CX0 2 "is_state" Im spIS)(aK:Cal P w K mg base CX0 4 "reach_of" Em (Ju a))(bG:Cal P w K mg base CX0 5 "widened_over" Ft (spWO a))
  (bH:Cal P w K mg base CX0 54 "replaced" Fu (Ux a 50)) (aU:Cal P w K mg base CX0 4 "trimmed" GI (NR a)):AJ P w K mg base CX0 55 f fd MB (Qr a):=by
 refine F.ok GR (λvs H Q E h=>?_) (λcdv A outer s H vs Q E hr h=>?_)
 ·obtain⟨g,G,f',n,x,y,st,rfl,_⟩:=h;rfl
 ·obtain⟨g,G,f',n,x,y,st,rfl,fu,hl,n40,li,s8,few,k⟩:=h;refine⟨_,(Ac (Aq (i:=5) GR.nd rfl (Or.inl rfl) (EN (Aa (pv 2) (Aa (pv 3) (AK (AK Ab)))))) (Ac (AQ (DX (Da (Ar aJ (rm hr) rfl An (Aa (pv 5) (Aa (Cb rfl T.k_LIMIT) Ab))))) (Ag Bk) AD) (Ac (AQ (DX (Da (Ar bA (rm hr) rfl An (Aa (pv 4) Ab)))) (Ag Bk) AD) (Ac (Aq (i:=6) GR.nd rfl (Or.inl rfl) (Ar bG (rm hr) rfl An (Aa (pv 0) (Aa (pv 1) (Aa (pv 5) Ab))))) (Ac (Aq (i:=7) GR.nd rfl (Or.inl rfl) (Ar aK (rm hr) rfl An (Aa (pv 0) (Aa (pv 6) Ab)))) (Ag (Aw (Ar aU (rm hr) rfl An (Aa (pv 0) (Aa (Ar bH (rm hr) rfl An (Aa (pv 0) (Aa (pv 6) (AZ AL (pv 2) (pv 7) (AZ AL (pv 3) (pv 7) (Aa (pv 4) Ab)))))) Ab)))))))))),?_⟩
  try dsimp only[cxK]
  refine xw2 rfl rfl ⟨(by show 4<=sizeLine;decide),λt ht=>?_⟩;have s1:=AN (o:=.tup [.int x,.int y,.int 1,.int 1]) ht;have ht1:upd H t (.tup [.int x,.int y,.int 1,.int 1]) t=some (.tup [.int x,.int y,.int 1,.int 1]):=Af;generalize upd H t (.tup [.int x,.int y,.int 1,.int 1])=H1 at s1 ht1⊢;have fu1:=fu.same s1;refine xq1 rfl ⟨t,x,y,1,1,_,rfl,ht1,_,rfl,?_⟩;rw[Y7 (show IF x y 1 1 1099511627776 from li)];refine Bo (xq1 rfl ⟨(st:Int),rfl,by lia,by lia,true,rfl,Bo ?_⟩);refine xw3 rfl rfl rfl ⟨g,G,f',n,t,x,y,1,1,rfl,fu1,hl,n40,ht1,li,by lia,λkk w' G1 H2 fr2 fu2 go2 le wn lw lf no=>?_⟩;have gf2:=go2.few;refine xw2 rfl rfl ⟨g,G1,w',n+kk,rfl,fu2.at',lw,by lia,?_⟩;obtain⟨b1,b2,b3,b4⟩:=UZ lf;refine xw3 rfl rfl rfl (xw2 rfl rfl (xq2 rfl rfl (xw2 rfl rfl (xq2 rfl rfl (xq1 rfl ?_)))));refine⟨g,G1,w',n+kk+1,(x+2^(n+kk)).toNat,(y+2^(n+kk)).toNat,st,by rw[P7 b3,P7 b4];rfl,fu2.at',fu2.ok,lw,by lia,b1,b2,s8,by lia,λi' G2 H3 fr3 hg3 go3 rp=>?_⟩;have gf3:=go3.few;have fu3:=fu2.fr fr3 hg3 go3;have li':=rp.lev go3.ok s8;refine⟨g,G2,i',n+kk,rfl,fu3,li',by lia,λr G3 H4 fr4 fu4 go4 tr=>?_⟩;have go34:=go3.trans go4;exact k r kk w' i' G3 H4 ((Az.fr s1).trans (fr2.trans (fr3.trans fr4))) fu4 ((go2.trans go34).mono A0) ⟨le,wn.app go34,go34.lev lw,lf,no,rp.app go4,tr⟩
end
structure Cl where
 x:Int
 y:Int
 s:Nat
def Rv(H:Hp)(t:Addr)(c:Cl):Prop:=H t=some (.tup [.int c.x,.int c.y,.int c.s])
structure ZV(c:Cl):Prop where
 li:IF c.x c.y 1 1 (2^40)
 s:c.s<8
theorem JF.app{G G':Gv}{m n f:Nat}{x y:Int}{s r k w i:Nat}(go:AH G G' m)(h:JF G n f x y s r k w i):JF G' n f x y s r k w i:=⟨h.le,h.wid.app go,go.lev h.lw,h.li,h.no,h.rep.app go,h.tr.app go⟩
inductive Ru(G:Gv):List Cl->Nat->Nat->Prop
 |nil:Ru G [] 0 (bareN 1)
 |cons {cs:List Cl} {c:Cl} {n f r k w i m:Nat} (h:Ru G cs n f) (l:Al G f ((n+1:Nat):Int)) (p:JF G n f c.x c.y c.s r k w i) (l':Al G r ((m+1:Nat):Int)):Ru G (c::cs) m r
theorem Ru.app{G G':Gv}{m:Nat}(go:AH G G' m){cs:List Cl}{n f:Nat}(h:Ru G cs n f):Ru G' cs n f:=by
 induction h with
 |nil=>exact .nil
 |cons _ l p l' ih=>exact .cons ih (go.lev l) (p.app go) (go.lev l')
section
variable{P:Program}{w:World}{K:PySem.W.Frag}{mg:Str->Option Value}{base:Heap}{a:Ad}
inductive ZP(a:Ad)(vs:List V)(H:Hp)(Q:VK):Prop
 |mk (g:GA) (G:Gv) (L:Addr) (ts:List Addr) (cs:List Cl) (_:vs=[.ref g.p,.ref L]) (_:Bp a H g G) (_:H L=some (.lst (ts.map V.ref))) (_:L≠g.lv) (_:L≠g.pt) (_:Paired (Rv H) ts cs) (_:(∀c∈cs,ZV c)) (_:G.length+400*cs.length<8000000) (_:∀(f n:Nat)(G':Gv)(H':Hp),Fr g H H'->Bp a H' g G'->AH G G' (400*cs.length)->n<=40->Al G' f ((n+1:Nat):Int)->Ru G' cs.reverse n f->Q (.int f) H'):ZP a vs H Q
def WS(a:Ad):Sp:=λvs H Q _=>ZP a vs H Q
theorem ok_fld{f:Addr}{fd:FuncData}(F:Fun K "field_of" "field_of" La f fd)(T:Top K mg a)(aV:Cal P w K mg base CX0 1 "bare_field" EV (NB a))(cN:Cal P w K mg base CX0 55 "planted" MB (Qr a)):AJ P w K mg base CX0 56 f fd Lg (WS a):=by
 refine F.ok FU (λvs H Q E h=>?_) (λcdv A outer s H vs Q E hr h=>?_)
 ·obtain⟨g,G,L,ts,cs,rfl,_⟩:=h;rfl
 ·obtain⟨g,G,L,ts,cs,rfl,fu,hL,n1,n2,pr,oks,few,k⟩:=h;obtain⟨r0,e0⟩:=fu.g0;have lts:=Z9 pr;refine⟨_,(Ac (Aq (i:=2) FU.nd rfl (Or.inl rfl) (Ar aV (rm hr) rfl An (Aa (pv 0) Ab))) (Ac (Cy Z6 rfl (BV (pv 1)) (Bn (i:=3) FU.nd rfl (Or.inl rfl)) (Ag (Aq (i:=2) FU.nd rfl (Or.inl rfl) (Ar cN (rm hr) rfl An (Aa (pv 0) (Aa (pv 2) (Aa (Aj Am (pv 3) Ae (λ_ _=>rfl)) (Aa (Aj Am (pv 3) Ae (λ_ _=>rfl)) (Aa (Aj Am (pv 3) Ae (λ_ _=>rfl)) Ab))))))))) (Ag (Aw (pv 2))))),?_⟩
  try dsimp only[cxK]
  refine xq1 rfl ⟨g,G,rfl,fu,?_⟩;refine xq1 rfl ⟨L,rfl,⟨_,SqL.of hL⟩,?_⟩;refine LV (xs:=ts.map V.ref) (λj σ H2=>∃(G':Gv)(f n:Nat)(u3:Option V),σ=[some (.ref g.p),some (.ref L),some (.int f),u3]/\Fr g H H2/\Bp a H2 g G'/\AH G G' (400*j)/\n<=40/\Al G' f ((n+1:Nat):Int)/\Ru G' (cs.take j).reverse n f) ⟨G,bareN 1,0,none,rfl,Fr.refl g H,fu,AH.refl fu.ok,by lia,GN e0 A0,.nil⟩ (λj σ H2 _ ⟨_,_,_,_,_,fr,_⟩=>SqL.of (fr _ _ hL n1 n2 (AE hL fu.at'.nm A3))) ?_ ?_
  ·rintro j v σ H2 ev ⟨G',f',n,u3,rfl,fr,fu2,go,n40,lf,fl⟩;rw[C0]at ev;obtain⟨t,et,rfl⟩:=D2.mp ev;obtain⟨c,ec,hc⟩:=PairedM.getL pr et;have cok:=oks c (D1 ec);have hj:j<cs.length:=(B9.mp ec).1;have hc2:=fr.tup fu.at' hc;have gf:=go.few;refine xw3 rfl rfl rfl (xq4 rfl rfl (SqT.of hc2) (Ai (j:=0) rfl) (xwi rfl rfl rfl (SqT.of hc2) (Ai (j:=1) rfl) (xwi rfl rfl rfl (SqT.of hc2) (Ai (j:=2) rfl) ?_)));refine⟨g,G',f',n,c.x,c.y,c.s,rfl,fu2,lf,n40,cok.li,cok.s,by lia,λr kk w' i' G2 H3 fr3 fu3 go3 pl=>?_⟩;have li':=pl.rep.lev fu3.ok cok.s;obtain⟨m,lm,lr⟩:=ES.lev li' pl.tr;have le:=pl.le;refine⟨G2,r,m,(xq1 rfl ⟨fr.trans fr3,fu3,(go.trans go3).mono A0,by lia,lr,?_⟩)⟩;rw[F5,ec,Q4,List.reverse_append];exact .cons (fl.app go3) (go3.lev lf) pl lr
  ·rintro σ H2 ⟨G',f',n,u3,rfl,fr,fu2,go,n40,lf,fl⟩;rw[B8,lts]at go fl;rw[J0]at fl;exact xq1 rfl (k f' n G' H2 fr fu2 go n40 lf fl)
end
def Js(G:Gv)(n f:Nat):Prop:=n=0\/∃m qs ps,n=m+1/\Ny G m f qs ps/\¬BA m ps
theorem Js.app{G G':Gv}{k n f:Nat}(go:AH G G' k)(h:Js G n f):Js G' n f:=by
 rcases h with h|⟨m,qs,ps,e,d,b⟩
 ·exact .inl h
 ·exact .inr ⟨m,qs,ps,e,d.app go,b⟩
end J
namespace J
open PySem L2
def Dm(G:Gv):Nat->Nat->Nat->Nat->Nat
 |0,i,_,_=>i
 |n+1,i,x,y=>match G[i]? with
  |some q=>Dm G n (q.parts.getD (quad n x y) 0).toNat (x%2^n) (y%2^n)
  |none=>0
theorem Bq(n:Nat):0<2^n:=U3 A4
theorem BL{G:Gv}{n i:Nat}{q:Sq}{a b c d:Nat}(h:IC G n i q a b c d){x y:Nat}(hx:x<2^(n+1))(hy:y<2^(n+1)):Dm G (n+1) i x y=Dm G n (f4 a b c d (quad n x y)) (x%2^n) (y%2^n):=by
 rw[show Dm G (n+1) i x y=(match G[i]? with|some q=>Dm G n (q.parts.getD (quad n x y) 0).toNat (x%2^n) (y%2^n)|none=>0)from rfl,h.g];show Dm G n (q.parts.getD (quad n x y) 0).toNat _ _=_;have:=(h.nat (Dx hx hy)).1;rw[D8,this];rfl
theorem SO{G G':Gv}{k:Nat}(ok:GOk G)(go:AH G G' k):∀{n i x y:Nat},Al G i (n:Int)->x<2^n->y<2^n->Dm G' n i x y=Dm G n i x y
 |0,_,_,_,_,_,_=>rfl
 |n+1,i,x,y,h,hx,hy=>by
  obtain⟨q,a,b,c,d,nd⟩:=BP ok h;rw[BL nd hx hy,BL (nd.app go) hx hy];exact SO ok go (nd.nat (Dx hx hy)).2 (L9 _ (Bq n)) (L9 _ (Bq n))
theorem GL{G r:Gv}(e:G=G0++r)(ok:GOk G):∀{n x y:Nat},n<=48->x<2^n->y<2^n->Dm G n (bareN n) x y=0
 |0,_,_,_,_,_=>rfl
 |n+1,x,y,hn,hx,hy=>by
  obtain⟨q,a,b,c,d,nd⟩:=BP ok (GN e (n:=n+1) hn);have bn:a=bareN n/\b=bareN n/\c=bareN n/\d=bareN n:=by
   have g:=nd.g;rw[show bareN (n+1)=8+n from rfl,Zi e n A0]at g;cases g;have s:[(bareN n:Int),(bareN n:Int),(bareN n:Int),(bareN n:Int)]=[(a:Int),(b:Int),(c:Int),(d:Int)]:=nd.ps;injection s with s0 s
   injection s with s1 s
   injection s with s2 s
   injection s with s3 s
   exact⟨(Z8 s0).symm,(Z8 s1).symm,(Z8 s2).symm,(Z8 s3).symm⟩
  obtain⟨rfl,rfl,rfl,rfl⟩:=bn;rw[BL nd hx hy];have:f4 (bareN n) (bareN n) (bareN n) (bareN n) (quad n x y)=bareN n:=by unfold f4;split<;>rfl
  rw[this];exact GL e ok A0 (L9 _ (Bq n)) (L9 _ (Bq n))
theorem Ix{n k x y:Nat}(hk:k<4)(hx:x<2^n)(hy:y<2^n):(x+2^n*(k%2))<2^(n+1)/\(y+2^n*(k/2))<2^(n+1)/\quad n (x+2^n*(k%2)) (y+2^n*(k/2))=k/\(x+2^n*(k%2))%2^n=x/\(y+2^n*(k/2))%2^n=y:=by
 have p:=Bq n;have e:2^(n+1)=2*2^n:=by rw[F4];lia
 unfold quad;rw[N6 _ _ p,N6 _ _ p,O0,O0,M8 hx,M8 hy,O1 hx,O1 hy,e];generalize 2^n=h at *
 match k,hk with
 |0,_=>exact⟨by lia,by lia,rfl,rfl,rfl⟩
 |1,_=>exact⟨by lia,by lia,rfl,rfl,rfl⟩
 |2,_=>exact⟨by lia,by lia,rfl,rfl,rfl⟩
 |3,_=>exact⟨by lia,by lia,rfl,rfl,rfl⟩
theorem MR{G:Gv}(ok:GOk G):∀{n i j:Nat},Al G i (n:Int)->Al G j (n:Int)->(∀x y,x<2^n->y<2^n->Dm G n i x y=Dm G n j x y)->i=j
 |0,i,j,_,_,h=>h 0 0 A4 A4
 |n+1,i,j,hi,hj,h=>by
  obtain⟨q,a,b,c,d,nd⟩:=BP ok hi;obtain⟨q',a',b',c',d',nd'⟩:=BP ok hj;have key:∀k,k<4->f4 a b c d k=f4 a' b' c' d' k:=λk hk=>by
   refine MR ok (nd.nat hk).2 (nd'.nat hk).2 λx y hx hy=>?_;obtain⟨h1,h2,h3,h4,h5⟩:=Ix hk hx hy;have:=h _ _ h1 h2;rw[BL nd h1 h2,BL nd' h1 h2,h3,h4,h5]at this;exact this
  have k0:a=a':=key 0 A4;have k1:b=b':=key 1 A4;have k2:c=c':=key 2 A4;have k3:d=d':=key 3 A4;subst k0 k1 k2 k3;exact ok.one nd.g nd'.g (nd.ps.trans nd'.ps.symm)
theorem RL{n x X:Nat}(h1:x/2^n=X/2^n)(h2:x%2^n=X%2^n):x=X:=by
 rw[<-N3 x (2^n),<-N3 X (2^n),h1,h2]
theorem RV{G:Gv}(ok:GOk G){s:Nat}(hs:s<8):∀{n i X Y r x y:Nat},X<2^n->Y<2^n->x<2^n->y<2^n->Rep G s n i X Y r->Dm G n r x y=if x=X/\y=Y then s else Dm G n i x y
 |0,i,X,Y,r,x,y,hX,hY,hx,hy,h=>by
  have h:r=s:=h;have e1:X=0:=W2.mp hX;have e2:Y=0:=W2.mp hY;have e3:x=0:=W2.mp hx;have e4:y=0:=W2.mp hy;subst e1 e2 e3 e4 h;rfl
 |n+1,i,X,Y,r,x,y,hX,hY,hx,hy,h=>by
  obtain⟨q,a,b,c,d,j,nd,h1,e⟩:=h;have lj:=h1.lev ok hs;have lst:∀ii,ii<4->Al G (st4 a b c d (quad n X Y) j ii) (n:Int):=λii hi=>by
   unfold st4;split
   ·exact lj
   ·exact(nd.nat hi).2
  have nr:IC G n r _ (st4 a b c d (quad n X Y) j 0) (st4 a b c d (quad n X Y) j 1) (st4 a b c d (quad n X Y) j 2) (st4 a b c d (quad n X Y) j 3):=⟨e,rfl,rfl,lst 0 A4,lst 1 A4,lst 2 A4,lst 3 A4⟩
  have qk:=Dx hx hy;rw[BL nr hx hy,BL nd hx hy,OU (st4 a b c d (quad n X Y) j) qk];have m:=Bq n;have x2:=Gb hx;have y2:=Gb hy;have X2:=Gb hX;have Y2:=Gb hY;unfold st4;by_cases hq:quad n x y=quad n X Y
  ·rw[Y8 hq,RV ok hs (L9 _ m) (L9 _ m) (L9 _ m) (L9 _ m) h1,hq];have exy:x/2^n=X/2^n/\y/2^n=Y/2^n:=by
    unfold quad at hq;generalize x/2^n=A at *
    generalize X/2^n=B at *
    generalize y/2^n=C at *
    generalize Y/2^n=D at *
    lia
   obtain⟨ex,ey⟩:=exy;by_cases hxy:x=X/\y=Y
   ·rw[Y8 hxy,Y8 ⟨by rw[hxy.1],by rw[hxy.2]⟩]
   ·rw[Y6 hxy,Y6 λz=>hxy ⟨RL ex z.1,RL ey z.2⟩]
  ·rw[Y6 hq,Y6 λz=>hq (by rw[z.1,z.2])]
def fieldF(G:Gv)(n f:Nat)(x y:Int):Nat:=if -(2^n)<=x/\x<2^n/\-(2^n)<=y/\y<2^n then Dm G (n+1) f (x+2^n).toNat (y+2^n).toNat else 0
theorem IG{n:Nat}{x:Int}(h0:-(2^n)<=x)(h1:x<2^n):(x+2^n).toNat<2^(n+1):=by
 have e:=GH (n+1);rw[CK]at e;lia
theorem GK{G G':Gv}{k n f:Nat}(ok:GOk G)(go:AH G G' k)(h:Al G f ((n+1:Nat):Int))(x y:Int):fieldF G' n f x y=fieldF G n f x y:=by
 unfold fieldF;split
 ·rename_i z;exact SO ok go h (IG z.1 z.2.1) (IG z.2.2.1 z.2.2.2)
 ·rfl
theorem QY{h X:Nat}(u:Nat)(h1:h*u<=X)(h2:X<h*(u+1)):X/h=u/\X%h=X-h*u:=by
 have e:X/h=u:=Nat.div_eq_of_lt_le (by rw[T4];exact h1) (by rw[T4];exact h2);exact⟨e,by have:=N3 X h;rw[e]at this;lia⟩
theorem LO(x n:Nat):x%2^(n+1)%2^n=x%2^n:=Nat.mod_mod_of_dvd x ⟨2,by rw[F4]⟩
theorem MQ{G:Gv}{n i:Nat}{qs:Nat->Nat}{ps:Nat->Nat->Nat}(h:Ny G n i qs ps){x y:Nat}(hx:x<2^(n+2))(hy:y<2^(n+2)):Dm G (n+2) i x y=Dm G n (ps (quad (n+1) x y) (quad n (x%2^(n+1)) (y%2^(n+1)))) (x%2^n) (y%2^n):=by
 obtain⟨q,nd⟩:=h.node;have qk:=Dx (l:=n+1) hx hy;have hx1:x%2^(n+1)<2^(n+1):=L9 _ (Bq _);have hy1:y%2^(n+1)<2^(n+1):=L9 _ (Bq _);obtain⟨q',nk⟩:=h.sub _ qk;rw[BL nd hx hy,OU qs qk,BL nk hx1 hy1,OU (ps _) (Dx hx1 hy1),LO,LO]
theorem bits{h u:Nat}(hu:u<2*h):(u+h)/(2*h)=u/h/\(u+h)%(2*h)/h=1-u/h/\(u+h)%h=u%h/\u/h<2:=by
 have p:0<h:=by lia
 rcases Nat.lt_or_ge u h with z|z
 ·have e1:u/h=0:=M8 z;have e2:(u+h)/(2*h)=0:=M8 A0;have e3:(u+h)%(2*h)=u+h:=O1 A0;have e4:(u+h)/h=1:=(QY (X:=u+h) 1 A0 A0).1;exact⟨by rw[e1,e2],by rw[e3,e4,e1],Nat.add_mod_right u h,by lia⟩
 ·have e1:u/h=1:=(QY 1 A0 A0).1;have e2:=QY (h:=2*h) (X:=u+h) 1 A0 A0;have e3:(u+h-2*h*1)/h=0:=M8 A0;exact⟨by rw[e1,e2.1],by rw[e2.2,e3,e1],Nat.add_mod_right u h,by lia⟩
theorem Sb(n:Nat):2^(n+1)=2*2^n:=by rw[F4];lia
theorem YI{G:Gv}(ok:GOk G){n i m:Nat}{qs:Nat->Nat}{ps:Nat->Nat->Nat}(h:Ny G n i qs ps)(em:G[m]?=some ⟨[(ps 0 3:Int),(ps 1 2:Int),(ps 2 1:Int),(ps 3 0:Int)],(n:Int)+1⟩){u v:Nat}(hu:u<2^(n+1))(hv:v<2^(n+1)):Dm G (n+2) i (u+2^n) (v+2^n)=Dm G (n+1) m u v:=by
 have lp:∀k j,k<4->j<4->Al G (ps k j) (n:Int):=λk j hk hj=>by
  obtain⟨q,nk⟩:=h.sub k hk;have:=(nk.nat hj).2;rw[OU (ps k) hj]at this;exact this
 have nm:IC G n m _ (ps 0 3) (ps 1 2) (ps 2 1) (ps 3 0):=⟨em,rfl,rfl,lp 0 3 A4 A4,lp 1 2 A4 A4,lp 2 1 A4 A4,lp 3 0 A4 A4⟩
 have e1:=Sb n;have e2:2^(n+2)=2*2^(n+1):=Sb (n+1);have p:=Bq n;rw[MQ h A0 A0,BL nm hu hv];unfold quad;rw[e1];rw[e1]at hu hv;apply Be;intro G_ hG_;obtain⟨a1,a2,a3,a4⟩:=bits hu;obtain⟨b1,b2,b3,b4⟩:=bits hv;apply hG_;clear hG_ G_;rw[a1,a2,a3,b1,b2,b3];have two:∀{A:Nat},A<2->A=0\/A=1:=λ{A} h=>by lia
 have hu2:=two a4;have hv2:=two b4;rcases hu2 with z|z<;>rcases hv2 with z'|z'<;>rw[z,z']<;>rfl
theorem mid_iff'{m X Y:Nat}{x y:Int}(eX:(X:Int)=x+2^(m+1))(eY:(Y:Int)=y+2^(m+1))(hX:X<2^(m+2))(hY:Y<2^(m+2)):quad m (X%2^(m+1)) (Y%2^(m+1))+quad (m+1) X Y=3↔(-(2^m)<=x/\x<2^m/\-(2^m)<=y/\y<2^m):=by
 have p:=Bq m;have e1:=Sb m;have e2:2^(m+2)=2*2^(m+1):=Sb (m+1);have c1:=GH m;have c2:=GH (m+1);rw[e1]at c2;unfold quad;rw[e1];rw[e2,e1]at hX hY;rw[<-c2]at eX eY;rw[<-c1];generalize 2^m=h at *
 have key:∀{X:Nat}{x:Int},(X:Int)=x+((2*h:Nat):Int)->X<2*(2*h)->(X%(2*h)/h+X/(2*h)=1 ↔ -(h:Int)<=x/\x<(h:Int))/\X%(2*h)/h<2/\X/(2*h)<2:=by
  intro X x e l;have h2:0<2*h:=by lia
  have q2:X/(2*h)<2:=by rw[V9 h2];exact l
  have r2:X%(2*h)<2*h:=L9 _ h2;have q1:X%(2*h)/h<2:=by rw[V9 p];exact r2
  have d2:=N3 X (2*h);have d1:=N3 (X%(2*h)) h;have m1:=L9 (X%(2*h)) p;refine⟨?_,q1,q2⟩;generalize X/(2*h)=u at *
  generalize X%(2*h)/h=v at *
  generalize X%(2*h)%h=t at *
  generalize X%(2*h)=rr at *
  have hu:u=0\/u=1:=by lia
  have hv:v=0\/v=1:=by lia
  rcases hu with rfl|rfl<;>rcases hv with rfl|rfl<;>simp only[Nat.mul_zero,Nat.mul_one,M5]at d1 d2<;>lia
 obtain⟨kx,x1,x2⟩:=key eX hX;obtain⟨ky,y1,y2⟩:=key eY hY;clear key;generalize X%(2*h)/h=A at *
 generalize X/(2*h)=B at *
 generalize Y%(2*h)/h=C at *
 generalize Y/(2*h)=D at *
 constructor
 ·intro z;have zx:=kx.mp A0;have zy:=ky.mp A0;exact⟨zx.1,zx.2,zy.1,zy.2⟩
 ·rintro z0_;apply Be;intro G_ hG_;obtain⟨z1,z2,z3,z4⟩:=z0_;apply hG_;clear hG_ G_;have zx:=kx.mpr ⟨z1,z2⟩;have zy:=ky.mpr ⟨z3,z4⟩;lia
theorem PL{G r:Gv}(e0:G=G0++r)(ok:GOk G){n i m:Nat}(hn:n<=46){qs:Nat->Nat}{ps:Nat->Nat->Nat}(h:Ny G n i qs ps)(ba:BA n ps)(em:G[m]?=some ⟨[(ps 0 3:Int),(ps 1 2:Int),(ps 2 1:Int),(ps 3 0:Int)],(n:Int)+1⟩)(x y:Int):fieldF G (n+1) i x y=fieldF G n m x y:=by
 have s1:=CK n;have p:=QE n;unfold fieldF;by_cases hin:-(2^n)<=x/\x<2^n/\-(2^n)<=y/\y<2^n
 ·apply Be;intro G_ hG_;obtain⟨a1,a2,a3,a4⟩:=hin;apply hG_;clear hG_ G_;rw[Y8 ⟨by lia,by lia,by lia,by lia⟩,Y8 ⟨a1,a2,a3,a4⟩];have hu:=IG a1 a2;have hv:=IG a3 a4;have c:=GH n;have ex:(x+2^(n+1)).toNat=(x+2^n).toNat+2^n:=by lia
  have ey:(y+2^(n+1)).toNat=(y+2^n).toNat+2^n:=by lia
  rw[ex,ey];exact YI ok h em hu hv
 ·rw[Y6 hin];split
  ·rename_i z;apply Be;intro G_ hG_;obtain⟨z1,z2,z3,z4⟩:=z;apply hG_;clear hG_ G_;have hX:=IG z1 z2;have hY:=IG z3 z4;rw[MQ h hX hY];have ne:¬quad n ((x+2^(n+1)).toNat%2^(n+1)) ((y+2^(n+1)).toNat%2^(n+1))+quad (n+1) (x+2^(n+1)).toNat (y+2^(n+1)).toNat=3:=λq=>hin ((mid_iff' (P7 A0) (P7 A0) hX hY).mp q);rw[ba _ _ (Dx hX hY) (Dx (L9 _ (Bq _)) (L9 _ (Bq _))) ne];exact GL e0 ok A0 (L9 _ (Bq _)) (L9 _ (Bq _))
  ·rfl
theorem GP{G r0:Gv}(e0:G=G0++r0)(ok:GOk G):∀{n f r:Nat},n<=47->Al G f ((n+1:Nat):Int)->ES G (n+1) f r->∃m,m<=n/\Al G r ((m+1:Nat):Int)/\Js G m r/\∀x y,fieldF G m r x y=fieldF G n f x y
 |0,f,r,_,hl,h=>by
  have h:r=f:=h;subst h;exact⟨0,C1 _,hl,.inl rfl,λ_ _=>rfl⟩
 |n+1,f,r,hn,hl,h=>by
  apply Be;intro G_ hG_;obtain⟨qs,ps,d,h⟩:=h;apply hG_;clear hG_ G_;rcases h with ⟨nb,rfl⟩|⟨ba,m,em,h⟩
  ·exact⟨n+1,C1 _,hl,.inr ⟨n,qs,ps,rfl,d,nb⟩,λ_ _=>rfl⟩
  ·obtain⟨k,hk,lk,tk,ek⟩:=GP e0 ok A0 ⟨_,em,by show(n:Int)+1=_;lia⟩ h;refine⟨k,by lia,lk,tk,λx y=>?_⟩;rw[ek x y,PL e0 ok A0 d ba em x y]
theorem VB{G r:Gv}(e0:G=G0++r)(ok:GOk G){n f w:Nat}(hn:n<=46)(h:Wid G n f w)(x y:Int):fieldF G (n+1) w x y=fieldF G n f x y:=by
 apply Be;intro G_ hG_;obtain⟨q,a,b,c,d,w0,w1,w2,w3,nd,ea,eb,ec,ed,ew⟩:=h.ex;apply hG_;clear hG_ G_;have lb:=GN e0 (n:=n) A0;have lv:∀{p:Nat}{l:List Int},G[p]?=some ⟨l,(n:Int)+1⟩->Al G p ((n+1:Nat):Int):=λ{p l} e=>⟨_,e,by show(n:Int)+1=_;lia⟩
 have dp:Ny G n w (f4 w0 w1 w2 w3) (λk j=>if j+k=3 then f4 a b c d k else bareN n):=by
  refine⟨⟨_,ew,rfl,by show(n:Int)+2=_;lia,lv ea,lv eb,lv ec,lv ed⟩,λk hk=>?_⟩
  match k,hk with
  |0,_=>exact⟨_,ea,rfl,rfl,lb,lb,lb,nd.hx⟩
  |1,_=>exact⟨_,eb,rfl,rfl,lb,lb,nd.hy,lb⟩
  |2,_=>exact⟨_,ec,rfl,rfl,lb,nd.hz,lb,lb⟩
  |3,_=>exact⟨_,ed,rfl,rfl,nd.hw,lb,lb,lb⟩
 have g:=nd.g;have l:=nd.lev;have ps:=nd.ps;refine PL e0 ok hn dp (λk j _ _ ne=>Y6 ne) ?_ x y;rw[g];cases q with
 |mk pp ll=>cases ps;cases l;rfl
theorem JQ{G r:Gv}(e0:G=G0++r)(ok:GOk G){n f:Nat}:∀{k w:Nat},n+k<=46->MV G n f k w->∀x y,fieldF G (n+k) w x y=fieldF G n f x y
 |0,w,_,h,x,y=>by
  have h:w=f:=h;subst h;rfl
 |k+1,w,hk,h,x,y=>by
  obtain⟨u,h1,h2⟩:=h;rw[show n+(k+1)=n+k+1 by lia,VB e0 ok A0 h2 x y];exact JQ e0 ok A0 h1 x y
theorem Sc{G r0:Gv}(e0:G=G0++r0)(ok:GOk G){n f s r k w i:Nat}{X Y:Int}(hs:s<8)(h:JF G n f X Y s r k w i):∃m,m<=40/\Al G r ((m+1:Nat):Int)/\Js G m r/\∀x y,fieldF G m r x y=if x=X/\y=Y then s else fieldF G n f x y:=by
 have le:=h.le;have li:=h.rep.lev ok hs;obtain⟨m,hm,lm,tm,em⟩:=GP e0 ok A0 li h.tr;refine⟨m,by lia,lm,tm,λx y=>?_⟩;rw[em x y,<-JQ e0 ok A0 h.wid x y];apply Be;intro G_ hG_;obtain⟨b1,b2,b3,b4⟩:=UZ h.li;obtain⟨l1,l2,l3,l4⟩:=h.li;apply hG_;clear hG_ G_;unfold fieldF;split
 ·rename_i z;apply Be;intro G_ hG_;obtain⟨z1,z2,z3,z4⟩:=z;apply hG_;clear hG_ G_;rw[RV ok hs b1 b2 (IG z1 z2) (IG z3 z4) h.rep];by_cases hxy:x=X/\y=Y
  ·rw[Y8 hxy,Y8 ⟨by rw[hxy.1],by rw[hxy.2]⟩]
  ·rw[Y6 hxy,Y6 λq=>hxy ⟨by lia,by lia⟩]
 ·rename_i z;rw[Y6 λq=>z ⟨by lia,by lia,by lia,by lia⟩]
theorem YN{G r:Gv}(e0:G=G0++r)(ok:GOk G){n i:Nat}(hn:n<=48)(h:Al G i (n:Int))(ne:i≠bareN n):∃x y,x<2^n/\y<2^n/\Dm G n i x y≠0:=by
 refine Z7 λz=>ne (MR ok h (GN e0 hn) λx y hx hy=>?_);rw[GL e0 ok hn hx hy];exact Z7 λq=>z ⟨x,y,hx,hy,q⟩
theorem RA{G r:Gv}(e0:G=G0++r)(ok:GOk G){m f:Nat}(hm:m<=46)(h:Js G (m+1) f):∃x y:Int,¬(-(2^m)<=x/\x<2^m/\-(2^m)<=y/\y<2^m)/\fieldF G (m+1) f x y≠0:=by
 rcases h with h|⟨m',qs,ps,e,dp,nb⟩
 ·lia
 ·have:m'=m:=by lia
  subst this;have:∃k j,k<4/\j<4/\j+k≠3/\ps k j≠bareN m':=by
   refine Z7 λz=>nb λk j hk hj ne=>Z7 λq=>z ⟨k,j,hk,hj,ne,q⟩
  apply Be;intro G_ hG_;obtain⟨k,j,hk,hj,ne,nbare⟩:=this;obtain⟨qk,nk⟩:=dp.sub k hk;apply hG_;clear hG_ G_;have lp:Al G (ps k j) (m':Int):=by
   have:=(nk.nat hj).2;rw[OU (ps k) hj]at this;exact this
  obtain⟨u,v,hu,hv,hc⟩:=YN e0 ok A0 lp nbare;apply Be;intro G_ hG_;obtain⟨a1,a2,a3,a4,a5⟩:=Ix hj hu hv;obtain⟨b1,b2,b3,b4,b5⟩:=Ix (n:=m'+1) hk a1 a2;apply hG_;clear hG_ G_;generalize hX:u+2^m'*(j%2)+2^(m'+1)*(k%2)=X at *
  generalize hY:v+2^m'*(j/2)+2^(m'+1)*(k/2)=Y at *
  have c1:=GH (m'+1);have c2:=GH (m'+2);have s2:=CK (m'+1);rw[s2]at c2;refine⟨(X:Int)-2^(m'+1),(Y:Int)-2^(m'+1),λz=>ne ?_,?_⟩
  ·have:=(mid_iff' (X:=X) (Y:=Y) A0 A0 b1 b2).mpr z;rw[b3,b4,b5,a3]at this;exact this
  ·unfold fieldF;rw[Y8 ⟨by lia,by lia,by lia,by lia⟩,show((X:Int)-2^(m'+1)+2^(m'+1)).toNat=X by lia,show((Y:Int)-2^(m'+1)+2^(m'+1)).toNat=Y by lia,MQ dp b1 b2,b3,b4,b5,a3];have d1:X%2^m'=u:=by rw[<-LO,b4,a4]
   have d2:Y%2^m'=v:=by rw[<-LO,b5,a5]
   rw[d1,d2];exact hc
theorem OT{G r:Gv}(e0:G=G0++r)(ok:GOk G){n m f f':Nat}(hn:n<=47)(hm:m<=47)(lf:Al G f ((n+1:Nat):Int))(lf':Al G f' ((m+1:Nat):Int))(t:Js G n f)(t':Js G m f')(h:∀x y,fieldF G n f x y=fieldF G m f' x y):n=m/\f=f':=by
 have le:∀{n m f f':Nat},m<=47->Js G m f'->(∀x y,fieldF G n f x y=fieldF G m f' x y)->m<=n:=by
  intro n m f f' hm t' h;refine O8 λz=>?_;obtain⟨k,rfl⟩:∃k,m=k+1:=⟨m-1,by lia⟩
  obtain⟨x,y,out,lv⟩:=RA e0 ok A0 t';rw[<-h x y]at lv;unfold fieldF at lv;split at lv
  ·rename_i q;have:(2:Int)^n<=2^k:=by
    have:=M6 (show 0<2 by decide) (show n<=k by lia)
    exact_mod_cast this
   exact out ⟨by lia,by lia,by lia,by lia⟩
  ·exact lv rfl
 have e1:=le hm t' h;have e2:=le hn t λx y=>(h x y).symm;have e:n=m:=by lia
 subst e;refine⟨rfl,MR ok lf lf' λx y hx hy=>?_⟩;have c1:=GH n;have c2:=GH (n+1);have s2:=CK n;rw[s2]at c2;have:=h ((x:Int)-2^n) ((y:Int)-2^n);unfold fieldF at this;rw[Y8 ⟨by lia,by lia,by lia,by lia⟩,Y8 ⟨by lia,by lia,by lia,by lia⟩,show((x:Int)-2^n+2^n).toNat=x by lia,show((y:Int)-2^n+2^n).toNat=y by lia]at this;exact this
def Fix:HO->Prop
 |.tup _=>True
 |.ins _ _ _=>True
 |_=>False
def Fx(l:List Addr)(H H':Hp):Prop:=∀b o,H b=some o->(b∈l->Fix o)->H' b=some o
theorem Fx.get{l:List Addr}{H1 H2:Hp}(h:Fx l H1 H2){b:Addr}{o:HO}(n:b∉l)(e:H1 b=some o):H2 b=some o:=h b o e λz=>absurd z n
theorem Fx.tup{l:List Addr}{H1 H2:Hp}(h:Fx l H1 H2){b:Addr}{xs:List V}(e:H1 b=some (.tup xs)):H2 b=some (.tup xs):=h b _ e λ_=>True.intro
def FL(g:GA):List Addr:=[g.lv,g.pt,g.nm,g.br,g.am,g.bx]
theorem Bp.fx{a:Ad}{g:GA}{G:Gv}{H H':Hp}{l:List Addr}(h:Bp a H g G)(f:Fx l H H')(n:∀x∈FL g,x∉l):Bp a H' g G:=by
 obtain⟨at',ok,g0,br,⟨ks,h1,h2⟩,⟨ks',h3,h4⟩,n1,n2,n3⟩:=h;obtain⟨p1,p2,⟨ts,p3,p4⟩,p5,p6⟩:=at';have m:∀x∈FL g,∀o,H x=some o->H' x=some o:=λx hx o e=>f.get (n x hx) e;refine⟨⟨f _ _ p1 λ_=>True.intro,m _ (by simp[FL]) _ p2,⟨ts,m _ (by simp[FL]) _ p3,PairedM.imp (λt q z=>f.tup z) p4⟩,m _ (by simp[FL]) _ p5,p6⟩,ok,g0,m _ (by simp[FL]) _ br,⟨ks,m _ (by simp[FL]) _ h1,h2⟩,⟨ks',m _ (by simp[FL]) _ h3,h4.keys,λi v e=>?_⟩,n1,n2,n3⟩;obtain⟨l,b,t,e1,e2,e3,e4⟩:=h4.val i v e;exact⟨l,b,t,e1,e2,e3,f.tup e4⟩
theorem Dz{H:Hp}{x y:Addr}{o:HO}(h:upd H x o y=none):H y=none:=by
 by_cases e:y=x
 ·subst e;rw[Af]at h;cases h
 ·rw[As e]at h;exact h
theorem SY.none{a:Ad}{H H':Hp}{x dx:Addr}{o o':HO}{g:GA}{G:Gv}{B:List Int}{am:List (Key×V)}(N:SY a (upd (upd H dx o) x o') H' g G B am):∀y∈FL g,H y=none:=λy hy=>by
 obtain⟨f1,f2,f3,f4,f5,f6⟩:=N.fresh;simp only[FL,C3,F0,X7]at hy;rcases hy with rfl|rfl|rfl|rfl|rfl|rfl
 ·exact Dz (Dz f1)
 ·exact Dz (Dz f2)
 ·exact Dz (Dz f3)
 ·exact Dz (Dz f4)
 ·exact Dz (Dz f5)
 ·exact Dz (Dz f6)
theorem Az.fxn{H H3 H4:Hp}{m:List Addr}(s:Az H H3)(f:Fx m H3 H4)(n:∀y∈m,H y=none):Az H H4:=λb o e=>f.get (λz=>by rw[n b z]at e;cases e) (s _ _ e)
structure Pa(L:Int->Int->Prop)(b:Bx):Prop where
 inn:∀u v,L u v->b.l<=u/\u<b.l+b.w/\b.t<=v/\v<b.t+b.h
 le:∃v,L b.l v
 to:∃u,L u b.t
 ri:∃v,L (b.l+b.w-1) v
 bo:∃u,L u (b.t+b.h-1)
theorem Sw{l:List Int}(h:l≠[]):mnL l∈l/\∀x∈l,mnL l<=x:=by
 unfold mnL;cases e:l.min? with
 |none=>exact absurd (List.min?_eq_none_iff.mp e) h
 |some m=>exact List.min?_eq_some_iff.mp e
theorem Ss{l:List Int}(h:l≠[]):mxL l∈l/\∀x∈l,x<=mxL l:=by
 unfold mxL;cases e:l.max? with
 |none=>exact absurd (List.max?_eq_none_iff.mp e) h
 |some m=>exact List.max?_eq_some_iff.mp e
theorem VE{L:Int->Int->Prop}{bs:List Bx}(ne:bs≠[])(h1:∀b∈bs,∃M:Int->Int->Prop,Pa M b/\∀u v,M u v->L u v)(h2:∀u v,L u v->∃b∈bs,b.l<=u/\u<b.l+b.w/\b.t<=v/\v<b.t+b.h):Pa L (OK bs):=by
 have n1:bs.map (·.l)≠[]:=λz=>ne (R7.mp z);have n2:bs.map (·.t)≠[]:=λz=>ne (R7.mp z);have n3:(bs.map λb=>b.l+b.w)≠[]:=λz=>ne (R7.mp z);have n4:(bs.map λb=>b.t+b.h)≠[]:=λz=>ne (R7.mp z);obtain⟨m1,a1⟩:=Sw n1;obtain⟨m2,a2⟩:=Sw n2;obtain⟨m3,a3⟩:=Ss n3;obtain⟨m4,a4⟩:=Ss n4;obtain⟨b1,hb1,e1⟩:=D5.mp m1;obtain⟨b2,hb2,e2⟩:=D5.mp m2;obtain⟨b3,hb3,e3⟩:=D5.mp m3;obtain⟨b4,hb4,e4⟩:=D5.mp m4;unfold OK;refine⟨λu v q=>?_,?_,?_,?_,?_⟩
 ·obtain⟨b,hb,q1,q2,q3,q4⟩:=h2 u v q;have c1:=a1 _ (D5.mpr ⟨b,hb,rfl⟩);have c2:=a2 _ (D5.mpr ⟨b,hb,rfl⟩);have c3:=a3 _ (D5.mpr ⟨b,hb,rfl⟩);have c4:=a4 _ (D5.mpr ⟨b,hb,rfl⟩);dsimp only at c1 c2 c3 c4⊢;lia
 ·obtain⟨M,t,s⟩:=h1 b1 hb1;obtain⟨v,x⟩:=t.le;exact⟨v,by rw[e1]at x;exact s _ _ x⟩
 ·obtain⟨M,t,s⟩:=h1 b2 hb2;obtain⟨v,x⟩:=t.to;exact⟨v,by rw[e2]at x;exact s _ _ x⟩
 ·obtain⟨M,t,s⟩:=h1 b3 hb3;obtain⟨v,x⟩:=t.ri;refine⟨v,?_⟩;dsimp only at e3⊢;rw[e3]at x;have:=s _ _ x;rw[show mnL (bs.map (·.l))+(mxL (bs.map λb=>b.l+b.w)-mnL (bs.map (·.l)))-1=mxL (bs.map λb=>b.l+b.w)-1 by lia];exact this
 ·obtain⟨M,t,s⟩:=h1 b4 hb4;obtain⟨v,x⟩:=t.bo;refine⟨v,?_⟩;dsimp only at e4⊢;rw[e4]at x;have:=s _ _ x;rw[show mnL (bs.map (·.t))+(mxL (bs.map λb=>b.t+b.h)-mnL (bs.map (·.t)))-1=mxL (bs.map λb=>b.t+b.h)-1 by lia];exact this
theorem OG{half:Int}{b:Bx}:∀{obs:List (Option Bx)}{k:Nat},b∈DL half k obs ↔ ∃(j:Nat)(c:Bx),obs[j]?=some (some c)/\b=shB half (k+j) c
 |[],k=>⟨(λh=>by cases h),(λh=>by obtain⟨j,c,h,_⟩:=h;simp at h)⟩
 |none::r,k=>by
  rw[show DL half k (none::r)=DL half (k+1) r from rfl,OG];constructor
  ·rintro⟨j,c,h,e⟩;exact⟨j+1,c,by simpa using h,by rw[e,show k+1+j=k+(j+1) by lia]⟩
  ·rintro⟨j,c,h,e⟩;cases j with
   |zero=>simp at h
   |succ j=>exact⟨j,c,by simpa using h,by rw[e,show k+1+j=k+(j+1) by lia]⟩
 |some d::r,k=>by
  rw[show DL half k (some d::r)=shB half k d::DL half (k+1) r from rfl,C3,OG];constructor
  ·rintro(h|⟨j,c,h,e⟩)
   ·exact⟨0,d,rfl,h⟩
   ·exact⟨j+1,c,by simpa using h,by rw[e,show k+1+j=k+(j+1) by lia]⟩
  ·rintro⟨j,c,h,e⟩;cases j with
   |zero =>
    have h:d=c:=by simpa using h
    subst h;exact .inl e
   |succ j=>exact .inr ⟨j,c,by simpa using h,by rw[e,show k+1+j=k+(j+1) by lia]⟩
def Lv(G:Gv)(n i:Nat)(u v:Int):Prop:=∃a b:Nat,u=a/\v=b/\a<2^n/\b<2^n/\Dm G n i a b≠0
theorem UW{G:Gv}{n i:Nat}{q:Sq}{a b c d:Nat}(nd:IC G n i q a b c d)(u v:Int):Lv G (n+1) i u v ↔ ∃k,k<4/\Lv G n (f4 a b c d k) (u-2^n*((k:Int)%2)) (v-2^n*((k:Int)/2)):=by
 have cc:=GH n;constructor
 ·rintro⟨x,y,rfl,rfl,hx,hy,ne⟩;rw[BL nd hx hy]at ne;have x2:=Gb hx;have y2:=Gb hy;refine⟨quad n x y,Dx hx hy,x%2^n,y%2^n,?_,?_,L9 _ (Bq n),L9 _ (Bq n),ne⟩
  ·have e:=N3 x (2^n);have q2:((quad n x y:Nat):Int)%2=((x/2^n:Nat):Int):=by
    unfold quad;generalize x/2^n=A at *
    generalize y/2^n=B at *
    lia
   rw[q2,<-cc,<-N9];lia
  ·have e:=N3 y (2^n);have q2:((quad n x y:Nat):Int)/2=((y/2^n:Nat):Int):=by
    unfold quad;generalize x/2^n=A at *
    generalize y/2^n=B at *
    lia
   rw[q2,<-cc,<-N9];lia
 ·rintro⟨k,hk,x,y,ex,ey,hx,hy,ne⟩;obtain⟨h1,h2,h3,h4,h5⟩:=Ix hk hx hy;refine⟨x+2^n*(k%2),y+2^n*(k/2),?_,?_,h1,h2,?_⟩
  ·rw[M7,N9,cc,show((k%2:Nat):Int)=(k:Int)%2 from rfl];lia
  ·rw[M7,N9,cc,show((k/2:Nat):Int)=(k:Int)/2 from rfl];lia
  ·rw[BL nd h1 h2,h3,h4,h5];exact ne
theorem PD{L:Int->Int->Prop}{b:Bx}{half:Int}{k:Nat}(h:Pa L b):Pa (λu v=>L (u-half*((k:Int)%2)) (v-half*((k:Int)/2))) (shB half k b):=by
 obtain⟨v1,a1⟩:=h.le;obtain⟨v2,a2⟩:=h.to;obtain⟨v3,a3⟩:=h.ri;obtain⟨v4,a4⟩:=h.bo;unfold shB;generalize half*((k:Int)%2)=p;generalize half*((k:Int)/2)=q;refine⟨λu v m=>?_,⟨v1+q,?_⟩,⟨v2+p,?_⟩,⟨v3+q,?_⟩,⟨v4+p,?_⟩⟩
 ·have:=h.inn _ _ m;dsimp only;lia
 ·show L (b.l+p-p) (v1+q-q);rw[Q6,Q6];exact a1
 ·show L (v2+p-p) (b.t+q-q);rw[Q6,Q6];exact a2
 ·show L (b.l+p+b.w-1-p) (v3+q-q);rw[Q6,show b.l+p+b.w-1-p=b.l+b.w-1 by lia];exact a3
 ·show L (v4+p-p) (b.t+q+b.h-1-q);rw[Q6,show b.t+q+b.h-1-q=b.t+b.h-1 by lia];exact a4
theorem MT{G:Gv}(ok:GOk G):∀{n i:Nat}{b:Bx},Al G i (n:Int)->BT G n i=some b->Pa (Lv G n i) b
 |0,i,b,_,h=>by
  have h:(if i=0 then none else some (⟨0,0,1,1⟩:Bx))=some b:=h;by_cases z:i=0
  ·rw[Y8 z]at h;cases h
  ·rw[Y6 z]at h;cases h;have l0:Lv G 0 i 0 0:=⟨0,0,rfl,rfl,by decide,by decide,z⟩
   refine⟨λu v m=>?_,⟨0,l0⟩,⟨0,l0⟩,⟨0,l0⟩,⟨0,l0⟩⟩;obtain⟨x,y,rfl,rfl,hx,hy,_⟩:=m;have hx:x<1:=hx;have hy:y<1:=hy;dsimp only;lia
 |n+1,i,b,l,h=>by
  obtain⟨q,a,b',c,d,nd⟩:=BP ok l;rw[Fb nd]at h;have obs:∀k,k<4->[BT G n a,BT G n b',BT G n c,BT G n d][k]?=some (BT G n (f4 a b' c d k)):=λk hk=>by
   match k,hk with
   |0,_=>rfl
   |1,_=>rfl
   |2,_=>rfl
   |3,_=>rfl
  have key:∀e,e∈DL (2^n) 0 [BT G n a,BT G n b',BT G n c,BT G n d] ↔ ∃k e',k<4/\BT G n (f4 a b' c d k)=some e'/\e=shB (2^n) k e':=λe=>by
   rw[OG];constructor
   ·rintro⟨j,c',hj,rfl⟩;have j4:j<4:=(B9.mp hj).1;rw[obs j j4]at hj;exact⟨j,c',j4,Z2 hj,by rw[M5]⟩
   ·rintro⟨k,e',hk,h1,rfl⟩;exact⟨k,e',by rw[obs k hk,h1],by rw[M5]⟩
  unfold Pj at h;cases hg:DL (2^n) 0 [BT G n a,BT G n b',BT G n c,BT G n d]with
  |nil=>rw[hg]at h;cases h
  |cons e0 es =>
   rw[hg]at h;have h:=Z2 h;rw[hg]at key;subst h;refine VE A6 (λe he=>?_) λu v m=>?_
   ·obtain⟨k,e',hk,h1,rfl⟩:=(key e).mp he;refine⟨_,PD (MT ok (nd.nat hk).2 h1),λu v m=>(UW nd u v).mpr ⟨k,hk,m⟩⟩
   ·obtain⟨k,hk,m⟩:=(UW nd u v).mp m;cases hb:BT G n (f4 a b' c d k)with
    |none =>
     have c0:=(Ma ok n _ (nd.nat hk).2).mp hb;obtain⟨x,y,_,_,hx,hy,ne⟩:=m;exact absurd (cell_none ok (nd.nat hk).2 c0 hx hy) ne
    |some e' =>
     have t:=PD (half:=2^n) (k:=k) (MT ok (nd.nat hk).2 hb);exact⟨_,(key _).mpr ⟨k,e',hk,hb,rfl⟩,t.inn u v m⟩
where cell_none {G:Gv} (ok:GOk G):∀{n i x y:Nat},Al G i (n:Int)->DG G n i=0->x<2^n->y<2^n->Dm G n i x y=0
 |0,i,x,y,_,h,_,_=>by
  have h:(if i=0 then(0:Int)else 1)=0:=h;show i=0;by_cases z:i=0
  ·exact z
  ·rw[Y6 z]at h;lia
 |n+1,i,x,y,l,h,hx,hy=>by
  obtain⟨q,a,b,c,d,nd⟩:=BP ok l;have e:=JD nd;have e:DG G (n+1) i=DG G n a+(DG G n b+(DG G n c+(DG G n d+0))):=e;have ea:=EY G n a;have eb:=EY G n b;have ec:=EY G n c;have ed:=EY G n d;have qk:=Dx hx hy;rw[BL nd hx hy];refine cell_none ok (nd.nat qk).2 ?_ (L9 _ (Bq n)) (L9 _ (Bq n));generalize quad n x y=k at qk
  match k,qk with
  |0,_=>show DG G n a=0;lia
  |1,_=>show DG G n b=0;lia
  |2,_=>show DG G n c=0;lia
  |3,_=>show DG G n d=0;lia
seal L2.PA L2.PE L2.PS L2.PSs L2.PT L2.PW
theorem Sz{G:Gv}{n f:Nat}(x y:Int):Lv G (n+1) f (x+2^n) (y+2^n)↔fieldF G n f x y≠0:=by
 have c:=GH n;have e:=Sb n;constructor
 ·rintro⟨u,v,eu,ev,hu,hv,ne⟩;unfold fieldF;rw[Y8 ⟨by lia,by lia,by lia,by lia⟩,show(x+2^n).toNat=u by lia,show(y+2^n).toNat=v by lia];exact ne
 ·intro ne;unfold fieldF at ne;split at ne
  ·rename_i z;obtain⟨z1,z2,z3,z4⟩:=z;exact⟨(x+2^n).toNat,(y+2^n).toNat,by lia,by lia,IG z1 z2,IG z3 z4,ne⟩
  ·exact absurd rfl ne
def mvB(r:Int)(b:Bx):Bx:=⟨b.l+-r,b.t+-r,b.w,b.h⟩
theorem RB{G:Gv}(ok:GOk G){n f:Nat}(l:Al G f ((n+1:Nat):Int)){b:Bx}(h:BT G (n+1) f=some b):Pa (λx y=>fieldF G n f x y≠0) (mvB (2^n) b):=by
 have t:=MT ok l h;obtain⟨v1,a1⟩:=t.le;obtain⟨v2,a2⟩:=t.to;obtain⟨v3,a3⟩:=t.ri;obtain⟨v4,a4⟩:=t.bo;have go:∀{u v:Int},Lv G (n+1) f u v->fieldF G n f (u+-(2^n)) (v+-(2^n))≠0:=λ{u v} m=>(Sz _ _).mp (by rw[show u+-(2^n)+2^n=u by lia,show v+-(2^n)+2^n=v by lia];exact m);unfold mvB;refine⟨λx y m=>?_,⟨_,go a1⟩,⟨_,go a2⟩,⟨v3+-(2^n),?_⟩,⟨v4+-(2^n),?_⟩⟩
 ·have:=t.inn _ _ ((Sz x y).mpr m);dsimp only;lia
 ·have:=go a3;rw[show b.l+b.w-1+-(2^n)=b.l+-(2^n)+b.w-1 by lia]at this;exact this
 ·have:=go a4;rw[show b.t+b.h-1+-(2^n)=b.t+-(2^n)+b.h-1 by lia]at this;exact this
section
variable{P:Program}{w:World}{K:PySem.W.Frag}{mg:Str->Option Value}{base:Heap}{a:Ad}
inductive Vv(a:Ad)(vs:List V)(H:Hp)(Q:VK):Prop
 |mk (g:GA) (G:Gv) (f n:Nat) (_:vs=[.ref g.p,.int f]) (_:Bp a H g G) (_:Al G f ((n+1:Nat):Int)) (_:n<48) (_:G.length<8000000) (_:(BT G (n+1) f=none->∀H',FrQ g H H'->Bp a H' g G->Q .non H')) (_:∀b,BT G (n+1) f=some b->∀t H',FrQ g H H'->Bp a H' g G->MY H' t (mvB (2^n) b)->Q (.ref t) H'):Vv a vs H Q
def Qy(a:Ad):Sp:=λvs H Q _=>Vv a vs H Q
theorem Yw{f:Addr}{fd:FuncData}(F:Fun K "box_of" "box_of" Oh f fd)(T:Top K mg a)(bW:BZ P w K mg base CX0 101 a.c_Grove "span" Iu (Tc a))(aK:Cal P w K mg base CX0 4 "reach_of" Em (Ju a))(aI:Cal P w K mg base CX0 1 "shifted_box" Dt Lq):AJ P w K mg base CX0 102 f fd Ov (Qy a):=by
 refine F.ok Mi (λvs H Q E h=>?_) (λcdv A outer s H vs Q E hr h=>?_)
 ·obtain⟨g,G,f',n,rfl,_⟩:=h;rfl
 ·obtain⟨g,G,f',n,rfl,fu,lf,n48,few,k0,k1⟩:=h;refine⟨_,(Ac (Aq (i:=2) Mi.nd rfl (Or.inl rfl) (AG (pv 0) bW (rm hr) An (Aa (pv 1) Ab))) (Ac (AQ (AB Jg (pv 2) DC (AF _)) (Ag (Aw DC)) AD) (Ac (Aq (i:=3) Mi.nd rfl (Or.inl rfl) (Ar aK (rm hr) rfl An (Aa (pv 0) (Aa (pv 1) Ab)))) (Ag (Aw (Ar aI (rm hr) rfl An (Aa (pv 2) (Aa (LE GO (pv 3)) (Aa (LE GO (pv 3)) Ab))))))))),?_⟩
  try dsimp only[cxK]
  refine xq1 rfl ⟨g.p,g.dx,(xq1 rfl ⟨fu.at'.hp,no_span g,(xq1 rfl ⟨g,G,f',n+1,rfl,fu,lf,by lia,λhn H1 fr1 fu1=>?_,λb hb t H1 fr1 fu1 ht=>?_⟩)⟩)⟩
  ·exact xq1 rfl ⟨rfl,(xq1 rfl (Cp (k0 hn H1 fr1 fu1)))⟩
  ·refine xq1 rfl ⟨rfl,(xq1 rfl (Bo ?_))⟩;refine xw2 rfl rfl ⟨g,G,f',n,rfl,fu1.at',lf,n48,?_⟩;refine xw3 rfl rfl rfl (xw2 rfl rfl ⟨t,b,_,_,rfl,ht,λt' ht'=>?_⟩);have s2:=AN (o:=.tup [.int (b.l+-(2^n)),.int (b.t+-(2^n)),.int b.w,.int b.h]) ht';exact k1 b hb t' _ (fr1.trans (Az.frq s2)) (fu1.same s2) Af
end
end J
namespace J
open PySem L2
theorem cel_F{G:Gv}(ok:GOk G):∀{n i x y:Nat},Al G i (n:Int)->x<2^n->y<2^n->cel G n i x y=Dm G n i x y
 |0,_,_,_,_,_,_=>rfl
 |n+1,i,x,y,h,hx,hy=>by
  obtain⟨q,a,b,c,d,nd⟩:=BP ok h;rw[BL nd hx hy];have p:=Bq n;have hx2:x/2^n<2:=Nat.div_lt_of_lt_mul (by rw[F4]at hx;lia);have hy2:y/2^n<2:=Nat.div_lt_of_lt_mul (by rw[F4]at hy;lia);have e:qO G i ((x/2^n)%2+2*((y/2^n)%2))=f4 a b c d (quad n x y):=by
   have:=(nd.nat (Dx hx hy)).1;unfold qO;rw[nd.g,O1 hx2,O1 hy2];show(q.parts.getD (quad n x y) 0).toNat=_;rw[D8,this];rfl
  show cel G n (qO G i ((x/2^n)%2+2*((y/2^n)%2))) x y=_;rw[e,<-cel_F ok (nd.nat (Dx hx hy)).2 (L9 _ p) (L9 _ p)];have:=Rm G n (f4 a b c d (quad n x y)) (x%2^n) (y%2^n) (x/2^n) (y/2^n);rw[Nat.mod_add_div,Nat.mod_add_div]at this;exact this
theorem JB{α β:Type}(f:α->List β)(m:Nat):∀l:List α,(∀x∈l,(f x).length<=m)->(l.flatMap f).length<=l.length*m
 |[],_=>by simp
 |a::l,h=>by
  have:=JB f m l λx hx=>h x (C6 _ hx);have:=h a C7;rw[List.flatMap_cons,C4,D4,V3];lia
structure ZS(a:Ad)(H:Hp)(g:GA)(G:Gv)(Κ:KTy)(N b:Nat)(p dx mem pr:Addr)(r:AA)(m:MA):Prop where
 jz:JZ a H g G Κ N b p dx mem pr r m
 fu:Bp a H g G
 na:g.am∉m.ds
 nb:g.bx∉m.ds
def FrZ(g:GA)(m:MA)(H H':Hp):Prop:=∀b o,H b=some o->b∉[g.lv,g.pt,g.nm,g.am,g.bx,m.kc]->b∉m.ds->H' b=some o
section
variable{a:Ad}{H H' H1 H2 H3:Hp}{g:GA}{G G':Gv}{Κ:KTy}{N b i:Nat}{p dx mem pr:Addr}{r:AA}{m:MA}
theorem FrZ.trans(h:FrZ g m H1 H2)(k:FrZ g m H2 H3):FrZ g m H1 H3:=λb o e n1 n2=>k b o (h b o e n1 n2) n1 n2
theorem Az.z(s:Az H H'):FrZ g m H H':=λb o e _ _=>s b o e
theorem Fr.z(f:Fr g H H'):FrZ g m H H':=λb o e n1 _=>f b o e (λz=>n1 (by simp[z])) (λz=>n1 (by simp[z])) (λz=>n1 (by simp[z]))
theorem FrQ.z(f:FrQ g H H'):FrZ g m H H':=λb o e n1 _=>f b o e (λz=>n1 (by simp[z])) (λz=>n1 (by simp[z]))
theorem FrJ.z(f:FrJ g m H H'):FrZ g m H H':=λb o e n1 n2=>f b o e (λz=>n1 (by simp[z])) (λz=>n1 (by simp[z])) (λz=>n1 (by simp[z])) (λz=>n1 (by simp[z])) n2
theorem ZS.same(h:ZS a H g G Κ N b p dx mem pr r m)(s:Az H H'):ZS a H' g G Κ N b p dx mem pr r m:=⟨h.jz.same s,h.fu.same s,h.na,h.nb⟩
theorem ZS.mono{b':Nat}(h:ZS a H g G Κ N b p dx mem pr r m)(e:b<=b'):ZS a H g G Κ N b' p dx mem pr r m:=⟨h.jz.mono e,h.fu,h.na,h.nb⟩
theorem ZS.fr(h:ZS a H g G Κ N b p dx mem pr r m)(f:Fr g H H')(fu:Bp a H' g G')(go:AH G G' i):ZS a H' g G' Κ N (b+i) p dx mem pr r m:=⟨h.jz.fr f fu.at' go,fu,h.na,h.nb⟩
theorem ZS.frQ(h:ZS a H g G Κ N b p dx mem pr r m)(f:FrQ g H H')(fu:Bp a H' g G):ZS a H' g G Κ N b p dx mem pr r m:=by
 have hj:=h.jz.jw;have nd:∀{x:Addr}{o:HO},H x=some o->(∀ks,o≠.dK ks)->H' x=some o:=λ{x o} e n=>f _ _ e (h.fu.ne_am e n).1 (h.fu.ne_am e n).2;have kd:∀d∈m.ds,∀o,H d=some o->H' d=some o:=λd hd o e=>f _ _ e (λz=>h.na (z▸hd)) (λz=>h.nb (z▸hd));obtain⟨kc,c1,_⟩:=hj.me.ce;have me:IE H' g G N (b+10*N) r m:=hj.me.kp hj.ok (AH.refl hj.ok) λx o e w=>by
  rcases w with z|z|z|z
  ·subst z;exact nd e (by rw[hj.me.tp]at e;cases e;intro ks z;cases z)
  ·subst z;exact nd e (by rw[hj.me.l]at e;cases e;intro ks z;cases z)
  ·exact kd x z o e
  ·subst z;exact nd e (by rw[c1]at e;cases e;intro ks z;cases z)
 obtain⟨ff,cn⟩:=h.jz.cn;refine⟨⟨⟨fu.at',hj.ok,hj.bs,fu.br,hj.nbr,nd hj.hp (by intro ks z;cases z),hj.ru.kp λx o e n=>nd e (by intro ks z;rw[z]at n;cases n),hj.rok,hj.rest,me⟩,ff,cn.kp (i:=0) hj.ok (AH.refl hj.ok) kd λkc' e=>⟨kc',nd e (by intro ks z;cases z),C1 _⟩⟩,fu,h.na,h.nb⟩
theorem ZS.aft(h:ZS a H g G Κ N b p dx mem pr r m)(f:FrJ g m H H')(jz:JZ a H' g G' Κ N b p dx mem pr r m)(go:AH G G' i):ZS a H' g G' Κ N b p dx mem pr r m:=by
 have hj:=h.jz.jw;refine⟨jz,?_,h.na,h.nb⟩;obtain⟨at',ok,⟨r0,g0⟩,br,⟨ks,h1,h2⟩,⟨ks',h3,h4⟩,n1,n2,n3⟩:=h.fu;obtain⟨us,hp,_⟩:=at'.pt;obtain⟨kc,c1,_⟩:=hj.me.ce;have nds:∀{x:Addr}{o:HO},H x=some o->(∀ks,o≠.dK ks)->x∉m.ds:=λ{x o} e n z=>by
  obtain⟨j,hj'⟩:=F9 z;obtain⟨kv,e2,_⟩:=hj.me.sq j x hj';rw[e]at e2;cases e2;exact n _ rfl
 obtain⟨t,et⟩:=go.pre;have dk:∀{x:Addr}{ks:List (Key×V)},H x=some (.dK ks)->x∉m.ds->H' x=some (.dK ks):=λ{x ks} e n=>f _ _ e (AE e at'.lv A3) (AE e hp A3) (AE e at'.nm A3) (AE e c1 A3) n;refine⟨jz.jw.gr,go.ok,⟨r0++t,by rw[et,g0,R1]⟩,jz.jw.br,⟨ks,dk h1 h.na,h2.app ok go⟩,⟨ks',dk h3 h.nb,h4.keys.app go.le,λi v e=>?_⟩,n1,n2,n3⟩;obtain⟨l,bb,t,e1,e2,e3,e4⟩:=h4.val i v e;exact⟨l,bb,t,go.lev e1,by rw[GM ok go l i e1];exact e2,e3,f _ _ e4 (AE e4 at'.lv A3) (AE e4 hp A3) (AE e4 at'.nm A3) (AE e4 c1 A3) (nds e4 (by intro ks z;cases z))⟩
theorem ZS.keep(h:ZS a H g G Κ N b p dx mem pr r m)(f:FrZ g m H H'){x:Addr}{o:HO}(e:H x=some o)(k1:∀xs,o≠.lst xs)(k2:∀ks,o≠.dK ks)(k3:∀ks,o≠.dT ks):H' x=some o:=by
 have hj:=h.jz.jw;obtain⟨us,hp,_⟩:=h.fu.at'.pt;obtain⟨kc,c1,_⟩:=hj.me.ce;have n1:=h.fu.ne_am e k2;refine f _ _ e (λz=>?_) (λz=>?_)
 ·simp only[C3,F0,X7]at z;rcases z with z|z|z|z|z|z
  ·exact AE e h.fu.at'.lv (k1 _) z
  ·exact AE e hp (k1 _) z
  ·exact AE e h.fu.at'.nm (k3 _) z
  ·exact n1.1 z
  ·exact n1.2 z
  ·exact AE e c1 (k3 _) z
 ·obtain⟨j,hj'⟩:=F9 z;obtain⟨kv,e2,_⟩:=hj.me.sq j x hj';exact AE e e2 (k2 _) rfl
theorem ZS.new(h:ZS a H g G Κ N b p dx mem pr r m){x:Addr}(n:H x=none):x∉[g.lv,g.pt,g.nm,g.am,g.bx,m.kc]/\x∉m.ds:=by
 have hj:=h.jz.jw;obtain⟨us,hp,_⟩:=h.fu.at'.pt;obtain⟨kc,c1,_⟩:=hj.me.ce;obtain⟨ks,h1,_⟩:=h.fu.am;obtain⟨ks',h3,_⟩:=h.fu.bx;refine⟨λz=>?_,λz=>?_⟩
 ·simp only[C3,F0,X7]at z;rcases z with rfl|rfl|rfl|rfl|rfl|rfl
  ·rw[h.fu.at'.lv]at n;cases n
  ·rw[hp]at n;cases n
  ·rw[h.fu.at'.nm]at n;cases n
  ·rw[h1]at n;cases n
  ·rw[h3]at n;cases n
  ·rw[c1]at n;cases n
 ·obtain⟨j,hj'⟩:=F9 z;obtain⟨kv,e2,_⟩:=hj.me.sq j x hj';rw[e2]at n;cases n
end
theorem JW.putL{a:Ad}{H:Hp}{g:GA}{G:Gv}{N M:Nat}{p dx mem pr x:Addr}{r:AA}{m:MA}{xs:List V}{o:HO}(h:JW a H g G N M p dx mem pr r m)(hx:H x=some (.lst xs))(n1:x≠g.lv)(n2:x≠g.pt)(n3:x≠g.br)(n4:x≠m.l):JW a (upd H x o) g G N M p dx mem pr r m:=by
 have other:∀{b v},H b=some v->(∀l,v≠.lst l)->upd H x o b=some v:=λ{b v} e n=>by rw[As (AE e hx (n _))];exact e
 refine⟨h.gr.put hx n1 n2,h.ok,h.bs,by rw[As (Z1 n3)];exact h.br,h.nbr,other h.hp B0,h.ru.kp λb o e n=>other e λl z=>(by rw[z]at n;cases n),h.rok,h.rest,h.me.kp h.ok (AH.refl h.ok) λb o e w=>?_⟩;rcases w with z|z|z|z
 ·have e2:=h.me.tp;rw[<-z,e]at e2;cases e2;exact other e B0
 ·rw[z]at e⊢;rw[As (Z1 n4)];exact e
 ·obtain⟨j,hj⟩:=F9 z;obtain⟨kv,e2,_⟩:=h.me.sq j b hj;rw[e]at e2;cases e2;exact other e B0
 ·obtain⟨kc,e2,_⟩:=h.me.ce;rw[z]at e⊢;rw[e]at e2;cases e2;exact other e B0
structure ApZ(g:GA)(m:MA)(x:Addr):Prop where
 n0:x∉[g.lv,g.pt,g.nm,g.am,g.bx,m.kc]
 n1:x∉m.ds
 n2:x≠g.br
 n3:x≠m.l
section
variable{a:Ad}{H H':Hp}{g:GA}{G G':Gv}{Κ:KTy}{N b i:Nat}{p dx mem pr:Addr}{r:AA}{m:MA}
theorem ZS.ap(h:ZS a H g G Κ N b p dx mem pr r m){x:Addr}(n:H x=none):ApZ g m x:=by
 obtain⟨n0,n1⟩:=h.new n;refine⟨n0,n1,λz=>?_,λz=>?_⟩
 ·rw[z,h.fu.br]at n;cases n
 ·rw[z,h.jz.jw.me.l]at n;cases n
theorem ZS.putL{x:Addr}{xs:List V}{o:HO}(h:ZS a H g G Κ N b p dx mem pr r m)(hx:H x=some (.lst xs))(ap:ApZ g m x):ZS a (upd H x o) g G Κ N b p dx mem pr r m:=by
 have lv:x≠g.lv:=λz=>ap.n0 (by simp[z]);have pt:x≠g.pt:=λz=>ap.n0 (by simp[z]);obtain⟨f,c⟩:=h.jz.cn;refine⟨⟨h.jz.jw.putL hx lv pt ap.n2 ap.n3,f,c.kp (i:=0) h.jz.jw.ok (AH.refl h.jz.jw.ok) (λd hd o' e=>?_) λkc e=>⟨kc,?_,C1 _⟩⟩,h.fu.put hx lv pt ap.n2,h.na,h.nb⟩
 ·rw[As (λz:d=x=>ap.n1 (z▸hd))];exact e
 ·rw[As (AE e hx A3)];exact e
end
theorem NK{G:Gv}(ok:GOk G){n f:Nat}(lf:Al G f ((n+1:Nat):Int)){x y:Nat}(hx:x<2^(n+1))(hy:y<2^(n+1)):Cr G (n+1) f x y=(fieldF G n f ((x:Int)-2^n) ((y:Int)-2^n):Nat):=by
 unfold Cr fieldF;have p:((2^(n+1):Nat):Int)=2^n+2^n:=by rw[J7];exact CK n
 rw[Y8 A0,cel_F ok lf hx hy];congr 2<;>lia
seal L2.PA L2.PE L2.PS L2.PSs L2.PT L2.PW
section
variable{P:Program}{w:World}{K:PySem.W.Frag}{mg:Str->Option Value}{base:Heap}{a:Ad}
inductive SpLvF(a:Ad)(vs:List V)(H:Hp)(Q:VK):Prop
 |mk (g:GA) (G:Gv) (f n e:Nat) (_:vs=[.ref g.p,.int f,.int e]) (_:AI a H g G) (_:Al G f ((n+1:Nat):Int)) (_:n<=40) (_:e<=40) (_:∀l:Nat,l<=41->n<=l->e<=l->2^n+2^e<=2^l->Q (.int ((l+2:Nat):Int)) H):SpLvF a vs H Q
def WO(a:Ad):Sp:=λvs H Q _=>SpLvF a vs H Q
theorem ok_lvf{f:Addr}{fd:FuncData}(F:Fun K "level_for" "level_for" IS f fd)(T:Top K mg a)(aK:Cal P w K mg base CX0 4 "reach_of" Em (Ju a)):AJ P w K mg base CX0 5 f fd Ja (WO a):=by
 refine F.ok ET (λvs H Q E h=>?_) (λcdv A outer s H vs Q E hr h=>?_)
 ·obtain⟨g,G,f',n,e,rfl,_⟩:=h;rfl
 ·obtain⟨g,G,f',n,e,rfl,hg,lf,n40,e40,k⟩:=h;refine⟨_,(Ac (Aq (i:=3) ET.nd rfl (Or.inl rfl) (Ay AL (Ar aK (rm hr) rfl An (Aa (pv 0) (Aa (pv 1) Ab))) (Ay Li Ae (pv 2)))) (Ac (Aq (i:=4) ET.nd rfl (Or.inl rfl) Ae) (Ac (IV Z6 (AB GJ (Ay Li Ae (Ay BY (pv 4) Ae)) (pv 3) (AF _)) (Ag (Aq (i:=4) ET.nd rfl (Or.inl rfl) (Ay AL (pv 4) Ae)))) (Ag (Aw (pv 4)))))),?_⟩
  try dsimp only[cxK]
  refine Bw ?_;intro r1 s1 k1 hk1 E1;refine xw2 rfl rfl ⟨g,G,f',n,rfl,hg,lf,by lia,?_⟩;refine xwb rfl rfl rfl ⟨⟨by lia,by lia,by decide⟩,_,_,rfl,rfl,?_⟩;have eR:(2:Int)^n+1*2^(e:Int).toNat=((2^n+2^e:Nat):Int):=by
   rw[J8,Int.one_mul,M7,J7,J7];rfl
  have pn:2^n<=2^40:=M6 A4 n40;have pe:2^e<=2^40:=M6 A4 e40;have pn0:=Bq n;have pe0:=Bq e;rw[show(λi j:Int=>V.int (i+j)) (2^n) ((λi j:Int=>i*2^j.toNat) 1 (e:Int))=V.int ((2^n+2^e:Nat):Int)from X6 V.int eR];generalize hR:2^n+2^e=R at k;have R41:R<=2^41:=by rw[<-hR];lia
  refine hk1 ?_;refine Bw ?_;intro r2 s2 k2 hk2 E2;refine hk2 ?_;refine⟨λm σ H2=>∃j:Nat,σ=[some (.ref g.p),some (.int f'),some (.int (e:Int)),some (.int (R:Int)),some (.int ((j+2:Nat):Int))]/\H2=H/\j+m=41,⟨41,0,rfl,rfl,rfl⟩,?_⟩;rintro m σ H2 ⟨j,rfl,rfl,jm⟩;refine xwb rfl rfl rfl ⟨_,_,rfl,rfl,⟨by lia,by lia,by decide⟩,_,rfl,_,_,rfl,rfl,_,rfl,?_⟩;have eJ:(1:Int)*2^(((j+2:Nat):Int)-2).toNat=((2^j:Nat):Int):=by
   rw[show(((j+2:Nat):Int)-2).toNat=j by lia,Int.one_mul,J7];rfl
  refine Gz (λhc=>?_) (λhc=>?_)
  ·have hc:=X4 hc;have hc:(1:Int)*2^(((j+2:Nat):Int)-2).toNat<(R:Int):=hc;rw[eJ]at hc;have m0:m≠0:=λz=>by
    subst z;have:j=41:=by lia
    subst this;lia
   refine⟨fun σ' H'=>∃j2:Nat,σ'=[some (.ref g.p),some (.int f'),some (.int (e:Int)),some (.int (R:Int)),some (.int ((j2+2:Nat):Int))]/\H'=H2/\j2+(m-1)=41,fun σ' H' z=>⟨m-1,by lia,z⟩,?_⟩;have ej:((j+2:Nat):Int)+1=((j+1+2:Nat):Int):=by lia
   exact xwb rfl rfl rfl ⟨j+1,X6 (λz:Int=>[some (V.ref g.p),some (V.int f'),some (V.int (e:Int)),some (V.int (R:Int)),some (V.int z)]) ej,rfl,by lia⟩
  ·have hc:¬(1:Int)*2^(((j+2:Nat):Int)-2).toNat<(R:Int):=λz=>hc (Y7 z);rw[eJ]at hc;have le:R<=2^j:=by lia
   refine⟨_,rfl,k j A0 ?_ ?_ le⟩
   ·refine O8 λz=>?_;have:2^j<2^n:=W1 A4 z;lia
   ·refine O8 λz=>?_;have:2^j<2^e:=W1 A4 z;lia
inductive SpWT(a:Ad)(vs:List V)(H:Hp)(Q:VK):Prop
 |mk (g:GA) (G:Gv) (f n k:Nat) (_:vs=[.ref g.p,.int f,.int ((n+k+1:Nat):Int)]) (_:Bp a H g G) (_:Al G f ((n+1:Nat):Int)) (_:n+k<=46) (_:G.length<8000000) (_:∀(v:Nat)(G':Gv)(H':Hp),Fr g H H'->Bp a H' g G'->AH G G' (5*k)->MV G' n f k v->Al G' v ((n+k+1:Nat):Int)->Q (.int v) H'):SpWT a vs H Q
def spWT(a:Ad):Sp:=λvs H Q _=>SpWT a vs H Q
theorem ok_wt{f:Addr}{fd:FuncData}(F:Fun K "widened_to" "widened_to" GS f fd)(T:Top K mg a)(aA:BZ P w K mg base CX0 3 a.c_Grove "level_of" Bm (Nb a))(bD:Cal P w K mg base CX0 4 "widened" Jy (Uw a)):AJ P w K mg base CX0 5 f fd Ik (spWT a):=by
 refine F.ok Gf (λvs H Q E h=>?_) (λcdv A outer s H vs Q E hr h=>?_)
 ·obtain⟨g,G,f',n,kk,rfl,_⟩:=h;rfl
 ·obtain⟨g,G,f',n,kk,rfl,fu,hl,n46,few,k⟩:=h;refine⟨_,(Ac (Aq (i:=3) Gf.nd rfl (Or.inl rfl) (pv 1)) (Ac (IV Z6 (AB GJ (AG (pv 0) aA (rm hr) An (Aa (pv 3) Ab)) (pv 2) (AF _)) (Ag (Aq (i:=3) Gf.nd rfl (Or.inl rfl) (Ar bD (rm hr) rfl An (Aa (pv 0) (Aa (pv 3) Ab)))))) (Ag (Aw (pv 3))))),?_⟩
  try dsimp only[cxK]
  refine xq1 rfl ?_;refine⟨λm σ H2=>∃(G':Gv)(c j:Nat),σ=[some (.ref g.p),some (.int f'),some (.int ((n+kk+1:Nat):Int)),some (.int c)]/\Fr g H H2/\Bp a H2 g G'/\AH G G' (5*j)/\j+m=kk/\Al G' c ((n+j+1:Nat):Int)/\MV G' n f' j c,⟨kk,G,f',0,rfl,Fr.refl g H,fu,AH.refl fu.ok,by lia,hl,rfl⟩,?_⟩;rintro m σ H2 ⟨G',c,j,rfl,fr,fu2,go,e40,lc,wn⟩;have gf:=go.few;obtain⟨q,eq,el⟩:=id lc;refine⟨_,rfl,g.p,g.dx,_,rfl,fu2.at'.hp,Et g,_,rfl,⟨g,G',c,q,rfl,fu2.at',eq,?_⟩⟩;rw[el];refine⟨_,rfl,_,_,rfl,rfl,_,rfl,Gz (λhc=>?_) (λhc=>?_)⟩
  ·have hc:((n+j+1:Nat):Int)<((n+kk+1:Nat):Int):=X4 hc;refine⟨fun σ' H'=>∃(G2:Gv)(c2 j2:Nat),σ'=[some (.ref g.p),some (.int f'),some (.int ((n+kk+1:Nat):Int)),some (.int c2)]/\Fr g H H'/\Bp a H' g G2/\AH G G2 (5*j2)/\j2+(m-1)=kk/\Al G2 c2 ((n+j2+1:Nat):Int)/\MV G2 n f' j2 c2,fun σ' H' z=>⟨m-1,by lia,z⟩,?_⟩;refine xw2 rfl rfl ⟨g,G',c,n+j,rfl,fu2,lc,by lia,by lia,λc2 G2 H3 fr3 hg3 go3 wi=>?_⟩;refine⟨G2,c2,j+1,rfl,fr.trans fr3,fu2.fr fr3 hg3 go3,(go.trans go3).mono A0,by lia,?_,⟨c,wn.app go3,wi⟩⟩;have:=wi.lev;rw[show n+(j+1)+1=n+j+2 by lia];exact this
  ·have hc:¬((n+j+1:Nat):Int)<((n+kk+1:Nat):Int):=λz=>hc (Y7 z);have:j=kk:=by lia
   subst this;exact⟨_,rfl,k c G' H2 fr fu2 go wn lc⟩
end
end J
namespace J
open PySem L2
def sF(r:AA)(φ:Int->Int->Nat):Int->Int->Nat:=λx y=>(Ci r (φ x y:Nat) [((φ (x-1) (y-1):Nat):Int),((φ x (y-1):Nat):Int),((φ (x+1) (y-1):Nat):Int),((φ (x-1) y:Nat):Int),((φ (x+1) y:Nat):Int),((φ (x-1) (y+1):Nat):Int),((φ x (y+1):Nat):Int),((φ (x+1) (y+1):Nat):Int)]).toNat
def sFN(r:AA):Nat->(Int->Int->Nat)->Int->Int->Nat
 |0,φ=>φ
 |n+1,φ=>sF r (sFN r n φ)
theorem FY(r:AA)(φ:Int->Int->Nat)(n:Nat):∀m,sFN r (m+n) φ=sFN r m (sFN r n φ)
 |0=>by rw[M5];rfl
 |m+1=>by
  rw[show m+1+n=(m+n)+1 by lia];show sF r (sFN r (m+n) φ)=sF r (sFN r m (sFN r n φ));rw[FY r φ n m]
theorem UG(r:AA){φ ψ:Int->Int->Nat}{X Y:Int}:∀(k:Nat)(x y:Int),(∀u v,x-k<=u->u<=x+k->y-k<=v->v<=y+k->φ u v=ψ (u+X) (v+Y))->sFN r k φ x y=sFN r k ψ (x+X) (y+Y)
 |0,x,y,h=>h x y A0 A0 A0 A0
 |k+1,x,y,h=>by
  have ih:∀u v,x-1<=u->u<=x+1->y-1<=v->v<=y+1->sFN r k φ u v=sFN r k ψ (u+X) (v+Y):=λu v h1 h2 h3 h4=>UG r k u v λa b q1 q2 q3 q4=>h a b A0 A0 A0 A0;show sF r (sFN r k φ) x y=sF r (sFN r k ψ) (x+X) (y+Y);unfold sF;rw[ih x y A0 A0 A0 A0,ih (x-1) (y-1) A0 A0 A0 A0,ih x (y-1) A0 A0 A0 A0,ih (x+1) (y-1) A0 A0 A0 A0,ih (x-1) y A0 A0 A0 A0,ih (x+1) y A0 A0 A0 A0,ih (x-1) (y+1) A0 A0 A0 A0,ih x (y+1) A0 A0 A0 A0,ih (x+1) (y+1) A0 A0 A0 A0];rw[show x-1+X=x+X-1 by lia,show y-1+Y=y+Y-1 by lia,show x+1+X=x+X+1 by lia,show y+1+Y=y+Y+1 by lia]
theorem GG{r:AA}(h:Ci r 0 BC=0):∀k,sFN r k (λ_ _=>0)=λ_ _=>0
 |0=>rfl
 |k+1=>by
  show sF r (sFN r k λ_ _=>0)=_;rw[GG h k]
  funext x y
  show(Ci r ((0:Nat):Int) BC).toNat=0;rw[show((0:Nat):Int)=0 from rfl,h];rfl
theorem LA{r:AA}(h:Ci r 0 BC=0){φ:Int->Int->Nat}{k:Nat}{x y:Int}(z:sFN r k φ x y≠0):∃u v,x-k<=u/\u<=x+k/\y-k<=v/\v<=y+k/\φ u v≠0:=by
 refine Z7 λno=>z ?_;have:=UG r (φ:=φ) (ψ:=λ_ _=>0) (X:=0) (Y:=0) k x y λu v h1 h2 h3 h4=>Z7 λq=>no ⟨u,v,h1,h2,h3,h4,q⟩;rw[this,GG h]
theorem bec_nn{r:AA}(h:FR r){cell:Int}(hc:0<=cell)(ar:List Int):0<=Ci r cell ar:=by
 cases e:IM r cell ar with
 |none=>rw[Mc e];exact hc
 |some i =>
  obtain⟨c,h1,h2⟩:=Mb e;rw[h2];exact(h.ok c (D1 h1)).makes.1
theorem Jv{r:AA}(ro:FR r){c:Nat->Nat->Int}{φ:Int->Int->Nat}{X Y:Int}:∀(k x y:Nat),k<=x->k<=y->(∀u v:Nat,x-k<=u->u<=x+k->y-k<=v->v<=y+k->c u v=(φ ((u:Int)+X) ((v:Int)+Y):Nat))->Bh r k c x y=(sFN r k φ ((x:Int)+X) ((y:Int)+Y):Nat)
 |0,x,y,_,_,h=>h x y A0 A0 A0 A0
 |k+1,x,y,hx,hy,h=>by
  have ih:∀u v:Nat,x-1<=u->u<=x+1->y-1<=v->v<=y+1->Bh r k c u v=(sFN r k φ ((u:Int)+X) ((v:Int)+Y):Nat):=λu v h1 h2 h3 h4=>Jv ro k u v A0 A0 λa b q1 q2 q3 q4=>h a b A0 A0 A0 A0;show Ci r (Bh r k c x y) [Bh r k c (x-1) (y-1),Bh r k c x (y-1),Bh r k c (x+1) (y-1),Bh r k c (x-1) y,Bh r k c (x+1) y,Bh r k c (x-1) (y+1),Bh r k c x (y+1),Bh r k c (x+1) (y+1)]=((sF r (sFN r k φ) ((x:Int)+X) ((y:Int)+Y):Nat):Int)
  unfold sF;rw[P7 (bec_nn ro (Int.natCast_nonneg _) _)];rw[ih x y A0 A0 A0 A0,ih (x-1) (y-1) A0 A0 A0 A0,ih x (y-1) A0 A0 A0 A0,ih (x+1) (y-1) A0 A0 A0 A0,ih (x-1) y A0 A0 A0 A0,ih (x+1) y A0 A0 A0 A0,ih (x-1) (y+1) A0 A0 A0 A0,ih x (y+1) A0 A0 A0 A0,ih (x+1) (y+1) A0 A0 A0 A0];rw[show((x-1:Nat):Int)+X=x+X-1 by lia,show((y-1:Nat):Int)+Y=y+Y-1 by lia,show((x+1:Nat):Int)+X=x+X+1 by lia,show((y+1:Nat):Int)+Y=y+Y+1 by lia]
theorem fld_jg{G:Gv}(ok:GOk G){r:AA}(ro:FR r)(re:Ci r 0 BC=0){l e f k:Nat}(lf:Al G f ((l+1+1:Nat):Int))(jr:JR r G e f k){φ:Int->Int->Nat}(h:∀x y,fieldF G (l+1) f x y=φ x y)(far:∀x y,φ x y≠0->-(2^l)+2^e<=x/\x+2^e<2^l/\-(2^l)+2^e<=y/\y+2^e<2^l):Al G k ((l+1:Nat):Int)/\∀x y,fieldF G l k x y=sFN r (2^e) φ x y:=by
 obtain⟨l',h1,h2,h3,h4⟩:=jr;have e':l'=l:=by
  have:=h1.one lf;lia
 subst e';have p:((2^(l'+1):Nat):Int)=2^l'+2^l':=by rw[J7];exact CK l'
 have p0:((2^l':Nat):Int)=2^l':=J7 2 l';have pe:((2^e:Nat):Int)=2^e:=J7 2 e;have p2:((2^(l'+2):Nat):Int)=2^l'+2^l'+(2^l'+2^l'):=by
  rw[J7];show(2:Int)^(l'+2)=_;rw[show(2:Int)^(l'+2)=2^(l'+1)+2^(l'+1)from CK (l'+1),CK]
 have le:2^e<=2^l':=M6 A4 h2;refine⟨h3,λx y=>?_⟩;by_cases z:-(2^l')<=x/\x<2^l'/\-(2^l')<=y/\y<2^l'
 ·obtain⟨a1,a2,b1,b2⟩:=z;have at':(fieldF G l' k x y:Int)=Bh r (2^e) (Cr G (l'+2) f) ((x+2^l').toNat+2^l') ((y+2^l').toNat+2^l'):=by
   rw[<-h4 _ _ A0 A0,NK ok h3 A0 A0];congr 2<;>lia
  have e2:∀u:Int,-(2^l')<=u->((((u+2^l').toNat+2^l':Nat):Int)+-(2^(l'+1)))=u:=λu hu=>by
   rw[CK,M7,p0];lia
  rw[Jv ro (φ:=φ) (X:=-(2^(l'+1))) (Y:=-(2^(l'+1))) _ _ _ A0 A0 (λu v q1 q2 q3 q4=>?_),e2 x a1,e2 y b1]at at'
  ·exact Z8 at'
  ·rw[NK ok lf A0 A0,h];rfl
 ·unfold fieldF;rw[Y6 z];refine(Z7 λq=>?_);obtain⟨u,v,q1,q2,q3,q4,q5⟩:=LA re (λw=>q w.symm);have:=far u v q5;lia
def Kg(r:AA)(F:List (Int->Int->Nat))(T:Nat):KTy:=λl e ψ=>l<47/\((∀x y,x<2^(l+2)->y<2^(l+2)->ψ x y=0)\/∃φ∈F,∃(t:Nat)(i j:Int),t+2^e<=T/\∀x y,x<2^(l+2)->y<2^(l+2)->ψ x y=(sFN r t φ ((x:Int)+2^l*i) ((y:Int)+2^l*j):Nat))
theorem kg_cl{r:AA}(ro:FR r)(re:Ci r 0 BC=0)(F:List (Int->Int->Nat))(T:Nat):ClK r (Kg r F T):=by
 have p1:∀l,2^(l+1)=2^l*2:=λl=>F4 ..;have q1:∀l:Nat,(2:Int)^(l+1)=2^l*2:=λl=>S3 ..;have p2:∀l,2^(l+2)=2^l*2*2:=λl=>by rw[F4,F4]
 have p3:∀l,2^(l+1+2)=2^l*2*2*2:=λl=>by rw[F4,F4,F4]
 have nine:∀{l e e' ψ},Kg r F T (l+1) e ψ->2^e'<=2^e->∀i j,i<3->j<3->Kg r F T l e' λx y=>ψ (x+2^(l+1)*i) (y+2^(l+1)*j):=λ{l e e' ψ} h he i j hi hj=>by
  have b1:2^(l+1)*i<=2^(l+1)*2:=J9 _ A0;have b2:2^(l+1)*j<=2^(l+1)*2:=J9 _ A0;have a1:=p1 l;have a2:=p2 l;have a3:=p3 l;refine⟨by have:=h.1;lia,?_⟩;rcases h.2 with z|⟨φ,hφ,t,i',j',ht,z⟩
  ·exact .inl λx y hx hy=>z _ _ A0 A0
  ·refine .inr ⟨φ,hφ,t,2*i'+2*(i:Int),2*j'+2*(j:Int),by lia,λx y hx hy=>?_⟩;show ψ _ _=_;rw[z _ _ A0 A0];have e1:∀(x i:Nat)(i':Int),((x+2^(l+1)*i:Nat):Int)+2^(l+1)*i'=(x:Int)+2^l*(2*i'+2*(i:Int)):=λx i i'=>by
    rw[M7,N9,J7];show(x:Int)+2^(l+1)*(i:Int)+2^(l+1)*i'=_;rw[q1,R5,Q7,Q7];lia
   rw[e1,e1]
 refine⟨λh _=>nine h (C1 _),λ{l φ} h=>nine h (by rw[p1];lia),λ{l ψ} h i j hi hj=>?_⟩;have b1:2^(l+1)*i<=2^(l+1)*1:=J9 _ A0;have b2:2^(l+1)*j<=2^(l+1)*1:=J9 _ A0;have a1:=p1 l;have a2:=p2 l;have a3:=p3 l;refine⟨by have:=h.1;lia,?_⟩;rcases h.2 with z|⟨φ,hφ,t,i',j',ht,z⟩
 ·refine .inl λx y hx hy=>?_;have:=Jv ro (c:=ψ) (φ:=λ_ _=>0) (X:=0) (Y:=0) (2^l) (x+(2^(l+1)*i+2^l)) (y+(2^(l+1)*j+2^l)) A0 A0 λu v h1 h2 h3 h4=>z u v A0 A0;rw[GG re]at this;exact this
 ·refine .inr ⟨φ,hφ,t+2^l,2*i'+(2*(i:Int)+1),2*j'+(2*(j:Int)+1),by lia,λx y hx hy=>?_⟩;have:=Jv ro (c:=ψ) (φ:=sFN r t φ) (X:=2^(l+1)*i') (Y:=2^(l+1)*j') (2^l) (x+(2^(l+1)*i+2^l)) (y+(2^(l+1)*j+2^l)) A0 A0 λu v h1 h2 h3 h4=>z u v A0 A0;show Bh r (2^l) ψ _ _=_;rw[this,<-FY,T7];have e1:∀(x i:Nat)(i':Int),((x+(2^(l+1)*i+2^l):Nat):Int)+2^(l+1)*i'=(x:Int)+2^l*(2*i'+(2*(i:Int)+1)):=λx i i'=>by
   rw[M7,M7,N9,J7,J7];show(x:Int)+(2^(l+1)*(i:Int)+2^l)+2^(l+1)*i'=_;rw[q1,R5,R5,Q7,Q7,Int.mul_one];lia
  rw[e1,e1]
def wl(W T l:Nat):Nat:=(W+2*T)/2^l+5
def sg(k T W D l:Nat):Nat:=1+k*(T*(wl W T l*wl D T l))
def mg(k T W D e:Nat):Nat:=if 2^e<=T then((List.range 47).map (sg k T W D)).sum else 47
def ng(k T W D:Nat):Nat:=s47 (mg k T W D)
def winF(ψ:Int->Int->Nat)(l:Nat)(i j:Int):Sht:=λx y=>(ψ ((x:Int)+2^l*i) ((y:Int)+2^l*j):Nat)
abbrev Fbx:=(Int->Int->Nat)×Int×Int
def Wz(r:AA)(T W D l:Nat)(q:Fbx):List (Nat×Sht):=(List.range T).flatMap λt=>(List.range (wl W T l*wl D T l)).map λd=>(l,winF (sFN r t q.1) l ((q.2.1-T)/2^l-3+((d%wl W T l:Nat):Int)) ((q.2.2-T)/2^l-3+((d/wl W T l:Nat):Int)))
def UX(r:AA)(T W D:Nat)(qs:List Fbx)(e:Nat):List (Nat×Sht):=(List.range 47).flatMap λl=>(l,λ_ _=>0)::if 2^e<=T then qs.flatMap (Wz r T W D l)else []
theorem OS{α β:Type}(f:α->List β)(m:α->Nat):∀l:List α,(∀x∈l,(f x).length<=m x)->(l.flatMap f).length<=(l.map m).sum
 |[],_=>by simp
 |a::l,h=>by
  have:=OS f m l λx hx=>h x (C6 _ hx);have:=h a C7;rw[List.flatMap_cons,C4,F7,O6];lia
theorem Wa(r:AA)(T W D:Nat)(qs:List Fbx)(e:Nat):(UX r T W D qs e).length<=mg qs.length T W D e:=by
 unfold UX mg;by_cases h:2^e<=T
 ·rw[Y8 h];simp only[Y8 h];refine OS _ _ _ λl _=>?_;rw[D4];have:=JB (Wz r T W D l) (T*(wl W T l*wl D T l)) qs λq _=>by
   unfold Wz;have:=JB (λt=>(List.range (wl W T l*wl D T l)).map λd=>(l,winF (sFN r t q.1) l ((q.2.1-T)/2^l-3+((d%wl W T l:Nat):Int)) ((q.2.2-T)/2^l-3+((d/wl W T l:Nat):Int)))) (wl W T l*wl D T l) (List.range T) λt _=>by rw[B8,L8];exact C1 _
   rw[L8]at this;exact this
  unfold sg;lia
 ·rw[Y6 h];simp only[Y6 h];have:=JB (λl=>[((l,λ_ _=>0):Nat×Sht)]) 1 (List.range 47) λl _=>C1 _;rw[L8]at this;exact this
theorem kg_ext{r:AA}{F:List (Int->Int->Nat)}{T l e:Nat}{φ ψ:Sht}(h:Kg r F T l e φ)(q:Ug l φ ψ):Kg r F T l e ψ:=by
 refine⟨h.1,?_⟩;rcases h.2 with h2|⟨φ0,m,t,i,j,ht,h2⟩
 ·exact .inl λx y hx hy=>(q x y hx hy).symm.trans (h2 x y hx hy)
 ·exact .inr ⟨φ0,m,t,i,j,ht,λx y hx hy=>(q x y hx hy).symm.trans (h2 x y hx hy)⟩
theorem Qn{l T W t:Nat}{x:Nat}{i X u:Int}(hx:x<2^(l+2))(ht:t<=T)(h1:(x:Int)+2^l*i-t<=u)(h2:u<=(x:Int)+2^l*i+t)(h3:X<=u)(h4:u<X+W):∃d,d<wl W T l/\i=(X-T)/2^l-3+((d:Nat):Int):=by
 have pz:(0:Int)<2^l:=by have:=Bq l;have e:((2^l:Nat):Int)=2^l:=J7 2 l;lia
 have p2:((2^(l+2):Nat):Int)=2^l*4:=by rw[J7];show(2:Int)^(l+2)=_;rw[S3,S3];lia
 have ec:(((W+2*T)/2^l:Nat):Int)=((W:Int)+2*T)/2^l:=by rw[Int.natCast_ediv,J7];rfl
 generalize eP:(2:Int)^l=P at *
 generalize eq:(X-T)/P=q;have d1:=Int.emod_add_mul_ediv (X-T) P;have d2:=P3 (X-T) (Int.ne_of_gt pz);have d3:=N5 (X-T) pz;rw[eq]at d1;have f1:=Int.emod_add_mul_ediv ((W:Int)+2*T) P;have f3:=N5 ((W:Int)+2*T) pz;generalize eb:((W:Int)+2*T)/P=b at *
 have lo:P*(q-4)<P*i:=by rw[Int.mul_sub];lia
 have hi:P*i<P*(q+b+2):=by rw[R5,R5];lia
 have lo:=Int.lt_of_mul_lt_mul_left lo (Int.le_of_lt pz);have hi:=Int.lt_of_mul_lt_mul_left hi (Int.le_of_lt pz);refine⟨(i-q+3).toNat,?_,by lia⟩;unfold wl;lia
def InBx(F:List (Int->Int->Nat))(W D:Nat)(qs:List Fbx):Prop:=∀φ∈F,∀u v,φ u v≠0->∃X Y,(φ,X,Y)∈qs/\X<=u/\u<X+W/\Y<=v/\v<Y+D
theorem kg_fin{r:AA}(re:Ci r 0 BC=0){F:List (Int->Int->Nat)}{T W D:Nat}{qs:List Fbx}(hb:InBx F W D qs):Jt (Kg r F T) (ng qs.length T W D):=by
 refine⟨⟨mg qs.length T W D,C1 _,λe=>⟨UX r T W D qs e,Wa r T W D qs e,λl ψ h=>?_⟩⟩,kg_ext⟩;obtain⟨h1,h2⟩:=h;have zero:(∀x y,x<2^(l+2)->y<2^(l+2)->ψ x y=0)->∃ψ',(l,ψ')∈UX r T W D qs e/\Ug l ψ ψ':=λz=>⟨λ_ _=>0,N7.mpr ⟨l,F8.mpr h1,C7⟩,z⟩
 rcases h2 with h2|⟨φ,hφ,t,i,j,ht,h2⟩
 ·exact zero h2
 ·by_cases z:∀x y,x<2^(l+2)->y<2^(l+2)->ψ x y=0
  ·exact zero z
  ·obtain⟨x,z⟩:=Classical.not_forall.mp z;obtain⟨y,z⟩:=Classical.not_forall.mp z;obtain⟨hx,z⟩:=Classical.not_imp.mp z;obtain⟨hy,z⟩:=Classical.not_imp.mp z;rw[h2 x y hx hy]at z;have z:sFN r t φ ((x:Int)+2^l*i) ((y:Int)+2^l*j)≠0:=λq=>z (by rw[q];rfl);obtain⟨u,v,a1,a2,b1,b2,c⟩:=LA re z;obtain⟨X,Y,m,g1,g2,g3,g4⟩:=hb φ hφ u v c;have pe:=Bq e;obtain⟨d1,l1,e1⟩:=Qn (T:=T) (W:=W) hx A0 a1 a2 g1 g2;obtain⟨d2,l2,e2⟩:=Qn (T:=T) (W:=D) hy A0 b1 b2 g3 g4;have hw:0<wl W T l:=by unfold wl;lia
   have dm:(d1+wl W T l*d2)%wl W T l=d1:=by rw[O0,O1 l1]
   have dd:(d1+wl W T l*d2)/wl W T l=d2:=by rw[N6 _ _ hw,M8 l1,M5]
   have lt:d1+wl W T l*d2<wl W T l*wl D T l:=by
    have:wl W T l*(d2+1)<=wl W T l*wl D T l:=J9 _ l2;rw[Nat.mul_add]at this;lia
   refine⟨winF (sFN r t φ) l i j,N7.mpr ⟨l,F8.mpr h1,C6 _ ?_⟩,λx y hx hy=>h2 x y hx hy⟩;rw[Y8 A0];refine N7.mpr ⟨_,m,N7.mpr ⟨t,F8.mpr A0,D5.mpr ⟨d1+wl W T l*d2,F8.mpr lt,?_⟩⟩⟩;rw[dm,dd];show(l,winF (sFN r t φ) l ((X-T)/2^l-3+((d1:Nat):Int)) ((Y-T)/2^l-3+((d2:Nat):Int)))=_;rw[<-e1,<-e2]
theorem fld_kg{G:Gv}(ok:GOk G){r:AA}{F:List (Int->Int->Nat)}{T l f e t:Nat}(l46:l<47)(lf:Al G f ((l+1+1:Nat):Int)){φ:Int->Int->Nat}(m:φ∈F)(ht:t+2^e<=T)(h:∀x y,fieldF G (l+1) f x y=sFN r t φ x y):Kg r F T l e (Cr G (l+2) f):=by
 refine⟨by lia,.inr ⟨φ,m,t,-2,-2,ht,λx y hx hy=>?_⟩⟩;rw[NK ok lf hx hy,h];have e:(2:Int)^(l+1)=2^l*2:=S3 ..;rw[e];congr 2<;>lia
seal L2.PA L2.PE L2.PS L2.PSs L2.PT L2.PW
def MX(φ:Int->Int->Nat)(k:Nat):Prop:=∀x y,φ x y≠0->-(2^40)+(k:Int)<=x/\x+k<2^40/\-(2^40)+(k:Int)<=y/\y+k<2^40
theorem YD {φ:Int->Int->Nat} {b:Bx} (t:Pa (λx y=>φ x y≠0) b) (k:Nat):IF (b.l-k) (b.t-k) (b.w+2*k) (b.h+2*k) (2^40)↔MX φ k:=by
 unfold IF;constructor
 ·rintro⟨h1,h2,h3,h4⟩ x y h;have:=t.inn x y h;lia
 ·intro h;obtain⟨v1,h1⟩:=t.le;obtain⟨v2,h2⟩:=t.to;obtain⟨v3,h3⟩:=t.ri;obtain⟨v4,h4⟩:=t.bo;have a1:=h _ _ h1;have a2:=h _ _ h2;have a3:=h _ _ h3;have a4:=h _ _ h4;lia
section
variable{P:Program}{w:World}{K:PySem.W.Frag}{mg:Str->Option Value}{base:Heap}{a:Ad}
inductive SpChG(a:Ad)(vs:List V)(H:Hp)(Q:VK):Prop
 |mk (g:GA) (G:Gv) (f n k:Nat) (_:vs=[.ref g.p,.int f,.int (k:Int)]) (_:Bp a H g G) (_:Al G f ((n+1:Nat):Int)) (_:n<48) (_:G.length<8000000) (_:MX (fieldF G n f) k) (_:∀H',FrQ g H H'->Bp a H' g G->Q .non H'):SpChG a vs H Q
def WV(a:Ad):Sp:=λvs H Q _=>SpChG a vs H Q
theorem ok_chg'{f:Addr}{fd:FuncData}(F:Fun K "check_leap" "check_leap" GW f fd)(T:Top K mg a)(aM:Cal P w K mg base CX0 1 "is_whole" En VF)(cS:Cal P w K mg base CX0 102 "box_of" Ov (Qy a))(aJ:Cal P w K mg base CX0 1 "lies_within" Du RM):AJ P w K mg base CX0 103 f fd Io (WV a):=by
 refine F.ok JI (λvs H Q E h=>?_) (λcdv A outer s H vs Q E hr h=>?_)
 ·obtain⟨g,G,f',n,k,rfl,_⟩:=h;rfl
 ·obtain⟨g,G,f',n,k,rfl,fu,lf,n48,few,nr,kn⟩:=h;refine⟨_,(Ac (AQ (PW.pt (On (DX (Da (Ar aM (rm hr) rfl An (Aa (pv 2) Ab)))) (Mt (AB GJ (pv 2) Ae (AF _))))) (Ag Bk) AD) (Ac (Aq (i:=3) JI.nd rfl (Or.inl rfl) (Ar cS (rm hr) rfl An (Aa (pv 0) (Aa (pv 1) Ab)))) (Ag (AQ (PW.pt (Mu (AB UM (pv 3) DC (AF _)) (Jw (DX (Da (Ar aJ (rm hr) rfl An (Bz (AZ BY (Aj Am (pv 3) Ae (λ_ _=>rfl)) (pv 2) (AZ BY (Aj Am (pv 3) Ae (λ_ _=>rfl)) (pv 2) (AZ AL (Aj Am (pv 3) Ae (λ_ _=>rfl)) (Ay Es Ae (pv 2)) (AZ AL (Aj Am (pv 3) Ae (λ_ _=>rfl)) (Ay Es Ae (pv 2)) Ab)))) (Aa (Cb rfl T.k_LIMIT) Ab)))))))) (Ag Bk) AD)))),?_⟩
  try dsimp only[cxK]
  refine Bw ?_;intro r1 s1 k1 hk1 E1;refine⟨_,rfl,(k:Int),rfl,true,rfl,Bo ?_⟩;refine⟨_,rfl,_,_,rfl,rfl,_,rfl,?_⟩;rw[Y9 A0];refine Bo ?_;refine hk1 ?_;refine Bw ?_;intro r2 s2 k2 hk2 E2;refine xw2 rfl rfl ⟨g,G,f',n,rfl,fu,lf,n48,few,λeb H1 fq fu1=>?_,λbb eb t H1 fq fu1 ht=>?_⟩
  ·refine hk2 ?_;refine⟨_,rfl,rfl,false,rfl,Bo ?_⟩;exact kn H1 fq fu1
  ·refine hk2 ?_;have tg:=RB fu.ok lf eb;generalize mvB (2^n) bb=B at ht tg;have ht:H1 t=some (.tup [.int B.l,.int B.t,.int B.w,.int B.h]):=ht;have nb:=YD tg k;refine⟨_,rfl,rfl,true,rfl,Cp ?_⟩;refine⟨_,rfl,t,_,0,.int B.l,rfl,rfl,SqT.of ht,Ai (j:=0) rfl,_,rfl,_,_,rfl,rfl,?_⟩;refine⟨_,rfl,t,_,1,.int B.t,rfl,rfl,SqT.of ht,Ai (j:=1) rfl,_,rfl,_,_,rfl,rfl,?_⟩;refine⟨_,rfl,t,_,2,.int B.w,rfl,rfl,SqT.of ht,Ai (j:=2) rfl,_,rfl,_,_,rfl,rfl,.inl ⟨by decide,by decide⟩,_,_,rfl,rfl,?_⟩;refine⟨_,rfl,t,_,3,.int B.h,rfl,rfl,SqT.of ht,Ai (j:=3) rfl,_,rfl,_,_,rfl,rfl,.inl ⟨by decide,by decide⟩,_,_,rfl,rfl,?_⟩;refine⟨by show 4<=sizeLine;decide,λu hu=>?_⟩;refine⟨u,B.l-k,B.t-k,B.w+2*k,B.h+2*k,2^40,rfl,Af,?_⟩;generalize eH:upd H1 u _=H2;have s2':Az H1 H2:=eH▸AN hu;clear eH;rw[Y7 (nb.mpr nr)];exact⟨true,rfl,Bo (kn H2 (fq.trans (Az.frq s2')) (fu1.same s2'))⟩
end
theorem bare0{G r:Gv}(e:G=G0++r)(ok:GOk G):Al G (bareN 1) ((0+1:Nat):Int)/\Js G 0 (bareN 1)/\∀x y,fieldF G 0 (bareN 1) x y=0:=by
 refine⟨GN e (n:=1) A4,.inl rfl,λx y=>?_⟩;unfold fieldF;by_cases z:-(2^0)<=x/\x<2^0/\-(2^0)<=y/\y<2^0
 ·rw[Y8 z];exact GL e ok (n:=1) A4 (by show _<2;have:(2:Int)^0=1:=rfl;lia) (by show _<2;have:(2:Int)^0=1:=rfl;lia)
 ·rw[Y6 z]
theorem near_lt{φ:Int->Int->Nat}{k:Nat}(h:MX φ k){x y:Int}(hx:φ x y≠0):k<2^40:=by
 have:=h x y hx;lia
theorem UT{r:AA}(re:Ci r 0 BC=0){φ:Int->Int->Nat}{k t:Nat}(h:MX φ k)(tk:t<=k){x y:Int}(hx:sFN r t φ x y≠0):-(2^40)<=x/\x<2^40/\-(2^40)<=y/\y<2^40:=by
 obtain⟨u,v,h1,h2,h3,h4,h5⟩:=LA re hx;have:=h u v h5;lia
theorem US{r:AA}(re:Ci r 0 BC=0){φ:Int->Int->Nat}{k t:Nat}(h:MX φ (k+t)):MX (sFN r t φ) k:=λx y hx=>by
 obtain⟨u,v,h1,h2,h3,h4,h5⟩:=LA re hx;have:=h u v h5;lia
theorem Ul{G r:Gv}(e:G=G0++r)(ok:GOk G){n f:Nat}(hn:n<=47)(t:Js G n f)(h:∀x y,fieldF G n f x y≠0->-(2^40)<=x/\x<2^40/\-(2^40)<=y/\y<2^40):n<=40:=by
 refine O8 λz=>?_;obtain⟨m,rfl⟩:∃m,n=m+1:=⟨n-1,by lia⟩
 obtain⟨x,y,h1,h2⟩:=RA e ok A0 t;have:=h x y h2;have p:2^40<=2^m:=M6 A4 A0;have p1:((2^m:Nat):Int)=2^m:=J7 2 m;lia
def Rx(Κ:KTy)(r:AA)(φ:Int->Int->Nat)(k:Nat):Prop:=∀(j l:Nat)(G:Gv)(f:Nat),k/2^j%2=1->j<=l->l<=41->GOk G->Al G f ((l+1+1:Nat):Int)->(∀x y,fieldF G (l+1) f x y=sFN r (k%2^j) φ x y)->Κ l j (Cr G (l+2) f)
theorem OL{r:AA}{F:List (Int->Int->Nat)}{T k t:Nat}{φ:Int->Int->Nat}(m:φ∈F)(h:k+t<=T):Rx (Kg r F T) r (sFN r t φ) k:=λj l G f hb hl l41 ok lf hf=>by
 refine fld_kg (t:=k%2^j+t) ok A0 lf m ?_ λx y=>by rw[hf,<-FY]
 have d:=N3 k (2^j);have p:2^j*1<=2^j*(k/2^j):=J9 _ A0;lia
def Vy(H:Hp)(G:Gv)(ψ:Int->Int->Nat)(ts:List Addr):Prop:=∃(t:Addr)(sq e res l:Nat),ts.getLast?=some t/\H t=some (.tup [.int sq,.int e,.int res])/\l<=41/\Al G res ((l+1:Nat):Int)/\∀x y,fieldF G l res x y=ψ x y
section
variable{P:Program}{w:World}{K:PySem.W.Frag}{mg:Str->Option Value}{base:Heap}{a:Ad}
inductive SpRdG(a:Ad)(vs:List V)(H:Hp)(Q:VK):Prop
 |mk (p dx mem pr:Addr) (g:GA) (G:Gv) (Κ:KTy) (φ:Int->Int->Nat) (N b:Nat) (r:AA) (m:MA) (f n k:Nat) (_:vs=[.ref p,.int f,.int (k:Int)]) (_:ZS a H g G Κ N b p dx mem pr r m) (_:Jt Κ N) (_:ClK r Κ) (_:Rx Κ r φ k) (_:Al G f ((n+1:Nat):Int)) (_:n<=40) (_:Js G n f) (_:∀x y,fieldF G n f x y=φ x y) (_:MX φ k) (_:b+12000+10*N<7900000) (_:∀(L:Addr)(ts:List Addr)(G':Gv)(H':Hp)(i:Nat),FrZ g m H H'->ZS a H' g G' Κ N (b+12000) p dx mem pr r m->AH G G' i->H L=none->H' L=some (.lst (ts.map V.ref))->((ts=[]/\∀x y,sFN r k φ x y=φ x y)\/Vy H' G' (sFN r k φ) ts)->Q (.ref L) H'):SpRdG a vs H Q
def WJ(a:Ad):Sp:=λvs H Q _=>SpRdG a vs H Q
theorem ok_rdg{f:Addr}{fd:FuncData}(F:Fun K "road" "road" Tl f fd)(T:Top K mg a)(bZ:Cal P w K mg base CX0 103 "check_leap" Io (WV a))(aV:Cal P w K mg base CX0 1 "bare_field" EV (NB a))(cE:Cal P w K mg base CX0 5 "level_for" Ja (WO a))(bX:Cal P w K mg base CX0 5 "widened_to" Ik (spWT a))(bQ:BZ P w K mg base CX0 149 a.c_Jumps "after" Gu (Ge a 46))(aU:Cal P w K mg base CX0 4 "trimmed" GI (NR a)):AJ P w K mg base CX0 150 f fd Tr (WJ a):=by
 refine F.ok DM (λvs H Q E h=>?_) (λcdv A outer s H vs Q E hr h=>?_)
 ·obtain⟨p,dx,mem,pr,g,G,Κ,φ,N,b,r,m,f',n,k,rfl,_⟩:=h;rfl
 ·obtain⟨p,dx,mem,pr,g,G,Κ,φ,N,b,r,m,f',n,k,rfl,zs,fin,cl,ask,lf,n40,tr,hf,nr,few,kn⟩:=h;refine⟨_,(Ac (Aq (i:=3) DM.nd rfl (Or.inl rfl) (AC (pv 0) rfl)) (Ac (BG (Ar bZ (rm hr) rfl An (Aa (pv 3) (Aa (pv 1) (Aa (pv 2) Ab))))) (Ac (Aq (i:=4) DM.nd rfl (Or.inl rfl) (BX Ab)) (Ac (Aq (i:=5) DM.nd rfl (Or.inl rfl) (pv 1)) (Ac (Aq (i:=6) DM.nd rfl (Or.inl rfl) (pv 2)) (Ac (Aq (i:=7) DM.nd rfl (Or.inl rfl) Ae) (Ac (IV Z6 (PW.pt (Mu (AB Sf (pv 6) Ae (AF _)) (Jw (AB JK (pv 5) (Ar aV (rm hr) rfl An (Aa (pv 3) Ab)) (AF _))))) (Ac (AQ (AB Ct (Ay Bb (pv 6) Ae) Ae (AF _)) (Ac (Aq (i:=8) DM.nd rfl (Or.inl rfl) (Ar bX (rm hr) rfl An (Aa (pv 3) (Aa (pv 5) (Aa (Ar cE (rm hr) rfl An (Aa (pv 3) (Aa (pv 5) (Aa (pv 7) Ab)))) Ab))))) (Ac (Aq (i:=9) DM.nd rfl (Or.inl rfl) (AG (pv 0) bQ (rm hr) An (Aa (pv 8) (Aa (pv 7) Ab)))) (Ac (BG (CS Z3 Z4 Z5 BD (pv 4) (Bz (Aa (pv 8) (Aa (pv 7) (Aa (pv 9) Ab))) Ab))) (Ag (Aq (i:=5) DM.nd rfl (Or.inl rfl) (Ar aU (rm hr) rfl An (Aa (pv 3) (Aa (pv 9) Ab)))))))) AD) (Ac (Aq (i:=6) DM.nd rfl (Or.inl rfl) (Ay CT (pv 6) Ae)) (Ag (Aq (i:=7) DM.nd rfl (Or.inl rfl) (Ay AL (pv 7) Ae)))))) (Ag (Aw (pv 4)))))))))),?_⟩
  try dsimp only[cxK]
  have sz:=zs.jz.sz fin;have re:=zs.jz.jw.rest;have ro:=zs.jz.jw.rok;refine Bw ?_;intro r1 s1 k1 hk1 E1;refine xwf rfl rfl zs.jz.jw.hp T.cl_Jumps T.na_Jumps_grove (DF _ _ _ _ _) ?_;refine hk1 ?_;refine Bw ?_;intro r2 s2 k2 hk2 E2;refine xw3 rfl rfl rfl ⟨g,G,f',n,k,rfl,zs.fu,lf,by lia,by lia,(λx y h=>nr x y (by rw[<-hf];exact h)),λH1 fq fu1=>?_⟩;have zs1:=zs.frQ fq fu1;have fz1:FrZ g m H H1:=FrQ.z fq;refine hk2 ?_;refine Bw ?_;intro r3 s3 k3 hk3 E3;refine⟨by show 0<=sizeLine;decide,λL nL=>?_⟩;generalize eH:upd H1 L _=H2;have s2':Az H1 H2:=eH▸AN nL;have hL2:H2 L=some (.lst (([]:List Addr).map V.ref)):=eH▸Af;clear eH;have zs2:=zs1.same s2';obtain⟨nL1,nL2⟩:=zs1.new nL;have apL:=zs1.ap nL;refine hk3 ?_;refine Bw ?_;intro r4 s4 k4 hk4 E4;refine xq1 rfl (hk4 ?_);refine Bw ?_;intro r5 s5 k5 hk5 E5;refine xq1 rfl (hk5 ?_);refine Bw ?_;intro r6 s6 k6 hk6 E6;refine hk6 ?_;refine Bw ?_;intro r7 s7 k7 hk7 E7;have hL0:H L=none:=by
   cases e:H L with
   |none=>rfl
   |some o =>
    have h1:=fq L o e (λz=>nL1 (by simp[z])) (λz=>nL1 (by simp[z]));rw[nL]at h1;cases h1
  have fz2:FrZ g m H H2:=fz1.trans (Az.z s2');have hk0:k/2^0=k:=by rw[W7,Nat.div_one]
  have hm0:k%2^0=0:=by rw[W7,Nat.mod_one]
  refine⟨fun μ σ H3=>∃(j:Nat)(G':Gv)(ts:List Addr)(h nh:Nat)(u8 u9:Option V)(i:Nat),σ=[some (.ref p),some (.int f'),some (.int (k:Int)),some (.ref g.p),some (.ref L),some (.int h),some (.int ((k/2^j:Nat):Int)),some (.int (j:Int)),u8,u9]/\j+μ=41/\FrZ g m H H3/\ZS a H3 g G' Κ N (b+270*ts.length) p dx mem pr r m/\AH G G' i/\H3 L=some (.lst (ts.map V.ref))/\ts.length<=j/\(nh<=40/\Al G' h ((nh+1:Nat):Int)/\Js G' nh h/\∀x y,fieldF G' nh h x y=sFN r (k%2^j) φ x y)/\((ts=[]/\∀x y,sFN r (k%2^j) φ x y=φ x y)\/Vy H3 G' (sFN r (k%2^j) φ) ts),⟨41,0,G,[],f',n,none,none,0,(by rw[hk0];rfl),rfl,fz2,zs2,AH.refl zs.fu.ok,hL2,C1 _,⟨n40,lf,tr,by rw[hm0];exact hf⟩,.inl ⟨rfl,by rw[hm0];exact λ_ _=>rfl⟩⟩,?_⟩;rintro μ σ H3 ⟨j,G',ts,h,nh,u8,u9,i,rfl,jm,fz3,zs3,go3,hL3,tl,⟨nh40,lh,th,fh⟩,la⟩;have sz3:=zs3.jz.sz fin;obtain⟨r3',e3⟩:=zs3.fu.g0;have done:(k/2^j=0\/h=bareN 1)->k7 [some (.ref p),some (.int f'),some (.int (k:Int)),some (.ref g.p),some (.ref L),some (.int h),some (.int ((k/2^j:Nat):Int)),some (.int (j:Int)),u8,u9] H3:=λex=>by
   have eq:sFN r k φ=sFN r (k%2^j) φ:=by
    rcases ex with ex|rfl
    ·have:k%2^j=k:=by
      have:=N3 k (2^j);rw[ex,Nat.mul_zero,M5]at this;exact this
     rw[this]
    ·obtain⟨b1,b2,b3⟩:=bare0 e3 zs3.fu.ok;have n0:nh=0:=by
      have:=lh.one b1;lia
     subst n0;have z:sFN r (k%2^j) φ=λ_ _=>0:=by
      funext x y
      rw[<-fh,b3]
     have:=FY r φ (k%2^j) (2^j*(k/2^j));rw[N3]at this;rw[this,z,GG re]
   refine hk7 ?_;refine xq1 rfl (kn L ts G' H3 i fz3 (zs3.mono A0) go3 hL0 hL3 ?_);rw[eq];exact la
  refine⟨_,rfl,_,_,rfl,rfl,_,rfl,Gz (λhc=>?_) (λhc=>?_)⟩
  ·have hc:((k/2^j:Nat):Int) > 0:=X4 hc;have kj:k/2^j≠0:=by lia
   refine⟨_,rfl,_,rfl,g,G',rfl,zs3.fu,rfl,_,rfl,?_⟩;by_cases hb:h=bareN 1
   ·subst hb;rw[Y7 rfl];exact Bo (done (.inr rfl))
   ·rw[Y9 (λz=>hb (by injection z with z;exact Z8 z))];refine Cp ?_;obtain⟨x0,y0,h0⟩:∃x y,φ x y≠0:=by
     refine Z7 λno=>hb ?_;have z:φ=λ_ _=>0:=by
      funext x y
      exact Z7 λz=>no ⟨x,y,z⟩
     obtain⟨b1,b2,b3⟩:=bare0 e3 zs3.fu.ok;refine(OT e3 zs3.fu.ok A0 A4 lh b1 th b2 λx y=>?_).2;rw[b3,fh,z,GG re]
    have k40:=near_lt nr h0;have j40:j<40:=by
     refine U7 λz=>kj (M8 (F2 k40 (M6 A4 z)))
    refine⟨fun σ' H4=>∃(j:Nat)(G':Gv)(ts:List Addr)(h nh:Nat)(u8 u9:Option V)(i:Nat),σ'=[some (.ref p),some (.int f'),some (.int (k:Int)),some (.ref g.p),some (.ref L),some (.int h),some (.int ((k/2^j:Nat):Int)),some (.int (j:Int)),u8,u9]/\j+(μ-1)=41/\FrZ g m H H4/\ZS a H4 g G' Κ N (b+270*ts.length) p dx mem pr r m/\AH G G' i/\H4 L=some (.lst (ts.map V.ref))/\ts.length<=j/\(nh<=40/\Al G' h ((nh+1:Nat):Int)/\Js G' nh h/\∀x y,fieldF G' nh h x y=sFN r (k%2^j) φ x y)/\((ts=[]/\∀x y,sFN r (k%2^j) φ x y=φ x y)\/Vy H4 G' (sFN r (k%2^j) φ) ts),fun σ' H4 z=>⟨μ-1,by lia,z⟩,?_⟩;have dv:k/2^(j+1)=k/2^j/2:=by rw[F4,Nat.div_div_eq_div_mul]
    have md:k%2^(j+1)=k%2^j+2^j*(k/2^j%2):=Nat.mod_pow_succ;refine Bw ?_;intro r8 s8 k8 hk8 E8;apply OI (T:=k8) (fun σ' H4=>∃(G':Gv)(ts:List Addr)(h nh:Nat)(u8 u9:Option V)(i:Nat),σ'=[some (.ref p),some (.int f'),some (.int (k:Int)),some (.ref g.p),some (.ref L),some (.int h),some (.int ((k/2^j:Nat):Int)),some (.int (j:Int)),u8,u9]/\FrZ g m H H4/\ZS a H4 g G' Κ N (b+270*ts.length) p dx mem pr r m/\AH G G' i/\H4 L=some (.lst (ts.map V.ref))/\ts.length<=j+1/\(nh<=40/\Al G' h ((nh+1:Nat):Int)/\Js G' nh h/\∀x y,fieldF G' nh h x y=sFN r (k%2^(j+1)) φ x y)/\((ts=[]/\∀x y,sFN r (k%2^(j+1)) φ x y=φ x y)\/Vy H4 G' (sFN r (k%2^(j+1)) φ) ts))
    ·intro rest;refine xwb rfl rfl rfl ⟨B7,rfl,(xq1 rfl (Gz (λhc=>?_) (λhc=>?_)))⟩
     ·have hc:((k/2^j:Nat):Int)%2=1:=by
       have:=X4 hc;injection this
      have od:k/2^j%2=1:=by lia
      have tk:2^j+k%2^j<=k:=by
       have d:=N3 k (2^j);have p:2^j*1<=2^j*(k/2^j):=J9 _ A0;lia
      refine Bw ?_;intro r9 s9 k9 hk9 E9;refine⟨_,rfl,_,rfl,_,rfl,_,rfl,_,rfl,⟨g,G',h,nh,j,rfl,zs3.fu.at',lh,nh40,by lia,λl l41 nl jl le=>?_⟩⟩;have el:nh+(l+1-nh)+1=l+2:=by lia
      refine⟨g,G',h,nh,l+1-nh,by rw[el];rfl,zs3.fu,lh,by lia,by lia,λv G2 H4 fr4 fu4 go4 wn lv=>?_⟩;have zs4:=zs3.fr fr4 fu4 go4;have sz4:=zs4.jz.sz fin;obtain⟨r4,e4⟩:=fu4.g0;have wf:∀x y,fieldF G2 (l+1) v x y=sFN r (k%2^j) φ x y:=λx y=>by
       have:=JQ e4 fu4.ok (k:=l+1-nh) (w:=v) A0 wn x y;rw[show nh+(l+1-nh)=l+1 by lia]at this;rw[this,GK zs3.fu.ok go4 lh,fh]
      have lv2:Al G2 v ((l+1+1:Nat):Int):=by rw[show l+1+1=nh+(l+1-nh)+1 by lia];exact lv
      have go24:=go3.trans go4;refine hk9 ?_;refine Bw ?_;intro r10 s10 k10 hk10 E10;refine xwn rfl rfl zs4.jz.jw.hp (VS _ _ _ _ _) rfl (xq1 rfl ⟨p,dx,mem,pr,g,G2,Κ,N,_,r,m,v,l,j,rfl,zs4.jz,fin,cl,lv2,by lia,jl,ask j l G2 v od jl l41 fu4.ok lv2 wf,by lia,λres G3 H5 i5 fj jz5 go5 jr up=>?_⟩);have zs5:=zs4.aft fj jz5 go5;have sz5:=zs5.jz.sz fin;have fz5:FrZ g m H H5:=(fz3.trans (Fr.z fr4)).trans (FrJ.z fj);have wf5:∀x y,fieldF G3 (l+1) v x y=sFN r (k%2^j) φ x y:=λx y=>by rw[GK fu4.ok go5 lv2];exact wf x y
      obtain⟨lr,rs⟩:=fld_jg zs5.fu.ok ro re (go5.lev lv2) jr wf5 (λx y hxy=>by
       rw[<-fh]at hxy;have p0:((2^nh:Nat):Int)=2^nh:=J7 2 nh;have p1:((2^l:Nat):Int)=2^l:=J7 2 l;have p3:((2^j:Nat):Int)=2^j:=J7 2 j;have:=Z7 λz:¬(-(2^nh)<=x/\x<2^nh/\-(2^nh)<=y/\y<2^nh)=>hxy (by unfold fieldF;rw[Y6 z]);lia)
      have rs:∀x y,fieldF G3 l res x y=sFN r (k%2^(j+1)) φ x y:=λx y=>by rw[rs,<-FY,md,od,Nat.mul_one,T7]
      have hL5:H5 L=some (.lst (ts.map V.ref)):=FrJ.z fj _ _ (Fr.z (m:=m) fr4 _ _ hL3 apL.n0 apL.n1) apL.n0 apL.n1;refine hk10 ?_;refine Bw ?_;intro r11 s11 k11 hk11 E11;refine⟨_,rfl,.inl ⟨rfl,_,SqL.of hL5⟩,_,rfl,_,rfl,_,rfl,by show 3<=sizeLine;decide,λt nt=>?_⟩;have s6':=AN (o:=.tup [.int (v:Int),.int (j:Int),.int (res:Int)]) nt;have ht6:upd H5 t (.tup [.int (v:Int),.int (j:Int),.int (res:Int)]) t=some (.tup [.int (v:Int),.int (j:Int),.int (res:Int)]):=Af;generalize upd H5 t (.tup [.int (v:Int),.int (j:Int),.int (res:Int)])=H6 at s6' ht6⊢;have zs6:=zs5.same s6';have hL6:=s6' _ _ hL5;refine⟨L,_,_,rfl,rfl,hL6,by rw[B8];exact FJ A0,?_⟩;have zs7:=zs6.putL (o:=.lst (ts.map V.ref++[.ref t])) hL6 apL;have ht7:upd H6 L (.lst (ts.map V.ref++[.ref t])) t=some (.tup [.int (v:Int),.int (j:Int),.int (res:Int)]):=by rw[As (AE ht6 hL6 A3)];exact ht6
      have fz7:FrZ g m H (upd H6 L (.lst (ts.map V.ref++[.ref t]))):=λb' o e n1 n2=>by
       rw[As (Av e hL0)];exact s6' _ _ (fz5 _ _ e n1 n2)
      have hL7:upd H6 L (.lst (ts.map V.ref++[.ref t])) L=some (.lst ((ts++[t]).map V.ref)):=by rw[Af,C5];rfl
      generalize upd H6 L (.lst (ts.map V.ref++[.ref t]))=H7 at zs7 ht7 fz7 hL7⊢;refine hk11 ?_;refine xw2 rfl rfl ⟨g,G3,res,l,rfl,zs7.fu,lr,by lia,λnw G8 H8 fr8 fu8 go8 tr8=>?_⟩;have zs8:=zs7.fr fr8 fu8 go8;obtain⟨r8,e8⟩:=fu8.g0;obtain⟨m8,ml8,lv8,tm8,fe8⟩:=GP e8 fu8.ok A0 (go8.lev lr) tr8;have fa:∀x y,fieldF G8 l res x y=sFN r (k%2^(j+1)) φ x y:=λx y=>by rw[GK zs5.fu.ok go8 lr];exact rs x y
      have fe:∀x y,fieldF G8 m8 nw x y=sFN r (k%2^(j+1)) φ x y:=λx y=>by rw[fe8,fa]
      have tk1:k%2^(j+1)<=k:=Nat.mod_le _ _;have m40:=Ul e8 fu8.ok A0 tm8 (λx y hxy=>UT re nr tk1 (by rw[<-fe];exact hxy));have ht8:=zs7.keep (Fr.z fr8) ht7 (by intro xs z;cases z) (by intro xs z;cases z) (by intro xs z;cases z);have hL8:H8 L=some (.lst ((ts++[t]).map V.ref)):=Fr.z (m:=m) fr8 _ _ hL7 apL.n0 apL.n1;have goz:=(go24.trans go5).trans go8;refine rest _ _ ⟨G8,ts++[t],nw,m8,_,_,_,rfl,fz7.trans (Fr.z fr8),zs8.mono ?_,goz,hL8,by rw[C4];show ts.length+1<=_;lia,⟨m40,lv8,tm8,fe⟩,.inr ⟨t,v,j,res,l,by rw[List.getLast?_append];rfl,ht8,l41,go8.lev lr,fa⟩⟩;rw[C4];show _<=b+270*(ts.length+1)
      lia
     ·have hc:¬((k/2^j:Nat):Int)%2=1:=λz=>hc (Y7 (X6 V.int z));have ev:k/2^j%2=0:=by lia
      have md:k%2^(j+1)=k%2^j:=by rw[md,ev,Nat.mul_zero,Nat.add_zero]
      exact rest _ _ ⟨G',ts,h,nh,u8,u9,i,rfl,fz3,zs3,go3,hL3,by lia,by rw[md];exact⟨nh40,lh,th,fh⟩,by rw[md];exact la⟩
    ·rintro σ' H4 ⟨G2,ts2,h2,nh2,v8,v9,i2,rfl,fz4,zs4,go4,hL4,tl4,mo4,la4⟩;refine hk8 ?_;refine Bw ?_;intro r9 s9 k9 hk9 E9;refine xwb rfl rfl rfl ⟨⟨by decide,by decide⟩,?_⟩;refine hk9 ?_;have ed:((k/2^j:Nat):Int)/2=((k/2^(j+1):Nat):Int):=by rw[dv];lia
     have ej:(j:Int)+1=((j+1:Nat):Int):=by lia
     refine xwb rfl rfl rfl ⟨j+1,G2,ts2,h2,nh2,v8,v9,i2,?_,by lia,fz4,zs4,go4,hL4,tl4,mo4,la4⟩;exact(X6 (λu:Int=>[some (V.ref p),some (V.int f'),some (V.int (k:Int)),some (V.ref g.p),some (V.ref L),some (V.int h2),some (V.int u),some (V.int ((j:Int)+1)),v8,v9]) ed).trans (X6 (λv:Int=>[some (V.ref p),some (V.int f'),some (V.int (k:Int)),some (V.ref g.p),some (V.ref L),some (V.int h2),some (V.int ((k/2^(j+1):Nat):Int)),some (V.int v),v8,v9]) ej)
  ·have hc:¬((k/2^j:Nat):Int) > 0:=λz=>hc (Y7 z);exact Bo (done (.inl A0))
end
theorem ifT{b:Bool}{A B:Prop}(h:b=true)(x:A):if b=true then A else B:=by rw[h];exact Cp x
theorem ifF{b:Bool}{A B:Prop}(h:b=false)(x:B):if b=true then A else B:=by rw[h];exact Bo x
structure Fv(G:Gv)(f:Nat)(φ:Int->Int->Nat):Prop where
 ex:∃n:Nat,n<=40/\Al G f ((n+1:Nat):Int)/\Js G n f/\∀x y,fieldF G n f x y=φ x y
theorem Fv.app{G G':Gv}{k f:Nat}{φ:Int->Int->Nat}(ok:GOk G)(go:AH G G' k)(h:Fv G f φ):Fv G' f φ:=by
 obtain⟨n,h1,h2,h3,h4⟩:=h.ex;exact⟨n,h1,go.lev h2,h3.app go,λx y=>by rw[GK ok go h2];exact h4 x y⟩
theorem Fv.eq{G r:Gv}(e0:G=G0++r)(ok:GOk G){f f':Nat}{φ ψ:Int->Int->Nat}(h:Fv G f φ)(h':Fv G f' ψ)(e:∀x y,φ x y=ψ x y):f=f':=by
 obtain⟨n,h1,h2,h3,h4⟩:=h.ex;obtain⟨m,g1,g2,g3,g4⟩:=h'.ex;exact(OT e0 ok A0 A0 h2 g2 h3 g3 λx y=>by rw[h4,g4,e]).2
theorem Fv.to{G:Gv}{f:Nat}{φ ψ:Int->Int->Nat}(h:Fv G f φ)(e:∀x y,φ x y=ψ x y):Fv G f ψ:=by
 obtain⟨n,h1,h2,h3,h4⟩:=h.ex;exact⟨n,h1,h2,h3,λx y=>by rw[h4,e]⟩
section
variable{P:Program}{w:World}{K:PySem.W.Frag}{mg:Str->Option Value}{base:Heap}{a:Ad}
inductive SpJpG(a:Ad)(vs:List V)(H:Hp)(Q:VK):Prop
 |mk (p dx mem pr:Addr) (g:GA) (G:Gv) (Κ:KTy) (φ:Int->Int->Nat) (N b:Nat) (r:AA) (m:MA) (f k:Nat) (_:vs=[.ref p,.int f,.int (k:Int)]) (_:ZS a H g G Κ N b p dx mem pr r m) (_:Jt Κ N) (_:ClK r Κ) (_:Rx Κ r φ k) (_:Fv G f φ) (_:MX φ k) (_:b+12000+10*N<7900000) (_:∀(d:Nat)(G':Gv)(H':Hp)(i:Nat),FrZ g m H H'->ZS a H' g G' Κ N (b+12048) p dx mem pr r m->AH G G' i->Fv G' d (sFN r k φ)->Q (.int d) H'):SpJpG a vs H Q
def WQ(a:Ad):Sp:=λvs H Q _=>SpJpG a vs H Q
theorem ok_jpg{f:Addr}{fd:FuncData}(F:Fun K "jump" "jump" Tm f fd)(T:Top K mg a)(dA:Cal P w K mg base CX0 150 "road" Tr (WJ a))(aU:Cal P w K mg base CX0 4 "trimmed" GI (NR a)):AJ P w K mg base CX0 151 f fd Ts (WQ a):=by
 refine F.ok UF (λvs H Q E h=>?_) (λcdv A outer s H vs Q E hr h=>?_)
 ·obtain⟨p,dx,mem,pr,g,G,Κ,φ,N,b,r,m,f',k,rfl,_⟩:=h;rfl
 ·obtain⟨p,dx,mem,pr,g,G,Κ,φ,N,b,r,m,f',k,rfl,zs,fin,cl,ask,fv,nr,few,kn⟩:=h;obtain⟨n,n40,lf,tr,hf⟩:=id fv.ex;have re:=zs.jz.jw.rest;refine⟨_,(Ac (Aq (i:=3) UF.nd rfl (Or.inl rfl) (Ar dA (rm hr) rfl An (Aa (pv 0) (Aa (pv 1) (Aa (pv 2) Ab))))) (Ac (AQ (AB Ct (AR Cf rfl T.b_len K4 (Aa (pv 3) Ab)) Ae (AF _)) (Ag (Aw (pv 1))) AD) (Ag (Aw (Ar aU (rm hr) rfl An (Aa (AC (pv 0) rfl) (Aa (Aj Am (Aj Ax (pv 3) (LE GO Ae) (λ_ _=>rfl)) Ae (λ_ _=>rfl)) Ab))))))),?_⟩
  try dsimp only[cxK]
  refine Bw ?_;intro r1 s1 k1 hk1 E1;refine xw3 rfl rfl rfl (.mk p dx mem pr g G Κ φ N b r m f' n k rfl zs fin cl ask lf n40 tr hf nr few (λL ts G1 H1 i1 fz1 zs1 go1 nL hL ca=>?_));refine hk1 ?_;refine Bw ?_;intro r2 s2 k2 hk2 E2;refine⟨_,rfl,L,_,rfl,.inl (SqL.of hL),rfl,_,rfl,?_⟩;rcases ca with ⟨rfl,ca⟩|⟨t,sq,e,res,l,la,ht,l41,lr,rs⟩
  ·exact ifT rfl ⟨_,rfl,kn f' G1 H1 i1 fz1 (zs1.mono A0) go1 ((fv.app zs.fu.ok go1).to λx y=>(ca x y).symm)⟩
  ·have ne:ts≠[]:=λz=>by rw[z]at la;cases la
   have tl:1<=ts.length:=T0.mpr ne;refine ifF (Y9 (λz=>by injection z with z;rw[B8]at z;lia)) ?_;refine hk2 ?_;have li:atI (ts.map V.ref) (-1)=some (.ref t):=by
    unfold atI;have:ixN (ts.map V.ref).length (-1)=some (ts.length-1):=by
     unfold ixN;rw[B8,Y6 A4,Y8 A0];congr 1;lia
    rw[this];show(ts.map V.ref)[ts.length-1]?=_;rw[C0,<-List.getLast?_eq_getElem?,la];rfl
   refine xwf rfl rfl zs1.jz.jw.hp T.cl_Jumps T.na_Jumps_grove (DF _ _ _ _ _) ?_;refine⟨_,rfl,1,rfl,L,_,-1,.ref t,rfl,rfl,SqL.of hL,li,t,_,2,.int (res:Int),rfl,rfl,SqT.of ht,Ai (j:=2) rfl,?_⟩;have sz1:=zs1.jz.sz fin;refine⟨g,G1,res,l,rfl,zs1.fu,lr,by lia,λnh G8 H8 fr8 fu8 go8 tr8=>?_⟩;have zs8:=zs1.fr fr8 fu8 go8;obtain⟨r8,e8⟩:=fu8.g0;obtain⟨m8,ml8,lv8,tm8,fe8⟩:=GP e8 fu8.ok A0 (go8.lev lr) tr8;have goz:=go1.trans go8;have fe:∀x y,fieldF G8 m8 nh x y=sFN r k φ x y:=λx y=>by rw[fe8,GK zs1.fu.ok go8 lr];exact rs x y
   have m40:=Ul e8 fu8.ok A0 tm8 (λx y hxy=>UT re nr (C1 k) (by rw[<-fe];exact hxy));exact kn nh G8 H8 _ (fz1.trans (Fr.z fr8)) (zs8.mono A0) goz ⟨m8,m40,lv8,tm8,fe⟩
end
end J
namespace J
open PySem L2
def stC:List Cl->Int->Int->Nat
 |[],_,_=>0
 |c::cs,x,y=>if x=c.x/\y=c.y then c.s else stC cs x y
theorem Wk{G r0:Gv}(e0:G=G0++r0)(ok:GOk G){cs:List Cl}{n f:Nat}(h:Ru G cs n f):(∀c∈cs,c.s<8)->Js G n f/\∀x y,fieldF G n f x y=stC cs x y:=by
 induction h with
 |nil =>
  intro _;refine⟨.inl rfl,λx y=>?_⟩;unfold fieldF;split
  ·rename_i z;exact GL e0 ok A4 (IG z.1 z.2.1) (IG z.2.2.1 z.2.2.2)
  ·rfl
 |@cons cs c n f r k w i m h l p l' ih =>
  intro hs;obtain⟨t,e⟩:=ih λc hc=>hs c (C6 _ hc);obtain⟨m',_,lm,tm,em⟩:=Sc e0 ok (hs c (C7 ..)) p;have:m'=m:=by
   have:=Z8 (lm.uniq l');lia
  subst this;refine⟨tm,λx y=>?_⟩;rw[em x y,e x y];rfl
def kvC(ds:List Cl):List (List Key×V):=ds.map λc=>(kOf [c.x,c.y],V.int (c.s:Int))
theorem NH:∀{ds:List Cl},(ds.map λc=>(c.x,c.y)).Nodup->∀{c:Cl},c∈ds->BM (kvC ds) (kOf [c.x,c.y])=some (.int (c.s:Int))
 |d::ds,nd,c,hc=>by
  rw[F7,N4]at nd;show BM ((kOf [d.x,d.y],V.int (d.s:Int))::kvC ds) (kOf [c.x,c.y])=_;rcases C3.mp hc with rfl|hc
  ·exact BO rfl
  ·rw[BB λz=>?_]
   ·exact NH nd.2 hc
   ·have z:=LQ z;injection z with z1 z
    injection z with z2 z
    exact nd.1 (D5.mpr ⟨c,hc,by rw[z1,z2]⟩)
def Mv(ds:List Cl)(c:Cl):List Cl:=if ds.any (λd=>decide (d.x=c.x/\d.y=c.y))=true then ds.map (λd=>if d.x=c.x/\d.y=c.y then c else d)else ds++[c]
theorem YK{ds:List Cl}{c d:Cl}:d∈Mv ds c↔d=c\/(d∈ds/\¬(d.x=c.x/\d.y=c.y)):=by
 unfold Mv;by_cases h:ds.any (λd=>decide (d.x=c.x/\d.y=c.y))=true
 ·rw[Y8 h,D5];obtain⟨z,hz,ez⟩:=V2.mp h;have ez:=X4 ez;constructor
  ·rintro⟨e,he,rfl⟩;by_cases q:e.x=c.x/\e.y=c.y
   ·rw[Y8 q];exact .inl rfl
   ·rw[Y6 q];exact .inr ⟨he,q⟩
  ·rintro(rfl|⟨hd,q⟩)
   ·exact⟨z,hz,Y8 ez⟩
   ·exact⟨d,hd,Y6 q⟩
 ·rw[Y6 h,D9,D7];have no:∀e∈ds,¬(e.x=c.x/\e.y=c.y):=λe he q=>h (V2.mpr ⟨e,he,Y7 q⟩);constructor
  ·rintro(hd|rfl)
   ·exact .inr ⟨hd,no d hd⟩
   ·exact .inl rfl
  ·rintro(rfl|⟨hd,_⟩)
   ·exact .inr rfl
   ·exact .inl hd
theorem YQ(ds:List Cl)(c:Cl):(Mv ds c).length<=ds.length+1:=by
 unfold Mv;split
 ·rw[B8];lia
 ·rw[C4];exact C1 _
theorem nd_putC {ds:List Cl} {c:Cl} (h:(ds.map λc=>(c.x,c.y)).Nodup):((Mv ds c).map λc=>(c.x,c.y)).Nodup:=by
 unfold Mv;by_cases q:ds.any (λd=>decide (d.x=c.x/\d.y=c.y))=true
 ·rw[Y8 q,M0];have:((λc:Cl=>(c.x,c.y)) ∘ λd=>if d.x=c.x/\d.y=c.y then c else d)=λd=>(d.x,d.y):=by
   funext d
   show((if d.x=c.x/\d.y=c.y then c else d).x,(if d.x=c.x/\d.y=c.y then c else d).y)=(d.x,d.y)
   split
   ·rename_i z;rw[z.1,z.2]
   ·rfl
  rw[this];exact h
 ·rw[Y6 q,C5,P4];refine⟨h,by simp,λa ha b hb e=>q ?_⟩;obtain⟨d,hd,rfl⟩:=D5.mp ha;rw[F7,W9,D7]at hb;rw[hb]at e;injection e with e1 e2
  exact V2.mpr ⟨d,hd,Y7 ⟨e1,e2⟩⟩
theorem kv_putC(ds:List Cl)(c:Cl):EE (kvC ds) (kOf [c.x,c.y]) (.int (c.s:Int))=kvC (Mv ds c):=by
 have key:∀d:Cl,(kOf [d.x,d.y]=kOf [c.x,c.y])↔(d.x=c.x/\d.y=c.y):=λd=>⟨λz=>by
  have z:=LQ z;injection z with z1 z
  injection z with z2 z
  exact⟨z1,z2⟩,λz=>by rw[z.1,z.2]⟩
 unfold EE Mv kvC;rw[List.any_map];have:((λkv:List Key×V=>decide (kv.1=kOf [c.x,c.y])) ∘ λc:Cl=>(kOf [c.x,c.y],V.int (c.s:Int)))=λd=>decide (d.x=c.x/\d.y=c.y):=by
  funext d
  exact decide_eq_decide.mpr (key d)
 rw[this];split
 ·rw[M0,M0];congr 1
  funext d
  show(if kOf [d.x,d.y]=kOf [c.x,c.y]then(kOf [d.x,d.y],V.int (c.s:Int))else(kOf [d.x,d.y],V.int (d.s:Int)))=(kOf [(if d.x=c.x/\d.y=c.y then c else d).x,(if d.x=c.x/\d.y=c.y then c else d).y],V.int ((if d.x=c.x/\d.y=c.y then c else d).s:Int))
  by_cases q:d.x=c.x/\d.y=c.y
  ·rw[Y8 ((key d).mpr q),Y8 q,q.1,q.2]
  ·rw[Y6 λz=>q ((key d).mp z),Y6 q]
 ·rw[C5];rfl
theorem dput{H:Hp}{D t:Addr}{ds:List Cl}{c:Cl}(e:H D=some (.dT (kvC ds)))(ht:H t=some (.tup [.int c.x,.int c.y]))(hl:ds.length<1000):Mf H D (.ref t) (.int (c.s:Int)) (upd H D (.dT (kvC (Mv ds c)))):=by
 rw[<-kv_putC];exact Mf.t (k:=kOf [c.x,c.y]) e ht (FJ (by rw[show(kvC ds).length=ds.length from B8 _];lia))
structure Wv(ds:List Cl)(φ:Int->Int->Nat):Prop where
 nd:(ds.map λc=>(c.x,c.y)).Nodup
 mem:∀c:Cl,c∈ds↔(1<=c.s/\φ c.x c.y=c.s)
theorem stC_ds{ds:List Cl}{φ:Int->Int->Nat}(h:Wv ds φ)(x y:Int):stC ds.reverse x y=φ x y:=by
 have key:∀{es:List Cl},(∀c∈es,1<=c.s/\φ c.x c.y=c.s)->(∃c∈es,c.x=x/\c.y=y)->stC es x y=φ x y:=by
  intro es;induction es with
  |nil=>rintro _ ⟨c,hc,_⟩;cases hc
  |cons d es ih =>
   intro h1 ⟨c,hc,ex,ey⟩;show(if x=d.x/\y=d.y then d.s else stC es x y)=_;by_cases q:x=d.x/\y=d.y
   ·rw[Y8 q,q.1,q.2];exact(h1 d (C7 ..)).2.symm
   ·rw[Y6 q];refine ih (λc hc=>h1 c (C6 _ hc)) ?_;rcases C3.mp hc with rfl|hc
    ·exact absurd ⟨ex.symm,ey.symm⟩ q
    ·exact⟨c,hc,ex,ey⟩
 have non:∀{es:List Cl},(∀c∈es,¬(c.x=x/\c.y=y))->stC es x y=0:=by
  intro es;induction es with
  |nil=>intro _;rfl
  |cons d es ih =>
   intro h1;show(if x=d.x/\y=d.y then d.s else stC es x y)=_;rw[Y6 λq=>h1 d (C7 ..) ⟨q.1.symm,q.2.symm⟩];exact ih λc hc=>h1 c (C6 _ hc)
 by_cases z:φ x y=0
 ·rw[z];refine non λc hc q=>?_;obtain⟨a1,a2⟩:=(h.mem c).mp (U8.mp hc);rw[q.1,q.2,z]at a2;lia
 ·refine key (λc hc=>(h.mem c).mp (U8.mp hc)) ⟨⟨x,y,φ x y⟩,U8.mpr ((h.mem _).mpr ⟨by show 1<=φ x y;lia,rfl⟩),rfl,rfl⟩
seal L2.PA L2.PE L2.PS L2.PSs L2.PT L2.PW
def FrO(d:Addr)(H H':Hp):Prop:=∀b o,H b=some o->b≠d->H' b=some o
theorem FrO.fx{dd:Addr}{H H':Hp}{kvs:List (List Key×V)}(rd:Rd H dd (.dT kvs))(f:FrO dd H H'):Fx [dd] H H':=λb o e z=>by
 refine f b o e λy=>?_;subst y;have z:=z (D7.mpr rfl);rcases rd with rd|⟨oo,rd⟩<;>rw[e]at rd<;>cases rd<;>exact z
theorem Lp:∀(cs:List Cl)(x y:Int),(∃c∈cs,c.x=x/\c.y=y/\stC cs x y=c.s)\/((∀c∈cs,¬(c.x=x/\c.y=y))/\stC cs x y=0)
 |[],_,_=>.inr ⟨(λc hc=>nomatch hc),rfl⟩
 |c::cs,x,y=>by
  by_cases z:x=c.x/\y=c.y
  ·exact .inl ⟨c,C7,z.1.symm,z.2.symm,Y8 z⟩
  ·have e:stC (c::cs) x y=stC cs x y:=Y6 z;rw[e];rcases Lp cs x y with ⟨d,hd,h⟩|⟨h1,h2⟩
   ·exact .inl ⟨d,C6 _ hd,h⟩
   ·refine .inr ⟨λd hd=>?_,h2⟩;rcases C3.mp hd with rfl|hd
    ·exact λq=>z ⟨q.1.symm,q.2.symm⟩
    ·exact h1 d hd
def clI(q:It3):Cl:=⟨q.x,q.y,(q.r.headD 0).toNat⟩
theorem UI{H:Hp}:∀{ts:List Addr}{ds:List Cl},Paired (Rv H) ts ds->∃items:List It3,(items.map λq=>V.ref q.a)=ts.map V.ref/\items.map clI=ds/\∀q∈items,Rv H q.a (clI q)/\H q.a=some (.tup (q.ns.map V.int))
 |_,_,.nil=>⟨[],rfl,rfl,λq hq=>by cases hq⟩
 |t::ts,c::ds,.cons h pr=>by
  obtain⟨items,e1,e2,hit⟩:=UI pr;have ec:clI ⟨t,c.x,c.y,[(c.s:Int)]⟩=c:=rfl;refine⟨⟨t,c.x,c.y,[(c.s:Int)]⟩::items,by rw[F7,e1];rfl,by rw[F7,e2,ec],λq hq=>?_⟩;rcases C3.mp hq with rfl|hq
  ·exact⟨by rw[ec];exact h,h⟩
  ·exact hit q hq
theorem Ou{H:Hp}:∀{out:List It3},(∀q∈out,Rv H q.a (clI q))->Paired (Rv H) (out.map (·.a)) (out.map clI)
 |[],_=>.nil
 |q::out,h=>.cons (h q (C7 ..)) (Ou λq hq=>h q (C6 _ hq))
theorem Wv.perm{ds es:List Cl}{φ:Int->Int->Nat}(h:Wv ds φ)(p:es.Perm ds):Wv es φ:=⟨(p.map _).nodup_iff.mpr h.nd,λc=>by rw[p.mem_iff];exact h.mem c⟩
structure Dd(ds:List Cl)(n:Nat)(x y:Int):Prop where
 nd:(ds.map λc=>(c.x,c.y)).Nodup
 ok:∀c∈ds,(ZV c/\1<=c.s)/\x<=c.x/\c.x<x+6/\y<=c.y/\c.y<y+3
 len:ds.length<=n
theorem Dd.nil(x y:Int):Dd [] 0 x y:=⟨by simp,(λc hc=>by cases hc),C1 _⟩
theorem Dd.put{ds:List Cl}{n:Nat}{x y:Int}{c:Cl}(h:Dd ds n x y)(hc:ZV c)(h1:1<=c.s)(h2:x<=c.x/\c.x<x+6/\y<=c.y/\c.y<y+3):Dd (Mv ds c) (n+1) x y:=by
 refine⟨nd_putC h.nd,λd hd=>?_,C9 (YQ ds c) (P8 h.len)⟩;rcases YK.mp hd with rfl|⟨hd,_⟩
 ·exact⟨⟨hc,h1⟩,h2⟩
 ·exact h.ok d hd
theorem same_s {ds:List Cl} (nd:(ds.map λc=>(c.x,c.y)).Nodup) {c d:Cl} (hc:c∈ds) (hd:d∈ds) (ex:d.x=c.x) (ey:d.y=c.y):d.s=c.s:=by
 have h1:=NH nd hc;have h2:=NH nd hd;rw[ex,ey,h1]at h2;injection h2 with h2
 injection h2 with h2
 lia
theorem Dd.dk{ds:List Cl}{n:Nat}{x y:Int}(h:Dd ds n x y):Wv ds (stC ds):=by
 refine⟨h.nd,λc=>⟨λhc=>⟨(h.ok c hc).1.2,?_⟩,λ⟨h1,h2⟩=>?_⟩⟩
 ·rcases Lp ds c.x c.y with ⟨d,hd,ex,ey,e⟩|⟨no,_⟩
  ·rw[e];exact same_s h.nd hc hd ex ey
  ·exact absurd ⟨rfl,rfl⟩ (no c hc)
 ·rcases Lp ds c.x c.y with ⟨d,hd,ex,ey,e⟩|⟨_,e⟩
  ·rw[e]at h2;have:d=c:=by
    cases d;cases c;cases ex;cases ey;cases h2;rfl
   exact this▸hd
  ·lia
section
variable{P:Program}{w:World}{K:PySem.W.Frag}{mg:Str->Option Value}{base:Heap}{a:Ad}
theorem ok_row{f:Addr}{fd:FuncData}(F:Fun K "_law_by_rows" "_law_by_rows" Fn f fd)(T:Top K mg a):AJ P w K mg base CX0 1 f fd FC NS:=by
 refine F.ok Nl (λvs H Q E h=>?_) (λcdv A outer s H vs Q E hr h=>?_)
 ·obtain⟨t,x,y,r,rfl,_⟩:=h;rfl
 ·obtain⟨t,x,y,r,rfl,ht,k⟩:=h;exact⟨_,(Ag (Aw (EN (Aa (Aj Am (pv 0) Ae (λ_ _=>rfl)) (Aa (Aj Am (pv 0) Ae (λ_ _=>rfl)) Ab))))),_,rfl,t,_,1,.int y,rfl,rfl,SqT.of ht,Ai (j:=1) rfl,_,rfl,t,_,0,.int x,rfl,rfl,SqT.of ht,Ai (j:=0) rfl,(by show 2<=sizeLine;decide),k⟩
inductive SpLsd(vs:List V)(H:Hp)(Q:VK):Prop
 |mk (D:Addr) (ds:List Cl) (_:vs=[.ref D]) (_:Rd H D (.dT (kvC ds))) (_:(ds.map λc=>(c.x,c.y)).Nodup) (_:ds.length<=40) (_:∀(o:Obj)(L:Addr)(ts:List Addr)(cs:List Cl)(H':Hp),FrO D H H'->H' D=some (.frz o (.dT (kvC ds)))->H L=none->H' L=some (.lst (ts.map V.ref))->Paired (Rv H') ts cs->cs.Perm ds->Q (.ref L) H'):SpLsd vs H Q
def WP:Sp:=λvs H Q _=>SpLsd vs H Q
theorem ok_lsd{f:Addr}{fd:FuncData}(F:Fun K "_law_listed" "_law_listed" Gj f fd)(T:Top K mg a)(bN:Cal P w K mg base CX0 1 "_law_by_rows" FC NS):AJ P w K mg base CX0 5 f fd Gr WP:=by
 refine F.ok Fc (λvs H Q E h=>?_) (λcdv A outer s H vs Q E hr h=>?_)
 ·obtain⟨D,ds,rfl,_⟩:=h;rfl
 ·obtain⟨D,ds,rfl,rd,nd,l40,k⟩:=h;refine⟨_,(Ac (Aq (i:=1) Fc.nd rfl (Or.inl rfl) (BX Ab)) (Ac (Cy Z6 rfl (Ye (pv 0)) (Bn (i:=2) Fc.nd rfl (Or.inl rfl)) (Ag (BG (CS Z3 Z4 Z5 BD (pv 1) (Bz (Aa (Aj Am (pv 2) Ae (λ_ _=>rfl)) (Aa (Aj Am (pv 2) Ae (λ_ _=>rfl)) (Aa (QI (FK hr) (pv 0) (pv 2) (λ_ _=>rfl)) Ab))) Ab))))) (Ag (Aw (Tp bN (rm hr) rfl T.b_sorted rfl (Aa (pv 1) Ab)))))),?_⟩
  try dsimp only[cxK]
  have nD:∀{x:Addr},H x=none->x≠D:=λ{x} n z=>by
   rw[z]at n;rcases rd with y|⟨o,y⟩
   ·rw[y]at n;cases n
   ·rw[y]at n;cases n
  refine⟨(by show 0<=sizeLine;decide),λS hS=>?_⟩;have s1:=AN (o:=.lst []) hS;have h1:upd H S (.lst []) S=some (.lst []):=Af;generalize upd H S (.lst [])=H1 at s1 h1⊢;have rd1:Rd H1 D (.dT (kvC ds)):=by
   rcases rd with y|⟨o,y⟩
   ·exact .inl (s1 _ _ y)
   ·exact .inr ⟨o,s1 _ _ y⟩
  refine⟨_,rfl,D,kvC ds,rfl,rd1,λo H2 hD2 fr2=>?_⟩;have h2:=fr2 _ _ h1 (nD hS);have fr02:FrO D H H2:=λb u e n=>fr2 _ _ (s1 _ _ e) n;have ldk:(kvC ds).length=ds.length:=B8 _;refine for_dT (kvs:=kvC ds) (λj σ H3=>∃(ts:List Addr)(u2:Option V),σ=[some (.ref D),some (.ref S),u2]/\(∀b u,H2 b=some u->b≠S->H3 b=some u)/\H3 S=some (.lst (ts.map V.ref))/\Paired (Rv H3) ts (ds.take j)) ⟨[],none,rfl,λb u e _=>e,h2,.nil⟩ (λj σ H3 _ z=>by obtain⟨_,_,_,z,_⟩:=z;exact z _ _ hD2 (Z1 (nD hS))) ?_ ?_
  ·rintro j kb kv v σ H3 ev hb ⟨ts,u2,rfl,k3,h3,pr⟩;obtain⟨c,ec,ee⟩:∃c,ds[j]?=some c/\(kOf [c.x,c.y],V.int (c.s:Int))=(kv,v):=by
    unfold kvC at ev;rw[C0]at ev;obtain⟨c,ec,e⟩:=D2.mp ev;exact⟨c,ec,e⟩
   cases ee;have jl:j<ds.length:=(B9.mp ec).1;have hb':H3 kb=some (.tup [.int c.x,.int c.y]):=hb;have hD3:=k3 _ _ hD2 (Z1 (nD hS));have lt:=Z9 pr;rw[L5]at lt;refine⟨_,rfl,.inl ⟨rfl,_,SqL.of h3⟩,_,rfl,kb,_,0,.int c.x,rfl,rfl,SqT.of hb',Ai (j:=0) rfl,_,rfl,kb,_,1,.int c.y,rfl,rfl,SqT.of hb',Ai (j:=1) rfl,_,rfl,_,rfl,D,.int (c.s:Int),rfl,?_,?_⟩
   ·exact .inr ⟨kvC ds,kOf [c.x,c.y],kb,.inr ⟨o,hD3⟩,rfl,hb,(NH nd (D1 ec)).symm⟩
   refine⟨(by show 3<=sizeLine;decide),λt ht=>?_⟩;have s6:=AN (o:=.tup [.int c.x,.int c.y,.int (c.s:Int)]) ht;have ht6:Rv (upd H3 t (.tup [.int c.x,.int c.y,.int (c.s:Int)])) t c:=Af;generalize upd H3 t (.tup [.int c.x,.int c.y,.int (c.s:Int)])=H6 at s6 ht6⊢;have h6:=s6 _ _ h3;refine⟨S,_,_,rfl,rfl,h6,by rw[B8];exact FJ A0,?_⟩;have tp:∀{b:Addr}{ys:List V},H6 b=some (.tup ys)->upd H6 S (.lst (ts.map V.ref++[.ref t])) b=some (.tup ys):=λ{b ys} e=>by rw[As (AE e h6 A3)];exact e
   refine⟨ts++[t],_,rfl,λb u e n=>?_,by rw[Af,C5];rfl,?_⟩
   ·rw[As n];exact s6 _ _ (k3 _ _ e n)
   ·rw[F5,ec,Q4];exact A0b (PairedM.imp (λb c z=>tp (s6 _ _ z)) pr) (tp ht6)
  ·rintro σ H3 ⟨ts,u2,rfl,k3,h3,pr⟩;rw[ldk,J0]at pr;obtain⟨items,e1,e2,hit⟩:=UI pr;have li:items.length=ds.length:=by rw[<-e2,B8]
   refine⟨_,rfl,S,items,rfl,by rw[e1];exact SqL.of h3,by lia,λq hq=>(hit q hq).2,λL out H4 kp nL pm=>?_⟩;have hD4:=kp _ _ (k3 _ _ hD2 (Z1 (nD hS)));have s5:=AN (o:=.lst (out.map λq=>V.ref q.a)) nL;have h5:upd H4 L (.lst (out.map λq=>V.ref q.a)) L=some (.lst ((out.map (·.a)).map V.ref)):=by rw[Af,M0];rfl
   generalize upd H4 L (.lst (out.map λq=>V.ref q.a))=H5 at s5 h5⊢;refine k o L (out.map (·.a)) (out.map clI) H5 (λb u e n=>s5 _ _ (kp _ _ (k3 _ _ (fr02 _ _ e n) (Av e hS)))) (s5 _ _ hD4) ?_ h5 (Ou λq hq=>s5 _ _ (kp _ _ (hit q (pm.mem_iff.mp hq)).1)) (by rw[<-e2];exact pm.map _);cases e:H L with
   |none=>rfl
   |some u =>
    by_cases z:L=D
    ·rw[z,hD4]at nL;cases nL
    ·rw[kp _ _ (k3 _ _ (fr02 _ _ e z) (Av e hS))]at nL;cases nL
theorem cpow2{n:Int}(h:0<=n)(l:n<=100):CPow 2 n:=⟨h,by lia,by decide⟩
inductive ZT(vs:List V)(H:Hp)(Q:VK):Prop
 |mk (c:Int) (_:vs=[.int c]) (_:∀v:Int,-(2^38)<=v->v<2^38->Q (.int v) H):ZT vs H Q
def Ti:Sp:=λvs H Q _=>ZT vs H Q
theorem ok_base{f:Addr}{fd:FuncData}(F:Fun K "_law_base" "_law_base" IU f fd)(T:Top K mg a):AJ P w K mg base CX0 1 f fd Je Ti:=by
 refine F.ok QB (λvs H Q E h=>?_) (λcdv A outer s H vs Q E hr h=>?_)
 ·obtain⟨c,rfl,_⟩:=h;rfl
 ·obtain⟨c,rfl,k⟩:=h;refine⟨_,(Ac (AQ (AB Ct (Ay Bb (pv 0) Ae) Ae (AF _)) (Ag (Aw (Ay BY (Ay Bb (Ay CT (pv 0) Ae) (Ay Yk Ae Ae)) (Ay Yk Ae Ae)))) AD) (Ag (Aw (Ay BY (Ay Bb (Ay CT (pv 0) Ae) Ae) Ae)))),?_⟩
  try dsimp only[cxK]
  refine⟨_,rfl,_,_,rfl,rfl,B4,rfl,_,rfl,Gz (λ_=>?_) (λ_=>?_)⟩
  ·refine⟨_,rfl,_,_,rfl,rfl,⟨by decide,by decide⟩,_,_,rfl,rfl,cpow2 A4 A4,_,_,rfl,rfl,(by show(0:Int)<2^39;decide),_,_,rfl,rfl,cpow2 A4 A4,_,_,rfl,rfl,k _ ?_ ?_⟩
   ·show -(2^38)<=c/4%2^39-2^38;lia
   ·show c/4%2^39-2^38<2^38;lia
  ·refine⟨_,rfl,_,_,rfl,rfl,⟨by decide,by decide⟩,_,_,rfl,rfl,(by show(0:Int)<12;decide),_,_,rfl,rfl,k _ ?_ ?_⟩
   ·show -(2^38)<=c/4%12-8;lia
   ·show c/4%12-8<2^38;lia
inductive ZN(K:PySem.W.Frag)(vs:List V)(H:Hp)(Q:VK):Prop
 |mk (l:Addr) (ns:List Int) (fi x y:Int) (m:Nat) (_:vs=[.ref l,.int fi,.int (m:Int),.int x,.int y]) (_:SqL K H l (ns.map V.int)) (_:0<=fi) (_:m<=100) (_:-(2^39)<=x) (_:x<2^39) (_:-(2^39)<=y) (_:y<2^39) (_:∀(D:Addr)(ds:List Cl)(H':Hp),Az H H'->H D=none->H' D=some (.dT (kvC ds))->Dd ds m x y->Q (.ref D) H'):ZN K vs H Q
def Tf(K:PySem.W.Frag):Sp:=λvs H Q _=>ZN K vs H Q
theorem ok_heap{f:Addr}{fd:FuncData}(F:Fun K "_law_heap" "_law_heap" IT f fd)(T:Top K mg a)(aB:Cal P w K mg base CX0 1 "_law_at" EZ (VG K)):AJ P w K mg base CX0 2 f fd Jd (Tf K):=by
 refine F.ok DP (λvs H Q E h=>?_) (λcdv A outer s H vs Q E hr h=>?_)
 ·obtain⟨l,ns,fi,x,y,m,rfl,_⟩:=h;rfl
 ·obtain⟨l,ns,fi,x,y,m,rfl,hS,f0,m1,x1,x2,y1,y2,k⟩:=h;refine⟨_,(Ac (Aq (i:=5) DP.nd rfl (Or.inl rfl) Oq) (Ac (Cy Z6 rfl (Di rfl T.b_range (Aa (pv 2) Ab)) (Bn (i:=6) DP.nd rfl (Or.inl rfl)) (Ac (Aq (i:=7) DP.nd rfl (Or.inl rfl) (Ar aB (rm hr) rfl An (Aa (pv 0) (AZ AL (pv 1) (pv 6) Ab)))) (Ac (Aq (i:=8) DP.nd rfl (Or.inl rfl) (Ay AL (pv 7) (Ay Es Ae (pv 6)))) (Ag (Ig (FK hr) (pv 5) (EN (AZ AL (pv 3) (Ay Bb (pv 8) Ae) (AZ AL (pv 4) (Ay Bb (Ay CT (pv 8) Ae) Ae) Ab))) (Ay AL Ae (Ay Bb (Ay AL (Ay CT (pv 7) Ae) (pv 6)) Ae)) rfl))))) (Ag (Aw (pv 5))))),?_⟩
  try dsimp only[cxK]
  refine λD hD=>?_;have s1:=AN (o:=.dT []) hD;have hD1:upd H D (.dT []) D=some (.dT (kvC [])):=Af;generalize upd H D (.dT [])=H1 at s1 hD1⊢;refine⟨_,rfl,_,rfl,by lia,by lia,?_⟩;rw[J8];refine Dl (n:=m) (λj σ H3=>∃(ds:List Cl)(u6 u7 u8:Option V),σ=[some (.ref l),some (.int fi),some (.int (m:Int)),some (.int x),some (.int y),some (.ref D),u6,u7,u8]/\Az H H3/\H3 D=some (.dT (kvC ds))/\Dd ds j x y) ⟨[],none,none,none,rfl,s1,hD1,Dd.nil x y⟩ ?_ ?_
  ·rintro j σ H3 hj ⟨ds,u6,u7,u8,rfl,sm,hD3,dd⟩;refine⟨_,rfl,_,rfl,_,rfl,_,_,rfl,rfl,l,ns,_,rfl,sm.seq hS,by show 0<=fi+(0+(j:Int));lia,?_⟩;generalize atN ns (fi+(0+(j:Int)))=v;refine⟨_,rfl,_,rfl,_,_,rfl,rfl,.inl ⟨by decide,by decide⟩,_,_,rfl,rfl,?_⟩;refine⟨_,rfl,_,_,rfl,rfl,⟨by decide,by decide⟩,_,rfl,_,_,rfl,rfl,_,_,rfl,rfl,(by show(0:Int)<7;decide),_,_,rfl,rfl,_,rfl,?_⟩;obtain⟨st,hst⟩:=F3 (show 0<=1+(v/18+(0+(j:Int)))%7 by lia);refine⟨_,rfl,_,rfl,_,_,rfl,rfl,(by show(0:Int)<6;decide),_,_,rfl,rfl,_,rfl,_,rfl,_,_,rfl,rfl,⟨by decide,by decide⟩,_,_,rfl,rfl,B1,_,_,rfl,rfl,(by show 2<=sizeLine;decide),λt ht=>?_⟩;have e1:(λ(i j:Int)=>V.int (i+j)) 1 ((v/18+(0+(j:Int)))%7)=V.int (st:Int):=X6 V.int hst;rw[e1];have s6:=AN (o:=.tup [.int (x+(v+3*(0+(j:Int)))%6),.int (y+(v+3*(0+(j:Int)))/6%3)]) ht;have h6:upd H3 t (.tup [.int (x+(v+3*(0+(j:Int)))%6),.int (y+(v+3*(0+(j:Int)))/6%3)]) t=some (.tup [.int (x+(v+3*(0+(j:Int)))%6),.int (y+(v+3*(0+(j:Int)))/6%3)]):=Af;have hD6:=s6 _ _ hD3;have dl:=dd.len;refine⟨D,_,rfl,dput (c:=⟨x+(v+3*(0+(j:Int)))%6,y+(v+3*(0+(j:Int)))/6%3,st⟩) hD6 h6 A0,?_⟩;refine⟨Mv ds ⟨x+(v+3*(0+(j:Int)))%6,y+(v+3*(0+(j:Int)))/6%3,st⟩,_,_,_,rfl,λb o e=>?_,Af,dd.put ⟨?_,?_⟩ ?_ ?_⟩
   ·rw[As (Av e hD)];exact s6 _ _ (sm _ _ e)
   ·unfold IF;dsimp only;generalize v+3*(0+(j:Int))=z;refine⟨by lia,by lia,by lia,by lia⟩
   ·show st<8;lia
   ·show 1<=st;lia
   ·dsimp only;generalize v+3*(0+(j:Int))=z;refine⟨by lia,by lia,by lia,by lia⟩
  ·rintro σ H3 ⟨ds,u6,u7,u8,rfl,sm,hD3,dd⟩;exact⟨_,rfl,k D ds H3 sm hD hD3 dd⟩
theorem fld_fv{g:GA}{G:Gv}{H:Hp}{Q:VK}{L:Addr}{ts:List Addr}{cs ds:List Cl}{φ:Int->Int->Nat}(fu:Bp a H g G)(hL:H L=some (.lst (ts.map V.ref)))(ap:Ap g L)(pr:Paired (Rv H) ts cs)(pm:cs.Perm ds)(dk:Wv ds φ)(ok:∀c∈ds,ZV c)(l:ds.length<=40)(few:G.length<6000000)(k:∀(r:Nat)(G':Gv)(H':Hp),Fr g H H'->Bp a H' g G'->AH G G' 16000->Fv G' r φ->Q (.int r) H'):ZP a [.ref g.p,.ref L] H Q:=by
 have lc:=pm.length_eq;have ok':∀c∈cs,ZV c:=λc hc=>ok c (pm.mem_iff.mp hc);refine⟨g,G,L,ts,cs,rfl,fu,hL,ap.1,ap.2.1,pr,ok',by lia,λf1 n1 G13 H13 fr13 fu13 go13 n140 lf13 fl13=>?_⟩;obtain⟨r13,e13⟩:=fu13.g0;obtain⟨tr13,ef13⟩:=Wk e13 fu13.ok fl13 (λc hc=>(ok' c (U8.mp hc)).s);exact k f1 G13 H13 fr13 fu13 (go13.mono A0) ⟨n1,n140,lf13,tr13,λu v=>by rw[ef13,stC_ds (dk.perm pm)]⟩
end
end J
namespace J
open PySem L2
theorem IE.new{a:Ad}{H H':Hp}{g:GA}{G:Gv}{N M:Nat}{r:AA}{m:MA}(hg:AI a H g G)(nl:H m.l=none)(nk:H m.kc=none)(h4:H' m.tp=some (.tup [.ref m.l,.ref m.kc]))(h5:H' m.l=some (.lst (m.ds.map V.ref)))(h6:H' m.kc=some (.dT []))(h7:∀d∈m.ds,H' d=some (.dK []))(h8:m.ds.length=47)(h9:m.ds.Nodup):IE H' g G N M r m:=by
 obtain⟨ts,h3,_⟩:=hg.pt;exact⟨h4,h5,⟨Z1 (Av hg.lv nl),Z1 (Av h3 nl),Z1 (Av hg.nm nk)⟩,h8,h9,λe d ed=>⟨[],h7 d (D1 ed),L7 _,λp hp=>(nomatch hp),λn v hv=>by cases hv⟩,⟨[],h6,L7 _,λks v hv=>by cases hv⟩⟩
def zL(g:GA)(m:MA):List Addr:=[g.lv,g.pt,g.nm,g.am,g.bx,m.kc]++m.ds
section
variable{a:Ad}{H H':Hp}{g:GA}{G G':Gv}{Κ:KTy}{N b i:Nat}{p dx mem pr:Addr}{r:AA}{m:MA}
theorem FrZ.fx(h:ZS a H g G Κ N b p dx mem pr r m)(f:FrZ g m H H'):Fx (zL g m) H H':=λx o e z=>by
 obtain⟨ts,h3,_⟩:=h.fu.at'.pt;obtain⟨ka,a1,_⟩:=h.fu.am;obtain⟨kb,b1,_⟩:=h.fu.bx;obtain⟨kc,c1,_⟩:=h.jz.jw.me.ce;refine f x o e (λy=>?_) (λy=>?_)
 ·have z':=z (D9.mpr (.inl y));clear z;simp only[C3,F0,X7]at y;rcases y with y|y|y|y|y|y<;>subst y
  ·rw[h.fu.at'.lv]at e;cases e;exact z'
  ·rw[h3]at e;cases e;exact z'
  ·rw[h.fu.at'.nm]at e;cases e;exact z'
  ·rw[a1]at e;cases e;exact z'
  ·rw[b1]at e;cases e;exact z'
  ·rw[c1]at e;cases e;exact z'
 ·have z':=z (D9.mpr (.inr y));obtain⟨j,hj⟩:=F9 y;obtain⟨kv,e2,_⟩:=h.jz.jw.me.sq j x hj;rw[e2]at e;cases e;exact z'
theorem ZS.fx{l:List Addr}(h:ZS a H g G Κ N b p dx mem pr r m)(f:Fx l H H')(n:∀x∈[g.br,m.l]++zL g m,x∉l):ZS a H' g G Κ N b p dx mem pr r m:=by
 have nz:∀x∈zL g m,x∉l:=λx hx=>n x (D9.mpr (.inr hx));have nbr:g.br∉l:=n _ A6;have nml:m.l∉l:=n _ A6;have fu':=h.fu.fx f λx hx=>by
  simp only[FL,C3,F0,X7]at hx;rcases hx with z|z|z|z|z|z<;>subst z
  ·exact nz _ (by simp[zL])
  ·exact nz _ (by simp[zL])
  ·exact nz _ (by simp[zL])
  ·exact nbr
  ·exact nz _ (by simp[zL])
  ·exact nz _ (by simp[zL])
 have jw:=h.jz.jw;obtain⟨kc,c1,_⟩:=jw.me.ce;have kds:∀d∈m.ds,∀o,H d=some o->H' d=some o:=λd hd o e=>f.get (nz d (D9.mpr (.inr hd))) e;have kkc:∀o,H m.kc=some o->H' m.kc=some o:=λo e=>f.get (nz _ (by simp[zL])) e;have me:IE H' g G N (b+10*N) r m:=jw.me.kp jw.ok (AH.refl jw.ok) λx o e w=>by
  rcases w with rfl|rfl|w|rfl
  ·rw[jw.me.tp]at e;cases e;exact f.tup jw.me.tp
  ·exact f.get nml e
  ·exact kds x w o e
  ·exact kkc o e
 obtain⟨fc,cn⟩:=h.jz.cn;refine⟨⟨⟨fu'.at',jw.ok,jw.bs,f.get nbr jw.br,jw.nbr,f _ _ jw.hp λ_=>True.intro,jw.ru.kp λx o e nv=>f _ _ e λ_=>?_,jw.rok,jw.rest,me⟩,fc,cn.kp (i:=0) jw.ok (AH.refl jw.ok) kds λkc e=>⟨kc,kkc _ e,C1 _⟩⟩,fu',h.na,h.nb⟩;cases nv<;>exact True.intro
theorem jnew{Q:VK}{H7:Hp}(fu:Bp a H7 g G)(ro:FR r)(rz:Ci r 0 BC=0)(hR:CF a H7 pr (CP r) r)(np:H7 p=none)(ndp:H7 dx=none)(nep:dx≠p)(few:G.length<=b)(k:∀(H8:Hp)(mem:Addr)(m:MA),Az H7 H8->ZS a H8 g G Κ N b p dx mem pr r m->(∀y∈m.l::m.kc::m.ds,H7 y=none)->H8 mem=some (.dK (mK [(CP r,m)]))->H7 mem=none->mem∉m.ds->Q .non H8):Rt a [.ref p,.ref g.p,.ref pr] (upd (upd H7 dx (.own p)) p (.ins a.c_Jumps dx [])) Q:=by
 have nq:upd H7 dx (.own p) p=none:=by rw[As (Z1 nep)];exact np
 have sj:Az H7 (upd (upd H7 dx (.own p)) p (.ins a.c_Jumps dx [])):=(show Az H7 _ from Ao ndp).trans (Ao nq);refine⟨p,dx,g.p,pr,CP r,r,rfl,Af,hR.same sj,λH8 mem m fr8 nmem hp8 hmem8 fre htp hl hkc hds lds nds nmd=>?_⟩;have s8':Az H7 H8:=λb o e=>fr8 b o (sj b o e) (Av e np);have mn:∀{y:Addr},upd (upd H7 dx (.own p)) p (.ins a.c_Jumps dx []) y=none->H7 y=none:=λ{y} e=>Az.noneN sj e;have fu8:=fu.same s8';have hw:IE H8 g G N (b+10*N) r m:=(IE.new (N:=0) (M:=0) fu.at' (mn fre.2.1) (mn fre.2.2.1) htp hl hkc hds lds nds).mono (L7 _) (L7 _);have nds7:∀dd∈m.ds,H7 dd=none:=λdd hdd=>mn (fre.2.2.2 dd hdd);obtain⟨rr5,e5⟩:=fu.g0;have bs5:Bs G:=λj hj=>by
  have:=NJ j hj;rw[e5];exact LT this
 obtain⟨ka,ha1,_⟩:=fu.am;obtain⟨kb,hb1,_⟩:=fu.bx;refine k H8 mem m s8' ⟨⟨⟨fu8.at',fu8.ok,bs5,fu8.br,⟨fu8.n1,fu8.n2⟩,hp8,hR.same s8',ro,rz,hw⟩,λ_=>0,λe dd ed=>⟨[],hds dd (D1 ed),rfl,S2,λk hk=>nomatch hk⟩,C9 few (S4 _ _),[],hkc,L7 _⟩,fu8,λz=>?_,λz=>?_⟩ (λy hy=>?_) hmem8 (mn nmem) (λz=>nmd mem z rfl)
 ·rw[nds7 _ z]at ha1;cases ha1
 ·rw[nds7 _ z]at hb1;cases hb1
 ·rcases C3.mp hy with rfl|hy
  ·exact mn fre.2.1
  ·rcases C3.mp hy with rfl|hy
   ·exact mn fre.2.2.1
   ·exact nds7 y hy
end
def it(f:Nat->Nat):Nat->Nat->Nat
 |0,s=>s
 |k+1,s=>f (it f k s)
structure Mp(f:Nat->Nat):Prop where
 z:f 0=0
 le:∀s,s<=7->f s<=7
section
variable{f:Nat->Nat}
theorem Dc(n s:Nat):∀m,it f (m+n) s=it f m (it f n s)
 |0=>by rw[M5];rfl
 |m+1=>by
  rw[show m+1+n=(m+n)+1 by lia];show f (it f (m+n) s)=f (it f m (it f n s));rw[Dc n s m]
theorem Mp.it0(h:Mp f):∀k,it f k 0=0
 |0=>rfl
 |k+1=>by show f (it f k 0)=0;rw[h.it0 k,h.z]
theorem Mp.itl(h:Mp f){s:Nat}(hs:s<=7):∀k,it f k s<=7
 |0=>hs
 |k+1=>h.le _ (h.itl hs k)
def Per(f:Nat->Nat)(c u:Nat):Prop:=it f c u=u
theorem Per.mul{c u:Nat}(h:Per f c u):∀m,Per f (m*c) u
 |0=>by rw[Nat.zero_mul];rfl
 |m+1=>by
  show it f ((m+1)*c) u=u;rw[V3,Dc,(h:it f c u=u)];exact h.mul m
theorem Per.at'{c u:Nat}(h:Per f c u)(i:Nat):Per f c (it f i u):=by
 show it f c (it f i u)=it f i u;rw[<-Dc,T7,Dc,(h:it f c u=u)]
def Mn(f:Nat->Nat)(c u:Nat):Prop:=1<=c/\Per f c u/\∀d,1<=d->d<c->¬Per f d u
theorem mn_ex{u:Nat}:∀{c:Nat},1<=c->Per f c u->∃d,d<=c/\Mn f d u:=by
 intro c;induction c using Nat.strongRecOn with
 |ind c ih =>
  intro h1 h2;by_cases z:∃d,1<=d/\d<c/\Per f d u
  ·obtain⟨d,a1,a2,a3⟩:=z;obtain⟨e,b1,b2⟩:=ih d a2 a1 a3;exact⟨e,by lia,b2⟩
  ·exact⟨c,C1 _,h1,h2,λd a1 a2 a3=>z ⟨d,a1,a2,a3⟩⟩
def cyc(f:Nat->Nat)(c u:Nat):List Nat:=(List.range c).map λi=>it f i u
theorem QZ{c u s:Nat}:s∈cyc f c u ↔ ∃i,i<c/\it f i u=s:=by
 unfold cyc;rw[D5];exact⟨λ⟨i,h1,h2⟩=>⟨i,F8.mp h1,h2⟩,λ⟨i,h1,h2⟩=>⟨i,F8.mpr h1,h2⟩⟩
theorem Mn.apart{c u i j:Nat}(h:Mn f c u)(hij:i<j)(hj:j<c):it f i u≠it f j u:=λe=>by
 have h1:it f (c-i) (it f i u)=u:=by
  rw[<-Dc,T9 A0];exact h.2.1
 have h2:it f (c-i) (it f j u)=it f (j-i) u:=by
  rw[<-Dc,show c-i+j=(j-i)+c by lia,Dc,(h.2.1:it f c u=u)]
 rw[e,h2]at h1;exact h.2.2 (j-i) A0 A0 h1
theorem Mn.nodup{c u:Nat}(h:Mn f c u):(cyc f c u).Nodup:=by
 unfold cyc;rw[R4,U4];refine A2h (λ{i j} hi hj lt=>h.apart lt (F8.mp hj)) V5
theorem Vj(c u:Nat):(cyc f c u).length=c:=by unfold cyc;rw[B8,L8]
theorem seven{l:List Nat}(nd:l.Nodup)(h:∀s∈l,1<=s/\s<=7):l.length<=7:=by
 have:=Rc (λ(x y:Nat)=>x=y) (λx x' y e e'=>e.trans e'.symm) [1,2,3,4,5,6,7] l nd λs hs=>⟨s,by have:=h s hs;simp;lia,rfl⟩
 exact this
theorem Mp.pos(h:Mp f){c u:Nat}(c2:2<=c)(mn:Mn f c u)(u7:u<=7):∀s∈cyc f c u,1<=s/\s<=7:=λs hs=>by
 obtain⟨i,hi,rfl⟩:=QZ.mp hs;refine⟨W6 λz=>?_,h.itl u7 i⟩;have e:u=0:=by
  have h1:it f (c-i) (it f i u)=u:=by
   rw[<-Dc,T9 A0];exact mn.2.1
  rw[z,h.it0]at h1;exact h1.symm
 subst e;exact mn.2.2 1 A4 A0 (h.it0 1)
theorem Mp.round(h:Mp f){s:Nat}(hs:s<=7):∃c,c<=7/\Mn f c (it f 7 s):=by
 have key:∃c,1<=c/\c<=7/\Per f c (it f 7 s):=by
  by_cases z:it f 7 s=0
  ·exact⟨1,by decide,by decide,by rw[z];exact h.it0 1⟩
  ·refine Z7 λno=>?_;have ap:((List.range 8).map λi=>it f i s).Nodup:=by
    rw[R4,U4];refine A2h (λ{i j} hi hj lt e=>?_) V5;have hj:=F8.mp hj;refine no ⟨j-i,by lia,by lia,?_⟩;show it f (j-i) (it f 7 s)=it f 7 s;rw[<-Dc,show j-i+7=(7-i)+j by lia,Dc,<-e,<-Dc,T9 A0]
   have:=seven ap λt ht=>by
    obtain⟨i,hi,rfl⟩:=D5.mp ht;refine⟨W6 λq=>z ?_,h.itl hs i⟩;have hi:=F8.mp hi;rw[show(7:Nat)=(7-i)+i by lia,Dc,q,h.it0]
   rw[B8,L8]at this;lia
 obtain⟨c,h1,h2,h3⟩:=key;obtain⟨d,h4,h5⟩:=mn_ex h1 h3;exact⟨d,by lia,h5⟩
theorem Mn.mem{c u s:Nat}(h:Mn f c u)(m:s∈cyc f c u):Per f c s:=by
 obtain⟨i,_,rfl⟩:=QZ.mp m;exact h.2.1.at' i
theorem Mn.meet{c u d v s:Nat}(h:Mn f c u)(k:Mn f d v)(m:s∈cyc f c u)(n:s∈cyc f d v):Per f c v:=by
 obtain⟨j,hj,e⟩:=QZ.mp n;have hs:=h.mem m;have:v=it f (d-j) s:=by
  rw[<-e,<-Dc,T9 A0];exact k.2.1.symm
 rw[this];exact hs.at' _
theorem Mp.two(h:Mp f){c u d v:Nat}(hc:Mn f c u)(hd:Mn f d v)(u7:u<=7)(v7:v<=7)(c2:2<=c)(cd:8<=c+d)(d2:2<=d):Per f c v:=by
 refine Z7 λno=>?_;have:=seven (l:=cyc f c u++cyc f d v) (by
  rw[P4];exact⟨hc.nodup,hd.nodup,λa ha b hb e=>no (hc.meet hd ha (e▸hb))⟩) λs hs=>by
  rcases D9.mp hs with m|m
  ·exact h.pos c2 hc u7 s m
  ·exact h.pos d2 hd v7 s m
 rw[C4,Vj,Vj]at this;lia
theorem Mp.period(h:Mp f):∃p,1<=p/\p<=12/\∀s,s<=7->Per f p (it f 7 s):=by
 by_cases z:∃s,s<=7/\∃c,(c=5\/c=7)/\Mn f c (it f 7 s)
 ·obtain⟨s,hs,c,hc,mn⟩:=z;have u7:=h.itl hs 7;refine⟨if c=5 then 10 else 7,by split<;>decide,by split<;>decide,λt ht=>?_⟩;obtain⟨d,d7,md⟩:=h.round ht;have v7:=h.itl ht 7;have d1:=md.1;rcases hc with rfl|rfl
  ·rw[Y8 rfl];rcases(show d=1\/d=2\/3<=d by lia)with rfl|rfl|d3
   ·exact md.2.1.mul 10
   ·exact md.2.1.mul 5
   ·exact(h.two mn md u7 v7 A4 A0 A0).mul 2
  ·rw[Y6 A4];rcases(show d=1\/2<=d by lia)with rfl|d2
   ·exact md.2.1.mul 7
   ·exact h.two mn md u7 v7 A4 A0 d2
 ·refine⟨12,by decide,by decide,λt ht=>?_⟩;obtain⟨d,d7,md⟩:=h.round ht;have d1:=md.1;rcases(show d=1\/d=2\/d=3\/d=4\/d=6\/(d=5\/d=7) by lia)with rfl|rfl|rfl|rfl|rfl|e
  ·exact md.2.1.mul 12
  ·exact md.2.1.mul 6
  ·exact md.2.1.mul 4
  ·exact md.2.1.mul 3
  ·exact md.2.1.mul 2
  ·exact absurd ⟨t,ht,d,e,md⟩ z
theorem Mp.few(h:Mp f)(k:Nat):∃k',k'<19/\∀s,s<=7->it f k s=it f k' s:=by
 by_cases z:k<7
 ·exact⟨k,by lia,λ_ _=>rfl⟩
 ·obtain⟨p,p1,p2,hp⟩:=h.period;have:=L9 (k-7) (show 0<p by lia);refine⟨(k-7)%p+7,by lia,λs hs=>?_⟩;have e:k=(k-7)%p+(((k-7)/p)*p+7):=by
   have:=Nat.mod_add_div (k-7) p;rw[T4]at this;lia
  conv=>lhs;rw[e]
  rw[Dc,Dc,((hp s hs).mul _:it f _ _=_),Dc]
end
def Gl(r:AA)(f:Nat->Nat)(dx dy:Int):Prop:=∀φ:Int->Int->Nat,(∀x y,φ x y<=7)->∀x y,sF r φ x y=f (φ (x+dx) (y+dy))
theorem Ze{r:AA}{f:Nat->Nat}{dx dy:Int}(mp:Mp f)(gl:Gl r f dx dy){φ:Int->Int->Nat}(h:∀x y,φ x y<=7):∀(k:Nat)(x y:Int),sFN r k φ x y=it f k (φ (x+k*dx) (y+k*dy))
 |0,x,y=>by
  show φ x y=φ (x+(0:Nat)*dx) (y+(0:Nat)*dy);rw[show((0:Nat):Int)=0 from rfl,Int.zero_mul,Int.zero_mul,Q5,Q5]
 |k+1,x,y=>by
  have ih:=Ze mp gl h k;show sF r (sFN r k φ) x y=f (it f k _);rw[gl _ (λu v=>by rw[ih];exact mp.itl (h _ _) k),ih];have e:∀x dx:Int,x+dx+(k:Int)*dx=x+((k+1:Nat):Int)*dx:=λx dx=>by
   rw[M7,Int.add_mul];lia
  rw[e,e]
def Kd(f:Nat->Nat)(φ:Int->Int->Nat)(dx dy:Int)(S:List Nat):KTy:=λl e ψ=>l<47/\((∀x y,x<2^(l+2)->y<2^(l+2)->ψ x y=0)\/(e<=l/\∃t∈S,∃(k:Nat)(i j:Int),(e<l->k=t)/\∀x y,x<2^(l+2)->y<2^(l+2)->ψ x y=(it f k (φ ((x:Int)+2^l*i+t*dx) ((y:Int)+2^l*j+t*dy)):Nat)))
theorem kd_cl{r:AA}(ro:FR r)(re:Ci r 0 BC=0){f:Nat->Nat}{φ:Int->Int->Nat}{dx dy:Int}(mp:Mp f)(gl:Gl r f dx dy)(h7:∀x y,φ x y<=7)(S:List Nat):ClK r (Kd f φ dx dy S):=by
 have p1:∀l,2^(l+1)=2^l*2:=λl=>F4 ..;have q1:∀l:Nat,(2:Int)^(l+1)=2^l*2:=λl=>S3 ..;have p2:∀l,2^(l+2)=2^l*2*2:=λl=>by rw[F4,F4]
 have p3:∀l,2^(l+1+2)=2^l*2*2*2:=λl=>by rw[F4,F4,F4]
 have nine:∀{l e e' ψ},Kd f φ dx dy S (l+1) e ψ->e'<=l->(e'<l->e<l+1)->∀i j,i<3->j<3->Kd f φ dx dy S l e' λx y=>ψ (x+2^(l+1)*i) (y+2^(l+1)*j):=λ{l e e' ψ} h he hk i j hi hj=>by
  have b1:2^(l+1)*i<=2^(l+1)*2:=J9 _ A0;have b2:2^(l+1)*j<=2^(l+1)*2:=J9 _ A0;have a1:=p1 l;have a2:=p2 l;have a3:=p3 l;refine⟨by have:=h.1;lia,?_⟩;rcases h.2 with z|⟨_,t,ht,k,i',j',hk',z⟩
  ·exact .inl λx y hx hy=>z _ _ A0 A0
  ·refine .inr ⟨he,t,ht,k,2*i'+2*(i:Int),2*j'+2*(j:Int),λq=>hk' (hk q),λx y hx hy=>?_⟩;show ψ _ _=_;rw[z _ _ A0 A0];have e1:∀(x i:Nat)(i':Int),((x+2^(l+1)*i:Nat):Int)+2^(l+1)*i'=(x:Int)+2^l*(2*i'+2*(i:Int)):=λx i i'=>by
    rw[M7,N9,J7];show(x:Int)+2^(l+1)*(i:Int)+2^(l+1)*i'=_;rw[q1,R5,Q7,Q7];lia
   rw[e1,e1]
 refine⟨λ{l e φ} h he=>nine h he (λq=>by lia),λ{l φ} h=>nine h (C1 _) (λq=>by lia),λ{l ψ} h i j hi hj=>?_⟩;have b1:2^(l+1)*i<=2^(l+1)*1:=J9 _ A0;have b2:2^(l+1)*j<=2^(l+1)*1:=J9 _ A0;have a1:=p1 l;have a2:=p2 l;have a3:=p3 l;refine⟨by have:=h.1;lia,?_⟩;rcases h.2 with z|⟨_,t,ht,k,i',j',hk',z⟩
 ·refine .inl λx y hx hy=>?_;have:=Jv ro (c:=ψ) (φ:=λ_ _=>0) (X:=0) (Y:=0) (2^l) (x+(2^(l+1)*i+2^l)) (y+(2^(l+1)*j+2^l)) A0 A0 λu v h1 h2 h3 h4=>z u v A0 A0;rw[GG re]at this;exact this
 ·refine .inr ⟨C1 _,t,ht,2^l+k,2*i'+(2*(i:Int)+1)+dx,2*j'+(2*(j:Int)+1)+dy,λq=>absurd q (O3 _),λx y hx hy=>?_⟩;have:=Jv ro (c:=ψ) (φ:=λu v=>it f k (φ (u+t*dx) (v+t*dy))) (X:=2^(l+1)*i') (Y:=2^(l+1)*j') (2^l) (x+(2^(l+1)*i+2^l)) (y+(2^(l+1)*j+2^l)) A0 A0 λu v h1 h2 h3 h4=>z u v A0 A0;show Bh r (2^l) ψ _ _=_;rw[this,Ze mp gl (λu v=>mp.itl (h7 _ _) k),<-Dc];have e1:∀(x i:Nat)(i' dx:Int),((x+(2^(l+1)*i+2^l):Nat):Int)+2^(l+1)*i'+((2^l:Nat):Int)*dx=(x:Int)+2^l*(2*i'+(2*(i:Int)+1)+dx):=λx i i' dx=>by
   rw[M7,M7,N9,J7,J7];show(x:Int)+(2^(l+1)*(i:Int)+2^l)+2^(l+1)*i'+2^l*dx=_;rw[q1,R5,R5,R5,Q7,Q7,Int.mul_one];lia
  rw[e1,e1]
def kw(W D l:Nat):Nat:=wl W 0 l*wl D 0 l
def md(k W D e l:Nat):Nat:=1+k*((if e=l then 19 else if e<l then 1 else 0)*kw W D l)
def nd(k W D:Nat):Nat:=s47 λe=>((List.range 47).map (md k W D e)).sum
def MZ(f:Nat->Nat)(φ:Int->Int->Nat)(dx dy X Y:Int)(W D l t k:Nat):List (Nat×Sht):=(List.range (kw W D l)).map λd=>(l,λ(x y:Nat)=>((it f k (φ ((x:Int)+2^l*((X-t*dx-(0:Nat))/2^l-3+((d%wl W 0 l:Nat):Int))+t*dx) ((y:Int)+2^l*((Y-t*dy-(0:Nat))/2^l-3+((d/wl W 0 l:Nat):Int))+t*dy)):Nat):Int))
def UY(f:Nat->Nat)(φ:Int->Int->Nat)(dx dy X Y:Int)(W D:Nat)(S:List Nat)(e:Nat):List (Nat×Sht):=(List.range 47).flatMap λl=>(l,λ_ _=>0)::S.flatMap λt=>if e=l then(List.range 19).flatMap (MZ f φ dx dy X Y W D l t)else if e<l then MZ f φ dx dy X Y W D l t t else []
theorem Pw(f:Nat->Nat)(φ:Int->Int->Nat)(dx dy X Y:Int)(W D l t k:Nat):(MZ f φ dx dy X Y W D l t k).length=kw W D l:=by unfold MZ;rw[B8,L8]
theorem Wb(f:Nat->Nat)(φ:Int->Int->Nat)(dx dy X Y:Int)(W D:Nat)(S:List Nat)(e:Nat):(UY f φ dx dy X Y W D S e).length<=((List.range 47).map (md S.length W D e)).sum:=by
 unfold UY;refine OS _ _ _ λl _=>?_;rw[D4];have:=JB (λt=>if e=l then(List.range 19).flatMap (MZ f φ dx dy X Y W D l t)else if e<l then MZ f φ dx dy X Y W D l t t else []) ((if e=l then 19 else if e<l then 1 else 0)*kw W D l) S λt _=>by
  by_cases z:e=l
  ·simp only[Y8 z];have:=JB (MZ f φ dx dy X Y W D l t) (kw W D l) (List.range 19) λk _=>Nat.le_of_eq (Pw ..);rw[L8]at this;exact this
  ·simp only[Y6 z];by_cases y:e<l
   ·simp only[Y8 y];rw[Pw];lia
   ·simp only[Y6 y];exact L7 _
 unfold md;lia
theorem YV{f:Nat->Nat}{φ:Int->Int->Nat}{dx dy X Y:Int}{W D:Nat}(mp:Mp f)(h7:∀x y,φ x y<=7)(hb:∀u v,φ u v≠0->X<=u/\u<X+W/\Y<=v/\v<Y+D)(S:List Nat):Jt (Kd f φ dx dy S) (nd S.length W D):=by
 refine⟨⟨_,C1 _,λe=>⟨UY f φ dx dy X Y W D S e,Wb f φ dx dy X Y W D S e,λl ψ h=>?_⟩⟩,λ{l e φ' ψ} h q=>⟨h.1,?_⟩⟩
 ·obtain⟨h1,h2⟩:=h;have zero:(∀x y,x<2^(l+2)->y<2^(l+2)->ψ x y=0)->∃ψ',(l,ψ')∈UY f φ dx dy X Y W D S e/\Ug l ψ ψ':=λz=>⟨λ_ _=>0,N7.mpr ⟨l,F8.mpr h1,C7⟩,z⟩
  rcases h2 with h2|⟨el,t,ht,k,i,j,hk,h2⟩
  ·exact zero h2
  ·by_cases z:∀x y,x<2^(l+2)->y<2^(l+2)->ψ x y=0
   ·exact zero z
   ·obtain⟨x,z⟩:=Classical.not_forall.mp z;obtain⟨y,z⟩:=Classical.not_forall.mp z;obtain⟨hx,z⟩:=Classical.not_imp.mp z;obtain⟨hy,z⟩:=Classical.not_imp.mp z;rw[h2 x y hx hy]at z;have z:φ ((x:Int)+2^l*i+t*dx) ((y:Int)+2^l*j+t*dy)≠0:=λq=>z (by rw[q,mp.it0];rfl);obtain⟨g1,g2,g3,g4⟩:=hb _ _ z;obtain⟨d1,l1,e1⟩:=Qn (T:=0) (t:=0) (W:=W) (i:=i) (X:=X-t*dx) (u:=(x:Int)+2^l*i) hx (C1 _) A0 A0 A0 A0;obtain⟨d2,l2,e2⟩:=Qn (T:=0) (t:=0) (W:=D) (i:=j) (X:=Y-t*dy) (u:=(y:Int)+2^l*j) hy (C1 _) A0 A0 A0 A0;have hw:0<wl W 0 l:=by unfold wl;lia
    have dm:(d1+wl W 0 l*d2)%wl W 0 l=d1:=by rw[O0,O1 l1]
    have dd:(d1+wl W 0 l*d2)/wl W 0 l=d2:=by rw[N6 _ _ hw,M8 l1,M5]
    have lt:d1+wl W 0 l*d2<kw W D l:=by
     have:wl W 0 l*(d2+1)<=wl W 0 l*wl D 0 l:=J9 _ l2;rw[Nat.mul_add]at this;unfold kw;lia
    have inw:∀k',(l,λ(x y:Nat)=>((it f k' (φ ((x:Int)+2^l*i+t*dx) ((y:Int)+2^l*j+t*dy)):Nat):Int))∈MZ f φ dx dy X Y W D l t k':=λk'=>by
     refine D5.mpr ⟨d1+wl W 0 l*d2,F8.mpr lt,?_⟩;rw[dm,dd,<-e1,<-e2]
    by_cases q:e=l
    ·obtain⟨k',k19,ek⟩:=mp.few k;refine⟨λ(x y:Nat)=>((it f k' (φ ((x:Int)+2^l*i+t*dx) ((y:Int)+2^l*j+t*dy)):Nat):Int),N7.mpr ⟨l,F8.mpr h1,C6 _ (N7.mpr ⟨t,ht,?_⟩)⟩,λx y hx hy=>?_⟩
     ·rw[Y8 q];exact N7.mpr ⟨k',F8.mpr k19,inw k'⟩
     ·rw[h2 x y hx hy,ek _ (h7 _ _)]
    ·have lt:e<l:=by lia
     have:=hk lt;subst this;refine⟨λ(x y:Nat)=>((it f k (φ ((x:Int)+2^l*i+k*dx) ((y:Int)+2^l*j+k*dy)):Nat):Int),N7.mpr ⟨l,F8.mpr h1,C6 _ (N7.mpr ⟨k,ht,?_⟩)⟩,λx y hx hy=>?_⟩
     ·rw[Y6 q,Y8 lt];exact inw k
     ·rw[h2 x y hx hy]
 ·rcases h.2 with h2|⟨el,t,ht,k,i,j,hk,h2⟩
  ·exact .inl λx y hx hy=>(q x y hx hy).symm.trans (h2 x y hx hy)
  ·exact .inr ⟨el,t,ht,k,i,j,hk,λx y hx hy=>(q x y hx hy).symm.trans (h2 x y hx hy)⟩
def sts(t k:Nat):List Nat:=((List.range 40).filter λj=>k/2^j%2==1).map λj=>k%2^j+t
theorem ON{r:AA}{f:Nat->Nat}{φ:Int->Int->Nat}{dx dy:Int}(mp:Mp f)(gl:Gl r f dx dy)(h7:∀x y,φ x y<=7){S:List Nat}{t k:Nat}(k40:k<2^40)(hs:∀s∈sts t k,s∈S):Rx (Kd f φ dx dy S) r (sFN r t φ) k:=λj l G f' hb hl l41 ok lf hf=>by
 have j40:j<40:=U7 λz=>by
  have:k/2^j=0:=M8 (F2 k40 (M6 A4 z));rw[this]at hb;cases hb
 refine⟨by lia,.inr ⟨hl,k%2^j+t,hs _ (D5.mpr ⟨j,S8.mpr ⟨F8.mpr j40,by rw[hb];rfl⟩,rfl⟩),k%2^j+t,-2,-2,λ_=>rfl,λx y hx hy=>?_⟩⟩;rw[NK ok lf hx hy,hf,<-FY,Ze mp gl h7];have e:(2:Int)^(l+1)=2^l*2:=S3 ..;rw[e];have e2:∀x:Nat,(x:Int)-2^l*2=(x:Int)+2^l * -2:=λx=>by lia
 rw[e2,e2]
seal L2.PA L2.PE L2.PS L2.PSs L2.PT L2.PW
def plW(w:Nat)(k:Int):List (Option Int):=List.replicate w none++some k::List.replicate (7-w) none
def glC(M:Nat->Nat)(w k:Nat):AO:=if w=8 then⟨some (k:Int),[],(M k:Int)⟩else⟨none,[.pl (plW w (k:Int))],(M k:Int)⟩
def glR(M:Nat->Nat)(w:Nat):AA:=((List.range 7).map λi=>glC M w (i+1))++if w=8 then []else [⟨none,[],0⟩]
theorem Yc{w:Nat}(hw:w<8)(k a0 a1 a2 a3 a4 a5 a6 a7:Int):(AT.pl (plW w k)).holds [a0,a1,a2,a3,a4,a5,a6,a7]=decide (k=[a0,a1,a2,a3,a4,a5,a6,a7].getD w 0):=by
 match w,hw with
 |0,_=>simp[AT.holds,plW,BN]
 |1,_=>simp[AT.holds,plW,BN]
 |2,_=>simp[AT.holds,plW,BN]
 |3,_=>simp[AT.holds,plW,BN]
 |4,_=>simp[AT.holds,plW,BN]
 |5,_=>simp[AT.holds,plW,BN]
 |6,_=>simp[AT.holds,plW,BN]
 |7,_=>simp[AT.holds,plW,BN]
theorem Ve(M:Nat->Nat)(p:AO->Bool)(C:Nat->AO)(hC:∀k,(C k).makes=(M k:Int))(v:Nat)(hp:∀k,1<=k->p (C k)=decide ((k:Int)=(v:Int)))(hv:v<=7)(L:List AO):(v=0->(((List.range 7).map λi=>C (i+1))++L).find? p=L.find? p)/\(v≠0->(((List.range 7).map λi=>C (i+1))++L).find? p=some (C v)):=by
 have e:(((List.range 7).map λi=>C (i+1))++L)=C 1::C 2::C 3::C 4::C 5::C 6::C 7::L:=rfl;rw[e];have q:∀(k:Nat)(K:List AO),1<=k->(C k::K).find? p=if k=v then some (C k)else K.find? p:=λk K h1=>by
  rw[P2,hp k h1];by_cases z:k=v
  ·rw[Y8 z,Y7 (by rw[z])]
  ·rw[Y6 z,Y9 (λy:(k:Int)=(v:Int)=>z (Z8 y))]
 rw[q 1 _ A4,q 2 _ A4,q 3 _ A4,q 4 _ A4,q 5 _ A4,q 6 _ A4,q 7 _ A4]
 match v,hv with
 |0,_=>exact⟨λ_=>rfl,λz=>absurd rfl z⟩
 |1,_=>exact⟨λz=>(nomatch z),λ_=>rfl⟩
 |2,_=>exact⟨λz=>(nomatch z),λ_=>rfl⟩
 |3,_=>exact⟨λz=>(nomatch z),λ_=>rfl⟩
 |4,_=>exact⟨λz=>(nomatch z),λ_=>rfl⟩
 |5,_=>exact⟨λz=>(nomatch z),λ_=>rfl⟩
 |6,_=>exact⟨λz=>(nomatch z),λ_=>rfl⟩
 |7,_=>exact⟨λz=>(nomatch z),λ_=>rfl⟩
theorem Zf{M:Nat->Nat}(m0:M 0=0){w:Nat}(hw:w<8)(c a0 a1 a2 a3 a4 a5 a6 a7:Int){v:Nat}(hv:v<=7)(e:[a0,a1,a2,a3,a4,a5,a6,a7].getD w 0=(v:Int)):Ci (glR M w) c [a0,a1,a2,a3,a4,a5,a6,a7]=(M v:Int):=by
 have ne:w≠8:=by lia
 obtain⟨h1,h2⟩:=Ve M (AO.fits c [a0,a1,a2,a3,a4,a5,a6,a7]) (glC M w) (λk=>by unfold glC;rw[Y6 ne]) v (λk _=>by
  unfold glC;rw[Y6 ne];show(true && ((AT.pl (plW w (k:Int))).holds [a0,a1,a2,a3,a4,a5,a6,a7] && true))=_;rw[Yc hw,e,Bool.true_and,W5]) hv [⟨none,[],0⟩]
 unfold Ci glR;rw[Y6 ne];by_cases z:v=0
 ·rw[h1 z,z,m0];rfl
 ·rw[h2 z];unfold glC;rw[Y6 ne]
theorem Vf{M:Nat->Nat}(m0:M 0=0){c:Nat}(hc:c<=7)(ar:List Int):Ci (glR M 8) (c:Int) ar=(M c:Int):=by
 obtain⟨h1,h2⟩:=Ve M (AO.fits (c:Int) ar) (glC M 8) (λk=>rfl) c (λk _=>by
  show(decide ((k:Int)=(c:Int)) && true)=_;rw[W5]) hc []
 unfold Ci glR;rw[Y8 rfl];by_cases z:c=0
 ·rw[h1 z,z,m0];rfl
 ·rw[h2 z];rfl
def ofX:Nat->Int
 |0=>-1|1=>0|2=>1|3=>-1|4=>1|5=>-1|6=>0|7=>1|_=>0
def ofY:Nat->Int
 |0=>-1|1=>-1|2=>-1|3=>0|4=>0|5=>1|6=>1|7=>1|_=>0
theorem gl_gl{M:Nat->Nat}(m0:M 0=0){w:Nat}(hw:w<=8):Gl (glR M w) M (ofX w) (ofY w):=fun φ h7 x y=>by
 unfold sF;by_cases z:w=8
 ·subst z;rw[Vf m0 (h7 x y),J8];show M (φ x y)=M (φ (x+0) (y+0));rw[Q5,Q5]
 ·have h8:w<8:=by lia
  rw[Zf m0 h8 _ _ _ _ _ _ _ _ _ (v:=φ (x+ofX w) (y+ofY w)) (h7 _ _) ?_,J8]
  match w,h8 with
  |0,_=>rfl
  |1,_=>show((φ x (y-1):Nat):Int)=(φ (x+0) (y-1):Nat);rw[Q5]
  |2,_=>rfl
  |3,_=>show((φ (x-1) y:Nat):Int)=(φ (x-1) (y+0):Nat);rw[Q5]
  |4,_=>show((φ (x+1) y:Nat):Int)=(φ (x+1) (y+0):Nat);rw[Q5]
  |5,_=>rfl
  |6,_=>show((φ x (y+1):Nat):Int)=(φ (x+0) (y+1):Nat);rw[Q5]
  |7,_=>rfl
theorem gl_rest{M:Nat->Nat}(m0:M 0=0){w:Nat}(hw:w<=8):Ci (glR M w) 0 BC=0:=by
 by_cases z:w=8
 ·subst z;have:=Vf m0 (c:=0) A4 BC;rw[m0]at this;exact this
 ·have h8:w<8:=by lia
  have:=Zf m0 h8 0 0 0 0 0 0 0 0 0 (v:=0) A4 (by
   match w,h8 with
   |0,_=>rfl
   |1,_=>rfl
   |2,_=>rfl
   |3,_=>rfl
   |4,_=>rfl
   |5,_=>rfl
   |6,_=>rfl
   |7,_=>rfl)
  rw[m0]at this;exact this
theorem glC_ok{M:Nat->Nat}(m7:∀s,M s<=7){w k:Nat}(hw:w<=8)(hk:k<=7):(glC M w k).ok:=by
 have s0:GF (k:Int):=⟨by lia,by lia⟩
 have s1:GF (M k:Int):=⟨by lia,by have:=m7 k;lia⟩
 unfold glC;split
 ·exact⟨s0,s1,L7 _,λd hd=>nomatch hd⟩
 ·refine⟨True.intro,s1,by show 1<=50;decide,λd hd=>?_⟩;rw[D7.mp hd];refine⟨by unfold plW;rw[C4,D4,M9,M9];lia,λv hv=>?_⟩;unfold plW at hv;rcases D9.mp hv with q|q
  ·rw[(List.mem_replicate.mp q).2];exact True.intro
  ·rcases C3.mp q with q|q
   ·rw[q];exact s0
   ·rw[(List.mem_replicate.mp q).2];exact True.intro
theorem Zg{M:Nat->Nat}(m7:∀s,M s<=7){w:Nat}(hw:w<=8):FR (glR M w):=by
 refine⟨?_,λc hc=>?_⟩
 ·unfold glR;rw[C4,B8,L8];split<;>decide
 ·unfold glR at hc;rcases D9.mp hc with q|q
  ·obtain⟨i,hi,rfl⟩:=D5.mp q;exact glC_ok m7 hw (by have:=F8.mp hi;lia)
  ·split at q
   ·cases q
   ·rw[D7.mp q];exact⟨True.intro,⟨Q0 _,by show(0:Int)<8;decide⟩,L7 _,λd hd=>nomatch hd⟩
theorem Rj{d:Int}(h0:0<=d)(h1:d<=9):(Str.ofString (toString d)).length=1:=by rw[Tx.Ec h0 h1];rfl
theorem gt_8:∀k:Nat,k<8->∀m:Nat,m<8->(sgD (k:Int)++Str.ofString " ")++sgD (m:Int)=AV ⟨some (k:Int),[],(m:Int)⟩:=by decide +kernel
theorem gt_w:∀w:Nat,w<8->∀k:Nat,k<8->∀m:Nat,m<8->(((Str.ofString "* " ++ ((Tn (Str.ofString "*") w++sgD (k:Int))++Tn (Str.ofString "*") (7-w)))++Str.ofString " ")++sgD (m:Int))=AV ⟨none,[.pl (plW w (k:Int))],(m:Int)⟩:=by decide +kernel
theorem gt_0:Str.ofString "* 0" = AV ⟨none,[],0⟩:=by decide +kernel
section
variable{P:Program}{w:World}{K:PySem.W.Frag}{mg:Str->Option Value}{base:Heap}{a:Ad}
inductive ZK(K:PySem.W.Frag)(vs:List V)(H:Hp)(Q:VK):Prop
 |mk (l:Addr) (ns:List Int) (fi:Int) (_:vs=[.ref l,.int fi]) (_:SqL K H l (ns.map V.int)) (_:0<=fi) (_:∀(L:Addr)(M:Nat->Nat)(H':Hp),Az H H'->M 0=0->(∀s,M s<=7)->H' L=some (.lst ((List.range 8).map λi=>V.int (M i:Int)))->Q (.ref L) H'):ZK K vs H Q
def Te(K:PySem.W.Frag):Sp:=λvs H Q _=>ZK K vs H Q
theorem ok_mapb{f:Addr}{fd:FuncData}(F:Fun K "_law_map_by" "_law_map_by" Ex f fd)(T:Top K mg a)(aB:Cal P w K mg base CX0 1 "_law_at" EZ (VG K)):AJ P w K mg base CX0 2 f fd Gq (Te K):=by
 refine F.ok Oc (λvs H Q E h=>?_) (λcdv A outer s H vs Q E hr h=>?_)
 ·obtain⟨l,ns,fi,rfl,_⟩:=h;rfl
 ·obtain⟨l,ns,fi,rfl,hS,f0,k⟩:=h;refine⟨_,(Ag (Aw (Ay QJ (BX (AK Ab)) (BW rfl (Bu.of (So:=Ah Ex) (No:=JN) (N:=["_law_state","_law_script","_law_first"]) (k:=1) (cs:=[0,1]) rfl rfl A1) (Mx rfl T.b_range (AK (AK Ab))) (λ_ _ _=>(AW (i:=0) A1 rfl rfl)) (λ_ _ _=>BF) (λ_ _ _=>(Ay Bb (Ay AL (pv 0) (Ar aB (rm hr) rfl An (Aa (pv 1) (AZ BY (Ay AL (pv 2) (pv 0)) Ae Ab)))) Ae)))))),?_⟩
  try dsimp only[cxK]
  refine⟨(by show 1<=sizeLine;decide),λz hz=>?_⟩;have s1:=AN (o:=.lst [.int 0]) hz;have h1:upd H z (.lst [.int 0]) z=some (.lst [.int 0]):=Af;generalize upd H z (.lst [.int 0])=H1 at s1 h1⊢;generalize eM:(λs:Nat=>if s=0 then 0 else(((s:Int)+atN ns (fi+(s:Int)-1))%8).toNat)=M;refine⟨1,8,rfl,⟨by decide,by decide,by decide,by decide⟩,?_⟩;refine MU (n:=7) (λi acc H2=>H2=H1/\acc=(List.range i).map λj=>V.int (M (j+1):Int)) ⟨rfl,rfl⟩ ?_ ?_
  ·rintro i acc H2 hi ⟨rfl,rfl⟩;refine⟨⟨[some (.int (1+(i:Int)))],rfl,rfl⟩,by rw[B8,L8];exact FJ A0,Gc ⟨_,rfl,_,rfl,_,rfl,_,rfl,_,_,rfl,rfl,_,_,rfl,rfl,l,ns,_,rfl,s1.seq hS,by show 0<=fi+(1+(i:Int))-1;lia,_,_,rfl,rfl,_,_,rfl,rfl,B6,rfl,?_⟩⟩;rw[P1,C5,<-eM];congr 1;show [V.int ((1+(i:Int)+atN ns (fi+(1+(i:Int))-1))%8)]=[V.int (((((i+1:Nat):Int)+atN ns (fi+((i+1:Nat):Int)-1))%8).toNat:Int)]
   rw[show((i+1:Nat):Int)=1+(i:Int) by lia,P7 (P3 _ A4)]
  ·rintro acc H2 ⟨rfl,rfl⟩ L hL;have s2:=AN (o:=.lst ((List.range 7).map λj=>V.int (M (j+1):Int))) hL;have h2:upd H2 L (.lst ((List.range 7).map λj=>V.int (M (j+1):Int))) L=some (.lst ((List.range 7).map λj=>V.int (M (j+1):Int))):=Af;generalize upd H2 L (.lst ((List.range 7).map λj=>V.int (M (j+1):Int)))=H3 at s2 h2⊢;refine⟨z,L,_,_,rfl,rfl,s2 _ _ h1,h2,by show 1+7<=sizeLine;decide,λq hq=>?_⟩;refine k q M _ ((s1.trans s2).trans (AN hq)) (by rw[<-eM];rfl) (λs=>?_) ?_
   ·rw[<-eM];dsimp only;split
    ·decide
    ·have:=N5 ((s:Int)+atN ns (fi+(s:Int)-1)) (by decide:(0:Int)<8);lia
   ·rw[Af,<-eM];rfl
inductive SpGtx(vs:List V)(H:Hp)(Q:VK):Prop
 |mk (L:Addr) (M:Nat->Nat) (w:Nat) (_:vs=[.ref L,.int (w:Int)]) (_:w<=8) (_:∀s,M s<=7) (_:H L=some (.lst ((List.range 8).map λi=>V.int (M i:Int)))) (_:∀H':Hp,Az H H'->Q (.str (CP (glR M w))) H'):SpGtx vs H Q
def WR:Sp:=λvs H Q _=>SpGtx vs H Q
theorem ok_gtx{f:Addr}{fd:FuncData}(F:Fun K "_law_glide_text" "_law_glide_text" DT f fd)(T:Top K mg a):AJ P w K mg base CX0 1 f fd Ea WR:=by
 refine F.ok Cv (λvs H Q E h=>?_) (λcdv A outer s H vs Q E hr h=>?_)
 ·obtain⟨L,M,w,rfl,_⟩:=h;rfl
 ·obtain⟨L,M,w,rfl,w8,m7,hL,k⟩:=h;refine⟨_,(Ac (Aq (i:=2) Cv.nd rfl (Or.inl rfl) (BX Ab)) (Ac (Cy Z6 rfl (Mx rfl T.b_range (AK (AK Ab))) (Bn (i:=3) Cv.nd rfl (Or.inl rfl)) (Ag (AQ (AB Ct (pv 1) Ae (AF _)) (Ag (BG (CS Z3 Z4 Z5 BD (pv 2) (AZ CA (Ay CA (Ba CD rfl T.b_str X9 (Aa (pv 3) Ab)) CN) (Ba CD rfl T.b_str X9 (Aa (Aj Ax (pv 0) (pv 3) (λ_ _=>rfl)) Ab)) Ab)))) (Ac (Aq (i:=4) Cv.nd rfl (Or.inl rfl) (Ay CA (Ay CA (Ay UN CN (pv 1)) (Ba CD rfl T.b_str X9 (Aa (pv 3) Ab))) (Ay UN CN (Ay BY Ae (pv 1))))) (Ag (BG (CS Z3 Z4 Z5 BD (pv 2) (AZ CA (Ay CA (Ay CA CN (pv 4)) CN) (Ba CD rfl T.b_str X9 (Aa (Aj Ax (pv 0) (pv 3) (λ_ _=>rfl)) Ab)) Ab)))))))) (Ac (AQ (AB GJ (pv 1) Ae (AF _)) (Ag (BG (CS Z3 Z4 Z5 BD (pv 2) (Mz Ab)))) AD) (Ag (Aw (CS K1 A0f A0g LN CN (Aa (pv 2) Ab))))))),?_⟩
  try dsimp only[cxK]
  refine⟨(by show 0<=sizeLine;decide),λS hS=>?_⟩;have s1:=AN (o:=.lst []) hS;have h1:upd H S (.lst []) S=some (.lst []):=Af;generalize upd H S (.lst [])=H1 at s1 h1⊢;refine⟨1,8,rfl,⟨by decide,by decide,by decide,by decide⟩,?_⟩;refine Dl (n:=7) (λi σ H3=>∃u3 u4:Option V,σ=[some (.ref L),some (.int (w:Int)),some (.ref S),u3,u4]/\Az H H3/\H3 S=some (.lst ((List.range i).map λj=>V.str (AV (glC M w (j+1)))))) ⟨none,none,rfl,s1,h1⟩ ?_ ?_
  ·rintro i σ H3 hi ⟨u3,u4,rfl,sm,h3⟩;refine⟨_,rfl,rfl,_,rfl,Gz (λhc=>?_) (λhc=>?_)⟩
   ·have w8:w=8:=by
     have:=X4 hc;injection this with this
     lia
    subst w8;have mi:=m7 (i+1);have l1:(Str.ofString (toString (1+(i:Int)))).length=1:=Rj A0 A0;have l2:(Str.ofString (toString (M (i+1):Int))).length=1:=Rj A0 A0;have lb:(Str.ofString " ").length=1:=by decide
    have ix:atI ((List.range 8).map λi=>V.int (M i:Int)) (1+(i:Int))=some (.int (M (i+1):Int)):=by
     rw[show 1+(i:Int)=((i+1:Nat):Int) by lia];exact Ai (by rw[C0,N8 A0];rfl)
    refine⟨_,rfl,.inl ⟨rfl,_,SqL.of h3⟩,_,rfl,1+(i:Int),rfl,Ef A0 A0,_,_,rfl,rfl,CU (by rw[l1,lb];decide),_,rfl,_,rfl,L,_,_,_,rfl,rfl,SqL.of (sm _ _ hL),ix,(M (i+1):Int),rfl,Ef A0 A0,_,_,rfl,rfl,CU (by rw[K6,l1,l2,lb];decide),S,_,_,rfl,rfl,h3,by rw[B8,L8];exact FJ A0,?_⟩;refine⟨_,_,rfl,λb o e=>?_,?_⟩
    ·rw[As (Av e hS)];exact sm _ _ e
    ·rw[Af,P1,C5];congr 3;have e:=gt_8 (i+1) A0 (M (i+1)) A0;rw[show((i+1:Nat):Int)=1+(i:Int) by lia]at e;have ec:glC M 8 (i+1)=⟨some (1+(i:Int)),[],(M (i+1):Int)⟩:=by
      unfold glC;rw[Y8 rfl,show((i+1:Nat):Int)=1+(i:Int) by lia]
     show [V.str _]=[V.str (AV (glC M 8 (i+1)))]
     rw[ec,Tx.Ec (show 0<=1+(i:Int) by lia) A0,Tx.Ec (show 0<=(M (i+1):Int) by lia) A0];exact X6 (λz=>[V.str z]) e
   ·have ne:w≠8:=λz=>hc (Y7 (by rw[z];rfl));have h8:w<8:=by lia
    have mi:=m7 (i+1);have l1:(Str.ofString (toString (1+(i:Int)))).length=1:=Rj A0 A0;have l2:(Str.ofString (toString (M (i+1):Int))).length=1:=Rj A0 A0;have lb:(Str.ofString " ").length=1:=by decide
    have ls:(Str.ofString "*").length=1:=by decide
    have lsb:(Str.ofString "* ").length=2:=by decide
    have lr:=λk=>RW ls k;have ix:atI ((List.range 8).map λi=>V.int (M i:Int)) (1+(i:Int))=some (.int (M (i+1):Int)):=by
     rw[show 1+(i:Int)=((i+1:Nat):Int) by lia];exact Ai (by rw[C0,N8 A0];rfl)
    refine⟨_,rfl,_,w,rfl,rfl,ls,by lia,_,rfl,1+(i:Int),rfl,Ef A0 A0,_,_,rfl,rfl,CU (by rw[l1,lr];lia),_,rfl,_,_,rfl,rfl,_,7-w,rfl,X6 V.int A0,ls,by lia,_,_,rfl,rfl,CU (by rw[K6,l1,lr,lr];lia),?_⟩;refine⟨_,rfl,.inl ⟨rfl,_,SqL.of h3⟩,_,rfl,_,_,rfl,rfl,CU (by rw[K6,K6,l1,lr,lr,lsb];lia),_,_,rfl,rfl,CU (by rw[K6,K6,K6,l1,lr,lr,lsb,lb];lia),_,rfl,_,rfl,L,_,_,_,rfl,rfl,SqL.of (sm _ _ hL),ix,(M (i+1):Int),rfl,Ef A0 A0,_,_,rfl,rfl,CU (by rw[K6,K6,K6,K6,l1,l2,lr,lr,lsb,lb];lia),S,_,_,rfl,rfl,h3,by rw[B8,L8];exact FJ A0,?_⟩;refine⟨_,_,rfl,λb o e=>?_,?_⟩
    ·rw[As (Av e hS)];exact sm _ _ e
    ·rw[Af,P1,C5];congr 3;have e:=gt_w w h8 (i+1) A0 (M (i+1)) A0;rw[show((i+1:Nat):Int)=1+(i:Int) by lia]at e;have ec:glC M w (i+1)=⟨none,[.pl (plW w (1+(i:Int)))],(M (i+1):Int)⟩:=by
      unfold glC;rw[Y6 ne,show((i+1:Nat):Int)=1+(i:Int) by lia]
     show [V.str _]=[V.str (AV (glC M w (i+1)))]
     rw[ec,Tx.Ec (show 0<=1+(i:Int) by lia) A0,Tx.Ec (show 0<=(M (i+1):Int) by lia) A0];exact X6 (λz=>[V.str z]) e
  ·rintro σ H3 ⟨u3,u4,rfl,sm,h3⟩;have ok:=Zg m7 w8;dsimp only;refine Bw ?_;intro r9 s9 k9 hk9 E9;apply OI (T:=k9) (fun σ H4=>σ=[some (.ref L),some (.int (w:Int)),some (.ref S),u3,u4]/\Az H H4/\H4 S=some (.lst (((glR M w).map AV).map V.str)))
   ·intro rest;refine⟨_,rfl,_,_,rfl,rfl,_,rfl,Gz (λhc=>?_) (λhc=>?_)⟩
    ·have ne:w≠8:=by
      have:=X4 hc;lia
     refine⟨_,rfl,.inl ⟨rfl,_,SqL.of h3⟩,S,_,_,rfl,rfl,h3,by rw[B8,L8];decide,?_⟩;refine rest _ _ ⟨rfl,λb o e=>?_,?_⟩
     ·rw[As (Av e hS)];exact sm _ _ e
     ·rw[Af];unfold glR;rw[Y6 ne,C5,C5,M0,M0,gt_0];rfl
    ·have e8:w=8:=by
      have:¬(w:Int)<8:=λz=>hc (Y7 z);lia
     refine rest _ _ ⟨rfl,sm,?_⟩;rw[h3];unfold glR;rw[Y8 e8,S9,M0,M0];rfl
   ·rintro σ H4 ⟨rfl,s4,h4⟩;refine hk9 ?_;have em:Str.ofString "; " = Ni:=by decide +kernel
    have hjok:JoinOk (Str.ofString "; ") ((glR M w).map AV)=true:=by
     refine Tx.LR 1000 (λt ht=>?_) ?_
     ·obtain⟨c,hc,rfl⟩:=D5.mp ht;exact IA (ok.ok c hc)
     ·rw[B8,em,show Ni.length=2 from rfl];have:=ok.few;lia
    refine⟨rfl,_,rfl,_,S,_,rfl,rfl,SqL.of h4,hjok,?_⟩;rw[em];exact k H4 s4
end
end J
namespace J
open PySem L2
def Dj(m m':MA):Prop:=m.kc≠m'.kc/\∀d∈m.ds,d∉m'.ds
theorem AH.len{G G':Gv}{i n:Nat}(h:AH G G' i)(l:G'.length<=G.length+n):AH G G' n:=⟨h.ok,h.pre,l⟩
section
variable{a:Ad}{H H':Hp}{g:GA}{G G':Gv}{Κ Κ2:KTy}{N b i N2 b2 b3:Nat}{p dx mem pr p2 dx2 mem2 pr2:Addr}{r r2:AA}{m m2:MA}
theorem ZS.oth(h:ZS a H g G Κ N b p dx mem pr r m)(h2:ZS a H g G Κ2 N2 b2 p2 dx2 mem2 pr2 r2 m2)(f:FrZ g m2 H H')(z2:ZS a H' g G' Κ2 N2 b3 p2 dx2 mem2 pr2 r2 m2)(go:AH G G' i)(dj:Dj m m2):ZS a H' g G' Κ N (b+i) p dx mem pr r m:=by
 have jw:=h.jz.jw;have me:=jw.me;obtain⟨kc,c1,c2,_⟩:=me.ce;have kt:∀{x:Addr}{o:HO},H x=some o->(∀xs,o≠.lst xs)->(∀ks,o≠.dK ks)->(∀ks,o≠.dT ks)->H' x=some o:=λ{x o} e k1 k2 k3=>h2.keep f e k1 k2 k3;obtain⟨ts,h3,_⟩:=h.fu.at'.pt;obtain⟨ka,a1,_⟩:=h.fu.am;obtain⟨kb,b1,_⟩:=h.fu.bx;obtain⟨kc2,d1,_⟩:=h2.jz.jw.me.ce;have kds:∀d∈m.ds,∀o,H d=some o->H' d=some o:=λd hd o e=>by
  obtain⟨j,hj⟩:=F9 hd;obtain⟨kv,e2,_⟩:=me.sq j d hj;rw[e2]at e;cases e;refine f d _ e2 (λz=>?_) (dj.2 d hd);simp only[C3,F0,X7]at z;rcases z with z|z|z|z|z|z
  ·rw[z,h.fu.at'.lv]at e2;cases e2
  ·rw[z,h3]at e2;cases e2
  ·rw[z,h.fu.at'.nm]at e2;cases e2
  ·exact h.na (z▸hd)
  ·exact h.nb (z▸hd)
  ·rw[z,d1]at e2;cases e2
 have kkc:∀o,H m.kc=some o->H' m.kc=some o:=λo e=>by
  rw[c1]at e;cases e;refine f _ _ c1 (λz=>?_) (λz=>?_)
  ·simp only[C3,F0,X7]at z;rcases z with z|z|z|z|z|z
   ·rw[z,h.fu.at'.lv]at c1;cases c1
   ·rw[z,h3]at c1;cases c1
   ·exact me.ap.2.2 z
   ·rw[z,a1]at c1;cases c1
   ·rw[z,b1]at c1;cases c1
   ·exact dj.1 z
  ·obtain⟨j,hj⟩:=F9 z;obtain⟨kv,e2,_⟩:=h2.jz.jw.me.sq j _ hj;rw[c1]at e2;cases e2
 have kl:H' m.l=some (.lst (m.ds.map V.ref)):=by
  refine f _ _ me.l (λz=>?_) (λz=>?_)
  ·have e:=me.l;simp only[C3,F0,X7]at z;rcases z with z|z|z|z|z|z
   ·exact me.ap.1 z
   ·exact me.ap.2.1 z
   ·rw[z,h.fu.at'.nm]at e;cases e
   ·rw[z,a1]at e;cases e
   ·rw[z,b1]at e;cases e
   ·rw[z,d1]at e;cases e
  ·obtain⟨j,hj⟩:=F9 z;obtain⟨kv,e2,_⟩:=h2.jz.jw.me.sq j _ hj;have e:=me.l;rw[e2]at e;cases e
 have me':IE H' g G' N (b+i+10*N) r m:=(me.kp jw.ok go λx o e w=>by
  rcases w with rfl|rfl|w|rfl
  ·rw[me.tp]at e;cases e;exact kt me.tp B0 B0 B0
  ·rw[me.l]at e;cases e;exact kl
  ·exact kds x w o e
  ·exact kkc o e).mono (C1 _) A0
 obtain⟨fc,cn⟩:=h.jz.cn;refine⟨⟨⟨z2.fu.at',z2.fu.ok,z2.jz.jw.bs,z2.fu.br,jw.nbr,kt jw.hp B0 B0 B0,jw.ru.kp λx o e nv=>kt e (by intro _ z;rw[z]at nv;cases nv) (by intro _ z;rw[z]at nv;cases nv) (by intro _ z;rw[z]at nv;cases nv),jw.rok,jw.rest,me'⟩,fc,cn.kp jw.ok go kds λkc e=>⟨kc,kkc _ e,by lia⟩⟩,z2.fu,h.na,h.nb⟩
end
theorem Jt.mono{Κ:KTy}{N N':Nat}(h:Jt Κ N)(e:N<=N'):Jt Κ N':=by
 obtain⟨M,h1,h2⟩:=h.ls;exact⟨⟨M,C9 h1 e,h2⟩,h.ext⟩
theorem stC_in{ds:List Cl}{n:Nat}{x y:Int}(h:Dd ds n x y){u v:Int}(z:stC ds u v≠0):x<=u/\u<x+6/\y<=v/\v<y+3:=by
 rcases Lp ds u v with ⟨c,hc,e1,e2,_⟩|⟨_,e⟩
 ·subst e1;subst e2;exact(h.ok c hc).2
 ·exact absurd e z
theorem stC_7{ds:List Cl}{n:Nat}{x y:Int}(h:Dd ds n x y)(u v:Int):stC ds u v<=7:=by
 rcases Lp ds u v with ⟨c,hc,_,_,e⟩|⟨_,e⟩
 ·have:=(h.ok c hc).1.1.s;lia
 ·lia
theorem UU{k k' W D:Nat}(h:k<=k'):nd k W D<=nd k' W D:=by
 unfold nd s47;refine Lm (f:=λe=>((List.range 47).map (md k W D e)).sum) (g:=λe=>((List.range 47).map (md k' W D e)).sum) λe _=>?_;refine Lm (f:=md k W D e) (g:=md k' W D e) λl _=>?_;unfold md;have:=Nat.mul_le_mul_right ((if e=l then 19 else if e<l then 1 else 0)*kw W D l) h;lia
def pc(n:Nat):Nat:=if h:n=0 then 0 else n%2+pc (n/2)
termination_by n
decreasing_by exact Nat.div_lt_self (W6 h) A4
theorem Os(n:Nat):pc n=n%2+pc (n/2):=by
 by_cases h:n=0
 ·subst h;rw[pc];simp
 ·conv=>lhs;rw[pc,dif_neg h]
theorem pc_succ(n:Nat):pc (n+1)<=pc n+1:=by
 induction n using Nat.strongRecOn with
 |ind n ih =>
  rw[Os (n+1),Os n];by_cases z:n%2=0
  ·rw[show(n+1)/2=n/2 by lia];lia
  ·have:=ih (n/2) A0;rw[show(n+1)/2=n/2+1 by lia];lia
theorem pc_add(x:Nat):∀y,pc (x+y)<=pc x+pc y:=by
 induction x using Nat.strongRecOn with
 |ind x ih =>
  intro y;by_cases z:x=0
  ·subst z;rw[M5];lia
  ·have h:=ih (x/2) A0 (y/2);rw[Os (x+y),Os x,Os y];by_cases c:x%2+y%2=2
   ·have:=pc_succ (x/2+y/2);rw[show(x+y)/2=x/2+y/2+1 by lia];lia
   ·rw[show(x+y)/2=x/2+y/2 by lia];lia
theorem Yj(a:Nat):∀b,pc (a*2^b)=pc a
 |0=>by rw[W7,Nat.mul_one]
 |b+1=>by
  rw[Os,F4,<-Nat.mul_assoc,show a*2^b*2%2=0 by lia,show a*2^b*2/2=a*2^b by lia,Yj a b];lia
theorem pc_3{a:Nat}(h:a<=3):pc a<=2:=by
 match a,h with
 |0,_=>decide +kernel
 |1,_=>decide +kernel
 |2,_=>decide +kernel
 |3,_=>decide +kernel
theorem Vl:∀(n k:Nat),((List.range n).filter λj=>k/2^j%2==1).length<=pc k
 |0,k=>L7 _
 |n+1,k=>by
  rw[List.range_succ_eq_map,List.filter_cons,List.filter_map,Os];have:=Vl n (k/2);have e:((λj=>k/2^j%2==1) ∘ Nat.succ)=λj=>k/2/2^j%2==1:=by
   funext j
   show(k/2^(j+1)%2==1)=_;rw[F4,T4,Nat.div_div_eq_div_mul]
  rw[e];rw[W7,Nat.div_one];by_cases z:k%2=1
  ·rw[z];rw[Y8 (by rfl),D4,B8];lia
  ·rw[Y6 (by simp;lia),B8];lia
theorem Lo(t k:Nat):(sts t k).length<=pc k:=by
 unfold sts;rw[B8];exact Vl 40 k
theorem nd8:nd 8 6 3<=420000:=by decide +kernel
theorem nd4:nd 4 6 3<=210000:=by decide +kernel
theorem ng6:ng 1 6 6 3<=210000:=by decide +kernel
structure Bd(r:AA)(u v:Nat):Prop where
 ro:FR r
 re:Ci r 0 BC=0
 le:u+v<2^24
 ex:∀(φ:Int->Int->Nat)(X Y:Int),(∀x y,φ x y<=7)->(∀u v,φ u v≠0->X<=u/\u<X+6/\Y<=v/\v<Y+3)->∃Κ1 Κ2:KTy,(Jt Κ1 420000/\ClK r Κ1/\Rx Κ1 r φ u/\Rx Κ1 r φ (u+v)/\Rx Κ1 r (sFN r u φ) v)/\Jt Κ2 210000/\ClK r Κ2/\Rx Κ2 r φ v/\Rx Κ2 r (sFN r v φ) u
theorem bd_gen{r:AA}(ro:FR r)(re:Ci r 0 BC=0){u v:Nat}(hu:u<=3)(hv:v<=3):Bd r u v:=by
 refine⟨ro,re,by lia,fun φ X Y _ hb=>?_⟩;have ib:InBx [φ] 6 3 [(φ,X,Y)]:=fun ψ hψ s t z=>by
  rw[D7.mp hψ]at z⊢;exact⟨X,Y,by simp,hb s t z⟩
 have fin:Jt (Kg r [φ] 6) 210000:=(kg_fin re ib).mono ng6;have cl:ClK r (Kg r [φ] 6):=kg_cl ro re _ _;have m:φ∈[φ]:=by simp
 exact⟨_,_,⟨fin.mono A4,cl,OL (t:=0) m A0,OL (t:=0) m A0,OL m A0⟩,fin,cl,OL (t:=0) m A0,OL m A0⟩
theorem bd_gl{M:Nat->Nat}(m0:M 0=0)(m7:∀s,M s<=7){w:Nat}(hw:w<=8){a b c d:Nat}(ha:a<=3)(hc:c<=3)(hb:b<=20)(hd:d<=20):Bd (glR M w) (a*2^b) (c*2^d):=by
 have mp:Mp M:=⟨m0,λs _=>m7 s⟩
 have gl:=gl_gl m0 hw;have ro:=Zg m7 hw;have re:=gl_rest m0 hw;have sm:∀{a b:Nat},a<=3->b<=20->a*2^b<=3*2^20:=λ{a b} h1 h2=>Nat.mul_le_mul h1 (M6 A4 h2);have s1:=sm ha hb;have s2:=sm hc hd;have p1:pc (a*2^b)<=2:=by rw[Yj];exact pc_3 ha
 have p2:pc (c*2^d)<=2:=by rw[Yj];exact pc_3 hc
 generalize a*2^b=u at *
 generalize c*2^d=v at *
 have p3:=pc_add u v;refine⟨ro,re,by lia,fun φ X Y h7 hb=>?_⟩;have l1:=Lo 0 u;have l2:=Lo 0 (u+v);have l3:=Lo u v;have l4:=Lo 0 v;have l5:=Lo v u;refine⟨Kd M φ (ofX w) (ofY w) (sts 0 u++(sts 0 (u+v)++sts u v)),Kd M φ (ofX w) (ofY w) (sts 0 v++sts v u),⟨(YV mp h7 hb _).mono (C9 (UU ?_) nd8),kd_cl ro re mp gl h7 _,ON (t:=0) mp gl h7 A0 ?_,ON (t:=0) mp gl h7 A0 ?_,ON mp gl h7 A0 ?_⟩,(YV mp h7 hb _).mono (C9 (UU ?_) nd4),kd_cl ro re mp gl h7 _,ON (t:=0) mp gl h7 A0 ?_,ON mp gl h7 A0 ?_⟩
 ·rw[C4,C4];lia
 ·exact λs hs=>D9.mpr (.inl hs)
 ·exact λs hs=>D9.mpr (.inr (D9.mpr (.inl hs)))
 ·exact λs hs=>D9.mpr (.inr (D9.mpr (.inr hs)))
 ·rw[C4];lia
 ·exact λs hs=>D9.mpr (.inl hs)
 ·exact λs hs=>D9.mpr (.inr hs)
seal L2.PA L2.PE L2.PS L2.PSs L2.PT L2.PW
section
variable{P:Program}{w:World}{K:PySem.W.Frag}{mg:Str->Option Value}{base:Heap}{a:Ad}
theorem ok_law{f:Addr}{fd:FuncData}(F:Fun K "law" "law" WY f fd)(T:Top K mg a)(cW:Rw P w K mg base CX0 2 "Grove" a.c_Grove Iv (Qx a))(aB:Cal P w K mg base CX0 1 "_law_at" EZ (VG K))(b7:Cal P w K mg base CX0 4 "_law_clauses_by" Eb (spCs K))(cG:Cal P w K mg base CX0 2 "_law_text" Jc spTx)(bU:Cal P w K mg base CX0 2 "_law_map_by" Gq (Te K))(b6:Cal P w K mg base CX0 1 "_law_glide_text" Ea WR)(cC:Cal P w K mg base CX0 8 "read_rule" IW (spRR a))(bP:Cal P w K mg base CX0 1 "_law_base" Je Ti)(cH:Cal P w K mg base CX0 2 "_law_heap" Jd (Tf K))(bV:Cal P w K mg base CX0 5 "_law_listed" Gr WP)(cK:Cal P w K mg base CX0 56 "field_of" Lg (WS a))(cQ:Rw P w K mg base CX0 3 "Jumps" a.c_Jumps Ir (Qv a))(bK:Cal P w K mg base CX0 151 "jump" Ts (WQ a)):AJ P w K mg base CX0 152 f fd p_law (UA K):=by
 refine F.ok BR (λvs H Q E h=>?_) (λcdv A outer s H vs Q E hr h=>?_)
 ·obtain⟨l,ns,rfl,_⟩:=h;rfl
 ·obtain⟨l,ns,rfl,hS,hlen,kq⟩:=h;refine⟨_,(Ac (Aq (i:=1) BR.nd rfl (Or.inl rfl) (CQ Ct (Ay Bb (Ar aB (rm hr) rfl An (Aa (pv 0) (AK Ab))) Ae) Ae (AF _))) (Ac (Aq (i:=2) BR.nd rfl (Or.inl rfl) (Ay AL Ae (Ay Es Ae (Ba Ws rfl T.b_int K5 (Aa (CQ Ct (Ay Bb (Ay CT (Ar aB (rm hr) rfl An (Aa (pv 0) (AK Ab))) Ae) Ae) Ae (AF _)) Ab))))) (Ac (Aq (i:=3) BR.nd rfl (Or.inl rfl) (Ar cG (rm hr) rfl An (Aa (Ar b7 (rm hr) rfl An (Aa (pv 0) (AK (AZ Bb (Ar aB (rm hr) rfl An (Aa (pv 0) (AK Ab))) Ae Ab)))) Ab))) (Ac (Aq (i:=4) BR.nd rfl (Or.inl rfl) (Ay Bb (Ar aB (rm hr) rfl An (Aa (pv 0) (AK Ab))) Ae)) (Ac (Aq (i:=5) BR.nd rfl (Or.inl rfl) (Ay Bb (Ar aB (rm hr) rfl An (Aa (pv 0) (AK Ab))) Ae)) (Ac (AQ (Da (pv 1)) (Ac (Aq (i:=3) BR.nd rfl (Or.inl rfl) (Ar b6 (rm hr) rfl An (Aa (Ar bU (rm hr) rfl An (Aa (pv 0) (AK Ab))) (AZ Bb (Ar aB (rm hr) rfl An (Aa (pv 0) (AK Ab))) Ae Ab)))) (Ac (Aq (i:=4) BR.nd rfl (Or.inl rfl) (Ay Li (pv 4) (Ay Bb (Ay CT (Ar aB (rm hr) rfl An (Aa (pv 0) (AK Ab))) Ae) (pv 2)))) (Ag (Aq (i:=5) BR.nd rfl (Or.inl rfl) (Ay Li (pv 5) (Ay Bb (Ay CT (Ar aB (rm hr) rfl An (Aa (pv 0) (AK Ab))) Ae) (pv 2))))))) AD) (Ac (Aq (i:=6) BR.nd rfl (Or.inl rfl) (Ar bP (rm hr) rfl An (Aa (Ar aB (rm hr) rfl An (Aa (pv 0) (AK Ab))) Ab))) (Ac (Aq (i:=7) BR.nd rfl (Or.inl rfl) (Ay AL (Ay AL Ae (Ay Bb (Ar aB (rm hr) rfl An (Aa (pv 0) (AK Ab))) Ae)) (AR (Wr rfl) rfl T.b_max A3d (AK (Aa (AR (MS rfl) rfl T.b_min A0e (AK (AZ BY (AR Cf rfl T.b_len K4 (Aa (pv 0) Ab)) Ae Ab))) Ab))))) (Ac (AQ (AB Sf (pv 2) Ae (AF _)) (Ag (Aq (i:=7) BR.nd rfl (Or.inl rfl) (AR (MS rfl) rfl T.b_min A0e (Aa (pv 7) (AK Ab))))) AD) (Ac (Aq (i:=8) BR.nd rfl (Or.inl rfl) (Ar cH (rm hr) rfl An (Aa (pv 0) (AK (Aa (pv 7) (Aa (pv 6) (Aa (Ar bP (rm hr) rfl An (Aa (Ar aB (rm hr) rfl An (Aa (pv 0) (AK Ab))) Ab)) Ab))))))) (Ac (Aq (i:=9) BR.nd rfl (Or.inl rfl) (Yi cW (rm hr) rfl An)) (Ac (Aq (i:=10) BR.nd rfl (Or.inl rfl) (Ar cC (rm hr) rfl An (Aa (pv 3) Ab))) (Ac (Aq (i:=11) BR.nd rfl (Or.inl rfl) (Jx cQ (rm hr) rfl An (Aa (pv 9) (Aa (pv 10) Ab)))) (Ac (Aq (i:=12) BR.nd rfl (Or.inl rfl) (Jx cQ (rm hr) rfl An (Aa (AC (pv 11) rfl) (Aa (pv 10) Ab)))) (Ac (Aq (i:=13) BR.nd rfl (Or.inl rfl) (Ar cK (rm hr) rfl An (Aa (pv 9) (Aa (Ar bV (rm hr) rfl An (Aa (pv 8) Ab)) Ab)))) (Ac (AQ (AB Ct (Ay Bb (Ay CT (Ar aB (rm hr) rfl An (Aa (pv 0) (AK Ab))) Ae) Ae) Ae (AF _)) (Ac (Aq (i:=14) BR.nd rfl (Or.inl rfl) (Ar bK (rm hr) rfl An (Aa (pv 11) (Aa (pv 13) (AZ AL (pv 4) (pv 5) Ab))))) (Ag (Aq (i:=15) BR.nd rfl (Or.inl rfl) (Ar bK (rm hr) rfl An (Aa (pv 11) (Aa (Ar bK (rm hr) rfl An (Aa (pv 11) (Aa (pv 13) (Aa (pv 4) Ab)))) (Aa (pv 5) Ab))))))) (Ac (Aq (i:=15) BR.nd rfl (Or.inl rfl) (Ar bK (rm hr) rfl An (Aa (pv 11) (Aa (Ar bK (rm hr) rfl An (Aa (pv 11) (Aa (pv 13) (Aa (pv 4) Ab)))) (Aa (pv 5) Ab))))) (Ag (Aq (i:=14) BR.nd rfl (Or.inl rfl) (Ar bK (rm hr) rfl An (Aa (pv 11) (Aa (pv 13) (AZ AL (pv 4) (pv 5) Ab)))))))) (Ac (Aq (i:=16) BR.nd rfl (Or.inl rfl) (Ar bK (rm hr) rfl An (Aa (pv 12) (Aa (Ar bK (rm hr) rfl An (Aa (pv 12) (Aa (pv 13) (Aa (pv 5) Ab)))) (Aa (pv 4) Ab))))) (Ac (AQ (PW.pt (On (DX (Da (AR FN rfl T.b_isinstance X8 (Aa (pv 14) (Aa (Ih (v:=.ty "int") rfl T.b_int K5 rfl) Ab))))) (On (Da (AR FN rfl T.b_isinstance X8 (Aa (pv 14) (Aa (Ih (v:=.ty "bool") rfl T.b_bool PyProof.Rows.boot_bool rfl) Ab)))) (Mt (DX (Da (AR FN rfl T.b_isinstance X8 (Aa (pv 15) (Aa (Ih (v:=.ty "int") rfl T.b_int K5 rfl) Ab))))))))) (Ag (Aw Se)) AD) (Ag (Aw (Ii (CQ Ct (pv 14) (pv 15) (AF _)) (Ii (CQ Ct (pv 14) (pv 16) (AF _)) (Lf (CQ Ct (Ar bK (rm hr) rfl An (Aa (pv 11) (Aa (pv 13) (AZ AL (pv 4) (pv 5) Ab)))) (pv 14) (AF _))))))))))))))))))))))))),?_⟩
  try dsimp only[cxK]
  refine Bw ?_;intro r1 s1 k1 hk1 E1;refine⟨_,rfl,l,ns,8,rfl,hS,by decide,_,_,rfl,rfl,B7,rfl,?_⟩;refine hk1 ?_;refine Bw ?_;intro r2 s2 k2 hk2 E2;refine⟨_,rfl,l,ns,8,rfl,hS,by decide,_,_,rfl,rfl,⟨by decide,by decide⟩,_,_,rfl,rfl,(by show(0:Int)<5;decide),rfl,.inr ⟨_,rfl,_,_,rfl,rfl,.inl ⟨by decide,by decide⟩,_,_,rfl,rfl,?_⟩⟩;obtain⟨mo,hmo,mo1⟩:∃mo:Nat,(9:Int)+12*(if decide (V.int (atN ns 8/2%5)=V.int 1)=true then 1 else 0)=(mo:Int)/\(mo=9\/mo=21):=by
   by_cases z:decide (V.int (atN ns 8/2%5)=V.int 1)=true
   ·exact⟨21,by rw[Y8 z];rfl,.inr rfl⟩
   ·exact⟨9,by rw[Y6 z];rfl,.inl rfl⟩
  rw[show(λi j:Int=>V.int (i+j)) 9 (12*(if decide (V.int (atN ns 8/2%5)=V.int 1)=true then 1 else 0))=V.int (mo:Int)from X6 V.int hmo];clear hmo;refine hk2 ?_;refine Bw ?_;intro r3 s3 k3 hk3 E3;refine⟨_,rfl,_,rfl,l,ns,9,rfl,hS,by decide,_,_,rfl,rfl,(by show(0:Int)<7;decide),l,ns,0,atN ns 9%7,rfl,hS,by decide,by lia,by lia,λqc r H1 s1' hr1 rok bz rl1 rl2=>?_⟩;refine⟨qc,r,rfl,hr1,rok,λH2 s2'=>?_⟩;refine hk3 ?_;have sH2:=s1'.trans s2';have hS2:=sH2.seq hS;clear s1' s2' hr1;refine Bw ?_;intro r4 s4 k4 hk4 E4;obtain⟨u,hu⟩:=F3 (P3 (atN ns 10) (by decide:(4:Int)≠0));have u4:u<=3:=by have:=N5 (atN ns 10) (by decide:(0:Int)<4);lia
  refine⟨_,rfl,l,ns,10,rfl,hS2,by decide,_,_,rfl,rfl,B4,?_⟩;rw[show(λi j:Int=>V.int (i%j)) (atN ns 10) 4=V.int (u:Int)from X6 V.int hu];refine hk4 ?_;refine Bw ?_;intro r5 s5 k5 hk5 E5;obtain⟨v,hv⟩:=F3 (P3 (atN ns 11) (by decide:(4:Int)≠0));have v4:v<=3:=by have:=N5 (atN ns 11) (by decide:(0:Int)<4);lia
  refine⟨_,rfl,l,ns,11,rfl,hS2,by decide,_,_,rfl,rfl,B4,?_⟩;rw[show(λi j:Int=>V.int (i%j)) (atN ns 11) 4=V.int (v:Int)from X6 V.int hv];clear hu hv;refine hk5 ?_;refine Bw ?_;intro r6 s6 k6 hk6 E6;apply OI (T:=k6) (fun σ' H5=>∃(far:Bool)(r':AA)(u' v':Nat),σ'=[some (.ref l),some (.bl far),some (.int (mo:Int)),some (.str (CP r')),some (.int (u':Int)),some (.int (v':Int)),none,none,none,none,none,none,none,none,none,none,none]/\Az H H5/\Bd r' u' v')
  ·intro rest;refine⟨_,rfl,_,rfl,Gz (λ_=>?_) (λ_=>rest _ _ ⟨_,r,u,v,rfl,sH2,bd_gen rok bz u4 v4⟩)⟩
   ·refine Bw ?_;intro r16 s16 k16 hk16 E16;obtain⟨ww,hww⟩:=F3 (P3 (atN ns 9) (by decide:(9:Int)≠0));have w9:ww<=8:=by have:=N5 (atN ns 9) (by decide:(0:Int)<9);lia
    refine⟨_,rfl,l,ns,0,rfl,hS2,by decide,λL M H3 s3' m0 m7 hL=>?_⟩;refine⟨_,rfl,l,ns,9,rfl,s3'.seq hS2,by decide,_,_,rfl,rfl,(by show(0:Int)<9;decide),L,M,ww,by rw[<-hww];rfl,w9,m7,hL,λH4 s4'=>?_⟩;have sH4:=(sH2.trans s3').trans s4';have hS4:=sH4.seq hS;refine hk16 ?_;have mo0:(0:Int)<(mo:Int):=by lia
    have pw:∀a b:Nat,(a:Int)*2^(b:Int).toNat=((a*2^b:Nat):Int):=λa b=>by
     rw[J8,N9,J7];rfl
    refine Bw ?_;intro r17 s17 k17 hk17 E17;obtain⟨b1,hb1⟩:=F3 (P3 (atN ns 10/4) (Int.ne_of_gt mo0));have b20:b1<=20:=by have:=N5 (atN ns 10/4) mo0;lia
    refine⟨_,rfl,_,rfl,l,ns,10,rfl,hS4,by decide,_,_,rfl,rfl,⟨by decide,by decide⟩,_,rfl,_,_,rfl,rfl,mo0,(u:Int),(b1:Int),rfl,X6 V.int hb1,⟨by lia,by lia,by lia⟩,?_⟩;rw[show(λi j:Int=>V.int (i*2^j.toNat)) (u:Int) (b1:Int)=V.int ((u*2^b1:Nat):Int)from X6 V.int (pw u b1)];refine hk17 ?_;obtain⟨b2,hb2⟩:=F3 (P3 (atN ns 11/4) (Int.ne_of_gt mo0));have b220:b2<=20:=by have:=N5 (atN ns 11/4) mo0;lia
    refine⟨_,rfl,_,rfl,l,ns,11,rfl,hS4,by decide,_,_,rfl,rfl,⟨by decide,by decide⟩,_,rfl,_,_,rfl,rfl,mo0,(v:Int),(b2:Int),rfl,X6 V.int hb2,⟨by lia,by lia,by lia⟩,?_⟩;rw[show(λi j:Int=>V.int (i*2^j.toNat)) (v:Int) (b2:Int)=V.int ((v*2^b2:Nat):Int)from X6 V.int (pw v b2)];exact rest _ _ ⟨_,glR M ww,u*2^b1,v*2^b2,rfl,sH4,bd_gl m0 m7 w9 u4 v4 b20 b220⟩
  ·rintro σ' H5 ⟨far,r',u',v',rfl,s5',bd⟩;refine hk6 ?_;have hS5:=s5'.seq hS;refine Bw ?_;intro r7 s7 k7 hk7 E7;refine⟨_,rfl,l,ns,12,rfl,hS5,by decide,_,rfl,λlx x1 x2=>?_⟩;refine hk7 ?_;refine Bw ?_;intro r8 s8 k8 hk8 E8;obtain⟨my,hmy,my15⟩:∃my:Nat,(1:Int)+atN ns 14%3+(if(if((ns.map V.int).length:Int)-15<10 then((ns.map V.int).length:Int)-15 else 10) > 0 then(if((ns.map V.int).length:Int)-15<10 then((ns.map V.int).length:Int)-15 else 10)else 0)=(my:Int)/\my<=13:=by
    have:=P3 (atN ns 14) (by decide:(3:Int)≠0);have:=N5 (atN ns 14) (by decide:(0:Int)<3);generalize ((ns.map V.int).length:Int)-15=q;by_cases z:q<10
    ·rw[Y8 z];by_cases y:q > 0
     ·rw[Y8 y];exact⟨(1+atN ns 14%3+q).toNat,by lia,by lia⟩
     ·rw[Y6 y];exact⟨(1+atN ns 14%3).toNat,by lia,by lia⟩
    ·rw[Y6 z,Y8 A4];exact⟨(1+atN ns 14%3+10).toNat,by lia,by lia⟩
   refine⟨_,rfl,l,ns,14,rfl,hS5,by decide,_,_,rfl,rfl,B1,_,_,rfl,rfl,_,rfl,l,_,rfl,.inl hS5,_,_,rfl,rfl,_,_,rfl,_,_,rfl,_,_,rfl,rfl,?_⟩;rw[show(λi j:Int=>V.int (i+j)) (1+atN ns 14%3) (if(if((ns.map V.int).length:Int)-15<10 then((ns.map V.int).length:Int)-15 else 10) > 0 then(if((ns.map V.int).length:Int)-15<10 then((ns.map V.int).length:Int)-15 else 10)else 0)=V.int (my:Int)from X6 V.int hmy];refine hk8 ?_;refine Bw ?_;intro r9 s9 k9 hk9 E9;apply OI (T:=k9) (fun σ' H6=>∃mz:Nat,σ'=[some (.ref l),some (.bl far),some (.int (mo:Int)),some (.str (CP r')),some (.int (u':Int)),some (.int (v':Int)),some (.int lx),some (.int (mz:Int)),none,none,none,none,none,none,none,none,none]/\H6=H5/\mz<=13)
   ·intro rest;refine⟨_,rfl,_,_,rfl,rfl,_,rfl,Gz (λ_=>?_) (λ_=>?_)⟩
    ·refine⟨_,rfl,_,_,rfl,?_⟩;by_cases z:(3:Int)<(my:Int)
     ·rw[Y8 z];exact rest _ _ ⟨3,rfl,rfl,by decide⟩
     ·rw[Y6 z];exact rest _ _ ⟨my,rfl,rfl,my15⟩
    ·exact rest _ _ ⟨my,rfl,rfl,my15⟩
   ·rintro σ' H6 ⟨mz,rfl,rfl,mz13⟩;refine hk9 ?_;refine Bw ?_;intro r10 s10 k10 hk10 E10;refine⟨_,rfl,_,rfl,_,rfl,_,rfl,l,ns,13,rfl,hS5,by decide,_,rfl,λly y1 y2=>?_⟩;refine⟨l,ns,15,lx,ly,mz,rfl,hS5,by decide,by lia,by lia,by lia,by lia,by lia,λD ds Hd sd nD hD dd=>?_⟩;refine hk10 ?_;refine Bw ?_;intro r11 s11 k11 hk11 E11;refine λx dx' nx ndx nex=>⟨x,dx',rfl,Af,λg H6 gp' N=>⟨rfl,?_⟩⟩
    have s6':Az Hd H6:=λb o e=>N.kp b o (by rw[As (Av e nx),As (Av e ndx)];exact e) (gp'▸Av e nx);subst gp';have fu6:=Bp.new N;have ng:=N.none;clear N;have sHd:=s5'.trans sd;have nDH:H D=none:=Az.noneN s5' nD;refine hk11 ?_;refine Bw ?_;intro r12 s12 k12 hk12 E12;refine⟨_,rfl,r',rfl,bd.ro,bd.re,λpr H7 s7' hR=>?_⟩;refine hk12 ?_;generalize hφ:stC ds=φ;have inb:∀u v,φ u v≠0->lx<=u/\u<lx+6/\ly<=v/\v<ly+3:=λu v z=>stC_in dd (by rw[hφ];exact z);have h7:∀x y,φ x y<=7:=λx y=>by rw[<-hφ];exact stC_7 dd x y
    obtain⟨Κ1,Κ2,⟨fin1,cl1,as1,as2,as3⟩,fin2,cl2,as4,as5⟩:=bd.ex φ lx ly h7 inb;refine Bw ?_;intro r13 s13 k13 hk13 E13;refine⟨_,rfl,_,rfl,λp dxp np ndp nep=>jnew (Κ:=Κ1) (N:=420000) (b:=1000) (fu6.same s7') bd.ro bd.re hR np ndp nep (by rw[OQ];decide) λH8 mem m s8' zs8 fr8 _ _ _=>⟨rfl,?_⟩⟩;refine hk13 ?_;refine Bw ?_;intro r14 s14 k14 hk14 E14;refine xwf rfl rfl zs8.jz.jw.hp T.cl_Jumps T.na_Jumps_grove (DF _ _ _ _ _) ?_;refine⟨_,rfl,λp2 dxp2 np2 ndp2 nep2=>jnew (Κ:=Κ2) (N:=210000) (b:=1000) zs8.fu bd.ro bd.re (hR.same s8') np2 ndp2 nep2 (by rw[OQ];decide) λH9 mem2 m2 s9' zs9 fr9 _ _ _=>⟨rfl,?_⟩⟩;have z1:=zs8.same s9';have dj:Dj m m2:=by
     obtain⟨kc,c1,_⟩:=zs8.jz.jw.me.ce;refine⟨λz=>?_,λd hd hd2=>?_⟩
     ·have:=fr9 m2.kc A6;rw[<-z,c1]at this;cases this
     ·obtain⟨j,hj⟩:=F9 hd;obtain⟨kv,e2,_⟩:=zs8.jz.jw.me.sq j d hj;have:=fr9 d (by simp[hd2]);rw[e2]at this;cases this
    have dj2:Dj m2 m:=⟨Z1 dj.1,λd hd hd2=>dj.2 d hd2 hd⟩
    have sd9:Az Hd H9:=((s6'.trans s7').trans s8').trans s9';have n1:∀y∈[g.br,m.l]++zL g m,Hd y=none:=λy hy=>by
     simp only[zL,List.cons_append,List.nil_append,C3]at hy;rcases hy with rfl|rfl|rfl|rfl|rfl|rfl|rfl|rfl|hy
     ·exact ng _ (by simp[FL])
     ·exact Az.noneN (s6'.trans s7') (fr8 _ A6)
     ·exact ng _ (by simp[FL])
     ·exact ng _ (by simp[FL])
     ·exact ng _ (by simp[FL])
     ·exact ng _ (by simp[FL])
     ·exact ng _ (by simp[FL])
     ·exact Az.noneN (s6'.trans s7') (fr8 _ A6)
     ·exact Az.noneN (s6'.trans s7') (fr8 _ (by simp[hy]))
    have n2:∀y∈[g.br,m2.l]++zL g m2,Hd y=none:=λy hy=>by
     simp only[zL,List.cons_append,List.nil_append,C3]at hy;rcases hy with rfl|rfl|rfl|rfl|rfl|rfl|rfl|rfl|hy
     ·exact ng _ (by simp[FL])
     ·exact Az.noneN ((s6'.trans s7').trans s8') (fr9 _ A6)
     ·exact ng _ (by simp[FL])
     ·exact ng _ (by simp[FL])
     ·exact ng _ (by simp[FL])
     ·exact ng _ (by simp[FL])
     ·exact ng _ (by simp[FL])
     ·exact Az.noneN ((s6'.trans s7').trans s8') (fr9 _ A6)
     ·exact Az.noneN ((s6'.trans s7').trans s8') (fr9 _ (by simp[hy]))
    have hD9:=sd9 _ _ hD;clear zs8 fr8 fr9 s8' s9' s7' s6' fu6 ng hR;refine hk14 ?_;refine Bw ?_;intro r15 s15 k15 hk15 E15;refine⟨_,rfl,_,rfl,D,ds,rfl,.inl hD9,dd.nd,by have:=dd.len;lia,λo1 L1 ts1 cs1 H10 fo _ nL1 hL1 pr1 pm1=>?_⟩;have fx:=fo.fx (.inl hD9);have nfx:∀{x:Addr},Hd x=none->x∉[D]:=λ{x} n z=>by
     rw[D7.mp z,hD]at n;cases n
    have z10:=z1.fx fx λx hx=>nfx (n1 x hx);have y10:=zs9.fx fx λx hx=>nfx (n2 x hx);have s10':Az H H10:=Az.fxn (sHd.trans sd9) fx λy hy=>by rw[D7.mp hy];exact nDH
    refine fld_fv z10.fu hL1 (Ap.new z1.fu.at' nL1) pr1 pm1 dd.dk (λc hc=>(dd.ok c hc).1.1) (by have:=dd.len;lia) (by rw[OQ];decide) λf1 G1 H11 fr11 fu11 go11 fv=>?_;have z11:=z10.fr fr11 fu11 go11;have y11:=y10.fr fr11 fu11 go11;have n1H:∀y∈zL g m,H y=none:=λy hy=>Az.noneN sHd (n1 y (D9.mpr (.inr hy)));have n2H:∀y∈zL g m2,H y=none:=λy hy=>Az.noneN sHd (n2 y (D9.mpr (.inr hy)));have s11':Az H H11:=Az.fxn s10' (FrZ.fx z10 (Fr.z fr11)) n1H;rw[hφ]at fv;clear fx nfx z10 y10 fo hL1 pr1 pm1 nL1 fr11 go11 fu11 z1 zs9 s10' sd9 hD9 n1 n2;refine hk15 ?_;have lb:=bd.le;have nr0:MX φ (u'+v'):=λx y z=>by have:=inb x y z;lia
    have nru:MX φ u':=λx y z=>by have:=inb x y z;lia
    have nrv:MX φ v':=λx y z=>by have:=inb x y z;lia
    have nru2:MX (sFN r' v' φ) u':=US bd.re nr0;have nrv2:MX (sFN r' u' φ) v':=US bd.re (by rw[T7];exact nr0);have hSn:=s11'.seq hS;refine Bw ?_;intro r18 s18 k18 hk18 E18;have eq:sFN r' (u'+v') φ=sFN r' v' (sFN r' u' φ):=by rw[T7];exact FY r' φ u' v'
    have eq2:sFN r' (u'+v') φ=sFN r' u' (sFN r' v' φ):=FY r' φ v' u';apply OI (T:=k18) (fun σ' H20=>∃(d:Nat)(G2:Gv)(i:Nat),σ'=[some (.ref l),some (.bl far),some (.int (mo:Int)),some (.str (CP r')),some (.int (u':Int)),some (.int (v':Int)),some (.int lx),some (.int (mz:Int)),some (.ref D),some (.ref g.p),some (.ref pr),some (.ref p),some (.ref p2),some (.int (f1:Int)),some (.int (d:Int)),some (.int (d:Int)),none]/\FrZ g m H11 H20/\ZS a H20 g G2 Κ1 420000 60000 p dxp mem pr r' m/\AH G1 G2 i/\Fv G2 d (sFN r' (u'+v') φ))
    ·intro rest;refine⟨_,rfl,l,ns,14,rfl,hSn,by decide,_,_,rfl,rfl,⟨by decide,by decide⟩,_,_,rfl,rfl,B7,rfl,_,rfl,Gz (λ_=>?_) (λ_=>?_)⟩
     ·refine Bw ?_;intro r19 s19 k19 hk19 E19;refine⟨_,rfl,_,rfl,_,rfl,_,rfl,_,_,rfl,rfl,p,dxp,mem,pr,g,G1,Κ1,φ,420000,_,r',m,f1,u'+v',rfl,z11,fin1,cl1,as2,fv,nr0,by decide,λd1 G2 H12 i2 fz2 z12 go2 fd1=>?_⟩;have fv2:=fv.app z11.fu.ok go2;refine hk19 ?_;refine⟨_,rfl,_,rfl,_,rfl,_,rfl,p,dxp,mem,pr,g,G2,Κ1,φ,420000,_,r',m,f1,u',rfl,z12,fin1,cl1,as1,fv2,nru,by decide,λd2 G3 H13 i3 fz3 z13 go3 fd2=>?_⟩;refine⟨_,rfl,p,dxp,mem,pr,g,G3,Κ1,sFN r' u' φ,420000,_,r',m,d2,v',rfl,z13,fin1,cl1,as3,fd2,nrv2,by decide,λd3 G4 H14 i4 fz4 z14 go4 fd3=>?_⟩;have fd1:=(fd1.app z12.fu.ok go3).app z13.fu.ok go4;obtain⟨rg,eg⟩:=z14.fu.g0;have e:d1=d3:=Fv.eq eg z14.fu.ok fd1 fd3 λx y=>by rw[eq]
      subst e;exact rest _ _ ⟨d1,G4,_,rfl,(fz2.trans fz3).trans fz4,z14.mono A4,(go2.trans go3).trans go4,fd1⟩
     ·refine Bw ?_;intro r19 s19 k19 hk19 E19;refine⟨_,rfl,_,rfl,_,rfl,_,rfl,p,dxp,mem,pr,g,G1,Κ1,φ,420000,_,r',m,f1,u',rfl,z11,fin1,cl1,as1,fv,nru,by decide,λd2 G3 H13 i3 fz3 z13 go3 fd2=>?_⟩;have fv2:=fv.app z11.fu.ok go3;refine⟨_,rfl,p,dxp,mem,pr,g,G3,Κ1,sFN r' u' φ,420000,_,r',m,d2,v',rfl,z13,fin1,cl1,as3,fd2,nrv2,by decide,λd3 G4 H14 i4 fz4 z14 go4 fd3=>?_⟩;have fv3:=fv2.app z13.fu.ok go4;refine hk19 ?_;refine⟨_,rfl,_,rfl,_,rfl,_,rfl,_,_,rfl,rfl,p,dxp,mem,pr,g,G4,Κ1,φ,420000,_,r',m,f1,u'+v',rfl,z14,fin1,cl1,as2,fv3,nr0,by decide,λd1 G5 H15 i5 fz5 z15 go5 fd1=>?_⟩;have fd3:=fd3.app z14.fu.ok go5;obtain⟨rg,eg⟩:=z15.fu.g0;have e:d1=d3:=Fv.eq eg z15.fu.ok fd1 fd3 λx y=>by rw[eq]
      subst e;exact rest _ _ ⟨d1,G5,_,rfl,(fz3.trans fz4).trans fz5,z15.mono A4,(go3.trans go4).trans go5,fd1⟩
    ·rintro σ' H20 ⟨d,G2,i2,rfl,fzA,z20,goA,fdA⟩;have szA:=z20.jz.sz fin1;have pre:=goA.pre;have leA:G1.length<=G2.length:=by
      obtain⟨q,e⟩:=pre;rw[e,C4];exact S4 _ _
     have y20:=y11.oth z11 fzA z20 (goA.len (n:=G2.length-G1.length) A0) dj2;have fv20:=fv.app z11.fu.ok goA;refine hk18 ?_;refine Bw ?_;intro r20 s20 k20 hk20 E20;refine⟨_,rfl,_,rfl,_,rfl,_,rfl,p2,dxp2,mem2,pr,g,G2,Κ2,φ,210000,_,r',m2,f1,v',rfl,y20,fin2,cl2,as4,fv20,nrv,by omega,λd4 G3 H21 i3 fz3 y21 go3 fd4=>?_⟩;refine⟨_,rfl,p2,dxp2,mem2,pr,g,G3,Κ2,sFN r' v' φ,210000,_,r',m2,d4,u',rfl,y21,fin2,cl2,as5,fd4,nru2,by omega,λd5 G4 H22 i4 fz4 y22 go4 fd5=>?_⟩;have szB:=y22.jz.sz fin2;have goB:=go3.trans go4;have z22:=z20.oth y20 (fz3.trans fz4) y22 (goB.len (n:=2200000) A0) dj;have fdA2:=fdA.app z20.fu.ok goB;have fv22:=fv20.app z20.fu.ok goB;obtain⟨rg,eg⟩:=z22.fu.g0;have e:d5=d:=Fv.eq eg z22.fu.ok fd5 fdA2 λx y=>by rw[eq2]
     subst e;refine hk20 ?_;refine Bw ?_;intro r21 s21 k21 hk21 E21;refine⟨_,rfl,_,_,_,.type "int",true,rfl,rfl,.of (.int (d5:Int)),(TQ K).1,true,rfl,?_⟩;refine Bo ⟨_,rfl,_,_,_,.type "int",false,rfl,rfl,.of (.int (d5:Int)),(TQ K).2,false,rfl,?_⟩;refine Bo ⟨_,rfl,_,_,_,.type "int",true,rfl,rfl,.of (.int (d5:Int)),(TQ K).1,true,rfl,?_⟩;refine Bo (hk21 ?_);refine⟨_,rfl,_,rfl,rfl,_,rfl,?_⟩;rw[Y7 rfl];refine Cp ⟨_,rfl,_,rfl,rfl,_,rfl,?_⟩;rw[Y7 rfl];refine Cp ⟨_,rfl,_,rfl,_,rfl,_,rfl,_,_,rfl,rfl,p,dxp,mem,pr,g,G4,Κ1,φ,420000,_,r',m,f1,u'+v',rfl,z22,fin1,cl1,as2,fv22,nr0,by decide,λd6 G5 H23 i5 fz5 z23 go5 fd6=>?_⟩;obtain⟨rg',eg'⟩:=z23.fu.g0;have e:d6=d5:=Fv.eq eg' z23.fu.ok fd6 (fdA2.app z22.fu.ok go5) λx y=>rfl;subst e;refine⟨_,rfl,rfl,?_⟩;show Q (V.bl (decide (V.int (d6:Int)=V.int (d6:Int)))) H23;rw[Y7 rfl];exact kq H23
end
end J
namespace J
open PySem L2
theorem ar1{α:Type}:∀us:List α,us.length=1->∃a0,us=[a0]
 |[a0],_=>⟨a0,rfl⟩
theorem ar2{α:Type}:∀us:List α,us.length=2->∃a0 a1,us=[a0,a1]
 |[a0,a1],_=>⟨a0,a1,rfl⟩
theorem ar3{α:Type}:∀us:List α,us.length=3->∃a0 a1 a2,us=[a0,a1,a2]
 |[a0,a1,a2],_=>⟨a0,a1,a2,rfl⟩
theorem ar4{α:Type}:∀us:List α,us.length=4->∃a0 a1 a2 a3,us=[a0,a1,a2,a3]
 |[a0,a1,a2,a3],_=>⟨a0,a1,a2,a3,rfl⟩
theorem ar5{α:Type}:∀us:List α,us.length=5->∃a0 a1 a2 a3 a4,us=[a0,a1,a2,a3,a4]
 |[a0,a1,a2,a3,a4],_=>⟨a0,a1,a2,a3,a4,rfl⟩
structure Fg(K:PySem.W.Frag)(x:Str)(st:Stmt)(f:Addr)(fd:FuncData):Prop where
 at_:PySem.W.nsIn K mainGlobals x=some (some (.ref f))
 fn:Fun K x x st f fd
structure Fm(K:PySem.W.Frag)(C:Addr)(m q:Str)(st:Stmt)(f:Addr)(fd:FuncData):Prop where
 me:Pt K C m f
 fn:Fun K m q st f fd
structure Fi(K:PySem.W.Frag)(C:Addr)(q:Str)(st:Stmt)(f:Addr)(fd:FuncData):Prop where
 mk_:Mk K C f
 fn:Fun K "__init__" q st f fd
theorem bnd{K:PySem.W.Frag}{x q:Str}{st:Stmt}{f:Addr}{fd:FuncData}{ps:List Str}(F:Fun K x q st f fd)(h:∀(kV doc pm:Value)(an:Option Addr)(cdv ct:Value)(us:List Value),us.length=ps.length->bindArgs (PySem.W.fnOf x q (LY st) (JC st) (Ah st) .none kV doc pm an cdv ct) ⟨us,[]⟩=pure (ps.zip us):=by intro _ _ _ _ _ _ us hl;first|(obtain⟨x0,rfl⟩:=ar1 us hl;exact rfl)|(obtain⟨x0,x1,rfl⟩:=ar2 us hl;exact rfl)|(obtain⟨x0,x1,x2,rfl⟩:=ar3 us hl;exact rfl)|(obtain⟨x0,x1,x2,x3,rfl⟩:=ar4 us hl;exact rfl)|(obtain⟨x0,x1,x2,x3,x4,rfl⟩:=ar5 us hl;exact rfl)):CV K fd ps []:=F.binds h
theorem fin{l:PySem.W.OpenLaw}{w:World}{K:PySem.W.Frag}{h:Heap}{mg:Str->Option Value}{fa:Addr}(X:K.In h)(G:h.Ns mainGlobals mg)(hfa:mg "law" = some (.ref fa))
  {c_Amounts:Addr} {c_Places:Addr} {c_Clause:Addr} {c_Grove:Addr} {c_Rule:Addr} {c_Jumps:Addr} {f0:Addr} {d0:FuncData} {f1:Addr} {d1:FuncData} {f2:Addr} {d2:FuncData} {f3:Addr} {d3:FuncData} {f4:Addr} {d4:FuncData} {f5:Addr} {d5:FuncData} {f6:Addr} {d6:FuncData} {f7:Addr} {d7:FuncData} {f8:Addr} {d8:FuncData} {f9:Addr} {d9:FuncData} {f10:Addr} {d10:FuncData} {f11:Addr} {d11:FuncData} {f12:Addr} {d12:FuncData} {f13:Addr} {d13:FuncData} {f14:Addr} {d14:FuncData} {f15:Addr} {d15:FuncData} {f16:Addr} {d16:FuncData} {f17:Addr} {d17:FuncData} {f18:Addr} {d18:FuncData} {f19:Addr} {d19:FuncData} {f20:Addr} {d20:FuncData} {f21:Addr} {d21:FuncData} {f22:Addr} {d22:FuncData} {f23:Addr} {d23:FuncData} {f24:Addr} {d24:FuncData} {f25:Addr} {d25:FuncData} {f26:Addr} {d26:FuncData} {f27:Addr} {d27:FuncData} {f28:Addr} {d28:FuncData} {f29:Addr} {d29:FuncData} {f30:Addr} {d30:FuncData} {f31:Addr} {d31:FuncData} {f32:Addr} {d32:FuncData} {f33:Addr} {d33:FuncData} {f34:Addr} {d34:FuncData} {f35:Addr} {d35:FuncData} {f36:Addr} {d36:FuncData} {f37:Addr} {d37:FuncData} {f38:Addr} {d38:FuncData} {f39:Addr} {d39:FuncData} {f40:Addr} {d40:FuncData} {f41:Addr} {d41:FuncData} {f42:Addr} {d42:FuncData} {f43:Addr} {d43:FuncData} {f44:Addr} {d44:FuncData} {f45:Addr} {d45:FuncData} {f46:Addr} {d46:FuncData} {f47:Addr} {d47:FuncData} {f48:Addr} {d48:FuncData} {f49:Addr} {d49:FuncData} {f50:Addr} {d50:FuncData} {f51:Addr} {d51:FuncData} {f52:Addr} {d52:FuncData} {f53:Addr} {d53:FuncData} {f54:Addr} {d54:FuncData} {f56:Addr} {d56:FuncData} {f58:Addr} {d58:FuncData} {f60:Addr} {d60:FuncData} {f62:Addr} {d62:FuncData} {f63:Addr} {d63:FuncData} {f64:Addr} {d64:FuncData} {f65:Addr} {d65:FuncData} {f66:Addr} {d66:FuncData} {f67:Addr} {d67:FuncData} {f68:Addr} {d68:FuncData} {f69:Addr} {d69:FuncData} {f70:Addr} {d70:FuncData} {f73:Addr} {d73:FuncData} {f74:Addr} {d74:FuncData} {f75:Addr} {d75:FuncData} {f76:Addr} {d76:FuncData} {f77:Addr} {d77:FuncData} {f78:Addr} {d78:FuncData} {f79:Addr} {d79:FuncData} {f80:Addr} {d80:FuncData} {f55:Addr} {d55:FuncData} {f57:Addr} {d57:FuncData} {f59:Addr} {d59:FuncData} {f61:Addr} {d61:FuncData} {f71:Addr} {d71:FuncData} {f72:Addr} {d72:FuncData} {t_STATES:Tok} {t_NEIGHBOURS:Tok} {t_STATE_FIGURES:Tok} {x_STATE_FIGURES:Str} {t_AMOUNT_FIGURES:Tok} {x_AMOUNT_FIGURES:Str} {t_ANY_SIGN:Tok} {x_ANY_SIGN:Str} {t_TOP_LEVEL:Tok} {t_LIMIT:Tok} {t_LEAST_LEVEL:Tok} {t_CLAUSE_MARK:Tok} {x_CLAUSE_MARK:Str} {t_LEAST_JUMPED:Tok}
  (cX:PySem.W.nsIn K mainGlobals "Amounts" = some (some (.ref c_Amounts)))
  (cY:PySem.W.nsIn K mainGlobals "Places" = some (some (.ref c_Places)))
  (cZ:PySem.W.nsIn K mainGlobals "Clause" = some (some (.ref c_Clause)))
  (dD:PySem.W.nsIn K mainGlobals "Grove" = some (some (.ref c_Grove)))
  (dE:PySem.W.nsIn K mainGlobals "Rule" = some (some (.ref c_Rule)))
  (dC:PySem.W.nsIn K mainGlobals "Jumps" = some (some (.ref c_Jumps)))
  (q_Amounts:Cls K c_Amounts)
  (q_Places:Cls K c_Places)
  (q_Clause:Cls K c_Clause)
  (q_Grove:Cls K c_Grove)
  (q_Rule:Cls K c_Rule)
  (q_Jumps:Cls K c_Jumps)
  (na_Amounts_state:findIn K (.ref c_Amounts) "state" = some none)
  (na_Amounts_numbers:findIn K (.ref c_Amounts) "numbers" = some none)
  (na_Places_wanted:findIn K (.ref c_Places) "wanted" = some none)
  (na_Clause_cell:findIn K (.ref c_Clause) "cell" = some none)
  (na_Clause_conditions:findIn K (.ref c_Clause) "conditions" = some none)
  (na_Clause_makes:findIn K (.ref c_Clause) "makes" = some none)
  (na_Grove_levels:findIn K (.ref c_Grove) "levels" = some none)
  (na_Grove_parts:findIn K (.ref c_Grove) "parts" = some none)
  (na_Grove_numbers:findIn K (.ref c_Grove) "numbers" = some none)
  (na_Grove_bares:findIn K (.ref c_Grove) "bares" = some none)
  (na_Grove_amounts:findIn K (.ref c_Grove) "amounts" = some none)
  (na_Grove_boxes:findIn K (.ref c_Grove) "boxes" = some none)
  (na_Rule_text:findIn K (.ref c_Rule) "text" = some none)
  (na_Rule_clauses:findIn K (.ref c_Rule) "clauses" = some none)
  (na_Jumps_grove:findIn K (.ref c_Jumps) "grove" = some none)
  (na_Jumps_memories:findIn K (.ref c_Jumps) "memories" = some none)
  (na_Jumps_rule:findIn K (.ref c_Jumps) "rule" = some none)
  (na_Jumps_known_squares:findIn K (.ref c_Jumps) "known_squares" = some none)
  (na_Jumps_known_cells:findIn K (.ref c_Jumps) "known_cells" = some none)
  (g0:Fg K "is_whole" JV f0 d0)
  (g1:Fg K "is_state" JX f1 d1)
  (g2:Fg K "takes" QD f2 d2)
  (g3:Fg K "read_clause" Ew f3 d3)
  (g4:Fg K "read_state" GU f4 d4)
  (g5:Fg K "read_wanted" Gh f5 d5)
  (g6:Fg K "read_condition" Eg f6 d6)
  (g7:Fg K "read_amounts" Fj f7 d7)
  (g8:Fg K "read_numbers" Fe f8 d8)
  (g9:Fg K "read_places" Ev f9 d9)
  (g10:Fg K "shifted_box" Gg f10 d10)
  (g11:Fg K "least_box" CW f11 d11)
  (g12:Fg K "lies_within" Gi f12 d12)
  (g13:Fg K "reach_of" JU f13 d13)
  (g14:Fg K "bare_field" GX f14 d14)
  (g15:Fg K "widened" Mm f15 d15)
  (g16:Fg K "trimmed" Mo f16 d16)
  (g17:Fg K "middle_of" FV f17 d17)
  (g18:Fg K "is_bare_around" Eh f18 d18)
  (g19:Fg K "widened_over" Fd f19 d19)
  (g20:Fg K "widened_to" GS f20 d20)
  (g21:Fg K "planted" Mq f21 d21)
  (g22:Fg K "replaced" JT f22 d22)
  (g23:Fg K "field_of" La f23 d23)
  (g24:Fg K "box_of" Oh f24 d24)
  (g25:Fg K "jump" Tm f25 d25)
  (g26:Fg K "road" Tl f26 d26)
  (g27:Fg K "check_leap" GW f27 d27)
  (g28:Fg K "level_for" IS f28 d28)
  (g29:Fg K "clause_texts" Fk f29 d29)
  (g30:Fg K "read_rule" IR f30 d30)
  (g31:Fg K "deciding" Lb f31 d31)
  (g32:Fg K "becomes" Mr f32 d32)
  (g33:Fg K "shown_rule" GT f33 d33)
  (g34:Fg K "nine_parts" GV f34 d34)
  (g35:Fg K "fours_of" JY f35 d35)
  (g36:Fg K "met_in_the_middle" Do f36 d36)
  (g37:Fg K "_law_at" Ms f37 d37)
  (g38:Fg K "_law_mix" Ld f38 d38)
  (g39:Fg K "_law_state_by" EL f39 d39)
  (g40:Fg K "_law_condition_by" Ck f40 d40)
  (g41:Fg K "_law_clause_by" Ei f41 d41)
  (g42:Fg K "_law_holds" GY f42 d42)
  (g43:Fg K "_law_decides" Fl f43 d43)
  (g44:Fg K "_law_becomes" Fo f44 d44)
  (g45:Fg K "_law_clauses_by" DU f45 d45)
  (g46:Fg K "_law_word" ED f46 d46)
  (g47:Fg K "_law_text" FW f47 d47)
  (g48:Fg K "_law_map_by" Ex f48 d48)
  (g49:Fg K "_law_glide_text" DT f49 d49)
  (g50:Fg K "_law_by_rows" Fn f50 d50)
  (g51:Fg K "_law_listed" Gj f51 d51)
  (g52:Fg K "_law_base" IU f52 d52)
  (g53:Fg K "_law_heap" IT f53 d53)
  (g54:Fg K "law" WY f54 d54)
  (g56:Fm K c_Amounts "holds" "Amounts.holds" EM f56 d56)
  (g58:Fm K c_Places "holds" "Places.holds" DV f58 d58)
  (g60:Fm K c_Clause "fits" "Clause.fits" Ez f60 d60)
  (g62:Fm K c_Grove "kept" "Grove.kept" Ic f62 d62)
  (g63:Fm K c_Grove "linked" "Grove.linked" Fp f63 d63)
  (g64:Fm K c_Grove "check_square" "Grove.check_square" CZ f64 d64)
  (g65:Fm K c_Grove "leaf" "Grove.leaf" Ib f65 d65)
  (g66:Fm K c_Grove "level_of" "Grove.level_of" Ek f66 d66)
  (g67:Fm K c_Grove "state_of" "Grove.state_of" Ej f67 d67)
  (g68:Fm K c_Grove "span" "Grove.span" Ia f68 d68)
  (g69:Fm K c_Grove "boxed" "Grove.boxed" Ey f69 d69)
  (g70:Fm K c_Grove "measured" "Grove.measured" Dh f70 d70)
  (g73:Fm K c_Jumps "change" "Jumps.change" DW f73 d73)
  (g74:Fm K c_Jumps "after" "Jumps.after" Gm f74 d74)
  (g75:Fm K c_Jumps "check_jump" "Jumps.check_jump" DB f75 d75)
  (g76:Fm K c_Jumps "reckoned" "Jumps.reckoned" Dg f76 d76)
  (g77:Fm K c_Jumps "fresh" "Jumps.fresh" Cg f77 d77)
  (g78:Fm K c_Jumps "four_halfway" "Jumps.four_halfway" Bj f78 d78)
  (g79:Fm K c_Jumps "middle_after" "Jumps.middle_after" CY f79 d79)
  (g80:Fm K c_Jumps "cell_after" "Jumps.cell_after" Cw f80 d80)
  (g55:Fi K c_Amounts "Amounts.__init__" Fq f55 d55)
  (g57:Fi K c_Places "Places.__init__" Gk f57 d57)
  (g59:Fi K c_Clause "Clause.__init__" Gn f59 d59)
  (g61:Fi K c_Grove "Grove.__init__" Id f61 d61)
  (g71:Fi K c_Rule "Rule.__init__" FX f71 d71)
  (g72:Fi K c_Jumps "Jumps.__init__" GZ f72 d72)
  (z_all:PySem.W.nsIn K mainGlobals "all" = some none)
  (z_bool:PySem.W.nsIn K mainGlobals "bool" = some none)
  (z_enumerate:PySem.W.nsIn K mainGlobals "enumerate" = some none)
  (z_int:PySem.W.nsIn K mainGlobals "int" = some none)
  (z_isinstance:PySem.W.nsIn K mainGlobals "isinstance" = some none)
  (z_len:PySem.W.nsIn K mainGlobals "len" = some none)
  (z_list:PySem.W.nsIn K mainGlobals "list" = some none)
  (z_max:PySem.W.nsIn K mainGlobals "max" = some none)
  (z_min:PySem.W.nsIn K mainGlobals "min" = some none)
  (z_range:PySem.W.nsIn K mainGlobals "range" = some none)
  (z_sorted:PySem.W.nsIn K mainGlobals "sorted" = some none)
  (z_str:PySem.W.nsIn K mainGlobals "str" = some none)
  (z_tuple:PySem.W.nsIn K mainGlobals "tuple" = some none)
  (z_zip:PySem.W.nsIn K mainGlobals "zip" = some none)
  (g_STATES:PySem.W.nsIn K mainGlobals "STATES" = some (some (.int 8 t_STATES)))
  (g_NEIGHBOURS:PySem.W.nsIn K mainGlobals "NEIGHBOURS" = some (some (.int 8 t_NEIGHBOURS)))
  (g_STATE_FIGURES:PySem.W.nsIn K mainGlobals "STATE_FIGURES" = some (some (.str x_STATE_FIGURES t_STATE_FIGURES)))
  (gx_STATE_FIGURES:x_STATE_FIGURES=Str.ofString "01234567")
  (g_AMOUNT_FIGURES:PySem.W.nsIn K mainGlobals "AMOUNT_FIGURES" = some (some (.str x_AMOUNT_FIGURES t_AMOUNT_FIGURES)))
  (gx_AMOUNT_FIGURES:x_AMOUNT_FIGURES=Str.ofString "012345678")
  (g_ANY_SIGN:PySem.W.nsIn K mainGlobals "ANY_SIGN" = some (some (.str x_ANY_SIGN t_ANY_SIGN)))
  (gx_ANY_SIGN:x_ANY_SIGN=Str.ofString "*")
  (g_TOP_LEVEL:PySem.W.nsIn K mainGlobals "TOP_LEVEL" = some (some (.int 48 t_TOP_LEVEL)))
  (g_LIMIT:PySem.W.nsIn K mainGlobals "LIMIT" = some (some (.int 1099511627776 t_LIMIT)))
  (g_LEAST_LEVEL:PySem.W.nsIn K mainGlobals "LEAST_LEVEL" = some (some (.int 1 t_LEAST_LEVEL)))
  (g_CLAUSE_MARK:PySem.W.nsIn K mainGlobals "CLAUSE_MARK" = some (some (.str x_CLAUSE_MARK t_CLAUSE_MARK)))
  (gx_CLAUSE_MARK:x_CLAUSE_MARK=Str.ofString "; ")
  (g_LEAST_JUMPED:PySem.W.nsIn K mainGlobals "LEAST_JUMPED" = some (some (.int 2 t_LEAST_JUMPED)))
  : ∃fd:FuncData,(∀(s:Shared)(v:Value),BindsTo s fd ⟨[v],[]⟩ [("_law_script",v)])/\∀base:Heap,K.In base->base.Ns mainGlobals mg->AJ l.prog w K mg base CX0 152 fa fd ["_law_script"] (UA K):=by
 have e:=hfa.symm.trans (X5 X G g54.at_);cases e;have no:∀{x:Str},PySem.W.nsIn K mainGlobals x=some none->mg x=none:=λz=>PySem.W.mg_none_of X G z;subst gx_CLAUSE_MARK;subst gx_ANY_SIGN;subst gx_AMOUNT_FIGURES;subst gx_STATE_FIGURES;have T:Top K mg (⟨c_Amounts,c_Places,c_Clause,c_Grove,c_Rule,c_Jumps⟩:Ad):=⟨no z_all,no z_bool,no z_enumerate,no z_int,no z_isinstance,no z_len,no z_list,no z_max,no z_min,no z_range,no z_sorted,no z_str,no z_tuple,no z_zip,⟨t_STATES,X5 X G g_STATES⟩,⟨t_NEIGHBOURS,X5 X G g_NEIGHBOURS⟩,⟨t_STATE_FIGURES,X5 X G g_STATE_FIGURES⟩,⟨t_AMOUNT_FIGURES,X5 X G g_AMOUNT_FIGURES⟩,⟨t_ANY_SIGN,X5 X G g_ANY_SIGN⟩,⟨t_TOP_LEVEL,X5 X G g_TOP_LEVEL⟩,⟨t_LIMIT,X5 X G g_LIMIT⟩,⟨t_LEAST_LEVEL,X5 X G g_LEAST_LEVEL⟩,⟨t_CLAUSE_MARK,X5 X G g_CLAUSE_MARK⟩,⟨t_LEAST_JUMPED,X5 X G g_LEAST_JUMPED⟩,X5 X G cX,q_Amounts,na_Amounts_state,na_Amounts_numbers,X5 X G cY,q_Places,na_Places_wanted,X5 X G cZ,q_Clause,na_Clause_cell,na_Clause_conditions,na_Clause_makes,X5 X G dD,q_Grove,na_Grove_levels,na_Grove_parts,na_Grove_numbers,na_Grove_bares,na_Grove_amounts,na_Grove_boxes,X5 X G dE,q_Rule,na_Rule_text,na_Rule_clauses,X5 X G dC,q_Jumps,na_Jumps_grove,na_Jumps_memories,na_Jumps_rule,na_Jumps_known_squares,na_Jumps_known_cells⟩
 refine⟨d54,λs v=>(by obtain⟨_,_,_,_,_,_,_,_,_,rfl,_⟩:=g54.fn.ex;exact .of_eq rfl),λbase _ _=>?_⟩;have cal:∀{CX:CXT}{k:Nat}{x:Str}{st:Stmt}{f:Addr}{fd:FuncData}{ps:List Str}{sp:Sp},Fg K x st f fd->AJ l.prog w K mg base CX k f fd ps sp->CV K fd ps []->Cal l.prog w K mg base CX k x ps sp:=λF o b=>⟨_,_,o,X5 X G F.at_,F.fn.kp,b⟩
 have calm:∀{CX:CXT}{k:Nat}{C:Addr}{x q:Str}{st:Stmt}{f:Addr}{fd:FuncData}{ps:List Str}{sp:Sp},Fm K C x q st f fd->Cls K C->AJ l.prog w K mg base CX k f fd ps sp->CV K fd ps []->BZ l.prog w K mg base CX k C x ps sp:=λF c o b=>⟨⟨_,_,o,F.me,b⟩,c⟩
 have calc':∀{CX:CXT}{k:Nat}{C:Addr}{x q:Str}{st:Stmt}{f:Addr}{fd:FuncData}{ps:List Str}{sp:Sp},Fi K C q st f fd->mg x=some (.ref C)->AJ l.prog w K mg base CX k f fd ps sp->CV K fd ps []->Rw l.prog w K mg base CX k x C ps sp:=λF m o b=>⟨_,_,o,F.mk_,m,b⟩
 have aM:=cal (k:=1) (sp:=VF) g0 (ok_iw g0.fn T) (bnd g0.fn);have bA:=cal (k:=2) (sp:=spIS) g1 (ok_is g1.fn T aM) (bnd g1.fn);have aR:=calm (k:=1) (sp:=(Qu _)) g62 q_Grove (ok_kept g62.fn T) (bnd g62.fn);have cW:=calc' (k:=2) (sp:=(Qx _)) g61 T.m_Grove (Yu g61.fn T aR) (bnd g61.fn)
 have a9:=calm (k:=2) (sp:=(EI _)) g63 q_Grove (ok_link g63.fn T aR) (bnd g63.fn);have aE:=calm (k:=2) (sp:=(UB _)) g64 q_Grove (ok_chk g64.fn T aM) (bnd g64.fn);have aQ:=calm (k:=3) (sp:=(Qt _)) g65 q_Grove (ok_leaf g65.fn T bA) (bnd g65.fn);have aA:=calm (k:=3) (sp:=(Nb _)) g66 q_Grove (ok_lev g66.fn T aE) (bnd g66.fn);have b8:=calm (k:=4) (sp:=(WI _)) g67 q_Grove (ok_sta g67.fn T aA) (bnd g67.fn);have aI:=cal (k:=1) (sp:=Lq) g10 (Ym g10.fn T) (bnd g10.fn);have aZ:=cal (k:=1) (sp:=NA) g11 (Yr g11.fn T) (bnd g11.fn);have aX:=calm (k:=100) (sp:=(RN _ 49)) g69 q_Grove (Yx g69.fn g70.fn T g69.me (bnd g69.fn) g70.me (bnd g70.fn) aI aZ 49) (bnd g69.fn);have bW:=calm (k:=101) (sp:=(Tc _)) g68 q_Grove (ok_span g68.fn T aE aX) (bnd g68.fn);have aJ:=cal (k:=1) (sp:=RM) g12 (ok_lie g12.fn T) (bnd g12.fn);have aK:=cal (k:=4) (sp:=(Ju _)) g13 (Yo g13.fn T aA) (bnd g13.fn);have bD:=cal (k:=4) (sp:=(Uw _)) g15 (ok_wid g15.fn T aA a9) (bnd g15.fn);have cD:=cal (k:=3) (sp:=(WN _)) g17 (ok_mid g17.fn T a9) (bnd g17.fn);have bB:=cal (k:=1) (sp:=(spBA _)) g18 (ok_ba g18.fn T) (bnd g18.fn);have aU:=cal (k:=4) (sp:=(NR _)) g16 (ok_trim g16.fn T aA bB cD) (bnd g16.fn);have bG:=cal (k:=5) (sp:=(spWO _)) g19 (ok_wo g19.fn T aJ aK bD) (bnd g19.fn);have aV:=cal (k:=1) (sp:=(NB _)) g14 (Yy g14.fn T) (bnd g14.fn);have bH:=cal (k:=54) (sp:=(Ux _ 50)) g22 (Yn g22.fn T (X5 X G g22.at_) (bnd g22.fn) aQ a9 50) (bnd g22.fn);have cN:=cal (k:=55) (sp:=(Qr _)) g21 (Yq g21.fn T aJ bA aK bG bH aU) (bnd g21.fn);have cK:=cal (k:=56) (sp:=(WS _)) g23 (ok_fld g23.fn T aV cN) (bnd g23.fn);have cS:=cal (k:=102) (sp:=(Qy _)) g24 (Yw g24.fn T bW aK aI) (bnd g24.fn);have cJ:=cal (k:=1) (sp:=Nz) g2 (Yl g2.fn) (bnd g2.fn);have cO:=calc' (k:=1) (sp:=(NW _)) g55 T.m_Amounts (VP g55.fn T) (bnd g55.fn)
 have cT:=calc' (k:=1) (sp:=(NT _)) g57 T.m_Places (VN g57.fn T) (bnd g57.fn)
 have cU:=calc' (k:=1) (sp:=(NV _)) g59 T.m_Clause (VO g59.fn T) (bnd g59.fn)
 have cP:=calm (k:=1) (sp:=(Mh _)) g56 q_Amounts (Tu g56.fn T) (bnd g56.fn);have cR:=calm (k:=2) (sp:=(Mg _)) g58 q_Places (Tt g58.fn T cJ) (bnd g58.fn);have bR:=calm (k:=3) (sp:=(Th _)) g60 q_Clause (ok_Fits g60.fn T cJ cP cR) (bnd g60.fn);have cL:=cal (k:=4) (sp:=(WT _)) g31 (ok_dec g31.fn T bR) (bnd g31.fn);have bE:=cal (k:=5) (sp:=(UD _)) g32 (ok_bec g32.fn T cL) (bnd g32.fn);have aO:=cal (k:=1) (sp:=WK) g4 (ok_rs g4.fn T) (bnd g4.fn);have aT:=cal (k:=2) (sp:=spRW) g5 (ok_rw g5.fn T aO) (bnd g5.fn);have bI:=cal (k:=1) (sp:=spRN) g8 (ok_rn g8.fn T) (bnd g8.fn);have bJ:=cal (k:=3) (sp:=(WM _)) g7 (ok_ram g7.fn T aO bI cO) (bnd g7.fn);have bS:=cal (k:=3) (sp:=(WL _)) g9 (ok_rpl g9.fn T aT cT) (bnd g9.fn);have b9:=cal (k:=4) (sp:=(Qq _)) g6 (Yp g6.fn T bJ bS) (bnd g6.fn);have bT:=cal (k:=5) (sp:=(spRC _)) g3 (ok_rc g3.fn T aO aT b9 cU) (bnd g3.fn);have bL:=cal (k:=1) (sp:=spCT) g29 (ok_ct g29.fn T) (bnd g29.fn);have dB:=calc' (k:=6) (sp:=(spRI _)) g71 T.m_Rule (ok_ri g71.fn T bL bT) (bnd g71.fn)
 have cC:=cal (k:=8) (sp:=(spRR _)) g30 (ok_rr g30.fn T dB bE) (bnd g30.fn);have bY:=cal (k:=1) (sp:=(Td _)) g33 (ok_show g33.fn T) (bnd g33.fn);have bF:=calm (k:=2) (sp:=(WU _)) g73 q_Jumps (ok_chg g73.fn T bY) (bnd g73.fn);have cQ:=calc' (k:=3) (sp:=(Qv _)) g72 T.m_Jumps (Ys g72.fn T bF) (bnd g72.fn)
 have aH:=calm (k:=6) (sp:=(UC _)) g80 q_Jumps (ok_cel g80.fn T b8 aQ bE) (bnd g80.fn);have aD:=calm (k:=7) (sp:=(Qs _)) g79 q_Jumps (ok_mid2 g79.fn T a9 aH) (bnd g79.fn);have aP:=cal (k:=3) (sp:=(NU _)) g34 (ok_nine g34.fn T a9) (bnd g34.fn);have aS:=cal (k:=1) (sp:=Lr) g35 (Yv g35.fn T) (bnd g35.fn);have aF:=cal (k:=3) (sp:=(Uz _)) g36 (ok_met g36.fn T a9) (bnd g36.fn);have aC:=calm (k:=148) (sp:=(Ge _ 46)) g76 q_Jumps (UP g76.fn g78.fn g77.fn T g76.me (bnd g76.fn) g78.me (bnd g78.fn) g77.me (bnd g77.fn) aD a9 aP aS aF 46) (bnd g76.fn);have aY:=calm (k:=4) (sp:=(spCj _)) g75 q_Jumps (ok_cj g75.fn T aA aM) (bnd g75.fn);have bQ:=calm (k:=149) (sp:=(Ge _ 46)) g74 q_Jumps (VM g74.fn T A4 aY aC) (bnd g74.fn);have bZ:=cal (k:=103) (sp:=(WV _)) g27 (ok_chg' g27.fn T aM cS aJ) (bnd g27.fn);have cE:=cal (k:=5) (sp:=(WO _)) g28 (ok_lvf g28.fn T aK) (bnd g28.fn);have bX:=cal (k:=5) (sp:=(spWT _)) g20 (ok_wt g20.fn T aA bD) (bnd g20.fn);have dA:=cal (k:=150) (sp:=(WJ _)) g26 (ok_rdg g26.fn T bZ aV cE bX bQ aU) (bnd g26.fn);have bK:=cal (k:=151) (sp:=(WQ _)) g25 (ok_jpg g25.fn T dA aU) (bnd g25.fn);have aB:=cal (k:=1) (sp:=(VG K)) g37 (ok_at g37.fn T) (bnd g37.fn);have aN:=cal (k:=1) (sp:=Uy) g38 (ok_mix g38.fn) (bnd g38.fn);have aG:=cal (k:=1) (sp:=spSt) g39 (ok_st g39.fn) (bnd g39.fn);have aW:=cal (k:=2) (sp:=spCo) g40 (ok_co g40.fn T aN aG) (bnd g40.fn);have bC:=cal (k:=3) (sp:=spCl) g41 (ok_cl g41.fn T aN aG aW) (bnd g41.fn);have cA:=cal (k:=1) (sp:=spHo) g42 (ok_ho g42.fn T) (bnd g42.fn);have bM:=cal (k:=2) (sp:=spDe) g43 (ok_de g43.fn T cA) (bnd g43.fn);have bO:=cal (k:=3) (sp:=spBe) g44 (ok_be g44.fn T bM) (bnd g44.fn);have b7:=cal (k:=4) (sp:=(spCs K)) g45 (ok_cs g45.fn T aB bC bO) (bnd g45.fn);have cF:=cal (k:=1) (sp:=spWd) g46 (ok_wd g46.fn T) (bnd g46.fn);have cG:=cal (k:=2) (sp:=spTx) g47 (ok_tx g47.fn T cF) (bnd g47.fn);have bN:=cal (k:=1) (sp:=NS) g50 (ok_row g50.fn T) (bnd g50.fn);have bV:=cal (k:=5) (sp:=WP) g51 (ok_lsd g51.fn T bN) (bnd g51.fn);have bP:=cal (k:=1) (sp:=Ti) g52 (ok_base g52.fn T) (bnd g52.fn);have cH:=cal (k:=2) (sp:=(Tf K)) g53 (ok_heap g53.fn T aB) (bnd g53.fn);have bU:=cal (k:=2) (sp:=(Te K)) g48 (ok_mapb g48.fn T aB) (bnd g48.fn);have b6:=cal (k:=1) (sp:=WR) g49 (ok_gtx g49.fn T) (bnd g49.fn);exact ok_law g54.fn T cW aB b7 cG bU b6 cC bP cH bV cK cQ bK
theorem walk{l:PySem.W.OpenLaw}{q:Program}{loose:List Str}{XP:(Str->Option Value)->Heap->Prop}{YP:World->Heap->Prop}{d:DefRec}{K:Params->PySem.W.Frag}(hn:l.most=some 63)(hdf:d.params.defaults=[])
  (hY:∀(w:World)(h:Heap),YP w h->(K w.params).In h)
  (F:∀(w:World)(mg:Str->Option Value)(fa:Addr)(h:Heap),(K w.params).In h->h.Ns mainGlobals mg->mg d.name=some (.ref fa) ->
   ∃fd:FuncData,(∀(s:Shared)(u:Value),BindsTo s fd ⟨[u],[]⟩ [("_law_script",u)])/\∀base:Heap,(K w.params).In base->base.Ns mainGlobals mg->AJ l.prog w (K w.params) mg base CX0 152 fa fd ["_law_script"] (UA (K w.params))) :
  PySem.W.WalkO q loose XP YP l.row.toRowW d [] (λf vs=>PySem.call f vs) :=
 L2.Uh (n:=63) (k:=152) (x:="_law_script") (CX:=λ_=>CX0) (sp:=λw=>UA (K w.params)) hn A4 hdf ⟨rfl,by decide,by decide⟩ hY F (λ_ _ a ns hl _ hS=>⟨a,ns,rfl,hS,hl,λ_=>rfl⟩) λ_ _ _ _ _ z=>z
end J
structure PySem.W.Fast:Prop where(tw7452296073775948326 tw10315072211389484897 tw17695533759445286433 tw3699366209058837197 tw9489099076693071170 tw3715446605873971660 tw4201979693968110893 tw798909828720817180 tw16579749956611752842 tw8179373647499561149 tw13515485484785304424 tw2187819960386717767 tw14256561134039593375 tw5915202845896193661 tw6456078718339004896 tw8672283108306234163 tw15930573009837546638 tw1368596544882668563 tw6823166857716259007 tw9320247006742406711 tw15014942240888154445 tw7511335412456575434 tw18140334078511766440 tw8858829542554202001 tw2659957256143402012 tw7347217281456758075 tw12855009780512283450 tw16747624703465588483 tw16245476298869186433 tw12778856066148099563 tw1869267539232030230 tw8052724786596823727 tw7001661937220857384 tw3352081699044233031 tw15993825247207040173 tw1118513244620527884 tw14744820409807777218 tw12657199490361750573 tw5097738672999456606 tw5754540768947676378 tw13550030035436551249 tw6474780767727079020 tw3318488380556263738 tw10555135979959035836 tw9675325241652378176 tw312187130744792767 tw7330413234449411911 tw2663701718232003430 tw7897551519466921676 tw16788372504682452281 tw9151232260882209257 tw11007707601501527601 tw5064412698443023519 tw12151748016776276866 tw11661703310009597477 tw12451587460048821880 tw16197181910113515692 tw18076578977569184279 tw16034544922050811698 tw9417953479947139237 tw9030605400483259468 tw11679203728599752281 tw11169328596689205419 tw13670863499607423099 tw666404638769201080 tw14648626192280583400 tw17380482497721031646 tw14533555719102955963 tw16190320123624788661 tw13541526661202431012 tw11710172050815675390 tw4639936049033013763 tw14890864815579266018 tw5317671873665376091 tw14421314646108017964 tw2490400778761070390 tw12316702346444153165 tw17413793456024804168 tw3366223379333031122 tw13323175240899384871 tw1550233642186349763 tw6824480193023130670 tw5089079419498991195 tw18279487600923029314 tw7920383830904925330 tw5137579597739048834 tw3276518985234636687 tw7126683778728928624 tw10958912945998694545 tw5205073701849920592 tw16789108391494505394 tw16274560036302916277 tw10166928948036979810 tw3338154989436532112 tw13577435680823155779 tw6098701417787583122 tw11163850660233651093 tw3977036687741918859 tw17760102771707173089 tw6850904125721986892 tw17351068341607272701 tw3000054175509640377 tw11521224322693888621 tw13065899370575288687 tw17670178377953071278 tw7207353951583801784 tw9788081347867076700 tw1826353323863430330 tw2044118516932787903 tw7090077262285414794 tw11445453913313186137 tw1951963367386851336 tw18368408484373898117 tw1313957766285670621 tw14596831654476446297 tw10558129236105535987 tw18300331207596914153 tw6158079259550547246 tw7395888807882000435 tw4169554602305950614 tw7397259072344410565 tw15184757634432608451 tw10931318452034539564 tw11952633446560808286 tw1514234991377043329 tw5099230019599384917 tw10563168305006341234 tw6670714387454983192 tw15364372247187921615 tw2990670749288063769 tw11190562237719673371 tw8170913889558764769 tw380291985390261587 tw14893555733016514887 tw13633959644341408541 tw2634412433799272027 tw12722763422625362227 tw17892271811568086499 tw2125808417940767303 tw8338840559775702777 tw7534459240456849255 tw16264264761150707149 tw13393221753158630337 tw1349110321677519221 tw10172563540330724341 tw9535904297582737361 tw17058062498217949694 tw3772986706042508896 tw18036745391244758843 tw11491761107510561258 tw11868986040190947119 tw9615829318047575902 tw14895260800631973068 tw5694394044959366790 tw16354157416204039789 tw5439145835106967263 tw9620467895624408856 tw18387489414512381524 tw6788829283675611582 tw9455936332067042688 tw1211410775821268622 tw1220830819802468268 tw4157685272963217972 tw9343887190166881956 tw6738907052804315699 tw10614004269763188496 tw15001010922896945278 tw7309273207361541069 tw13732702142858863477 tw8890907049109173309 tw17193084451155326892 tw17497449930936554361 tw16730296154348222851 tw12377362083837953453 tw1790817267011197763 tw925307204607537191 tw11044602987652821677 tw1412602128660532094 tw15541240628031195938 tw2326299075245433116 tw11635662722979909660 tw14382561770566063546 tw14686481701817144544 tw2372599207339520554 tw4875014802514790027 tw4306413167714992170 tw17084958891545684736 tw17596340283919305968 tw2863934679468713322 tw765005240945550918 tw14089219570226643419 tw14718115860397190957 tw18294016835655651618 tw10141893656980542357 tw15161426583240003393 tw5916151957009358221 tw9410837336043178389 tw12667612408501444822 tw8633672713873390713 tw5422375403126781278 tw9308776948354599891 tw13168828849210017710 tw10703539251150530930 tw13020623847307103355 tw17159032917442017950 tw2914149185559313240 tw3465325859042015076 tw4354794721918650386 tw16717424634338796159 tw16754800966268431745 tw3886437307068229442 tw7846658530011278692 tw15916991354339382266 tw16683314738427360000 tw17117784636202011392 tw3415660939363468012 tw17996169400838601049 tw2196898214770580253 tw18029921829386245307 tw11966427170789459611 tw10932612495000127067 tw701216843932609446 tw8153060692140048748 tw14007129966274234743 tw12317291065639949190 tw13336515895301097154 tw16596381910253127037 tw16003919731961731893 tw9742983038462929579 tw10889291477640287052 tw17871477638812747092 tw17469300820437371914 tw13239954914362800576 tw6804862874123595497 tw15496101741055439139 tw7757171467964377027 tw13765768485341441028 tw14224349366070143956 tw10879606740048280460 tw5535963420337921815 tw12425679150157460035 tw14552601081210899443 tw10535640768429040783 tw17836474901973356599 tw16473467366726341248 tw16101277000261492831 tw17153345899759528448 tw16250770674147134992 tw13204202170024054626 tw14276919729219023294 tw5885619181502513234 tw8965570955073097903 tw8231803177206178136 tw17859401937102169922 tw5388143731808357636 tw7005837366683465952 tw10047384973574865137 tw17904374523422272989 tw292197030110176888 tw4618204933780071930 tw10018931917506251428 tw7032342048623726008 tw9956415992885755004 tw13713562875266419938 tw7927594584079265388 tw6640971570781162129 tw18335166129628960428 tw3328176277947949373 tw16934510832731671336 tw16673038859729097180 tw17121756792575053852 tw8589222980186223909 tw6503686888872729027 tw8668853092261412419 tw14713285157890932944 tw13551939151523875763 tw6956944287189110199 tw6963071368344332155 tw15049070490359821718 tw6138872299227905659 tw11737998423660146211 tw11833848524408189549 tw18214621405943923641 tw17805335142720219578 tw6922484538931809044 tw3720806083060823396 tw6848311914487905858 tw6201585125459015120 tw9004902947751442063 tw11672585007636456931 tw6565981429394450087 tw10967141166069794170 tw13609243924442099619 tw6283888358550649109 tw1498088103282547855 tw606669356465112064 tw1037435348369175091 tw832019892993210617 tw8860729405058672028 tw14888061880983259168 tw15682028502611604138 tw12439543675648719884 tw18436634994273860365 tw15084304261547961089 tw11492571421846924835 tw8170345760338162029 tw97636495082121386 tw10683678871373958339 tw6719587292508747014 tw17946147487197169133 tw4578295228852805959 tw717073563414845799 tw14963192115747086337 tw6063460699171170610 tw5715919579504243219 tw11698927482761554385 tw14109787107450024596 tw1441215186686724662 tw5020798322765177694 tw12851455346075580837 tw14267237472318228138 tw3044842392368209838 tw13390278984595217797 tw6616367789042120194 tw9280049537491508402 tw10317629446689925322 tw12271766801122249166 tw11037093065493098210 tw17510437555388030359 tw5191871013493334086 tw6414835539305876093 tw16164414344131527817 tw6051216978847243047 tw17297976833931220508 tw7286000010344161270 tw189697847686244899 tw12320210684676722109 tw17671191500695584478 tw14072298362993472995 tw5675346327485473183 tw16154595192348675102 tw6214769524471279510 tw8853119980409686229 tw8779908667529048885 tw2783606739776868572 tw4285086469425835027 tw11962207506646052784 tw9282185076272597850 tw13449246932606978126 tw14871705464788452865 tw16252746467744288073 tw2781686839587809287 tw7894653042154907070 tw4795847324116446228 tw10785940680495098832 tw13894585160697540063 tw4589587351063481812 tw457065142493637603 tw6103515813254209901 tw1370614750699935409 tw14739074312054065142 tw4457405283754183713 tw15908089055919578835 tw13816683832362349151 tw15674449477800165573 tw1679002027702766481 tw13733845074265111256 tw3801187804726953633 tw2685981079176146326 tw16392645459906165438 tw4065817585484478684 tw10262266417094120789 tw7527377005394315229 tw11643032865829108021 tw16180744871525071788 tw16448519311341959766 tw12410320145829552056 tw8734486388615529412 tw13078137931379303965 tw1707068402002204852 tw7528578680940483995 tw9791972459110464655 tw14463928378133529300 tw16733229300056117721 tw4854005388094276331 tw10432545140507022754 tw289139845981659037 tw1907577912900748841 tw7366741637954928859 tw5995659986701160037 tw4278884461532665447 tw17343369543502451935 tw4514578714669490776 tw15470671116883026694 tw6653363389173471183 tw6355117993189165617 tw12926208329907437612 tw2875439286712515163 tw10295466852856246684 tw14376282791800404453 tw9641124346624816195 tw9889664312312338189 tw4358928359578774599 tw11284510749791560747 tw12440260442809482713 tw16864251517477981300 tw14466400540661174641 tw17506596215580320590 tw3923915357561453603 tw2780240620849697148 tw13121803373209419987 tw6973442156473319685 tw12493054179845309063 tw6540134656185900912 tw15951470428321832086 tw16244620704889137103 tw10345096726952285763 tw3217939719410550489 tw10900995374131275379 tw12454484938472418324 tw14020558486140840240 tw8444314457263427640 tw1987726531866153670 tw16205281453545931931 tw3689254352068039869 tw5358854933523228298 tw2369757663007520620 tw216248782112248019 tw9042818562105752881 tw12149369470732369403 tw11239525941456109201 tw12109238198173678366 tw7454200976302522008 tw2668800193098524714 tw1312496656712034858 tw9413134396744861694 tw3981073606966837072 tw14935399391468829071 tw6157900465587762177 tw16773972885781559070 tw17732546302411451604 tw1074027342386745982 tw9156599783751202889 tw3222293063057133510 tw5426441458437600034 tw3177552798876295805 tw10050729175427638350 tw1725047322459457169 tw8372337376838397379 tw8081745837327735954 tw8657079400229959076 tw8413312764316402218 tw15028851916055683107 tw15541562574208899871 tw11760968788805696623 tw13795096686638540260 tw17713483467073709956 tw14218762986255445992 tw259290499659840479 tw3471332120167717846 tw1044333932241135365 tw10014231017546168892 tw18296348431251021218 tw2595956225446975548 tw8371378919357619562 tw7655302906742522670 tw3828244135664048889 tw7540406064806365735 tw3170794689710337340 tw9181137330873914458 tw7166868752385152499 tw14848209785390771377 tw8398356572635762015 tw7941793968174597677 tw15741813358477044439 tw8589730848938238266 tw6216389600575502708 tw1009678944499374904 tw1130816970905864188 tw7279883315975795660 tw5871376967032314350 tw4427660595292562193 tw15286241888648024093 tw5093053684664082601 tw3196171571487806026 tw3723298505964280192 tw14730478034691095349 tw5833450139609562958 tw15536468994025794154 tw5305749274492293184 tw1802802252434443826 tw13511831288416376620 tw15745867534529326085 tw15647539198506112273 tw13013798447732654907 tw11203051362554976053 tw11609659022071103293 tw12796704325815330833 tw4652177897583524119 tw6768700711642324395 tw17468946519410888198 tw881064361507159177 tw17996500879832622212 tw7069053965512849445 tw17441456666435652949 tw12569240839539349266 tw3598739753460738386 tw2703491633927574711 tw15768336925256294707 tw18324080671410173758 tw12244054912524933907 tw3841928569861217760 tw9212711801598322508 tw3614305758183446971 tw6958931730421537703 tw2802518798192532721 tw295207941884024360 tw8838357606539387051 tw1415845661098774412 tw4966660053137831876 tw194976802689653812 tw11381449991914387459 tw17426892441439404685 tw7433447388126556536 tw11114770238243898931 tw4411713617121629665 tw457487709069130385 tw15505749604279442316 tw1268269065891951078 tw1018135239506467063 tw10827149766179065338 tw17543306975107369712 tw16175281625584149613 tw16455490514695573055 tw13833265698032800015 tw8783215046590567530 tw12016949964246017765 tw902247412611723105 tw1213646894820334134 tw17004526300547973441 tw1867783669384942341 tw12047419710432747496 tw15651730977235763553 tw14622831311520437227 tw6709055229220327763 tw15325619774976366373 tw6338373670908746956 tw9073010047193175892 tw1469037033205597898 tw4125053939742315445 tw14395471220727687155 tw11560185438928904437 tw15245551429517846535 tw2695156257610216367 tw14318749247821625719 tw6259413657954499252 tw18420325913475869581 tw8866643196091974447 tw13529114401640693211 tw4191564294352392420 tw18113787589037600728 tw2035668570378691532 tw1063977221062221766 tw5418474565068827429 tw16243337127333107714 tw17007551403983561649 tw4325384886531266097 tw5633548821252840402 tw1495637303915034540 tw302933666166783333 tw4507645123591736722 tw6789770125425036662 tw15255506866322578405:True)
open PySem PySem.W PyProof.Rows
set_option maxRecDepth 100000 in
set_option maxHeartbeats 0 in
theorem PySem.Challenge.cw_jumpfield_k56_whole_jumps_add_up_holds : PySem.Challenge.rw_jumpfield_k56_whole_jumps_add_up.Holds := by
 w_on; o_law; k_head; (case hw=>w_witness2)
 k_fill
 refine J.walk (l:=PySem.Challenge.rw_jumpfield_k56_whole_jumps_add_up) rfl rfl (fun w h Y=>PySem.W.kIn_of Y) ?F
 case F =>
  intro w mg fa h KX G hmg;refine' J.fin KX G hmg ?h0 ?h1 ?h2 ?h3 ?h4 ?h5 ?h6 ?h7 ?h8 ?h9 ?h10 ?h11 ?h12 ?h13 ?h14 ?h15 ?h16 ?h17 ?h18 ?h19 ?h20 ?h21 ?h22 ?h23 ?h24 ?h25 ?h26 ?h27 ?h28 ?h29 ?h30 ?h31 ?h32 ?h33 ?h34 ?h35 ?h36 ?h37 ?h38 ?h39 ?h40 ?h41 ?h42 ?h43 ?h44 ?h45 ?h46 ?h47 ?h48 ?h49 ?h50 ?h51 ?h52 ?h53 ?h54 ?h55 ?h56 ?h57 ?h58 ?h59 ?h60 ?h61 ?h62 ?h63 ?h64 ?h65 ?h66 ?h67 ?h68 ?h69 ?h70 ?h71 ?h72 ?h73 ?h74 ?h75 ?h76 ?h77 ?h78 ?h79 ?h80 ?h81 ?h82 ?h83 ?h84 ?h85 ?h86 ?h87 ?h88 ?h89 ?h90 ?h91 ?h92 ?h93 ?h94 ?h95 ?h96 ?h97 ?h98 ?h99 ?h100 ?h101 ?h102 ?h103 ?h104 ?h105 ?h106 ?h107 ?h108 ?h109 ?h110 ?h111 ?h112 ?h113 ?h114 ?h115 ?h116 ?h117 ?h118 ?h119 ?h120 ?h121 ?h122 ?h123 ?h124 ?h125 ?h126 ?h127 ?h128 ?h129 ?h130 ?h131 ?h132 ?h133 ?h134 ?h135 ?h136 ?h137 ?h138 ?h139
  (case h0 | h1 | h2 | h3 | h4 | h5=>k_is)
  (case h6 | h7 | h8 | h9 | h10 | h11=>(refine' ⟨?_,?_,?_,?_⟩<;>k_is))
  (case h12 | h13 | h14 | h15 | h16 | h17 | h18 | h19 | h20 | h21 | h22 | h23 | h24 | h25 | h26 | h27 | h28 | h29 | h30=>k_is)
  (case h31 | h32 | h33 | h34 | h35 | h36 | h37 | h38 | h39 | h40 | h41 | h42 | h43 | h44 | h45 | h46 | h47 | h48 | h49 | h50 | h51 | h52 | h53 | h54 | h55 | h56 | h57 | h58 | h59 | h60 | h61 | h62 | h63 | h64 | h65 | h66 | h67 | h68 | h69 | h70 | h71 | h72 | h73 | h74 | h75 | h76 | h77 | h78 | h79 | h80 | h81 | h82 | h83 | h84 | h85=>(apply J.Fg.mk; k_is; apply L2.TX<;>k_is))
  (case h86 | h87 | h88 | h89 | h90 | h91 | h92 | h93 | h94 | h95 | h96 | h97 | h98 | h99 | h100 | h101 | h102 | h103 | h104 | h105=>(apply J.Fm.mk; (apply L2.Pt.mk<;>k_is); apply L2.TX<;>k_is))
  (case h106 | h107 | h108 | h109 | h110 | h111=>(apply J.Fi.mk; (apply L2.Mk.mk<;>k_is); apply L2.TX<;>k_is))
  (case h112 | h113 | h114 | h115 | h116 | h117 | h118 | h119 | h120 | h121 | h122 | h123 | h124 | h125 | h126 | h127 | h128=>k_is)
  (case h129=>decide +kernel)
  (case h130=>k_is)
  (case h131=>decide +kernel)
  (case h132=>k_is)
  (case h133=>decide +kernel)
  (case h134 | h135 | h136 | h137=>k_is)
  (case h138=>decide +kernel)
  (case h139=>k_is)
