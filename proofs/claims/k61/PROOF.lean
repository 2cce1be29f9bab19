import PyProof.Rows.All
import Wide.All
import OpenK.AllK
import Wide.FinOn
import Lean
import PyProof.EqAt
import PyProof.EqKinds
import PyProof.TupleCall
import PyProof.Rows.CatFin
import PyProof.StrLawsIn
import KE.IntTextLaws
import KE.IntTextText
import PyProof.StrLawsTight
import PyProof.StrLawsChain
import PyProof.Rows.StrLawsPart
import PyProof.Rows.StrFirst
import PyProof.Rows.ReprOcc
import PyProof.Rows.StrItems
import PyProof.SumAny
import PyProof.SeqI3
import PyProof.WalkInts
import PyProof.NeKinds
import KE.KDictLaws
import PyProof.DictIter
import PyProof.DictWalks
import PyProof.Rows.DictUnroll
import KE.KSortTup
import KE.KSortKey
import PySem.Challenge.RW_jumpfield_k61_whole_far_parts
set_option Elab.async false
set_option linter.all false
set_option maxRecDepth 100000
set_option maxHeartbeats 8000000
theorem A0{p:Prop}(h:p:=by lia):p:=h
theorem A1{p:Prop}(h:p:=by decide +kernel):p:=h
theorem A3{p:Prop}(h:p:=by intro z; cases z):p:=h
theorem A4{p:Prop}(h:p:=by decide):p:=h
theorem A6{p:Prop}(h:p:=by simp):p:=h
theorem B0{p:Prop}(h:p:=by intro _ z; cases z):p:=h
theorem B1{p:Prop}(h:p:=by show (0:Int) < 3; decide):p:=h
theorem B2{p:Prop}(h:p:=by omega):p:=h
theorem B3{p:Prop}(h:p:=by show 0 < 1000; decide):p:=h
theorem B4{p:Prop}(h:p:=by show 1 < 1000; decide):p:=h
theorem B5{p:Prop}(h:p:=by show (0:Int) < 2; decide):p:=h
abbrev B6:=@List.length_map
abbrev B7:=@List.getElem?_eq_some_iff
abbrev B8:=@List.getElem?_map
abbrev B9:=@PySem.Heap.get?_push_of_some
abbrev C0:=@Nat.le_refl
abbrev C1:=@List.mem_cons
abbrev C2:=@List.mem_cons_of_mem
abbrev C3:=@List.mem_cons_self
abbrev C4:=@List.length_append
abbrev C5:=@List.getElem?_eq_getElem
abbrev C6:=@List.map_append
abbrev C7:=@Nat.le_trans
abbrev C8:=@Bool.false_ne_true
abbrev C9:=@List.mem_of_getElem?
abbrev D0:=@Option.map_eq_some_iff
abbrev D3:=@PySem.Heap.get?_push_size
abbrev D4:=@List.mem_singleton
abbrev D5:=@List.mem_map
abbrev D6:=@PySem.Heap.lt_size
abbrev D7:=@List.getD_eq_getElem?_getD
abbrev D8:=@List.length_cons
abbrev D9:=@List.not_mem_nil
abbrev F0:=@List.mem_append
abbrev F1:=@List.size_toArray
abbrev F2:=@Nat.lt_of_lt_of_le
abbrev F3:=@List.take_add_one
abbrev F4:=@Nat.lt_of_le_of_lt
abbrev F5:=@List.map_cons
abbrev F6:=@List.take_length
abbrev F7:=@Int.eq_ofNat_of_zero_le
abbrev F8:=@Nat.ne_of_lt
abbrev F9:=@List.getElem?_append_right
abbrev J0:=@List.length_take
abbrev J3:=@Nat.pow_succ
abbrev J6:=@Nat.mod_lt
abbrev J7:=@List.mem_append_right
abbrev J8:=@Nat.zero_le
abbrev J9:=@List.getElem?_of_mem
abbrev L5:=@Int.natCast_pow
abbrev L6:=@Int.toNat_natCast
abbrev L7:=@List.mem_range
abbrev L8:=@List.getElem?_append_left
abbrev L9:=@Nat.mul_le_mul_left
abbrev M0:=@Nat.not_lt_zero
abbrev M4:=@List.nodup_cons
abbrev M5:=@List.map_map
abbrev M6:=@List.length_range
abbrev M7:=@List.nodup_iff_pairwise_ne
abbrev M8:=@Nat.div_add_mod
abbrev M9:=@Int.natCast_add
abbrev N1:=@Nat.zero_add
abbrev N2:=@Int.add_zero
abbrev N3:=@Int.toNat_of_nonneg
abbrev N4:=@Int.natCast_mul
abbrev N5:=@Nat.div_eq_of_lt
abbrev N6:=@Bool.false_eq_true
abbrev N7:=@Nat.pow_le_pow_right
abbrev N8:=@Nat.add_mul_div_left
abbrev N9:=@PySem.Heap.get?_none_of_le
abbrev O0:=@PySem.Heap.get?_update_ne
abbrev O1:=@List.idxOf_lt_length_of_mem
abbrev O2:=@Nat.lt_irrefl
abbrev O3:=@List.sum_cons
abbrev O4:=@Nat.mod_eq_of_lt
abbrev O5:=@Nat.min_le_right
abbrev O6:=@Nat.le_of_not_lt
abbrev O7:=@List.lookup_cons
abbrev O8:=@List.nodup_nil
abbrev O9:=@PySem.Heap.size_push
abbrev P4:=@List.length_replicate
abbrev P5:=@Nat.add_mul_mod_self_left
abbrev P6:=@List.length_nil
abbrev P7:=@Nat.lt_succ_iff_lt_or_eq
abbrev P8:=@List.getElem?_range
abbrev P9:=@Nat.succ_le_succ
abbrev Q0:=@Bool.and_eq_true
abbrev Q4:=@Option.toList_some
abbrev Q5:=@Int.add_sub_cancel
abbrev Q6:=@List.find?_cons
abbrev Q7:=@List.length_singleton
abbrev Q8:=@List.getElem?_eq_none
abbrev Q9:=@List.nodup_append
abbrev R0:=@List.flatten_cons
abbrev R1:=@List.append_assoc
abbrev R3:=@Nat.le_succ
abbrev R4:=@Int.le_refl
abbrev R5:=@List.mem_flatMap
abbrev R6:=@List.getElem_mem
abbrev R7:=@List.replicate_succ
abbrev R8:=@List.map_eq_nil_iff
abbrev R9:=@List.range_succ
abbrev S0:=@Bool.eq_iff_iff
abbrev S1:=@Int.emod_lt_of_pos
abbrev S2:=@List.findIdx?_eq_some_iff_getElem
abbrev S3:=@Nat.lt_one_iff
abbrev S4:=@List.any_eq_true
abbrev S5:=@List.all_eq_true
abbrev S6:=@List.any_cons
abbrev S7:=@List.mem_append_left
abbrev S8:=@List.foldl_cons
abbrev S9:=@List.length_pos_iff
abbrev T0:=@Array.length_toList
abbrev T1:=@Nat.ne_of_gt
abbrev T3:=@Nat.lt_trans
abbrev T4:=@Nat.le_of_lt
abbrev T5:=@Int.zero_add
abbrev T6:=@Int.fdiv_eq_ediv_of_nonneg
abbrev T7:=@List.getElem?_zip_eq_some
abbrev T8:=@List.findIdx?_eq_none_iff
abbrev T9:=@Nat.pow_pos
abbrev U0:=@List.flatMap_cons
abbrev U1:=@List.getElem?_take_of_lt
abbrev U2:=@Nat.lt_succ_self
abbrev U3:=@Nat.le_add_right
abbrev U4:=@List.mem_reverse
abbrev U5:=@List.getElem?_replicate
abbrev U6:=@List.getElem?_cons_succ
abbrev U7:=@List.countP_cons
abbrev U8:=@Nat.sub_self
abbrev U9:=@Nat.mul_comm
abbrev V0:=@Int.pow_succ
abbrev V1:=@PySem.Heap.get?_update_other
abbrev V2:=@Option.map_some
abbrev V3:=@List.mem_filter
abbrev V4:=@List.length_zip
abbrev V5:=@List.append_nil
abbrev V6:=@Int.emod_nonneg
abbrev V7:=@Nat.div_lt_iff_lt_mul
abbrev V8:=@PySem.Heap.get?_update_self
abbrev V9:=@Nat.pow_lt_pow_right
abbrev W0:=@List.mem_iff_getElem
abbrev W1:=@Int.mul_add
abbrev W2:=@List.filterMap_cons
abbrev W3:=@Int.mul_assoc
abbrev W4:=@Int.add_assoc
abbrev W5:=@Nat.lt_succ_of_lt
abbrev W6:=@List.pairwise_map
abbrev W7:=@List.map_nil
abbrev W8:=@Bool.eq_false_iff
abbrev W9:=@PySem.wpAny_bind
abbrev Y4:=@if_neg
abbrev Y5:=@decide_eq_true
abbrev Y7:=@if_pos
abbrev Z0:=@decide_eq_false
abbrev Z1:=@PySem.wpAny_pure
abbrev Z2:=@Classical.byContradiction
abbrev Z3:=@Ne.symm
abbrev Z4:=@Int.ofNat.inj
abbrev Z5:=@Option.some.inj
abbrev Z6:=@PySem.PassesOwn.never
abbrev Z7:=@PySem.Paired.length
abbrev Z8:=@PySem.F.plainAttrs_list
abbrev Z9:=@PySem.F.slot_list_append
abbrev X4:=@PySem.F.type_list_append
abbrev X5:=@PySem.W.mg_of
abbrev X6:=@of_decide_eq_true
abbrev X7:=@or_false
abbrev X8:=@PyProof.Rows.boot_tuple
abbrev X9:=@congrArg
abbrev K0:=@PySem.W.kia_one
abbrev K1:=@PyProof.Rows.boot_isinstance
abbrev K2:=@PySem.wpAny_truthy_bool
abbrev K3:=@PySem.F.plainAttrs_str
abbrev K4:=@PySem.boot_len
abbrev K5:=@PySem.mem_of_lookup
abbrev K6:=@PyProof.Rows.callWith_type1
abbrev K7:=@PySem.wpAny_mono
abbrev K8:=@PySem.wpAny_field
abbrev K9:=@PySem.Paired.snoc
abbrev A0a:=@PySem.wpAny_call_entry
abbrev A0b:=@PySem.wpAny_seqItems
abbrev A0c:=@PyProof.Rows.boot_int
abbrev A0d:=@PyProof.Rows.boot_str
abbrev A0e:=@PySem.wpAny_typeNameOfWhole_keyiter
abbrev A0f:=@PySem.wpAny_Call_Name_kw
abbrev A0g:=@PySem.wpAny_setField_rec
abbrev A0h:=@PySem.wpAny_passesOwn
abbrev A1a:=@PySem.F.slot_dict_keyiterator_next
abbrev A1b:=@PySem.wpAny_holding
abbrev A1c:=@PySem.wpAny_newObj_type
abbrev A1d:=@if_false
abbrev A1e:=@PySem.F.slot_tuple_iterator_next
abbrev A1f:=@PySem.wpAny_attempt
abbrev A1g:=@not_false_eq_true
abbrev A1h:=@PySem.wpAny_typeNameOf_keyiter
abbrev A2a:=@PySem.call_meets
abbrev A2b:=@PySem.F.slot_str_join
abbrev A2c:=@PySem.F.type_str_join
abbrev A2d:=@PySem.wpAny_pyIter_list
abbrev A2e:=@not_or
abbrev A2f:=@if_true
abbrev A2g:=@PySem.Heap.SameBut.update
abbrev A2h:=@List.Pairwise.imp_of_mem
abbrev A3a:=@PySem.Obj.data_mapFields
abbrev A3b:=@PySem.tupleKind_room_in1
abbrev A3c:=@PySem.F.slot_dict_get
abbrev A3d:=@PyProof.Rows.boot_min
abbrev A3e:=@PyProof.Rows.boot_max
abbrev A3f:=@PySem.W.plainGet_of
abbrev A3g:=@PySem.codeAny_mono
abbrev A3h:=@PySem.typeIs_str
abbrev A4a:=@PySem.wpAny_execs_nil
abbrev A4b:=@PySem.F.slot_zip_next
abbrev A4c:=@PySem.W.callWith_K
abbrev A4d:=@PySem.wpAny_setField
abbrev A4e:=@PySem.wpAny_updateSeq_pair
abbrev A4f:=@decide_eq_true_eq
abbrev A4g:=@PySem.wpAny_standAt
abbrev A4h:=@PySem.wpAny_onRaise
abbrev A5a:=@PySem.F.args_str_split_2
open PySem.W (instObj methodObj lookIn plainGet hasDictIn findIn handedIn isFn plainOver takerIn any_some makesIn emptyDict keepIn specialIn takesIn mroIn kitOne kitx_list kitx_dict notCls clsIn)
namespace L2
open PySem PySem.Spec PyProof.Rows
abbrev Key:=Sum Int Str
def PR:Key->Value->Bool
 |.inl k,v=>Value.isInt k v
 |.inr x,v=>Value.isStrOf x v
def keyH(w:World):Key->Int
 |.inl k=>hashInt k
 |.inr x=>hashStr w x
theorem Cc:∀{k:Key}{v:Value},PR k v=true->(∃i t,k=Sum.inl i/\v=Value.int i t)\/(∃x t,k=Sum.inr x/\v=Value.str x t)
 |.inl i,v,h=>by
  obtain⟨t,e⟩:=Value.isInt_shape (k:=i) (v:=v) h;exact .inl ⟨i,t,rfl,e⟩
 |.inr x,v,h=>by
  obtain⟨t,e⟩:=Value.isStrOf_shape (x:=x) (v:=v) h;exact .inr ⟨x,t,rfl,e⟩
theorem Wm(i:Int)(t:Tok):PR (.inl i) (.int i t)=true:=by simp[PR,Value.isInt]
theorem Wl(x:Str)(t:Tok):PR (.inr x) (.str x t)=true:=by simp[PR,Value.isStrOf]
theorem key_ll(a b:Int):decide ((Sum.inl a:Key)=Sum.inl b)=(a==b):=by
 by_cases e:a=b
 ·subst e;simp
 ·have h:¬(Sum.inl a:Key)=Sum.inl b:=λq=>e (Sum.inl.inj q);rw[Z0 h];exact(beq_eq_false_iff_ne.mpr e).symm
theorem key_rr(a b:Str):decide ((Sum.inr a:Key)=Sum.inr b)=decide (a=b):=by
 by_cases e:a=b
 ·subst e;simp
 ·have h:¬(Sum.inr a:Key)=Sum.inr b:=λq=>e (Sum.inr.inj q);rw[Z0 h,Z0 e]
theorem key_lr(a:Int)(b:Str):decide ((Sum.inl a:Key)=Sum.inr b)=false:=Z0 (λq=>nomatch q)
theorem key_rl(a:Str)(b:Int):decide ((Sum.inr a:Key)=Sum.inl b)=false:=Z0 (λq=>nomatch q)
def Ck(prog:Program)(w:World):PySem.KeyKind prog w Key where
 is:=PR
 hash:=keyH w
 inj:=λv a b ha hb=>by
  rcases Cc ha with ⟨i,t,rfl,rfl⟩|⟨x,t,rfl,rfl⟩
  ·rcases Cc hb with ⟨j,u,rfl,e⟩|⟨y,u,rfl,e⟩
   ·injection e with e1 _;rw[e1]
   ·exact nomatch e
  ·rcases Cc hb with ⟨j,u,rfl,e⟩|⟨y,u,rfl,e⟩
   ·exact nomatch e
   ·injection e with e1 _;rw[e1]
 byValue:=λk v h=>by
  rcases Cc h with ⟨i,t,rfl,rfl⟩|⟨x,t,rfl,rfl⟩<;>rfl
 pyHash:=λhv h=>by
  rcases Cc hv with ⟨i,t,rfl,rfl⟩|⟨x,t,rfl,rfl⟩
  ·exact wpAny_pyHash_int h
  ·exact wpAny_pyHash_str h
 eqBool:=λhu hv h=>by
  rcases Cc hu with ⟨i,t,rfl,rfl⟩|⟨x,t,rfl,rfl⟩
  ·rcases Cc hv with ⟨j,u,rfl,rfl⟩|⟨y,u,rfl,rfl⟩
   ·rw[key_ll]at h;exact wpAny_eqBool_int h
   ·rw[key_lr]at h;exact SeqAt.EqAt.int_str i t y u _ _ _ _ h
  ·rcases Cc hv with ⟨j,u,rfl,rfl⟩|⟨y,u,rfl,rfl⟩
   ·rw[key_rl]at h;exact SeqAt.EqAt.str_int x t j u _ _ _ _ h
   ·rw[key_rr]at h;exact wpAny_eqBool_str h
 «strs»:=λk x t v h=>by
  rcases Cc h with ⟨i,u,rfl,e⟩|⟨y,u,rfl,e⟩
  ·exact nomatch e
  ·injection e with e1 _
   subst e1;cases v<;>rfl
theorem SE(prog:Program)(w:World)(i:Int)(t:Tok):(Ck prog w).is (.inl i) (.int i t)=true:=Wm i t
theorem SD(prog:Program)(w:World)(x:Str)(t:Tok):(Ck prog w).is (.inr x) (.str x t)=true:=Wl x t
inductive V where
 |non|bl (b:Bool)|int (i:Int)|str (x:Str)|byt (b:Array UInt8)|flt (b:UInt64)|ref (a:Addr)|ty (n:String)
 deriving DecidableEq
def AW:V->Value->Prop
 |.non,u=>u=Value.none
 |.bl b,u=>u=Value.bool b
 |.int i,u=>∃t,u=Value.int i t
 |.str x,u=>∃t,u=Value.str x t
 |.byt b,u=>∃t,u=Value.bytes b t
 |.flt b,u=>∃t,u=Value.float b t
 |.ref a,u=>u=Value.ref a
 |.ty n,u=>u=Value.type n
abbrev AN:List V->List Value->Prop:=Paired AW
theorem AN.length{xs:List V}{us:List Value}(r:AN xs us):xs.length=us.length:=Z7 r
theorem AN.get:∀{xs:List V}{us:List Value}{i:Nat}{x:V},AN xs us->xs[i]?=some x->∃u,us[i]?=some u/\AW x u
 |_,_,_,_,.nil,e=>by simp at e
 |_,_,0,_,.cons r _,e=>by simp at e;subst e;exact⟨_,rfl,r⟩
 |_,_,i+1,x,.cons _ t,e=>by
  obtain⟨u,h1,h2⟩:=AN.get (i:=i) (x:=x) t (by simpa using e);exact⟨u,by simpa using h1,h2⟩
theorem AN.set{x:V}{u:Value}(r:AW x u):∀{xs:List V}{us:List Value}(i:Nat),AN xs us->AN (xs.set i x) (us.set i u)
 |_,_,_,.nil=>.nil
 |_,_,0,.cons _ t=>.cons r t
 |_,_,i+1,.cons q t=>.cons q (AN.set r i t)
theorem AN.append:∀{xs ys:List V}{us ws:List Value},AN xs us->AN ys ws->AN (xs++ys) (us++ws)
 |_,_,_,_,.nil,s=>s
 |_,_,_,_,.cons r t,s=>.cons r (AN.append t s)
theorem AN.take:∀{xs:List V}{us:List Value}(n:Nat),AN xs us->AN (xs.take n) (us.take n)
 |_,_,0,_=>.nil
 |_,_,_+1,.nil=>.nil
 |_,_,n+1,.cons r t=>.cons r (AN.take n t)
theorem AN.drop:∀{xs:List V}{us:List Value}(n:Nat),AN xs us->AN (xs.drop n) (us.drop n)
 |_,_,0,r=>r
 |_,_,_+1,.nil=>.nil
 |_,_,n+1,.cons _ t=>AN.drop n t
theorem AN.none_of:∀{xs:List V}{us:List Value}{i:Nat},AN xs us->xs[i]?=none->us[i]?=none:=λ{xs us i} r e=>by
 have h1:=r.length;have h2:xs.length<=i:=List.getElem?_eq_none_iff.mp e;exact List.getElem?_eq_none_iff.mpr A0
def IM:Option V->Option Value->Prop
 |some v,some u=>AW v u
 |none,none=>True
 |_,_=>False
def KV{κ:Type}:List (κ×V)->List (κ×Value)->Prop:=Paired λ(p:κ×V)(q:κ×Value)=>p.1=q.1/\AW p.2 q.2
def kV:Key->V
 |.inl i=>.int i
 |.inr x=>.str x
inductive HO where
 |lst (xs:List V)
 |tup (xs:List V)
 |dK (kvs:List (Key×V))|dT (kvs:List (List Key×V))
 |set (S:Int->Bool) (n:Nat)
 |ins (C dx:Addr) (fs:List (Str×V))
 |own (x:Addr)
 |xd (fs:List (Str×V))
 |met (f x:Addr)
 |rng (lo hi:Int)
 |frz (o:Obj) (u:HO)
 |tbl (ps:Array Value)
 |ext (φ:Heap->Prop)
abbrev Hp:=Addr->Option HO
def upd(H:Hp)(a:Addr)(o:HO):Hp:=λb=>if b=a then some o else H b
theorem Af{H:Hp}{a:Addr}{o:HO}:upd H a o a=some o:=by unfold upd;rw[Y7 rfl]
theorem Au{H:Hp}{a b:Addr}{o:HO}(h:b≠a):upd H a o b=H b:=by unfold upd;rw[Y4 h]
theorem FQ{H:Hp}{a:Addr}{o u:HO}:upd (upd H a o) a u=upd H a u:=by
 funext b;unfold upd;split<;>rfl
theorem AE{H:Hp}{a b:Addr}{o u:HO}(h:H a=some o)(h':H b=some u)(d:o≠u):a≠b:=by
 intro e;subst e;rw[h]at h';exact d (Z5 h')
theorem Aw{H:Hp}{a b:Addr}{o:HO}(h:H a=some o)(h':H b=none):a≠b:=by
 intro e;subst e;rw[h]at h';cases h'
section
variable(P:Program)(w:World)
def BI(H:Hp)(h:Heap)(a:Addr):HO->Prop
 |.lst xs=>xs.length<=sizeLine/\∃(its:List Value)(n:Nat),AN xs its/\h.get? a=some {cls:=.type "list",data:=.seq its.toArray n}
 |.tup xs=>xs.length<=sizeLine/\∃its:List Value,AN xs its/\IsTup h a its.toArray
 |.dK kvs=>kvs.length<=sizeLine/\(a==sysModules)=false/\∃vs,KV kvs vs/\h.DictOf (Ck P w) a vs
 |.dT kvs=>kvs.length<=sizeLine/\(a==sysModules)=false/\∃xs:List (List Key×Addr×Value),
   Paired (λ(p:List Key×V)(q:List Key×Addr×Value)=>p.1=q.1/\H q.2.1=some (.tup (p.1.map kV))/\AW p.2 q.2.2) kvs xs /\
   ∃o es ep,h.get? a=some o/\o.ExactDict/\o.data=.dict es ep/\es.toList=xs.map (entryOfKey (tupleKind (Ck P w)))/\(xs.map (·.1)).Nodup
 |.set S n=>h.SetOf (intKind P w) a S n
 |.ins C dx fs=>H dx=some (.own a)/\fs.length<=1000/\dx≠a/\h.get? a=some (instObj C dx) /\
   ∃mA,h.Ns1 dx mA/\(∀f,IM (fs.lookup f) (mA f))/\PySem.Within mA (fs.map (·.1))
 |.own _=>∃o,h.get? a=some o
 |.xd fs=>∃mA,h.Ns1 a mA/\∀f,IM (fs.lookup f) (mA f)
 |.rng lo hi=>∃t u v,h.get? a=some {cls:=.type "range",data:=.fields #[.int lo t,.int hi u,.int 1 v]}
 |.frz o u=>h.get? a=some o/\BI H h a u
 |.tbl ps=>h.get? a=some {cls:=.none,data:=.fields ps}
 |.met f x=>h.get? a=some (methodObj (.ref f) (.ref x))
 |.ext φ=>φ h/\(∃o,h.get? a=some o)/\∀h1 h2:Heap,φ h1->(∀o,h1.get? a=some o->h2.get? a=some o)->φ h2
def HOk(H:Hp)(h:Heap):Prop:=∀a o,H a=some o->BI P w H h a o
end
section
variable{P:Program}{w:World}{H H':Hp}{h h':Heap}{a:Addr}{o:HO}
theorem BI.lt(x:BI P w H h a o):a<h.objs.size:=by
 cases o with
 |lst xs=>obtain⟨_,_,_,_,e⟩:=x;exact D6 e
 |tup xs=>obtain⟨_,_,_,p⟩:=x;exact p.lt
 |dK kvs=>obtain⟨_,_,_,_,o,_,_,e,_⟩:=x;exact D6 e
 |dT kvs=>obtain⟨_,_,_,_,o,_,_,e,_⟩:=x;exact D6 e
 |set S n=>obtain⟨o,_,_,_,e,_⟩:=x;exact D6 e
 |ins C dx fs=>obtain⟨_,_,_,e,_⟩:=x;exact D6 e
 |own y=>obtain⟨_,e⟩:=x;exact D6 e
 |xd fs=>obtain⟨_,⟨_,_,_,e,_⟩,_⟩:=x;exact D6 e
 |rng lo hi=>obtain⟨_,_,_,e⟩:=x;exact D6 e
 |frz ob u=>obtain⟨e,_⟩:=x;exact D6 e
 |tbl ps=>exact D6 (show h.get? a=some _ from x)
 |met f y=>exact D6 (show h.get? a=some _ from x)
 |ext φ=>obtain⟨_,⟨_,e⟩,_⟩:=x;exact D6 e
theorem Paired.mapP{α β:Type}{F G:α->β->Prop}:∀{l₁:List α}{l₂:List β},Paired F l₁ l₂->(∀a b,F a b->G a b)->Paired G l₁ l₂
 |_,_,.nil,_=>.nil
 |_,_,.cons r t,f=>.cons (f _ _ r) (Paired.mapP t f)
theorem BI.stay(x:BI P w H h a o)(k:∀b u,(b=a\/H b=some (.own a))->h.get? b=some u->h'.get? b=some u)
  (ho:∀b,H b=some (.own a)->H' b=some (.own a)) (ht:∀b xs,H b=some (.tup xs)->H' b=some (.tup xs)):BI P w H' h' a o:=by
 induction o with
 |lst xs=>obtain⟨z,its,n,r,e⟩:=x;exact⟨z,its,n,r,k _ _ (.inl rfl) e⟩
 |tup xs=>obtain⟨z,its,r,ob,e,c⟩:=x;exact⟨z,its,r,ob,k _ _ (.inl rfl) e,c⟩
 |dK kvs=>obtain⟨z,y,vs,r,ob,es,ep,e,c⟩:=x;exact⟨z,y,vs,r,ob,es,ep,k _ _ (.inl rfl) e,c⟩
 |dT kvs =>
  obtain⟨z,y,xs,r,ob,es,ep,e,c⟩:=x;exact⟨z,y,xs,Paired.mapP r λp q z=>⟨z.1,ht _ _ z.2.1,z.2.2⟩,ob,es,ep,k _ _ (.inl rfl) e,c⟩
 |set S n=>obtain⟨ob,es,ep,t,e,c⟩:=x;exact⟨ob,es,ep,t,k _ _ (.inl rfl) e,c⟩
 |ins C dx fs =>
  obtain⟨d,z,ne,e,mA,⟨od,es,ep,e2,c⟩,r⟩:=x;exact⟨ho _ d,z,ne,k _ _ (.inl rfl) e,mA,⟨od,es,ep,k _ _ (.inr d) e2,c⟩,r⟩
 |own y=>obtain⟨ob,e⟩:=x;exact⟨ob,k _ _ (.inl rfl) e⟩
 |xd fs=>obtain⟨mA,⟨od,es,ep,e,c⟩,r⟩:=x;exact⟨mA,⟨od,es,ep,k _ _ (.inl rfl) e,c⟩,r⟩
 |rng lo hi=>obtain⟨t,u,v,e⟩:=x;exact⟨t,u,v,k _ _ (.inl rfl) e⟩
 |frz ob u ih=>obtain⟨e,q⟩:=x;exact⟨k _ _ (.inl rfl) e,ih q⟩
 |tbl ps =>
  have e:h.get? a=some {cls:=.none,data:=.fields ps}:=x;show h'.get? a=some {cls:=.none,data:=.fields ps};exact k a _ (.inl rfl) e
 |met f y =>
  have e:h.get? a=some (methodObj (.ref f) (.ref y)):=x;show h'.get? a=some (methodObj (.ref f) (.ref y));exact k a _ (.inl rfl) e
 |ext φ=>obtain⟨p,⟨o,e⟩,st⟩:=x;exact⟨st _ _ p λo q=>k _ _ (.inl rfl) q,⟨o,k _ _ (.inl rfl) e⟩,st⟩
theorem HOk.lt(x:HOk P w H h)(e:H a=some o):a<h.objs.size:=(x a o e).lt
theorem HOk.fresh(x:HOk P w H h)(e:h.objs.size<=a):H a=none:=by
 cases q:H a with
 |none=>rfl
 |some u=>exact absurd (F2 (x.lt q) e) (O2 _)
theorem HOk.kept(x:HOk P w H h)(k:∀b u,h.get? b=some u->h'.get? b=some u):HOk P w H h':=λa o e =>
 (x a o e).stay (λb u _ q=>k b u q) (λ_ q=>q) λ_ _ q=>q
theorem HOk.laid(x:HOk P w H h)(k:∀b u,h.get? b=some u->h'.get? b=some u)(hp:h.objs.size<=a)(new:BI P w (upd H a o) h' a o):HOk P w (upd H a o) h':=λb u e=>by
 have hn:=x.fresh hp;by_cases hb:b=a
 ·subst hb;rw[Af]at e;cases e;exact new
 ·rw[Au hb]at e;exact(x b u e).stay (λc v _ q=>k c v q) (λc q=>by rw[Au (Aw q hn)];exact q) λc xs q=>by rw[Au (Aw q hn)];exact q
end
def Rd(H:Hp)(a:Addr)(u:HO):Prop:=H a=some u\/∃o,H a=some (.frz o u)
theorem Rd.ok{P:Program}{w:World}{H:Hp}{h:Heap}{a:Addr}{u:HO}(r:Rd H a u)(x:HOk P w H h):BI P w H h a u:=by
 rcases r with r|⟨o,r⟩
 ·exact x a u r
 ·obtain⟨_,q⟩:=x a _ r;exact q
def Mut:Option HO->Prop
 |some (.lst _)=>True
 |some (.dK _)=>True
 |some (.dT _)=>True
 |some (.set _ _)=>True
 |some (.ins _ _ _)=>True
 |some (.ext _)=>True
 |_=>False
section
variable{P:Program}{w:World}{H:Hp}{h h':Heap}{x e:Addr}{o':HO}
theorem HOk.write(ok:HOk P w H h)(mu:Mut (H x))(he:e=x\/H e=some (.own x))(k:∀b u,b≠e->h.get? b=some u->h'.get? b=some u)(heo:∃u,h'.get? e=some u)
  (new:BI P w (upd H x o') h' x o'):HOk P w (upd H x o') h':=λb u q=>by
 have nown:∀c y,H c=some (.own y)->c≠x:=λc y r z=>by subst z;rw[r]at mu;exact mu
 have ntup:∀c xs,H c=some (.tup xs)->c≠x:=λc xs r z=>by subst z;rw[r]at mu;exact mu
 by_cases hb:b=x
 ·subst hb;rw[Af]at q;cases q;exact new
 ·rw[Au hb]at q;by_cases hbe:b=e
  ·have q':H b=some (.own x):=by
    rcases he with z|z
    ·exact absurd (hbe.trans z) hb
    ·rw[hbe];exact z
   rw[q]at q';cases q';obtain⟨v,hv⟩:=heo;exact⟨v,by rw[hbe];exact hv⟩
  ·refine(ok b u q).stay (λc v hc r=>k c v ?_ r) (λc r=>by rw[Au (nown c b r)];exact r) λc xs r=>by rw[Au (ntup c xs r)];exact r
   rcases hc with rfl|hc
   ·exact hbe
   ·rintro rfl;rcases he with z|z
    ·exact nown c b hc z
    ·rw[hc]at z;cases z;exact hb rfl
end
structure Un(fs ex:List Addr)(H H':Hp)(h h':Heap):Prop where
 keep:∀b o,h.get? b=some o->H b=none->b∉fs->b∉ex->h'.get? b=some o
 slot:∀b o,h.get? b=some o->H b=none->b∈fs->b∉ex->∃sl,h'.get? b=some {o with slots:=sl}
 free:∀b o,h.get? b=some o->H b=none->b∉ex->H' b=none
 there:∀b o,h.get? b=some o->b∉ex->∃o',h'.get? b=some o'
 tups:∀b xs,H b=some (.tup xs)->H' b=some (.tup xs)
 frzs:∀b o u,H b=some (.frz o u)->H' b=some (.frz o u)
 tbls:∀b ps,H b=some (.tbl ps)->∃more,H' b=some (.tbl (ps++more))
section
variable{fs fs' ex ex':List Addr}{H H1 H2:Hp}{h h1 h2 h':Heap}{a x e:Addr}{o:HO}
theorem Un.any(u:Un fs ex H H1 h h1){b:Addr}{ob:Obj}(q:h.get? b=some ob)(n:H b=none)(hx:b∉ex):∃sl,h1.get? b=some {ob with slots:=sl}:=by
 by_cases hb:b∈fs
 ·exact u.slot b ob q n hb hx
 ·exact⟨ob.slots,u.keep b ob q n hb hx⟩
theorem Un.kept(k:∀b u,h.get? b=some u->h'.get? b=some u):Un fs ex H H h h' :=
 ⟨λb ob q _ _ _=>k b ob q,λb ob q _ _ _=>⟨ob.slots,k b ob q⟩,λ_ _ _ n _=>n,λb ob q _=>⟨ob,k b ob q⟩,λ_ _ q=>q,λ_ _ _ q=>q,λ_ ps q=>⟨#[],by rw[q];simp⟩⟩
theorem Un.refl:Un fs ex H H h h:=Un.kept λ_ _ q=>q
theorem Un.laid(k:∀b u,h.get? b=some u->h'.get? b=some u)(hp:h.objs.size<=a)(hn:H a=none):Un fs ex H (upd H a o) h h' where
 keep:=λb u q _ _ _=>k b u q
 slot:=λb u q _ _ _=>⟨u.slots,k b u q⟩
 free:=λb u q n _=>by rw[Au (F8 (F2 (D6 q) hp))];exact n
 there:=λb u q _=>⟨u,k b u q⟩
 tups:=λb xs q=>by rw[Au (Aw q hn)];exact q
 frzs:=λb u xs q=>by rw[Au (Aw q hn)];exact q
 tbls:=λb ps q=>⟨#[],by rw[Au (Aw q hn),q];simp⟩
theorem Un.write(mu:Mut (H x))(he:e=x\/H e=some (.own x))(k:∀b u,b≠e->h.get? b=some u->h'.get? b=some u)(heo:∃u,h'.get? e=some u):Un fs ex H (upd H x o) h h':=by
 have hx:∀b,H b=none->b≠x:=λb n z=>by subst z;rw[n]at mu;exact mu
 have hb:∀b,H b=none->b≠e:=λb n z=>by
  subst z;rcases he with r|r
  ·exact hx b n r
  ·rw[n]at r;cases r
 have hm:∀b u,H b=some u->¬Mut (some u)->b≠x:=λb u q nm z=>by subst z;rw[q]at mu;exact nm mu
 refine⟨λb u q n _ _=>k b u (hb b n) q,λb u q n _ _=>⟨u.slots,k b u (hb b n) q⟩,λb u q n _=>by rw[Au (hx b n)];exact n,λb u q _=>?_,
  λb xs q=>by rw[Au (hm b _ q λz=>z)];exact q,λb u xs q=>by rw[Au (hm b _ q λz=>z)];exact q,λb ps q=>⟨#[],by rw[Au (hm b _ q λz=>z),q];simp⟩⟩
 by_cases hbe:b=e
 ·subst hbe;exact heo
 ·exact⟨u,k b u hbe q⟩
end
def trk(h:Heap)(H:Hp):List Addr:=(List.range h.objs.size).filter λa=>(H a).isSome
def Ri(h:Heap)(H:Hp):Heap:=PySem.W.hideAll h (trk h H)
theorem Wp(h:Heap)(H:Hp):(Ri h H).objs.size=h.objs.size:=PySem.W.hideAll_size _ _
theorem Zn{h:Heap}{H:Hp}{b:Addr}{o:Obj}(e:h.get? b=some o)(n:H b=none):(Ri h H).get? b=some o :=
 PySem.W.hideAll_get _ e λhm=>by
  have q:(H b).isSome=true:=(V3.mp hm).2;rw[n]at q;simp at q
theorem of_hidT{h:Heap}{H:Hp}{b:Addr}{o:Obj}(e:(Ri h H).get? b=some o):h.get? b=some o/\H b=none:=by
 have e':h.get? b=some o:=PySem.W.of_hideAll (trk h H) e;refine⟨e',?_⟩;cases q:H b with
 |none=>rfl
 |some x =>
  have hm:b∈trk h H:=V3.mpr ⟨L7.mpr (D6 e'),by simp[q]⟩;have z:(Ri h H).get? b=none:=PySem.W.hideAll_none (trk h H) hm;rw[z]at e;cases e
structure Mod(K:PySem.W.Frag)(mg:Str->Option Value)(base:Heap):Prop where
 kin:K.In base
 glob:base.Ns mainGlobals mg
 blt:∃mb,base.Ns builtinsNs mb/\∀x:Str,x≠"__name__" -> mb x=bootBuiltins x
 nolimit:base.NoLimit
structure Cx where
 prog:Program
 w:World
 K:PySem.W.Frag
 mg:Str->Option Value
 base:Heap
 A:Around
 N:List Str
 s₀:Shared
 H₀:Hp
 env:Env
 outer:List Env
 stack:List Env
 ex:List Addr
 fn:Str->Bool
 calm:Bool
 pn:List (Addr×Obj)
 xe:Value->Shared->Prop
def frs(l:List Env):List Addr:=l.filterMap (·.frame)
abbrev Cx.fs(X:Cx):List Addr:=frs X.outer
def Vis(sc:Scope)(x:Str):Prop:=sc.names.lookup x=some .local\/sc.names.lookup x=some .cell\/sc.names.lookup x=some .free
def Loc(sc:Scope)(x:Str):Prop:=sc.names.lookup x=some .local\/sc.names.lookup x=some .cell
def Look(env:Env)(h:Heap)(m:Str->Option Value)(x:Str)(u:Value):Prop :=
 (env.kindOf x=some .local/\m x=some u)\/((env.kindOf x=some .cell\/env.kindOf x=some .free)/\∃c,env.cells.lookup x=some c/\h.IsCell c (some u))
structure Cx.Ok(X:Cx):Prop where
 mod:Mod X.K X.mg X.base
 kind:X.env.scope.kind=.function
 glob:X.env.globals=mainGlobals
 blt:X.env.builtins=builtinsNs
 above:X.s₀.heap.objs.size<=X.env.locals
 inj:∀x y c,X.env.cells.lookup x=some c->X.env.cells.lookup y=some c->x=y
 has:∀x,(X.env.kindOf x=some .cell\/X.env.kindOf x=some .free)->∃c,X.env.cells.lookup x=some c
 cab:∀x c,X.fn x=true->X.env.cells.lookup x=some c->X.s₀.heap.objs.size<=c
 hd:X.calm=true->X.A.handled=none
 frames:X.A.frames=some X.stack
 stk:X.stack=X.outer\/(X.stack=X.env::X.outer/\X.env.frame=some X.env.locals)
 exf:∀b∈X.ex,b≠X.env.locals/\∀x c,X.env.cells.lookup x=some c->c≠b
 bs:∀b o,X.base.get? b=some o->X.s₀.heap.get? b=some o/\X.H₀ b=none
 bsz:X.base.objs.size<=X.s₀.heap.objs.size
 noex:∀b o,X.base.get? b=some o->b∉X.ex
 exfs:∀b∈X.ex,b∉X.fs
 funs:X.s₀.heap.FunFrames X.base X.outer
 frf:∀b∈X.fs,X.H₀ b=none
structure Inv(X:Cx)(pins:List (Addr×Obj))(σ:List (Option V))(H:Hp)(s:Shared):Prop where
 ok:X.Ok
 os:s.os=X.s₀.os
 bare:AllBare s.gens
 base:Un X.fs X.ex X.H₀ H X.s₀.heap s.heap
 loc:∃m,s.heap.Ns X.env.locals m/\∀(i:Nat)(x:Str)(v:V),X.N[i]?=some x->σ[i]?=some (some v)->Vis X.env.scope x->∃u,AW v u/\Look X.env s.heap m x u
 cell:∀x c,X.env.cells.lookup x=some c->∃v,s.heap.IsCell c v
 free:H X.env.locals=none
 freeC:∀x c,X.env.cells.lookup x=some c->H c=none
 pin:∀p∈X.pn++pins,s.heap.get? p.1=some p.2/\H p.1=none/\p.1≠X.env.locals/\p.1∉X.fs/\∀v,p.2.data≠.cell v
 hok:HOk X.prog X.w H s.heap
 len:σ.length=X.N.length
section
variable{X:Cx}{pins:List (Addr×Obj)}{σ:List (Option V)}{H H':Hp}{s:Shared}{h':Heap}
theorem Cx.Ok.nofr(ok:X.Ok){b:Addr}{o:Obj}(e:X.base.get? b=some o):b∉X.fs:=λhb=>by
 have:=(ok.funs.mem hb).1;rw[e]at this;cases this
theorem Inv.bs(I:Inv X pins σ H s):∀b o,X.base.get? b=some o->s.heap.get? b=some o/\H b=none:=λb o e =>
 ⟨I.base.keep b o (I.ok.bs b o e).1 (I.ok.bs b o e).2 (I.ok.nofr e) (I.ok.noex b o e),I.base.free b o (I.ok.bs b o e).1 (I.ok.bs b o e).2 (I.ok.noex b o e)⟩
theorem Inv.bk(I:Inv X pins σ H s):∀b o,X.base.get? b=some o->s.heap.get? b=some o:=λb o e=>(I.bs b o e).1
theorem Inv.mod(I:Inv X pins σ H s):Mod X.K X.mg X.base:=I.ok.mod
theorem Inv.kIn(I:Inv X pins σ H s):X.K.In s.heap:=I.ok.mod.kin.keeps I.bk
theorem Inv.lt(I:Inv X pins σ H s):X.env.locals<s.heap.objs.size:=let ⟨_,hn,_⟩:=I.loc;hn.lt
theorem Inv.sz(I:Inv X pins σ H s):X.s₀.heap.objs.size<=s.heap.objs.size:=C7 I.ok.above (T4 I.lt)
theorem Inv.nofs(I:Inv X pins σ H s){a:Addr}(h:s.heap.objs.size<=a):a∉X.fs:=λhb=>by
 obtain⟨_,o,ho,_⟩:=I.ok.funs.mem hb;exact absurd (F2 (D6 ho) (C7 I.sz h)) (O2 _)
theorem Inv.cne(I:Inv X pins σ H s):∀x c,X.env.cells.lookup x=some c->c≠X.env.locals:=λx c e z=>by
 obtain⟨v,o,ho,hd⟩:=I.cell x c e;obtain⟨m,⟨o',es,ep,ho',hd',_⟩,_⟩:=I.loc;rw[z,ho']at ho;cases ho;rw[hd']at hd;cases hd
theorem Inv.funs (I:Inv X pins σ H s):s.heap.FunFrames X.base X.outer:=by
 have all:∀(l:List Env),(∀b∈frs l,b∈X.fs)->X.s₀.heap.FunFrames X.base l->s.heap.FunFrames X.base l:=by
  intro l;induction l with
  |nil=>intro _ _;trivial
  |cons env r ih =>
   intro hs hl;obtain⟨hk,⟨L,o,hf,hn,ho,hd⟩,hr⟩:=hl;have hL:L∈X.fs:=hs L (by unfold frs;rw[W2,hf];exact C3);obtain⟨sl,e⟩:=I.base.slot L o ho (I.ok.frf L hL) hL λz=>I.ok.exfs L z hL;exact⟨hk,⟨L,_,hf,hn,e,hd⟩,ih (λb hb=>hs b (by unfold frs;rw[W2,hf];exact C2 _ hb)) hr⟩
 exact all X.outer (λ_ hb=>hb) I.ok.funs
theorem Inv.stack(I:Inv X pins σ H s):s.heap.FunFrames X.base X.stack:=by
 rcases I.ok.stk with e|⟨e,hf⟩
 ·rw[e];exact I.funs
 ·rw[e];obtain⟨m,hn,_⟩:=I.loc;refine .cons (by rw[I.ok.kind];decide) hf hn ?_ I.funs;exact N9 (C7 I.ok.bsz I.ok.above)
theorem Inv.stkSub(I:Inv X pins σ H s):∀b∈frs X.stack,b∈X.env.locals::X.fs:=λb hb=>by
 rcases I.ok.stk with e|⟨e,hf⟩
 ·rw[e]at hb;exact C2 _ hb
 ·rw[e]at hb;unfold frs at hb;rw[W2,hf]at hb;exact hb
theorem Inv.stkFree(I:Inv X pins σ H s):∀b∈frs X.stack,H b=none:=λb hb=>by
 rcases C1.mp (I.stkSub b hb)with e|hb
 ·rw[e];exact I.free
 ·obtain⟨_,o,ho,_⟩:=I.ok.funs.mem hb;exact I.base.free b o ho (I.ok.frf b hb) λz=>I.ok.exfs b z hb
theorem Inv.step{g':Array GenState}{t':Nat}{d':Drawn}{ch:List Addr}(I:Inv X pins σ H s)
  (hch:∀b∈ch,(b∈X.ex\/X.s₀.heap.objs.size<=b)/\b≠X.env.locals/\(∀x c,X.env.cells.lookup x=some c->c≠b)/\∀p∈X.pn++pins,p.1≠b)
  (keep:∀b o,b≠X.env.locals->b∉X.fs->b∉ch->s.heap.get? b=some o->H b=none->h'.get? b=some o)
  (slot:∀b o,b≠X.env.locals->b∈X.fs->b∉ch->s.heap.get? b=some o->H b=none->∃sl,h'.get? b=some {o with slots:=sl}) (free:∀b o,b∉ch->s.heap.get? b=some o->H b=none->H' b=none)
  (there:∀b o,b∉ch->s.heap.get? b=some o->∃o',h'.get? b=some o')
  (tups:∀b xs,H b=some (.tup xs)->H' b=some (.tup xs)) (frzs:∀b o u,H b=some (.frz o u)->H' b=some (.frz o u)) (tbls:∀b ps,H b=some (.tbl ps)->∃more,H' b=some (.tbl (ps++more)))
  (ns:∀m,s.heap.Ns X.env.locals m->h'.Ns X.env.locals m) (hok:HOk X.prog X.w H' h') (hg:AllBare g') :
  Inv X pins σ H' {s with heap:=h',gens:=g',drawn:=d',toks:=t'}:=by
 have neL:∀b o,X.s₀.heap.get? b=some o->b≠X.env.locals:=λb o e=>F8 (F2 (D6 e) I.ok.above);have neC:∀b o,X.s₀.heap.get? b=some o->b∉X.ex->b∉ch:=λb o e hx hb=>by
  rcases(hch b hb).1 with z|z
  ·exact hx z
  ·exact absurd (F2 (D6 e) z) (O2 _)
 have cellK:∀x c,X.env.cells.lookup x=some c->∀v,s.heap.IsCell c v->h'.IsCell c v:=λx c e v ⟨o,ho,hd⟩=>by
  have nch:c∉ch:=λz=>(hch c z).2.2.1 x c e rfl;by_cases hc:c∈X.fs
  ·obtain⟨sl,q⟩:=slot c o (I.cne x c e) hc nch ho (I.freeC x c e);exact⟨_,q,hd⟩
  ·exact⟨o,keep c o (I.cne x c e) hc nch ho (I.freeC x c e),hd⟩
 refine⟨I.ok,I.os,hg,⟨λb o e n hb hx=>?_,λb o e n hb hx=>?_,λb o e n hx=>?_,λb o e hx=>?_,λb xs e=>tups b xs (I.base.tups b xs e),λb o xs e=>frzs b o xs (I.base.frzs b o xs e),λb ps e=>?_⟩,?_,λx c e=>?_,?_,λx c e=>?_,λp hp=>?_,hok,I.len⟩
 ·exact keep b o (neL b o e) hb (neC b o e hx) (I.base.keep b o e n hb hx) (I.base.free b o e n hx)
 ·obtain⟨sl,e1⟩:=I.base.slot b o e n hb hx;obtain⟨sl',e2⟩:=slot b _ (neL b o e) hb (neC b o e hx) e1 (I.base.free b o e n hx);exact⟨sl',e2⟩
 ·obtain⟨o',e1⟩:=I.base.there b o e hx;exact free b o' (neC b o e hx) e1 (I.base.free b o e n hx)
 ·obtain⟨o',e1⟩:=I.base.there b o e hx;exact there b o' (neC b o e hx) e1
 ·obtain⟨m1,e1⟩:=I.base.tbls b ps e;obtain⟨m2,e2⟩:=tbls b _ e1;exact⟨m1++m2,by rw[e2,Array.append_assoc]⟩
 ·obtain⟨m,hn,hl⟩:=I.loc;refine⟨m,ns m hn,λi x v e1 e2 e3=>?_⟩;obtain⟨u,r,l⟩:=hl i x v e1 e2 e3;refine⟨u,r,?_⟩;rcases l with l|⟨k,c,e,z⟩
  ·exact .inl l
  ·exact .inr ⟨k,c,e,cellK x c e _ z⟩
 ·obtain⟨v,z⟩:=I.cell x c e;exact⟨v,cellK x c e v z⟩
 ·obtain⟨m,⟨o,_,_,ho,_⟩,_⟩:=I.loc;exact free _ o (λz=>(hch _ z).2.1 rfl) ho I.free
 ·obtain⟨v,o,ho,hd⟩:=I.cell x c e;exact free c o (λz=>(hch c z).2.2.1 x c e rfl) ho (I.freeC x c e)
 ·obtain⟨e,n,ne,nf,d⟩:=I.pin p hp;have nch:p.1∉ch:=λz=>(hch p.1 z).2.2.2 p hp rfl;exact⟨keep p.1 p.2 ne nf nch e n,free p.1 p.2 nch e n,ne,nf,d⟩
theorem Inv.un{t':Nat}(I:Inv X pins σ H s)(u:Un X.fs [] H H' s.heap h')(hok:HOk X.prog X.w H' h'):Inv X pins σ H' {s with heap:=h',toks:=t'}:=by
 obtain⟨m,⟨o,es,ep,ho,r⟩,_⟩:=id I.loc;obtain⟨sl,hL⟩:=u.any ho I.free A6;exact I.step (g':=s.gens) (d':=s.drawn) (ch:=[]) (λ_ z=>nomatch z) (λb o _ hb _ e n=>u.keep b o e n hb A6) (λb o _ hb _ e n=>u.slot b o e n hb A6) (λb o _ e n=>u.free b o e n A6) (λb o _ e=>u.there b o e A6) u.tups u.frzs u.tbls (λm' hm=>by
  obtain⟨o',es',ep',ho',r'⟩:=hm;rw[ho]at ho';cases ho';exact⟨_,es',ep',hL,r'⟩) hok I.bare
theorem Inv.call{g':Array GenState}{t':Nat}{d':Drawn}{ch:List Addr}(I:Inv X pins σ H s)(u:Un (frs X.stack) ch H H' s.heap h')(hok:HOk X.prog X.w H' h')(hg:AllBare g')
  (hch:∀b∈ch,(b∈X.ex\/X.s₀.heap.objs.size<=b)/\b≠X.env.locals/\(∀x c,X.env.cells.lookup x=some c->c≠b)/\∀p∈X.pn++pins,p.1≠b) :
  Inv X pins σ H' {s with heap:=h',gens:=g',drawn:=d',toks:=t'}:=by
 obtain⟨m,⟨o,es,ep,ho,r⟩,_⟩:=id I.loc;obtain⟨sl,hL⟩:=u.any ho I.free λz=>(hch _ z).2.1 rfl;exact I.step (ch:=ch) hch (λb o hL hb hc e n=>u.keep b o e n (λz=>(C1.mp (I.stkSub b z)).elim hL hb) hc) (λb o _ _ hc e n=>u.any e n hc) (λb o hc e n=>u.free b o e n hc) (λb o hc e=>u.there b o e hc) u.tups u.frzs u.tbls (λm' hm=>by
  obtain⟨o',es',ep',ho',r'⟩:=hm;rw[ho]at ho';cases ho';exact⟨_,es',ep',hL,r'⟩) hok hg
theorem Inv.turned{t':Nat}{it:Addr}(I:Inv X pins σ H s)(k:∀b o,b≠it->s.heap.get? b=some o->h'.get? b=some o)(hn:H it=none)(hL:it≠X.env.locals)
  (h1:it∈X.ex\/X.s₀.heap.objs.size<=it) (h2:∀x c,X.env.cells.lookup x=some c->c≠it) (h3:∀p∈X.pn++pins,p.1≠it):Inv X pins σ H {s with heap:=h',toks:=t'}:=by
 have nit:∀b u,H b=some u->b≠it:=λb u e z=>by rw[z,hn]at e;cases e
 refine I.step (g':=s.gens) (d':=s.drawn) (ch:=[it]) (λb hb=>?_) (λb o _ _ hc e _=>k b o (λz=>hc (by simp[z])) e) (λb o _ _ hc e _=>⟨o.slots,k b o (λz=>hc (by simp[z])) e⟩) (λ_ _ _ _ n=>n)
  (λb o hc e=>⟨o,k b o (λz=>hc (by simp[z])) e⟩) (λ_ _ e=>e) (λ_ _ _ e=>e) (λb ps e=>⟨#[],by rw[e];simp⟩) (λm hm=>?_) (λb u e=>?_) I.bare
 ·have e:b=it:=by simpa using hb
  subst e;exact⟨h1,hL,h2,h3⟩
 ·obtain⟨o,es,ep,ho,r⟩:=hm;exact⟨o,es,ep,k _ o (Z3 hL) ho,r⟩
 ·refine(I.hok b u e).stay (λc v hc q=>k c v ?_ q) (λ_ q=>q) λ_ _ q=>q;rcases hc with z|z
  ·rw[z];exact nit b u e
  ·exact nit c _ z
theorem Inv.tok(I:Inv X pins σ H s)(t:Nat):Inv X pins σ H {s with toks:=t}:=I.un (h':=s.heap) (t':=t) Un.refl I.hok
theorem Inv.kept{t':Nat}(I:Inv X pins σ H s)(k:∀b u,s.heap.get? b=some u->h'.get? b=some u):Inv X pins σ H {s with heap:=h',toks:=t'}:=I.un (Un.kept k) (I.hok.kept k)
theorem Inv.laid{a:Addr}{o:HO}{t':Nat}(I:Inv X pins σ H s)(k:∀b u,s.heap.get? b=some u->h'.get? b=some u)(hp:s.heap.objs.size<=a)(new:BI X.prog X.w (upd H a o) h' a o) :
  Inv X pins σ (upd H a o) {s with heap:=h',toks:=t'}:=I.un (Un.laid k hp (I.hok.fresh hp)) (I.hok.laid k hp new)
theorem Inv.write{x e:Addr}{o:HO}{t':Nat}(I:Inv X pins σ H s)(mu:Mut (H x))(he:e=x\/H e=some (.own x))(k:∀b u,b≠e->s.heap.get? b=some u->h'.get? b=some u)(heo:∃u,h'.get? e=some u)
  (new:BI X.prog X.w (upd H x o) h' x o):Inv X pins σ (upd H x o) {s with heap:=h',toks:=t'}:=I.un (Un.write mu he k heo) (I.hok.write mu he k heo new)
theorem Inv.weak{σ':List (Option V)}(I:Inv X pins σ H s)(hl:σ'.length=σ.length)(w:∀(i:Nat) v,σ'[i]?=some (some v)->σ[i]?=some (some v)):Inv X pins σ' H s :=
 ⟨I.ok,I.os,I.bare,I.base,let ⟨m,hn,hl'⟩:=I.loc;⟨m,hn,λi x v e1 e2 e3=>hl' i x v e1 (w i v e2) e3⟩,I.cell,I.free,I.freeC,I.pin,I.hok,hl.trans I.len⟩
theorem Inv.pins_of{pins':List (Addr×Obj)}(I:Inv X pins σ H s)(h:∀p∈pins',s.heap.get? p.1=some p.2/\H p.1=none/\p.1≠X.env.locals/\p.1∉X.fs/\∀v,p.2.data≠.cell v):Inv X pins' σ H s :=
 ⟨I.ok,I.os,I.bare,I.base,I.loc,I.cell,I.free,I.freeC,λp hp=>(F0.mp hp).elim (λz=>I.pin p (S7 _ z)) (h p),I.hok,I.len⟩
theorem Sl{N:List Str}(hN:N.Nodup){i j:Nat}{x:Str}(a:N[i]?=some x)(b:N[j]?=some x):i=j:=by
 obtain⟨h1,e1⟩:=B7.mp a;obtain⟨h2,e2⟩:=B7.mp b;exact(List.getElem_inj hN).mp (e1.trans e2.symm)
theorem PB{M:Model}{A:Around}{E:Value->Shared->Prop}{i:Nat}{x:Str}{v:V}{u:Value}{Q:Unit->Shared->Prop}(I:Inv X pins σ H s)(hN:X.N.Nodup)(hi:X.N[i]?=some x)(hx:Loc X.env.scope x)(r:AW v u)
  (h:∀s',Inv X pins (σ.set i (some v)) H s'->(∃a,Heap.SameBut a s.heap s'.heap/\(a=X.env.locals\/X.env.cells.lookup x=some a))->Q () s') (hf:X.fn x=true\/X.env.scope.names.lookup x=some .local:=by first|exact .inl rfl|exact .inr rfl|assumption):wpAny M A (storeName X.env x u) Q E s:=by
 obtain⟨m,hn,hl⟩:=id I.loc;have hcls:(X.env.scope.kind==.class || (X.env.scope.kind==.module && X.env.locals != X.env.globals))=false:=by rw[I.ok.kind];rfl
 have hiσ:i<σ.length:=by rw[I.len];exact(B7.mp hi).1
 have cne:=I.cne;have tracked:∀{a:Addr}{h':Heap},(∃o,s.heap.get? a=some o/\H a=none)->Heap.SameBut a s.heap h'->HOk X.prog X.w H h':=λ{a h'} ha hs b ob e=>by
  obtain⟨_,_,hfree⟩:=ha;refine(I.hok b ob e).stay (λc w' hc q=>(hs.2 c ?_).trans q) (λ_ q=>q) λ_ _ q=>q;rintro rfl;rcases hc with rfl|hc
  ·rw[hfree]at e;cases e
  ·rw[hfree]at hc;cases hc
 rcases hx with hk|hk
 ·refine wpAny_storeName_local hk hn (λh' hn' hs=>?_) hcls;obtain⟨oL,_,_,hoL,_⟩:=id hn;refine h _ ⟨I.ok,I.os,I.bare,⟨λb o e n hb hx=>?_,λb o e n hb hx=>?_,I.base.free,λb o e hx=>?_,I.base.tups,I.base.frzs,I.base.tbls⟩,⟨_,hn',λj y v' e1 e2 e3=>?_⟩,λy c e=>?_,I.free,I.freeC,λp hp=>?_,tracked ⟨oL,hoL,I.free⟩ hs,by simpa using I.len⟩ ⟨_,hs,.inl rfl⟩
  ·exact(hs.2 b (F8 (F2 (D6 e) I.ok.above))).trans (I.base.keep b o e n hb hx)
  ·obtain⟨sl,e1⟩:=I.base.slot b o e n hb hx;exact⟨sl,(hs.2 b (F8 (F2 (D6 e) I.ok.above))).trans e1⟩
  ·obtain⟨o',e1⟩:=I.base.there b o e hx;exact⟨o',(hs.2 b (F8 (F2 (D6 e) I.ok.above))).trans e1⟩
  ·by_cases hj:j=i
   ·subst hj;rw[hi]at e1;cases e1;rw[List.getElem?_set_self hiσ]at e2;cases e2;exact⟨u,r,.inl ⟨hk,by simp⟩⟩
   ·rw[List.getElem?_set_ne (Z3 hj)]at e2;obtain⟨u',r',q⟩:=hl j y v' e1 e2 e3;refine⟨u',r',?_⟩;rcases q with ⟨k,e⟩|⟨k,c,e,z⟩
    ·refine .inl ⟨k,?_⟩;have:y≠x:=λe=>hj (Sl hN e1 (e▸hi));simp[this,e]
    ·exact .inr ⟨k,c,e,z.sameBut hs (cne y c e)⟩
  ·obtain⟨w',z⟩:=I.cell y c e;exact⟨w',z.sameBut hs (cne y c e)⟩
  ·obtain⟨e,n,ne,nf,d⟩:=I.pin p hp;exact⟨(hs.2 p.1 ne).trans e,n,ne,nf,d⟩
 ·have hfn:X.fn x=true:=by
   rcases hf with z|z
   ·exact z
   ·rw[z]at hk;cases hk
  obtain⟨c,hc⟩:=I.ok.has x (.inl hk);obtain⟨w',z⟩:=I.cell x c hc;refine wpAny_storeName_cell I.ok.kind hk hc z (λh' hc' hs=>?_);obtain⟨oc,hoc,hocd⟩:=id z;refine h {s with heap:=h'} ⟨I.ok,I.os,I.bare,⟨λb o e n hb hx=>?_,λb o e n hb hx=>?_,I.base.free,λb o e hx=>?_,I.base.tups,I.base.frzs,I.base.tbls⟩,⟨m,hn.sameBut hs (Z3 (cne x c hc)),λj y v' e1 e2 e3=>?_⟩,λy c' e=>?_,I.free,I.freeC,λp hp=>?_,tracked ⟨oc,hoc,I.freeC x c hc⟩ hs,by simpa using I.len⟩ ⟨c,hs,.inr hc⟩
  ·exact(hs.2 b (F8 (F2 (D6 e) (I.ok.cab x c hfn hc)))).trans (I.base.keep b o e n hb hx)
  ·obtain⟨sl,e1⟩:=I.base.slot b o e n hb hx;exact⟨sl,(hs.2 b (F8 (F2 (D6 e) (I.ok.cab x c hfn hc)))).trans e1⟩
  ·obtain⟨o',e1⟩:=I.base.there b o e hx;exact⟨o',(hs.2 b (F8 (F2 (D6 e) (I.ok.cab x c hfn hc)))).trans e1⟩
  ·by_cases hj:j=i
   ·subst hj;rw[hi]at e1;cases e1;rw[List.getElem?_set_self hiσ]at e2;cases e2;exact⟨u,r,.inr ⟨.inl hk,c,hc,hc'⟩⟩
   ·rw[List.getElem?_set_ne (Z3 hj)]at e2;obtain⟨u',r',q⟩:=hl j y v' e1 e2 e3;refine⟨u',r',?_⟩;rcases q with q|⟨k,c',e,z'⟩
    ·exact .inl q
    ·refine .inr ⟨k,c',e,z'.sameBut hs ?_⟩;rintro rfl;exact hj (Sl hN e1 (I.ok.inj _ _ _ e hc▸hi))
  ·by_cases hcc:c'=c
   ·subst hcc;exact⟨_,hc'⟩
   ·obtain⟨w2,z2⟩:=I.cell y c' e;exact⟨w2,z2.sameBut hs hcc⟩
  ·obtain⟨e,n,ne,nf,d⟩:=I.pin p hp;refine⟨(hs.2 p.1 ?_).trans e,n,ne,nf,d⟩;intro q;rw[q,hoc]at e;have q':oc=p.2:=Z5 e;exact d w' (by rw[<-q'];exact hocd)
theorem RL{M:Model}{A:Around}{E:Value->Shared->Prop}{i:Nat}{x:Str}{v:V}{u:Value}{Q:Unit->Shared->Prop}(I:Inv X pins σ H s)(hN:X.N.Nodup)(hi:X.N[i]?=some x)(hx:Loc X.env.scope x)(r:AW v u)
  (h:∀s',Inv X pins (σ.set i (some v)) H s'->Q () s') (hf:X.fn x=true\/X.env.scope.names.lookup x=some .local:=by first|exact .inl rfl|exact .inr rfl|assumption):wpAny M A (storeName X.env x u) Q E s :=
 PB I hN hi hx r (λs' I' _=>h s' I') hf
theorem Inv.call'{s':Shared}{ch:List Addr}(I:Inv X pins σ H s)(ho:s'.os=s.os)(u:Un (frs X.stack) ch H H' s.heap s'.heap)(hok:HOk X.prog X.w H' s'.heap)(hg:AllBare s'.gens)
  (hch:∀b∈ch,(b∈X.ex\/X.s₀.heap.objs.size<=b)/\b≠X.env.locals/\(∀x c,X.env.cells.lookup x=some c->c≠b)/\∀p∈X.pn++pins,p.1≠b):Inv X pins σ H' s':=by
 obtain⟨h',g',d',t',o'⟩:=s';have e:o'=s.os:=ho;subst e;exact I.call (g':=g') (t':=t') (d':=d') u hok hg hch
end
abbrev XK:=Value->Option Addr->Hp->Prop
abbrev St:=List (Option V)
abbrev VK:=V->Hp->Prop
abbrev TE:=St->Hp->VK->Prop
abbrev TT:=St->Hp->(Bool->Hp->Prop)->Prop
abbrev TA:=St->Hp->(List V->Hp->Prop)->Prop
structure Ml where
 nx:St->Hp->Prop
 rt:VK
 bk:St->Hp->Prop:=λ_ _=>False
 ct:St->Hp->Prop:=λ_ _=>False
abbrev TS:=Ml->St->Hp->Prop
def EP(X:Cx)(pins:List (Addr×Obj))(σ:St)(Q:VK)(u:Value)(s':Shared):Prop:=∃v H',Inv X pins σ H' s'/\AW v u/\Q v H'
def TP(X:Cx)(pins:List (Addr×Obj))(σ:St)(Q:Bool->Hp->Prop)(b:Bool)(s':Shared):Prop:=∃H',Inv X pins σ H' s'/\Q b H'
def AP(X:Cx)(pins:List (Addr×Obj))(σ:St)(Q:List V->Hp->Prop)(us:List Value)(s':Shared):Prop:=∃vs H',Inv X pins σ H' s'/\AN vs us/\Q vs H'
def SP(X:Cx)(pins:List (Addr×Obj))(D:Ml)(f:Flow)(s':Shared):Prop :=
 match f with
 |.next=>∃σ' H',Inv X pins σ' H' s'/\D.nx σ' H'
 |.brk=>∃σ' H',Inv X pins σ' H' s'/\D.bk σ' H'
 |.cont=>∃σ' H',Inv X pins σ' H' s'/\D.ct σ' H'
 |.ret u=>∃v σ' H',Inv X pins σ' H' s'/\AW v u/\D.rt v H'
def PE(X:Cx)(e:Expr)(t:TE):Prop :=
 ∀(pins:List (Addr×Obj))(s:Shared)(σ:St)(H:Hp)(Q:VK),Inv X pins σ H s->t σ H Q->wpAny (model X.prog X.w) X.A (eval e X.env) (EP X pins σ Q) X.xe s
def PT(X:Cx)(e:Expr)(t:TT):Prop :=
 ∀(pins:List (Addr×Obj))(s:Shared)(σ:St)(H:Hp)(Q:Bool->Hp->Prop),Inv X pins σ H s->t σ H Q->wpAny (model X.prog X.w) X.A (isTrue e X.env (eval e X.env)) (TP X pins σ Q) X.xe s
def PW(X:Cx)(e:Expr)(t:TT):Prop :=
 ∀(whole:Sem Value)(pins:List (Addr×Obj))(s:Shared)(σ:St)(H:Hp)(Q:Bool->Hp->Prop),Inv X pins σ H s->t σ H Q->wpAny (model X.prog X.w) X.A (isTrue e X.env whole) (TP X pins σ Q) X.xe s
theorem PW.pt{X:Cx}{e:Expr}{t:TT}(h:PW X e t):PT X e t:=h _
def PA(X:Cx)(es:List Expr)(t:TA):Prop :=
 ∀(pos:Pos)(pins:List (Addr×Obj))(s:Shared)(σ:St)(H:Hp)(Q:List V->Hp->Prop),Inv X pins σ H s->t σ H Q->wpAny (model X.prog X.w) X.A (spliced (backTo pos (starEach es X.env))) (AP X pins σ Q) X.xe s
def PS(X:Cx)(st:Stmt)(t:TS):Prop :=
 ∀(pins:List (Addr×Obj))(s:Shared)(σ:St)(H:Hp)(D:Ml),Inv X pins σ H s->t D σ H->wpAny (model X.prog X.w) X.A (exec st X.env) (SP X pins D) X.xe s
def PSs(X:Cx)(st:List Stmt)(t:TS):Prop :=
 ∀(pins:List (Addr×Obj))(s:Shared)(σ:St)(H:Hp)(D:Ml),Inv X pins σ H s->t D σ H->wpAny (model X.prog X.w) X.A (execs st X.env) (SP X pins D) X.xe s
theorem thn{α:Type}{t:Sem α}{Q Q':α->Shared->Prop}{M:Model}{A:Around}{E:Value->Shared->Prop}{s:Shared}(h:wpAny M A t Q E s)(hQ:∀a s,Q a s->Q' a s):wpAny M A t Q' E s:=K7 h hQ λ_ _ x=>x
section
variable{X:Cx}
def GC(i:Nat):TE:=fun σ H Q=>∃v,σ[i]?=some (some v)/\Q v H
def tC(v:V):TE:=λ_ H Q=>Q v H
theorem pe_var{i:Nat}{x:Str}{pos:Pos}(hN:X.N[i]?=some x)(hv:Vis X.env.scope x)(hd:(x==("__debug__" : Str))=false:=by decide)(hcd:(x==("__classdict__" : Str))=false:=by decide):PE X (.Name x pos) (GC i):=by
 intro pins s σ H Q I h;obtain⟨v,e,h⟩:=h;obtain⟨m,hn,hl⟩:=I.loc;obtain⟨u,r,l⟩:=hl i x v hN e hv;have fin:EP X pins σ Q u s:=⟨v,H,I,r,h⟩
 rcases l with ⟨hk,hm⟩|⟨hk,c,hc,hcell⟩
 ·exact wpAny_Name (wpAny_loadName_local I.ok.kind hk hn hm fin) hd
 ·rcases hk with hk|hk
  ·exact wpAny_Name (wpAny_loadName_cell I.ok.kind hk hc hcell fin) hd
  ·exact wpAny_Name (wpAny_loadName_free I.ok.kind hk hc hcell fin hcd) hd
theorem Ae{i j pos}:PE X (.Constant (.int i) j pos) (tC (.int i)):=λ_ _ _ H _ I h=>wpAny_Constant_int ⟨.int i,H,I.tok _,⟨_,rfl⟩,h⟩
theorem Sj{b j pos}:PE X (.Constant (.bool b) j pos) (tC (.bl b)):=λ_ _ _ H _ I h=>Constant_bool ⟨.bl b,H,I,rfl,h⟩
theorem Dh{j pos}:PE X (.Constant .none j pos) (tC .non):=λ_ _ _ H _ I h=>Constant_none ⟨.non,H,I,rfl,h⟩
theorem EM{x j pos}:PE X (.Constant (.str x) j pos) (tC (.str x)):=λ_ _ _ H _ I h=>Calls.Constant_str ⟨.str x,H,I.tok _,⟨_,rfl⟩,h⟩
def Gl(X:Cx)(x:Str):Prop:=X.env.kindOf x=some .globalImplicit
theorem NJ{E:Value->Shared->Prop}{pins:List (Addr×Obj)}{s:Shared}{σ:St}{H:Hp}{x:Str}{u:Value}{pos:Pos}{Q:Value->Shared->Prop}(I:Inv X pins σ H s)(hg:Gl X x)(hm:X.mg x=some u)(h:Q u s)
  (hd:(x==("__debug__" : Str))=false:=by decide):wpAny (model X.prog X.w) X.A (eval (.Name x pos) X.env) Q E s :=
 Calls.Name_function_global I.ok.kind hg (Calls.loadGlobal_global (by rw[I.ok.glob];exact I.mod.glob.keeps I.bk) hm h) hd
theorem Jr{E:Value->Shared->Prop}{pins:List (Addr×Obj)}{s:Shared}{σ:St}{H:Hp}{x:Str}{u:Value}{pos:Pos}{Q:Value->Shared->Prop}(I:Inv X pins σ H s)(hg:Gl X x)(hm:X.mg x=none)(hv:bootBuiltins x=some u)(h:Q u s)
  (hn:x≠"__name__" := by decide) (hd:(x==("__debug__" : Str))=false:=by decide):wpAny (model X.prog X.w) X.A (eval (.Name x pos) X.env) Q E s:=by
 obtain⟨mb,h1,h2⟩:=I.mod.blt;exact Calls.Name_function_global I.ok.kind hg (Calls.loadGlobal_builtin (by rw[I.ok.glob];exact I.mod.glob.keeps I.bk) hm (by rw[I.ok.blt];exact h1.keeps I.bk) ((h2 x hn).trans hv) h) hd
theorem QL{x:Str}{v:V}{u:Value}{pos:Pos}(hg:Gl X x)(hm:X.mg x=some u)(r:AW v u)(hd:(x==("__debug__" : Str))=false:=by decide):PE X (.Name x pos) (tC v) :=
 λ_ _ _ H _ I h=>NJ I hg hm ⟨v,H,I,r,h⟩ hd
theorem Jz{x:Str}{v:V}{u:Value}{pos:Pos}(hg:Gl X x)(hm:X.mg x=none)(hv:bootBuiltins x=some u)(r:AW v u)(hn:x≠"__name__" := by decide)(hd:(x==("__debug__" : Str))=false:=by decide):PE X (.Name x pos) (tC v) :=
 λ_ _ _ H _ I h=>Jr I hg hm hv ⟨v,H,I,r,h⟩ hn hd
variable{a b:Expr}{ta tb:TE}{pos:Pos}
def PC(X:Cx)(op:CmpOp)(a b:Expr)(t:TE):Prop :=
 ∀(pins:List (Addr×Obj))(s:Shared)(σ:St)(H:Hp)(Q:VK),Inv X pins σ H s->t σ H Q ->
  wpAny (model X.prog X.w) X.A (eval a X.env) (λv s₁=>wpAny (model X.prog X.w) X.A (eval b X.env) (λu s₂=>wpAny (model X.prog X.w) X.A (compareOp op v u) (EP X pins σ Q) X.xe s₂) X.xe s₁) X.xe s
def tB(t:TE):TT:=fun σ H Q=>t σ H λx H1=>∃c,x=.bl c/\Q c H1
theorem pt_cmp{op:CmpOp}{t:TE}(h:PC X op a b t)(h1:behindInMarks op b=false:=by first|exact nobehind _ A4 A4|rfl):PT X (.Compare a [op] [b] pos) (tB t):=by
 intro pins s σ H Q I hw;refine wpAny_isTrue_Compare1 (thn (h pins s σ H _ I hw) λv s1 h1=>thn h1 λu s2 h2=>thn h2 λc s3 ⟨x,H1,I1,r1,q1⟩=>?_) h1;obtain⟨d,rfl,q⟩:=q1;cases r1;exact K2 ⟨H1,I1,q⟩
theorem Dw{e:Expr}{t:TE}(h:PE X e t)(he:∀whole,isTrue e X.env whole=(do let v <-whole;standAt e.pos;holding [v] (truthy v)):=by intro _;rfl):PT X e (tB t):=by
 intro pins s σ H Q I hw;refine isTrue_plain (thn (h pins s σ H _ I hw) λv s1 ⟨x,H1,I1,r1,q1⟩=>?_) (he _);obtain⟨d,rfl,q⟩:=q1;cases r1;exact K2 ⟨H1,I1,q⟩
variable{tA tB':TT}{rest:List Expr}
def tAnd(t u:TT):TT:=fun σ H Q=>t σ H λc H1=>if c=true then u σ H1 Q else Q false H1
def tOr(t u:TT):TT:=fun σ H Q=>t σ H λc H1=>if c=true then Q true H1 else u σ H1 Q
def tNot(t:TT):TT:=fun σ H Q=>t σ H λc H1=>Q (!c) H1
theorem Jy(ha:PT X a tA):PW X (.BoolOp .And [a] pos) tA:=by
 intro wh pins s σ H Q I h;refine isTrue_and (thn (ha pins s σ H Q I h) λc s1 e=>?_);cases c with
 |true=>exact isTrue_and_nil e
 |false=>exact e
theorem Lj(ha:PT X a tA):PW X (.BoolOp .Or [a] pos) tA:=by
 intro wh pins s σ H Q I h;refine isTrue_or (thn (ha pins s σ H Q I h) λc s1 e=>?_);cases c with
 |false=>exact isTrue_or_nil e
 |true=>exact e
theorem MB(ha:PT X a tA)(hb:PW X (.BoolOp .And (b::rest) pos) tB'):PW X (.BoolOp .And (a::b::rest) pos) (tAnd tA tB'):=by
 intro wh pins s σ H Q I h;refine isTrue_and (thn (ha pins s σ H _ I h) λc s1 ⟨H1,I1,q1⟩=>?_);cases c with
 |true=>exact hb wh pins s1 σ H1 Q I1 q1
 |false=>exact⟨H1,I1,q1⟩
theorem MZ(ha:PT X a tA)(hb:PW X (.BoolOp .Or (b::rest) pos) tB'):PW X (.BoolOp .Or (a::b::rest) pos) (tOr tA tB'):=by
 intro wh pins s σ H Q I h;refine isTrue_or (thn (ha pins s σ H _ I h) λc s1 ⟨H1,I1,q1⟩=>?_);cases c with
 |true=>exact⟨H1,I1,q1⟩
 |false=>exact hb wh pins s1 σ H1 Q I1 q1
theorem El(ha:PT X a tA):PT X (.UnaryOp .Not a pos) (tNot tA):=by
 intro pins s σ H Q I h;exact isTrue_not (ha pins s σ H (λc H1=>Q (!c) H1) I h)
def tAndV(ta tb:TE):TE:=fun σ H Q=>ta σ H λx H1=>∃c,x=.bl c/\if c=true then tb σ H1 Q else Q (.bl false) H1
def tOrV(ta tb:TE):TE:=fun σ H Q=>ta σ H λx H1=>∃c,x=.bl c/\if c=true then Q (.bl true) H1 else tb σ H1 Q
def tNotV(ta:TE):TE:=fun σ H Q=>ta σ H λx H1=>∃c,x=.bl c/\Q (.bl (!c)) H1
theorem Lk{op}{t:TE}(h:PE X a t):PE X (.BoolOp op [a] pos) t:=λpins s σ H Q I hw=>BoolOp_one (h pins s σ H Q I hw)
theorem Jb(ha:PE X a ta)(hb:PE X (.BoolOp .And (b::rest) pos) tb):PE X (.BoolOp .And (a::b::rest) pos) (tAndV ta tb):=by
 intro pins s σ H Q I h;refine BoolOp_and (thn (ha pins s σ H _ I h) λv s1 ⟨x,H1,I1,r1,q1⟩=>?_);obtain⟨c,rfl,q1⟩:=q1;cases r1;refine K2 ?_;cases c with
 |true=>exact hb pins s1 σ H1 Q I1 q1
 |false=>exact⟨.bl false,H1,I1,rfl,q1⟩
theorem pe_or(ha:PE X a ta)(hb:PE X (.BoolOp .Or (b::rest) pos) tb):PE X (.BoolOp .Or (a::b::rest) pos) (tOrV ta tb):=by
 intro pins s σ H Q I h;refine BoolOp_or (thn (ha pins s σ H _ I h) λv s1 ⟨x,H1,I1,r1,q1⟩=>?_);obtain⟨c,rfl,q1⟩:=q1;cases r1;refine K2 ?_;cases c with
 |false=>exact hb pins s1 σ H1 Q I1 q1
 |true=>exact⟨.bl true,H1,I1,rfl,q1⟩
theorem pe_not(ha:PE X a ta):PE X (.UnaryOp .Not a pos) (tNotV ta):=by
 intro pins s σ H Q I h;refine UnaryOp_ (thn (ha pins s σ H _ I h) λv s1 ⟨x,H1,I1,r1,q1⟩=>?_);obtain⟨c,rfl,q1⟩:=q1;cases r1;exact not_of (K2 ⟨.bl (!c),H1,I1,rfl,q1⟩)
end
def SqL(K:PySem.W.Frag)(H:Hp)(a:Addr)(xs:List V):Prop :=
 Rd H a (.lst xs) \/
  ∃(o:Obj)(its:Array Value)(n:Nat),K.lookup a=some o/\o.cls=.type "list" /\ o.dict=none/\o.data=.seq its n/\its.size<=sizeLine/\AN xs its.toList
def SqT(K:PySem.W.Frag)(H:Hp)(a:Addr)(xs:List V):Prop :=
 Rd H a (.tup xs) \/
  ∃(o:Obj)(its:Array Value)(n:Nat),K.lookup a=some o/\o.cls=.type "tuple" /\ o.data=.seq its n/\its.size<=sizeLine/\AN xs its.toList
def absV:Value->Option V
 |.none=>some .non
 |.bool b=>some (.bl b)
 |.int i _=>some (.int i)
 |.str x _=>some (.str x)
 |.bytes b _=>some (.byt b)
 |.float b _=>some (.flt b)
 |.ref a=>some (.ref a)
 |.type n=>some (.ty n)
 |_=>none
theorem AW.abs{x:V}{u:Value}(r:AW x u):absV u=some x:=by
 cases x with
 |non=>cases r;rfl
 |bl _=>cases r;rfl
 |int _=>obtain⟨t,rfl⟩:=r;rfl
 |str _=>obtain⟨t,rfl⟩:=r;rfl
 |byt _=>obtain⟨t,rfl⟩:=r;rfl
 |flt _=>obtain⟨t,rfl⟩:=r;rfl
 |ref _=>cases r;rfl
 |ty _=>cases r;rfl
theorem AW.inj{x y:V}{u:Value}(r:AW x u)(q:AW y u):x=y:=Z5 (r.abs.symm.trans q.abs)
theorem AN.inj:∀{xs ys:List V}{us:List Value},AN xs us->AN ys us->xs=ys
 |_,_,_,.nil,.nil=>rfl
 |_,_,_,.cons r t,.cons r' t'=>by rw[r.inj r',AN.inj t t']
section
variable{X:Cx}{pins:List (Addr×Obj)}{σ:St}{H:Hp}{s:Shared}{a:Addr}{xs ys:List V}
theorem SqL.of{K:PySem.W.Frag}(h:H a=some (.lst xs)):SqL K H a xs:=.inl (.inl h)
theorem SqT.of{K:PySem.W.Frag}(h:H a=some (.tup xs)):SqT K H a xs:=.inl (.inl h)
theorem Inv.list(I:Inv X pins σ H s)(h:SqL X.K H a xs):∃its:List Value,AN xs its/\PlainL s.heap a its.toArray/\xs.length<=sizeLine:=by
 rcases h with h|⟨o,its,n,hk,hc,hd,hs,hz,r⟩
 ·obtain⟨z,its,n,r,e⟩:=h.ok I.hok;exact⟨its,r,⟨_,n,e,rfl,rfl,rfl⟩,z⟩
 ·refine⟨its.toList,r,⟨o,n,I.kIn a o hk,hc,hd,by simpa using hs⟩,?_⟩;have e:=r.length;simp only[T0]at e;lia
theorem Inv.tuple(I:Inv X pins σ H s)(h:SqT X.K H a xs):∃its:List Value,AN xs its/\IsTup s.heap a its.toArray/\xs.length<=sizeLine:=by
 rcases h with h|⟨o,its,n,hk,hc,hs,hz,r⟩
 ·obtain⟨z,its,r,p⟩:=h.ok I.hok;exact⟨its,r,p,z⟩
 ·refine⟨its.toList,r,⟨o,I.kIn a o hk,hc,n,by simpa using hs⟩,?_⟩;have e:=r.length;simp only[T0]at e;lia
theorem Inv.list_inj(I:Inv X pins σ H s)(h:SqL X.K H a xs)(h':SqL X.K H a ys):xs=ys:=by
 obtain⟨its,r,⟨o,n,e,_,_,d⟩,_⟩:=I.list h;obtain⟨its',r',⟨o',n',e',_,_,d'⟩,_⟩:=I.list h';rw[e]at e';cases e';rw[d]at d';injection d' with d1 _
 have:its=its':=by simpa using X9 Array.toList d1
 subst this;exact r.inj r'
theorem Inv.tuple_inj(I:Inv X pins σ H s)(h:SqT X.K H a xs)(h':SqT X.K H a ys):xs=ys:=by
 obtain⟨its,r,⟨o,e,_,n,d⟩,_⟩:=I.tuple h;obtain⟨its',r',⟨o',e',_,n',d'⟩,_⟩:=I.tuple h';rw[e]at e';cases e';rw[d]at d';injection d' with d1 _
 have:its=its':=by simpa using X9 Array.toList d1
 subst this;exact r.inj r'
end
abbrev Cx.wish(X:Cx)(E:Value->Shared->Prop):Cx:={X with xe:=E}
abbrev Cx.nox(X:Cx):Cx:=X.wish λ_ _=>False
theorem Cx.Ok.wish{X:Cx}(ok:X.Ok)(E:Value->Shared->Prop):(X.wish E).Ok :=
 ⟨ok.mod,ok.kind,ok.glob,ok.blt,ok.above,ok.inj,ok.has,ok.cab,ok.hd,ok.frames,ok.stk,ok.exf,ok.bs,ok.bsz,ok.noex,ok.exfs,ok.funs,ok.frf⟩
theorem Cx.Ok.unwish{X:Cx}{E:Value->Shared->Prop}(ok:(X.wish E).Ok):X.Ok :=
 ⟨ok.mod,ok.kind,ok.glob,ok.blt,ok.above,ok.inj,ok.has,ok.cab,ok.hd,ok.frames,ok.stk,ok.exf,ok.bs,ok.bsz,ok.noex,ok.exfs,ok.funs,ok.frf⟩
section
variable{X:Cx}{pins:List (Addr×Obj)}{σ:St}{H:Hp}{s:Shared}{E:Value->Shared->Prop}
theorem Inv.wish(I:Inv X pins σ H s)(E:Value->Shared->Prop):Inv (X.wish E) pins σ H s:=⟨I.ok.wish E,I.os,I.bare,I.base,I.loc,I.cell,I.free,I.freeC,I.pin,I.hok,I.len⟩
theorem Inv.unwish(I:Inv (X.wish E) pins σ H s):Inv X pins σ H s:=⟨I.ok.unwish,I.os,I.bare,I.base,I.loc,I.cell,I.free,I.freeC,I.pin,I.hok,I.len⟩
theorem SP.unwish{D:Ml}{f:Flow}{s':Shared}(h:SP (X.wish E) pins D f s'):SP X pins D f s':=by
 cases f with
 |next=>obtain⟨σ',H',I,q⟩:=h;exact⟨σ',H',I.unwish,q⟩
 |brk=>obtain⟨σ',H',I,q⟩:=h;exact⟨σ',H',I.unwish,q⟩
 |cont=>obtain⟨σ',H',I,q⟩:=h;exact⟨σ',H',I.unwish,q⟩
 |ret u=>obtain⟨v,σ',H',I,r,q⟩:=h;exact⟨v,σ',H',I.unwish,r,q⟩
theorem PSs.nox{st:List Stmt}{t:TS}(h:PSs X.nox st t):PSs X st t:=λpins s σ H D I hw =>
 K7 (h pins s σ H D (I.wish _) hw) (λ_ _ q=>q.unwish) λ_ _ z=>False.elim z
end
section
variable{X:Cx}{st:Stmt}{rest:List Stmt}{t u:TS}{e:Expr}{te:TE}{pos:Pos}
def tNext:TS:=λD σ H=>D.nx σ H
def tSeq(t u:TS):TS:=λD σ H=>t {D with nx:=u D} σ H
theorem AC:PSs X [] tNext:=λ_ _ σ H _ I h=>A4a ⟨σ,H,I,h⟩
theorem Ac(h1:PS X st t)(h2:PSs X rest u):PSs X (st::rest) (tSeq t u):=by
 intro pins s σ H D I h;refine wpAny_execs_cons (thn (h1 pins s σ H {D with nx:=u D} I h) λf s1 q=>?_);cases f with
 |next =>
  obtain⟨σ',H',I',q⟩:=q;exact h2 pins s1 σ' H' D I' q
 |ret v=>exact q
 |brk=>exact q
 |cont=>exact q
theorem Ag(h1:PS X st t):PSs X [st] t:=by
 intro pins s σ H D I h;refine wpAny_execs_cons (thn (h1 pins s σ H D I h) λf s1 q=>?_);cases f with
 |next=>exact A4a q
 |ret v=>exact q
 |brk=>exact q
 |cont=>exact q
theorem Inv.quiet{pins:List (Addr×Obj)}{σ:St}{H:Hp}{s:Shared}(I:Inv X pins σ H s):interactive X.env=false:=by simp[interactive,I.ok.kind]
def tDrop(te:TE):TS:=λD σ H=>te σ H λ_ H1=>D.nx σ H1
theorem BS(he:PE X e te)(hs:swapsWith e none pos.line X.env=pure false:=by rfl):PS X (.Expr e pos) (tDrop te):=by
 intro pins s σ H D I h;exact wpAny_Expr_any (thn (he pins s σ H _ I h) λv s1 ⟨x,H1,I1,r1,q1⟩=>⟨σ,H1,I1,q1⟩) I.quiet hs
def tRet(te:TE):TS:=λD σ H=>te σ H D.rt
theorem Av(he:PE X e te):PS X (.Return (some e) pos) (tRet te):=by
 intro pins s σ H D I h;exact wpAny_Return_some (thn (he pins s σ H _ I h) λv s1 ⟨x,H1,I1,r1,q1⟩=>⟨x,σ,H1,I1,r1,q1⟩)
def tIfS(c:TT)(t u:TS):TS:=λD σ H=>c σ H λb H1=>if b=true then t D σ H1 else u D σ H1
theorem AM{c:Expr}{a b:List Stmt}{tc:TT}(hc:PT X c tc)(ha:PSs X a t)(hb:PSs X b u):PS X (.If c a b pos) (tIfS tc t u):=by
 intro pins s σ H D I h;refine wpAny_If (thn (hc pins s σ H _ I h) λd s1 ⟨H1,I1,q1⟩=>?_);cases d with
 |true=>exact ha pins s1 σ H1 D I1 q1
 |false=>exact hb pins s1 σ H1 D I1 q1
def tNever:TS:=λ_ _ _=>False
theorem Bm:PS X st tNever:=λ_ _ _ _ _ _ h=>h.elim
end
abbrev TG:=V->St->Hp->(St->Hp->Prop)->Prop
abbrev TGs:=List V->St->Hp->(St->Hp->Prop)->Prop
def PG(X:Cx)(target:Expr)(t:TG):Prop :=
 ∀(pins:List (Addr×Obj))(s:Shared)(σ:St)(H:Hp)(v:V)(u:Value)(Q:St->Hp->Prop),Inv X pins σ H s->AW v u->t v σ H Q ->
  wpAny (model X.prog X.w) X.A (assign target X.env u) (λ_ s'=>∃σ' H',Inv X pins σ' H' s'/\Q σ' H') X.xe s
def PGs(X:Cx)(ts:List Expr)(t:TGs):Prop :=
 ∀(pins:List (Addr×Obj))(s:Shared)(σ:St)(H:Hp)(vs:List V)(us:List Value)(Q:St->Hp->Prop),Inv X pins σ H s->AN vs us->t vs σ H Q ->
  wpAny (model X.prog X.w) X.A (assignInOrder ((assignEach ts X.env).map (·.2)) us) (λ_ s'=>∃σ' H',Inv X pins σ' H' s'/\Q σ' H') X.xe s
abbrev TSet:=V->V->V->Hp->(Hp->Prop)->Prop
def PSet(X:Cx)(t:TSet):Prop :=
 ∀(pins:List (Addr×Obj))(s:Shared)(σ:St)(H:Hp)(o i v:V)(ov iv u:Value)(Q:Hp->Prop),Inv X pins σ H s->AW o ov->AW i iv->AW v u->t o i v H Q ->
  wpAny (model X.prog X.w) X.A (setItem ov iv u) (λ_ s'=>∃H',Inv X pins σ H' s'/\Q H') X.xe s
section
variable{X:Cx}{pos:Pos}
def OO(i:Nat):TG:=λv σ H Q=>Q (σ.set i (some v)) H
theorem Bv{i:Nat}{x:Str}(hN:X.N.Nodup)(hi:X.N[i]?=some x)(hx:Loc X.env.scope x)(hf:X.fn x=true\/X.env.scope.names.lookup x=some .local:=by first|exact .inl rfl|exact .inr rfl|assumption):PG X (.Name x pos) (OO i):=by
 intro pins s σ H v u Q I r h;exact wpAny_assign_Name (RL I hN hi hx r (λs' I'=>⟨_,H,I',h⟩) hf)
def gNil:TGs:=λvs σ H Q=>vs=[]/\Q σ H
def SN(t:TG)(u:TGs):TGs:=λvs σ H Q=>∃v r,vs=v::r/\t v σ H fun σ' H'=>u r σ' H' Q
theorem LK:PGs X [] gNil:=by
 intro pins s σ H vs us Q I r h;obtain⟨e,h⟩:=h;subst e;cases r;exact assignInOrder_nil ⟨σ,H,I,h⟩
theorem Dl{e:Expr}{es:List Expr}{t:TG}{u:TGs}(h1:PG X e t)(h2:PGs X es u)
  (hs:(assignEach (e::es) X.env).map (·.2)=assign e X.env::(assignEach es X.env).map (·.2):=by rfl):PGs X (e::es) (SN t u):=by
 intro pins s σ H vs us Q I r h;obtain⟨v,vr,e1,h⟩:=h;subst e1;cases r with
 |cons r rr =>
  rw[hs];refine assignInOrder_cons (thn (h1 pins s σ H _ _ _ I r h) λ_ s1 ⟨σ1,H1,I1,q1⟩=>?_);exact h2 pins s1 σ1 H1 _ _ Q I1 rr q1
def gTup(K:PySem.W.Frag)(n:Nat)(t:TGs):TG:=λv σ H Q=>∃a xs,v=.ref a/\SqT K H a xs/\xs.length=n/\t xs σ H Q
theorem Oq{es:List Expr}{k:Nat}{t:TGs}{n:Nat}(hc:X.calm=true)(h:PGs X es t)
  (hn:(assignEach es X.env).length=n:=by rfl) (hst:(assignEach es X.env).findIdx? (·.1)=none:=by rfl):PG X (.Tuple es k pos) (gTup X.K n t):=by
 intro pins s σ H v u Q I r hw;obtain⟨a,xs,e1,hq,hl,hw⟩:=hw;subst e1;cases r;obtain⟨its,rv,ht,hz⟩:=I.tuple hq;refine assign_Tuple_tuple (I.ok.hd hc) ht (by simp[hn,<-hl,rv.length]) hst λh' hx=>?_;have I1:Inv X pins σ H {s with heap:=h'}:=I.kept (t':=s.toks) λb o e=>hx b o (F8 (D6 e)) e;exact h pins _ σ H xs _ Q I1 (by simpa using rv) hw
def gSub(to ti:TE)(t:TSet):TG:=λv σ H Q=>to σ H λo H1=>ti σ H1 λi H2=>t o i v H2 λH3=>Q σ H3
theorem pg_sub{o i:Expr}{to ti:TE}{t:TSet}(ho:PE X o to)(hi:PE X i ti)(hs:PSet X t)
  (ha:∀v,assign (.Subscript o i pos) X.env v=(do
   let ov <-holding [v] (eval o X.env);let iv <-holding [v,ov] (eval i X.env)
   standAt pos
   holding [v,ov,iv] (setItem ov iv v)
   release [v,ov,iv] []):=by intro _;rfl):PG X (.Subscript o i pos) (gSub to ti t):=by
 intro pins s σ H v u Q I r h;rw[ha];refine W9 (A1b (thn (ho pins s σ H _ I h) λov s1 ⟨x,H1,I1,r1,q1⟩=>?_));refine W9 (A1b (thn (hi pins s1 σ H1 _ I1 q1) λiv s2 ⟨y,H2,I2,r2,q2⟩=>?_));refine W9 (A4g (W9 (A1b (thn (hs pins s2 σ H2 x y v ov iv u _ I2 r1 r2 r q2) λ_ s3 ⟨H3,I3,q3⟩=>?_))));exact wpAny_release ⟨σ,H3,I3,q3⟩
def tAsg(te:TE)(g:TG):TS:=λD σ H=>te σ H λx H1=>g x σ H1 D.nx
theorem ps_asg{tg e:Expr}{te:TE}{g:TG}(he:PE X e te)(hg:PG X tg g)(hs:swapsWithSole [tg] e pos.line X.env=pure false:=by rfl)(hw:swappedStores [tg] e X.env=pure none:=by rfl)
  (h1:(assignEach [tg] X.env).map (·.2)=[assign tg X.env]:=by rfl):PS X (.Assign [tg] e pos) (tAsg te g):=by
 intro pins s σ H D I h;refine wpAny_Assign_stores (thn (he pins s σ H _ I h) λv s1 ⟨x,H1,I1,r1,q1⟩=>?_) hs hw;rw[h1];exact thn (hg pins s1 σ H1 x v _ I1 r1 q1) λ_ s2 q=>q
theorem Aq{i:Nat}{x:Str}{e:Expr}{te:TE}{pos':Pos}(hN:X.N.Nodup)(hi:X.N[i]?=some x)(hx:Loc X.env.scope x)(he:PE X e te)(hs:swapsWith e (some (.Name x pos')) pos.line X.env=pure false:=by rfl)(hf:X.fn x=true\/X.env.scope.names.lookup x=some .local:=by first|exact .inl rfl|exact .inr rfl|assumption) :
  PS X (.Assign [.Name x pos'] e pos) (tAsg te (OO i)):=by
 intro pins s σ H D I h;refine wpAny_Assign_Name (thn (he pins s σ H _ I h) λv s1 ⟨y,H1,I1,r1,q1⟩=>?_) hs;exact RL I1 hN hi hx r1 (λs2 I2=>⟨_,H1,I2,q1⟩) hf
end
section
variable{X:Cx}{pos:Pos}
def tWhile(c:TT)(tb:TS):TS:=λD σ H=>∃W:Nat->St->Hp->Prop,(∃m,W m σ H)/\∀m σ H,W m σ H ->
 c σ H λb H1=>if b=true then ∃N:St->Hp->Prop,(∀σ' H',N σ' H'->∃m',m'<m/\W m' σ' H')/\tb {D with nx:=N,ct:=N,bk:=D.nx} σ H1 else D.nx σ H1
theorem IZ{c:Expr}{body:List Stmt}{tc:TT}{tb:TS}(hp:PassesOwn (model X.prog X.w) X.A X.env X.xe)(hc:PT X c tc)(hb:PSs X body tb):PS X (.While c body [] pos) (tWhile tc tb):=by
 intro pins s σ H D I h;obtain⟨W,⟨m0,w0⟩,turn⟩:=h;refine wpAny_While (codeAny_whileLoop (λn s'=>∃σ' H',Inv X pins σ' H' s'/\W n σ' H') ?_ m0 ⟨σ,H,I,w0⟩);rintro n s1 ⟨σ1,H1,I1,w1⟩;refine A0h hp (thn (hc pins s1 σ1 H1 _ I1 (turn n σ1 H1 w1)) λb s2 ⟨H2,I2,q2⟩=>?_);cases b with
 |true =>
  obtain⟨N,hN,q2⟩:=q2;rw[Y7 rfl];refine A0h hp (thn (hb pins s2 σ1 H2 _ I2 q2) λf s3 q3=>?_);cases f with
  |next =>
   obtain⟨σ3,H3,I3,n3⟩:=q3;obtain⟨m',hm,w3⟩:=hN σ3 H3 n3;exact⟨m',hm,σ3,H3,I3,w3⟩
  |cont =>
   obtain⟨σ3,H3,I3,n3⟩:=q3;obtain⟨m',hm,w3⟩:=hN σ3 H3 n3;exact⟨m',hm,σ3,H3,I3,w3⟩
  |brk=>exact q3
  |ret v=>exact q3
 |false =>
  rw[Y4 C8];exact A4a ⟨σ1,H2,I2,q2⟩
end
structure It where
 go:Nat->Hp->Prop
 yld:Nat->Hp->V->Hp->Prop
 stop:Nat->Hp->Prop
def Dq(X:Cx)(pins:List (Addr×Obj))(H:Hp)(b:Addr):Prop :=
 H b=none/\b≠X.env.locals/\b∉X.fs/\(b∈X.ex\/X.s₀.heap.objs.size<=b)/\(∀x c,X.env.cells.lookup x=some c->c≠b)/\∀p∈X.pn++pins,p.1≠b
theorem Inv.fpOk{X:Cx}{pins:List (Addr×Obj)}{σ:St}{H H':Hp}{s:Shared}{b:Addr}(I:Inv X pins σ H s)(hb:s.heap.objs.size<=b)(hn:H' b=none):Dq X pins H' b:=by
 refine⟨hn,T1 (F2 I.lt hb),I.nofs hb,.inr (C7 I.sz hb),λx c e z=>?_,λp hp z=>?_⟩
 ·obtain⟨v,q⟩:=I.cell x c e;exact absurd (F2 q.lt (by rw[z];exact hb)) (O2 _)
 ·exact absurd (F2 (D6 (I.pin p hp).1) (by rw[z];exact hb)) (O2 _)
structure Pq(P:Program)(w:World)(K:PySem.W.Frag)(tg:Expr)(J:It)(fp:List Addr)(it:Addr)(tn:Nat->Heap->Prop):Prop where
 mem:it∈fp
 obj:∀i h,tn i h->∀b∈fp,∃o,h.get? b=some o/\∀v,o.data≠.cell v
 keep:∀i h h',tn i h->(∀b∈fp,∀o,h.get? b=some o->h'.get? b=some o)->tn i h'
 item:∀(X:Cx),X.prog=P->X.w=w->X.K=K->X.calm=true->∀(i:Nat)(pins:List (Addr×Obj))(s:Shared)(σ:St)(H:Hp)(E:Value->Shared->Prop),Inv X pins σ H s->(∀b∈fp,Dq X pins H b)->tn i s.heap->J.go i H ->
  wpAny (model P w) X.A (pyNext (.ref it)) (λr s1=>∃u,r=some u /\
   wpAny (model P w) X.A (letOwnedTupleGo tg (.ref it) u) (λ_ s2=>∃x H',Inv X pins σ H' s2/\AW x u/\J.yld i H x H'/\tn (i+1) s2.heap/\∀b∈fp,H' b=none) E s1) E s
 done:∀(X:Cx),X.prog=P->X.w=w->X.K=K->X.calm=true->∀(i:Nat)(pins:List (Addr×Obj))(s:Shared)(σ:St)(H:Hp)(E:Value->Shared->Prop),Inv X pins σ H s->(∀b∈fp,Dq X pins H b)->tn i s.heap->J.stop i H ->
  wpAny (model P w) X.A (pyNext (.ref it)) (λr s1=>r=none/\Inv X pins σ H s1) E s
 self:∀(A:Around)(i:Nat)(s:Shared)(Q:Value->Shared->Prop)(E:Value->Shared->Prop),tn i s.heap->Q (.ref it) s->wpAny (model P w) A (pyIter (.ref it)) Q E s
abbrev TI:=St->Hp->(It->Hp->Prop)->Prop
def PIE(X:Cx)(pins:List (Addr×Obj))(σ:St)(tg:Expr)(R:It->Hp->Prop)(itv:Value)(s2:Shared):Prop :=
 ∃(it:Addr)(fp:List Addr)(tn:Nat->Heap->Prop)(J:It)(H':Hp),itv=.ref it/\Inv X pins σ H' s2/\Pq X.prog X.w X.K tg J fp it tn/\tn 0 s2.heap/\(∀b∈fp,Dq X pins H' b)/\R J H'
def PI(X:Cx)(tg iter:Expr)(wi:TI):Prop :=
 ∀(pins:List (Addr×Obj))(s:Shared)(σ:St)(H:Hp)(R:It->Hp->Prop),Inv X pins σ H s->wi σ H R ->
  wpAny (model X.prog X.w) X.A (eval iter X.env) (λv s1=>wpAny (model X.prog X.w) X.A (pyIter v) (PIE X pins σ tg R) X.xe s1) X.xe s
theorem SM{M:Model}{A:Around}{E:Value->Shared->Prop}{s:Shared}{tg:Expr}{it:Addr}{u:Value}{o:Obj}{n:String}{vs:Array Value}{Q:Unit->Shared->Prop}(ho:s.heap.get? it=some o)(hc:o.cls=.type n)(hd:o.data=.fields vs)
    (hn:["enumerate","zip","dict_itemiterator","dict_reverseitemiterator","odict_iterator","itertools.zip_longest","itertools.pairwise"].contains n=false) (hQ:Q () s):wpAny M A (letOwnedTupleGo tg (.ref it) u) Q E s:=by
  unfold letOwnedTupleGo;cases tg<;>first
    |exact Z1 hQ
    | (cases u<;>first
        |exact Z1 hQ
        | (refine W9 (wpAny_load ho ?_)
           rw[hc,hd];show wpAny M A (if(["enumerate","zip","dict_itemiterator","dict_reverseitemiterator","odict_iterator","itertools.zip_longest","itertools.pairwise"].contains n && vs[0]?==some (rawInt _))=true then _ else _) Q E s;rw[Y4 (by intro h;rw[hn,Bool.false_and]at h;cases h)];exact Z1 hQ))
def Itl(K:PySem.W.Frag)(a:Addr):It :=
 ⟨λi H=>∃xs x,SqL K H a xs/\xs[i]?=some x,λi H x H'=>H'=H/\∀xs,SqL K H a xs->xs[i]?=some x,λi H=>∃xs,SqL K H a xs/\xs.length<=i⟩
def Itt(K:PySem.W.Frag)(a:Addr):It :=
 ⟨λi H=>∃xs x,SqT K H a xs/\xs[i]?=some x,λi H x H'=>H'=H/\∀xs,SqT K H a xs->xs[i]?=some x,λi H=>∃xs,SqT K H a xs/\xs.length<=i⟩
def Itr(lo:Int)(n:Nat):It:=⟨λi _=>i<n,λi H x H'=>H'=H/\x=.int (lo+i),λi _=>n<=i⟩
theorem VI{P:Program}{w:World}{K:PySem.W.Frag}{tg:Expr}(a it:Addr):Pq P w K tg (Itl K a) [it] it (λi h=>h.IsListIter it a i) where
 mem:=by simp
 obj:=λi h st b hb=>by
  have e:b=it:=by simpa using hb
  subst e;obtain⟨o,e,c,d⟩:=st;exact⟨o,e,λv z=>by rw[d]at z;cases z⟩
 keep:=λi h h' st k=>st.at λo e=>k it A6 o e
 item:=by
  intro X hP hw hK hc i pins s σ H E I hf st hg;subst hP hw hK;obtain⟨xs,x,hq,hx⟩:=hg;obtain⟨its,rv,p,hz⟩:=I.list hq;obtain⟨u,hu,ru⟩:=rv.get hx;obtain⟨f0,f1,f2,f3,f4,f5⟩:=hf it A6;refine wpAny_pyNext_list_item st p.isList (x:=u) (by simpa using hu) λh' st' sb=>?_;have I1:Inv X pins σ H {s with heap:=h'}:=I.turned (t':=s.toks) (λb o hb e=>(sb.2 b hb).trans e) f0 f1 f3 f4 f5;obtain⟨o,e,c,d⟩:=id st';exact⟨u,rfl,SM (s:={s with heap:=h'}) e c d A4 ⟨x,H,I1,ru,⟨rfl,λys hy=>by rw[I.list_inj hy hq];exact hx⟩,st',λb hb=>(hf b hb).1⟩⟩
 done:=by
  intro X hP hw hK hc i pins s σ H E I hf st hg;subst hP hw hK;obtain⟨xs,hq,hx⟩:=hg;obtain⟨its,rv,p,hz⟩:=I.list hq;obtain⟨f0,f1,f2,f3,f4,f5⟩:=hf it A6;have hl:=rv.length;exact wpAny_pyNext_list_end (I.ok.hd hc) st p.isList (by simp;lia) λh' eb=>⟨rfl,I.turned (t':=s.toks) (λb o hb e=>eb b o hb e) f0 f1 f3 f4 f5⟩
 self:=λ_ _ _ _ _ st h=>wpAny_pyIter_listiter st h
theorem Th{P:Program}{w:World}{K:PySem.W.Frag}{tg:Expr}(a it:Addr):Pq P w K tg (Itt K a) [it] it (λi h=>h.IsTupleIter it a i) where
 mem:=by simp
 obj:=λi h st b hb=>by
  have e:b=it:=by simpa using hb
  subst e;obtain⟨o,e,c,d⟩:=st;exact⟨o,e,λv z=>by rw[d]at z;cases z⟩
 keep:=λi h h' st k=>st.at λo e=>k it A6 o e
 item:=by
  intro X hP hw hK hc i pins s σ H E I hf st hg;subst hP hw hK;obtain⟨xs,x,hq,hx⟩:=hg;obtain⟨its,rv,p,hz⟩:=I.tuple hq;obtain⟨u,hu,ru⟩:=rv.get hx;obtain⟨f0,f1,f2,f3,f4,f5⟩:=hf it A6;refine wpAny_pyNext_tuple_item st (show s.heap.IsTuple a its.toArray from p) (x:=u) (by simpa using hu) λh' st' sb=>?_;have I1:Inv X pins σ H {s with heap:=h'}:=I.turned (t':=s.toks) (λb o hb e=>(sb.2 b hb).trans e) f0 f1 f3 f4 f5;obtain⟨o,e,c,d⟩:=id st';exact⟨u,rfl,SM (s:={s with heap:=h'}) e c d A4 ⟨x,H,I1,ru,⟨rfl,λys hy=>by rw[I.tuple_inj hy hq];exact hx⟩,st',λb hb=>(hf b hb).1⟩⟩
 done:=by
  intro X hP hw hK hc i pins s σ H E I hf st hg;subst hP hw hK;obtain⟨xs,hq,hx⟩:=hg;obtain⟨its,rv,p,hz⟩:=I.tuple hq;obtain⟨f0,f1,f2,f3,f4,f5⟩:=hf it A6;have hl:=rv.length;exact wpAny_pyNext_tuple_end (I.ok.hd hc) st (show s.heap.IsTuple a its.toArray from p) (by simp;lia) λh' eb=>⟨rfl,I.turned (t':=s.toks) (λb o hb e=>eb b o hb e) f0 f1 f3 f4 f5⟩
 self:=λ_ _ _ _ _ st h=>wpAny_pyIter_tupleiter st h
theorem Ti{P:Program}{w:World}{K:PySem.W.Frag}{tg:Expr}(it:Addr)(lo:Int)(n:Nat):Pq P w K tg (Itr lo n) [it] it (λi h=>IsRangeIter h it (lo+(i:Nat)*1) ((n:Int)-(i:Nat)) 1) where
 mem:=by simp
 obj:=λi h st b hb=>by
  have e:b=it:=by simpa using hb
  subst e;exact⟨_,st,λv z=>by
   have z':Data.fields _=Data.cell v:=z;cases z'⟩
 keep:=λi h h' st k=>k it A6 _ st
 item:=by
  intro X hP hw hK hc i pins s σ H E I hf st hg;subst hP hw hK;obtain⟨f0,f1,f2,f3,f4,f5⟩:=hf it A6;have W:=Walks.range (prog:=X.prog) (w:=X.w) (I.ok.hd hc) it lo 1 n;refine W.item i s _ _ hg st λv h' tk hv st' kk=>?_;obtain⟨t,rfl⟩:=hv;have I1:Inv X pins σ H {s with heap:=h',toks:=tk}:=I.turned (λb o hb e=>kk b o (by simpa using hb) e) f0 f1 f3 f4 f5;refine⟨_,rfl,SM (s:={s with heap:=h',toks:=tk}) (n:="range_iterator") st' rfl rfl A4 ⟨.int (lo+i),H,I1,⟨t,?_⟩,⟨rfl,rfl⟩,st',λb hb=>(hf b hb).1⟩⟩;rw[Int.mul_one]
 done:=by
  intro X hP hw hK hc i pins s σ H E I hf st hg;subst hP hw hK;obtain⟨f0,f1,f2,f3,f4,f5⟩:=hf it A6;exact wpAny_pyNext_range_end (I.ok.hd hc) st (by have:n<=i:=hg;lia) λh' eb=>⟨rfl,I.turned (t':=s.toks) (λb o hb e=>eb b o hb e) f0 f1 f3 f4 f5⟩
 self:=λ_ _ _ _ _ st h=>wpAny_pyIter_rangeiter st h
section
variable{X:Cx}{tg:Expr}
def iList(K:PySem.W.Frag)(tl:TE):TI:=fun σ H R=>tl σ H λx H1=>∃a,x=.ref a/\(∃xs,SqL K H1 a xs)/\R (Itl K a) H1
def iTup(K:PySem.W.Frag)(tl:TE):TI:=fun σ H R=>tl σ H λx H1=>∃a,x=.ref a/\(∃xs,SqT K H1 a xs)/\R (Itt K a) H1
theorem BT{l:Expr}{tl:TE}(hl:PE X l tl):PI X tg l (iList X.K tl):=by
 intro pins s σ H R I h;refine thn (hl pins s σ H _ I h) λv s1 ⟨x,H1,I1,r1,q1⟩=>?_;obtain⟨a,e,⟨xs,hq⟩,q⟩:=q1;subst e;cases r1;obtain⟨its,rv,p,hz⟩:=I1.list hq;refine A2d p.isList ?_;refine⟨s1.heap.objs.size,[s1.heap.objs.size],_,_,H1,rfl,I1.kept (t':=s1.toks) λb o e=>B9 _ e,VI a _,⟨_,D3 _ rfl,rfl,rfl⟩,λb hb=>?_,q⟩;have e:b=s1.heap.objs.size:=by simpa using hb
 subst e;exact I1.fpOk (C0 _) (I1.hok.fresh (C0 _))
theorem Tt{l:Expr}{tl:TE}(hl:PE X l tl):PI X tg l (iTup X.K tl):=by
 intro pins s σ H R I h;refine thn (hl pins s σ H _ I h) λv s1 ⟨x,H1,I1,r1,q1⟩=>?_;obtain⟨a,e,⟨xs,hq⟩,q⟩:=q1;subst e;cases r1;obtain⟨its,rv,p,hz⟩:=I1.tuple hq;refine wpAny_pyIter_tuple (show s1.heap.IsTuple a its.toArray from p) ?_;refine⟨s1.heap.objs.size,[s1.heap.objs.size],_,_,H1,rfl,I1.kept (t':=s1.toks) λb o e=>B9 _ e,Th a _,⟨_,D3 _ rfl,rfl,rfl⟩,λb hb=>?_,q⟩;have e:b=s1.heap.objs.size:=by simpa using hb
 subst e;exact I1.fpOk (C0 _) (I1.hok.fresh (C0 _))
theorem Sd{pins:List (Addr×Obj)}{σ:St}{H:Hp}{s:Shared}{R:It->Hp->Prop}{E:Value->Shared->Prop}{lo hi:Int}{t u v:Tok}{tk:Nat}(I:Inv X pins σ H s)(h1:-(2^62)<=lo)(h2:lo<2^62)(h3:-(2^62)<=hi)(h4:hi<2^62)
  (q:R (Itr lo (hi-lo).toNat) H):wpAny (model X.prog X.w) X.A (pyIter (.ref s.heap.objs.size)) (PIE X pins σ tg R) E {s with heap:=s.heap.push {cls:=.type "range",data:=.fields #[.int lo t,.int hi u,.int 1 v]},toks:=tk}:=by
 refine wpAny_pyIter_range (IsRange.new ..) (small_one h1 h2 h3 h4) ?_;have I1:Inv X pins σ H {s with heap:=s.heap.push {cls:=.type "range",data:=.fields #[.int lo t,.int hi u,.int 1 v]},toks:=tk}:=I.kept λb o e=>B9 _ e;refine⟨(s.heap.push {cls:=.type "range",data:=.fields #[.int lo t,.int hi u,.int 1 v]}).objs.size,[(s.heap.push {cls:=.type "range",data:=.fields #[.int lo t,.int hi u,.int 1 v]}).objs.size],_,_,H,rfl,
  I1.kept (t':=tk) λb o e=>B9 _ e,Ti _ lo (hi-lo).toNat,?_,λb hb=>?_,q⟩
 ·have e1:lo+((0:Nat):Int)*1=lo:=by simp
  have e2:(((hi-lo).toNat:Nat):Int)-((0:Nat):Int)=Builtin.Range.rangeSize lo hi 1:=by rw[rangeSize_one];split<;>lia
  show IsRangeIter _ _ (lo+((0:Nat):Int)*1) ((((hi-lo).toNat:Nat):Int)-((0:Nat):Int)) 1;rw[e1,e2];exact D3 _ rfl
 ·have e:b=(s.heap.push {cls:=.type "range",data:=.fields #[.int lo t,.int hi u,.int 1 v]}).objs.size:=by simpa using hb
  subst e;exact I1.fpOk (C0 _) (I1.hok.fresh (C0 _))
def iRng1(ta:TA):TI:=fun σ H R=>ta σ H λvs H1=>∃j:Int,vs=[.int j]/\-(2^62)<=j/\j<2^62/\R (Itr 0 j.toNat) H1
def iRng2(ta:TA):TI:=fun σ H R=>ta σ H λvs H1=>∃i j:Int,vs=[.int i,.int j]/\(-(2^62)<=i/\i<2^62/\-(2^62)<=j/\j<2^62)/\R (Itr i (j-i).toNat) H1
theorem De{a:Expr}{ta:TA}{p pos:Pos}(hg:Gl X "range")(hm:X.mg "range" = none)(ha:PA X [a] ta)(hs:starEach [a] X.env=[(false,eval a X.env)]:=by rfl):PI X tg (.Call (.Name "range" p) [a] [] pos) (iRng1 ta):=by
 intro pins s σ H R I h;refine Call_ (Jr I hg hm boot_range (K6 (thn (ha pos pins s σ H _ I h) λus s1 ⟨vs,H1,I1,r1,q1⟩=>?_) hs rfl));obtain⟨j,e,q1,q2,q⟩:=q1;subst e;cases r1 with
 |cons r rr =>
  cases rr;obtain⟨t,rfl⟩:=r;exact call_range_1 (Sd I1 A0 A0 q1 q2 (by simpa using q))
theorem VP{a b:Expr}{ta:TA}{p pos:Pos}(hg:Gl X "range")(hm:X.mg "range" = none)(ha:PA X [a,b] ta)(hs:starEach [a,b] X.env=[(false,eval a X.env),(false,eval b X.env)]:=by rfl)(hs2:starEach [b] X.env=[(false,eval b X.env)]:=by rfl) :
  PI X tg (.Call (.Name "range" p) [a,b] [] pos) (iRng2 ta):=by
 intro pins s σ H R I h;refine Call_ (Jr I hg hm boot_range (K6 (thn (ha pos pins s σ H _ I h) λus s1 ⟨vs,H1,I1,r1,q1⟩=>?_) (by rw[hs,hs2]) (by rw[hs2];rfl)));obtain⟨i,j,e,⟨q1,q2,q3,q4⟩,q⟩:=q1;subst e;cases r1 with
 |cons r rr =>
  cases rr with
  |cons r' rr =>
   cases rr;obtain⟨t,rfl⟩:=r;obtain⟨t',rfl⟩:=r';exact call_range_2 (Sd I1 q1 q2 q3 q4 q)
def tFor(wi:TI)(g:TG)(tb:TS):TS:=λD σ H=>wi σ H λJ H1=>∃W:Nat->Nat->St->Hp->Prop,(∃m,W 0 m σ H1)/\∀i m σ H,W i m σ H ->
 (J.stop i H/\D.nx σ H)\/(J.go i H/\∃N:St->Hp->Prop,(∀σ' H',N σ' H'->∃m',m'<m/\W (i+1) m' σ' H')/\∀x H',J.yld i H x H'->g x σ H' fun σ2 H2=>tb {D with nx:=N,ct:=N,bk:=D.nx} σ2 H2)
def MD(fp:List Addr)(h:Heap):List (Addr×Obj):=fp.filterMap λb=>(h.get? b).map λo=>(b,o)
theorem Ip{fp:List Addr}{h:Heap}{b:Addr}{o:Obj}(hb:b∈fp)(e:h.get? b=some o):(b,o)∈MD fp h:=List.mem_filterMap.mpr ⟨b,hb,by rw[e];rfl⟩
theorem PJ{fp:List Addr}{h:Heap}{p:Addr×Obj}(hp:p∈MD fp h):p.1∈fp/\h.get? p.1=some p.2:=by
 obtain⟨b,hb,e⟩:=List.mem_filterMap.mp hp;cases q:h.get? b with
 |none=>rw[q]at e;cases e
 |some o =>
  rw[q]at e;have e':(b,o)=p:=Z5 e;subst e';exact⟨hb,q⟩
theorem Inv.pinned{pins:List (Addr×Obj)}{σ:St}{H:Hp}{s:Shared}{fp:List Addr}(I:Inv X pins σ H s)(hf:∀b∈fp,Dq X pins H b)(ho:∀b∈fp,∃o,s.heap.get? b=some o/\∀v,o.data≠.cell v):Inv X (pins++MD fp s.heap) σ H s :=
 I.pins_of λp hp=>(F0.mp hp).elim (λz=>I.pin p (J7 _ z)) λz=>by
  obtain⟨hb,e⟩:=PJ z;obtain⟨f0,f1,f2,_⟩:=hf p.1 hb;obtain⟨o,e',d⟩:=ho p.1 hb;rw[e]at e';cases e';exact⟨e,f0,f1,f2,d⟩
theorem Inv.unpinned{pins pl:List (Addr×Obj)}{σ:St}{H:Hp}{s:Shared}(I:Inv X (pins++pl) σ H s):Inv X pins σ H s:=I.pins_of λp hp=>I.pin p (J7 _ (S7 _ hp))
theorem CL{iter:Expr}{body:List Stmt}{wi:TI}{g:TG}{tb:TS}{pos:Pos}(hp:PassesOwn (model X.prog X.w) X.A X.env X.xe)(hc:X.calm=true)(hi:PI X tg iter wi)(hg:PG X tg g)(hb:PSs X body tb)
  (hs:∀x,foldedSetIterable iter X.env x=pure x:=by intro _;rfl):PS X (.For tg iter body [] pos) (tFor wi g tb):=by
 intro pins s σ H D I h;refine wpAny_For (thn (hi pins s σ H _ I h) λv s1 h1=>thn h1 λitv s2 h2=>?_) hs;obtain⟨it,fp,tn,J,H2,e,I2,T,st2,f2,W,⟨m0,w0⟩,turn⟩:=h2;subst e;have stat:∀{H':Hp},(∀b∈fp,H' b=none)->∀b∈fp,Dq X pins H' b:=λhn b hb=>⟨hn b hb,(f2 b hb).2⟩
 refine codeAny_forLoop_any (λn s'=>∃i σ' H',Inv X pins σ' H' s'/\tn i s'.heap/\(∀b∈fp,H' b=none)/\W i n σ' H') ?_ m0 ⟨0,σ,H2,I2,st2,λb hb=>(f2 b hb).1,w0⟩;rintro n s3 ⟨i,σ3,H3,I3,st3,fr3,w3⟩;rcases turn i n σ3 H3 w3 with ⟨stop,qn⟩|⟨go,N,hN,step⟩
 ·refine A0h hp (thn (T.done X rfl rfl rfl hc i pins s3 σ3 H3 X.xe I3 (stat fr3) st3 stop) λr s4 ⟨hr,I4⟩=>?_);subst hr;exact A4a ⟨σ3,H3,I4,qn⟩
 ·refine A0h hp (thn (T.item X rfl rfl rfl hc i pins s3 σ3 H3 X.xe I3 (stat fr3) st3 go) λr s4 ⟨u,hr,h4⟩=>?_);subst hr;refine A0h hp (thn h4 λ_ s5 ⟨x,H5,I5,r5,y5,st5,fr5⟩=>?_);have I5':=I5.pinned (stat fr5) (T.obj _ _ st5);refine A0h hp (thn (hg _ s5 σ3 H5 x u _ I5' r5 (step x H5 y5)) λ_ s6 ⟨σ6,H6,I6,q6⟩=>?_);refine A0h hp (thn (hb _ s6 σ6 H6 _ I6 q6) λf s7 q7=>?_);have again:∀{σ7:St}{H7:Hp},Inv X (pins++MD fp s5.heap) σ7 H7 s7->N σ7 H7->∃m,m<n/\∃i σ' H',Inv X pins σ' H' s7/\tn i s7.heap/\(∀b∈fp,H' b=none)/\W i m σ' H':=λ{σ7 H7} I7 n7=>by
   obtain⟨m',hm,w7⟩:=hN σ7 H7 n7;refine⟨m',hm,i+1,σ7,H7,I7.unpinned,T.keep _ _ _ st5 λb hb o e=>(I7.pin (b,o) (J7 _ (J7 _ (Ip hb e)))).1,λb hb=>?_,w7⟩;obtain⟨o,e,d⟩:=T.obj _ _ st5 b hb;exact(I7.pin (b,o) (J7 _ (J7 _ (Ip hb e)))).2.1
  cases f with
  |next=>obtain⟨σ7,H7,I7,n7⟩:=q7;exact again I7 n7
  |cont=>obtain⟨σ7,H7,I7,n7⟩:=q7;exact again I7 n7
  |brk=>obtain⟨σ7,H7,I7,q7⟩:=q7;exact⟨σ7,H7,I7.unpinned,q7⟩
  |ret v=>obtain⟨x7,σ7,H7,I7,r7,q7⟩:=q7;exact⟨x7,σ7,H7,I7.unpinned,r7,q7⟩
end
theorem LZ{K:PySem.W.Frag}{a:Addr}{xs:List V}{g:TG}{tb:TS}{D:Ml}{σ:St}{H:Hp}(Pv:Nat->St->Hp->Prop)(h0:Pv 0 σ H)(hl:∀i σ H,i<=xs.length->Pv i σ H->SqL K H a xs)
  (hs:∀i x σ H,xs[i]?=some x->Pv i σ H->g x σ H fun σ2 H2=>tb {D with nx:=Pv (i+1),ct:=Pv (i+1),bk:=D.nx} σ2 H2) (hd:∀σ H,Pv xs.length σ H->D.nx σ H) :
  ∃W:Nat->Nat->St->Hp->Prop,(∃m,W 0 m σ H)/\∀i m σ H,W i m σ H ->
   ((Itl K a).stop i H/\D.nx σ H)\/((Itl K a).go i H/\∃N:St->Hp->Prop,(∀σ' H',N σ' H'->∃m',m'<m/\W (i+1) m' σ' H')/\∀x H',(Itl K a).yld i H x H'->g x σ H' fun σ2 H2=>tb {D with nx:=N,ct:=N,bk:=D.nx} σ2 H2):=by
 refine⟨λi m σ H=>m=xs.length-i/\i<=xs.length/\Pv i σ H,⟨xs.length,by simp,J8 _,h0⟩,?_⟩;rintro i m σ H ⟨rfl,hi,p⟩;have q:=hl i σ H hi p;by_cases hlt:i<xs.length
 ·refine .inr ⟨⟨xs,xs[i],q,by simp[hlt]⟩,Pv (i+1),fun σ' H' p'=>⟨xs.length-(i+1),by lia,rfl,hlt,p'⟩,λx H' y=>?_⟩;obtain⟨e,y⟩:=y;subst e;exact hs i x σ _ (y xs q) p
 ·have e:i=xs.length:=by lia
  subst e;exact .inl ⟨⟨xs,q,C0 _⟩,hd σ H p⟩
theorem DD{lo:Int}{n:Nat}{g:TG}{tb:TS}{D:Ml}{σ:St}{H:Hp}(Pv:Nat->St->Hp->Prop)(h0:Pv 0 σ H)
  (hs:∀i σ H,i<n->Pv i σ H->g (.int (lo+i)) σ H fun σ2 H2=>tb {D with nx:=Pv (i+1),ct:=Pv (i+1),bk:=D.nx} σ2 H2) (hd:∀σ H,Pv n σ H->D.nx σ H) :
  ∃W:Nat->Nat->St->Hp->Prop,(∃m,W 0 m σ H)/\∀i m σ H,W i m σ H ->
   ((Itr lo n).stop i H/\D.nx σ H)\/((Itr lo n).go i H/\∃N:St->Hp->Prop,(∀σ' H',N σ' H'->∃m',m'<m/\W (i+1) m' σ' H')/\∀x H',(Itr lo n).yld i H x H'->g x σ H' fun σ2 H2=>tb {D with nx:=N,ct:=N,bk:=D.nx} σ2 H2):=by
 refine⟨λi m σ H=>m=n-i/\i<=n/\Pv i σ H,⟨n,by simp,J8 _,h0⟩,?_⟩;rintro i m σ H ⟨rfl,hi,p⟩;by_cases hlt:i<n
 ·refine .inr ⟨hlt,Pv (i+1),fun σ' H' p'=>⟨n-(i+1),by lia,rfl,hlt,p'⟩,λx H' y=>?_⟩;obtain⟨e,y⟩:=y;subst e y;exact hs i σ _ hlt p
 ·have e:i=n:=by lia
  subst e;exact .inl ⟨C0 _,hd σ H p⟩
abbrev R2:=V->V->Hp->VK->Prop
def OpR(X:Cx)(f:Value->Value->Sem Value)(r:R2):Prop :=
 ∀(pins:List (Addr×Obj))(s:Shared)(σ:St)(H:Hp)(x y:V)(v u:Value)(Q:VK),Inv X pins σ H s->AW x v->AW y u->r x y H Q ->
  wpAny (model X.prog X.w) X.A (f v u) (EP X pins σ Q) X.xe s
def UnR(X:Cx)(f:Value->Sem Value)(r:V->Hp->VK->Prop):Prop :=
 ∀(pins:List (Addr×Obj))(s:Shared)(σ:St)(H:Hp)(x:V)(v:Value)(Q:VK),Inv X pins σ H s->AW x v->r x H Q ->
  wpAny (model X.prog X.w) X.A (f v) (EP X pins σ Q) X.xe s
def Ga(X:Cx)(f:Value)(r:List V->Hp->VK->Prop):Prop :=
 ∀(pins:List (Addr×Obj))(s:Shared)(σ:St)(H:Hp)(xs:List V)(us:List Value)(Q:VK),Inv X pins σ H s->AN xs us->r xs H Q ->
  wpAny (model X.prog X.w) X.A (call f us) (EP X pins σ Q) X.xe s
def tOp(r:R2)(ta tb:TE):TE:=fun σ H Q=>ta σ H λx H1=>tb σ H1 λy H2=>r x y H2 Q
def tUn(r:V->Hp->VK->Prop)(ta:TE):TE:=fun σ H Q=>ta σ H λx H1=>r x H1 Q
def rI(C:Int->Int->Prop)(g:Int->Int->V):R2:=λx y H Q=>∃i j,x=.int i/\y=.int j/\C i j/\Q (g i j) H
def rI0(g:Int->Int->V):R2:=λx y H Q=>∃i j,x=.int i/\y=.int j/\Q (g i j) H
def rU(g:Int->V):V->Hp->VK->Prop:=λx H Q=>∃i,x=.int i/\Q (g i) H
section
variable{X:Cx}{a b c:Expr}{ta tb tc:TE}{pos:Pos}
theorem binT(ha:PE X a ta)(hb:PE X b tb){pins:List (Addr×Obj)}{s:Shared}{σ:St}{H:Hp}{R:V->V->Hp->Prop}(I:Inv X pins σ H s)
  (h:ta σ H λx H1=>tb σ H1 λy H2=>R x y H2) {Q:Value->Shared->Prop} {f:Value->Value->Sem Value}
  (hf:∀v u s2 x y H2,Inv X pins σ H2 s2->AW x v->AW y u->R x y H2->wpAny (model X.prog X.w) X.A (f v u) Q X.xe s2) :
  wpAny (model X.prog X.w) X.A (eval a X.env) (λv s₁=>wpAny (model X.prog X.w) X.A (eval b X.env) (λu s₂=>wpAny (model X.prog X.w) X.A (f v u) Q X.xe s₂) X.xe s₁) X.xe s:=by
 refine thn (ha pins s σ H _ I h) λv s1 ⟨x,H1,I1,r1,q1⟩=>?_;refine thn (hb pins s1 σ H1 _ I1 q1) λu s2 ⟨y,H2,I2,r2,q2⟩=>?_;exact hf v u s2 x y H2 I2 r1 r2 q2
theorem AA{op:Operator}{r:R2}(ho:OpR X (binaryOp op) r)(ha:PE X a ta)(hb:PE X b tb):PE X (.BinOp a op b pos) (tOp r ta tb):=by
 intro pins s σ H Q I h;exact wpAny_BinOp (binT ha hb I h λv u s2 x y H2 I2 rx ry q=>ho pins s2 σ H2 x y v u Q I2 rx ry q)
theorem LL{op:UnaryOp}{r:V->Hp->VK->Prop}(ho:UnR X (unaryOp op) r)(ha:PE X a ta):PE X (.UnaryOp op a pos) (tUn r ta):=by
 intro pins s σ H Q I h;exact UnaryOp_ (thn (ha pins s σ H _ I h) λv s1 ⟨x,H1,I1,r1,q1⟩=>ho pins s1 σ H1 x v Q I1 r1 q1)
theorem opI{f:Value->Value->Sem Value}{C:Int->Int->Prop}{g:Int->Int->Int}
  (rule:∀(i j:Int)(t u:Tok)(s:Shared)(Q:Value->Shared->Prop)(E:Value->Shared->Prop),C i j->Q (.int (g i j) s.toks) {s with toks:=s.toks+1}->wpAny (model X.prog X.w) X.A (f (.int i t) (.int j u)) Q E s) :
  OpR X f (rI C λi j=>.int (g i j)):=by
 intro pins s σ H x y v u Q I rx ry h;obtain⟨i,j,rfl,rfl,hc,q⟩:=h;obtain⟨t,rfl⟩:=rx;obtain⟨t',rfl⟩:=ry;exact rule i j t t' s _ _ hc ⟨.int (g i j),H,I.tok _,⟨_,rfl⟩,q⟩
theorem opI0{f:Value->Value->Sem Value}{g:Int->Int->Int}
  (rule:∀(i j:Int)(t u:Tok)(s:Shared)(Q:Value->Shared->Prop)(E:Value->Shared->Prop),Q (.int (g i j) s.toks) {s with toks:=s.toks+1}->wpAny (model X.prog X.w) X.A (f (.int i t) (.int j u)) Q E s) :
  OpR X f (rI0 λi j=>.int (g i j)):=by
 intro pins s σ H x y v u Q I rx ry h;obtain⟨i,j,rfl,rfl,q⟩:=h;obtain⟨t,rfl⟩:=rx;obtain⟨t',rfl⟩:=ry;exact rule i j t t' s _ _ ⟨.int (g i j),H,I.tok _,⟨_,rfl⟩,q⟩
theorem opB0{f:Value->Value->Sem Value}{g:Int->Int->Bool}
  (rule:∀(i j:Int)(t u:Tok)(s:Shared)(Q:Value->Shared->Prop)(E:Value->Shared->Prop),Q (.bool (g i j)) s->wpAny (model X.prog X.w) X.A (f (.int i t) (.int j u)) Q E s) :
  OpR X f (rI0 λi j=>.bl (g i j)):=by
 intro pins s σ H x y v u Q I rx ry h;obtain⟨i,j,rfl,rfl,q⟩:=h;obtain⟨t,rfl⟩:=rx;obtain⟨t',rfl⟩:=ry;exact rule i j t t' s _ _ ⟨.bl (g i j),H,I,rfl,q⟩
def CDiv(i j:Int):Prop:=0<j/\j<1073741824
def CPow(i j:Int):Prop:=0<=j/\j<=1000000/\i.natAbs<2^64
def CMul(i j:Int):Prop:=(-(2^64)<i/\i<2^64)\/(-(2^64)<j/\j<2^64)
theorem CMul.ok{i j:Int}(h:CMul i j):IntMulOk i j:=by
 rcases h with ⟨h1,h2⟩|⟨h1,h2⟩
 ·exact .of_left (intBits_le_64 h1 h2)
 ·exact .of_right (intBits_le_64 h1 h2)
theorem Tg(k:Nat):(0:Int)<=2^k:=by
 rw[two_pow_cast];exact Int.natCast_nonneg _
theorem AL:OpR X (binaryOp .Add) (rI0 λi j=>.int (i+j)):=opI0 λ_ _ _ _ _ _ _ q=>add_int q
theorem Cw:OpR X (binaryOp .Sub) (rI0 λi j=>.int (i-j)):=opI0 λ_ _ _ _ _ _ _ q=>sub_int q
theorem Et:OpR X (binaryOp .Mult) (rI CMul λi j=>.int (i*j)):=opI λ_ _ _ _ _ _ _ hc q=>mul_int q hc.ok
theorem Cy:OpR X (binaryOp .FloorDiv) (rI CDiv λi j=>.int (i/j)):=opI λi j _ _ _ _ _ hc q=>by
 have h1:(0:Int)<j:=hc.1;have h2:j<1073741824:=hc.2;exact floordiv_int A0 (by rw[T6 i A0];exact q) (.inl (PyProof.noPylong_small A0))
theorem Bd:OpR X (binaryOp .Mod) (rI (λ_ j=>0<j) λi j=>.int (i%j)):=opI λi j _ _ _ _ _ hc q=>by
 have h1:(0:Int)<j:=hc;exact mod_int' A0 (by rw[Int.fmod_eq_emod_of_nonneg i A0];exact q)
theorem Tz:OpR X (binaryOp .Pow) (rI CPow λi j=>.int (i^j.toNat)):=opI λ_ _ _ _ _ _ _ hc q=>pow_int_small hc.1 hc.2.1 hc.2.2 q
theorem Ow:OpR X (binaryOp .LShift) (rI CPow λi j=>.int (i*2^j.toNat)):=opI λ_ _ _ _ _ _ _ hc q=>lshift_int_small hc.1 hc.2.1 hc.2.2 q
theorem op_shr:OpR X (binaryOp .RShift) (rI (λ_ j=>0<=j) λi j=>.int (i/2^j.toNat)):=opI λi j _ _ _ _ _ hc q =>
 rshift_int hc (by rw[T6 i (Tg _)];exact q)
theorem op_and:OpR X (binaryOp .BitAnd) (rI0 λi j=>.int (Builtin.bitAnd i j)):=opI0 λ_ _ _ _ _ _ _ q=>and_int q
theorem unI{f:Value->Sem Value}{g:Int->Int}
  (rule:∀(i:Int)(t:Tok)(s:Shared)(Q:Value->Shared->Prop)(E:Value->Shared->Prop),Q (.int (g i) s.toks) {s with toks:=s.toks+1}->wpAny (model X.prog X.w) X.A (f (.int i t)) Q E s) :
  UnR X f (rU λi=>.int (g i)):=by
 intro pins s σ H x v Q I rx h;obtain⟨i,rfl,q⟩:=h;obtain⟨t,rfl⟩:=rx;exact rule i t s _ _ ⟨.int (g i),H,I.tok _,⟨_,rfl⟩,q⟩
theorem GM:UnR X (unaryOp .USub) (rU λi=>.int (-i)):=unI λ_ _ _ _ _ q=>neg_int q
end
def scal:V->V->Bool
 |.non,.non=>true|.non,.int _=>true|.int _,.non=>true|.non,.bl _=>true|.bl _,.non=>true|.non,.str _=>true|.str _,.non=>true
 |.int _,.int _=>true|.bl _,.bl _=>true|.str _,.str _=>true|.byt _,.byt _=>true
 |.int _,.str _=>true|.str _,.int _=>true|.bl _,.str _=>true|.str _,.bl _=>true
 |_,_=>false
def rEq:R2:=λx y H Q=>scal x y=true/\Q (.bl (decide (x=y))) H
def rNe:R2:=λx y H Q=>scal x y=true/\Q (.bl (!decide (x=y))) H
theorem Iv{i j:Int}:decide (V.int i=V.int j)=(i==j):=by
 rw[S0];simp
theorem ZB{i j:Bool}:decide (V.bl i=V.bl j)=(i==j):=by
 rw[S0];simp
theorem Vn{i j:Str}:decide (V.str i=V.str j)=(i==j):=by
 rw[S0];simp
theorem Vo{i j:Array UInt8}:decide (V.byt i=V.byt j)=(i.toList==j.toList):=by
 rw[S0];cases i;cases j;simp
section
variable{X:Cx}{a b c:Expr}{ta tb tc:TE}{pos:Pos}
theorem Ba{pins:List (Addr×Obj)}{σ:St}{H:Hp}{s:Shared}{Q:VK}{k k':Bool}(I:Inv X pins σ H s)(q:Q (.bl k) H)(e:k=k'):EP X pins σ Q (.bool k') s:=by
 subst e;exact⟨.bl k,H,I,rfl,q⟩
theorem Cb:OpR X (compareOp .Eq) rEq:=by
 intro pins s σ H x y v u Q I rx ry h;obtain⟨hs,q⟩:=h;cases x with
 |non =>
  cases rx;cases y with
  |non=>cases ry;exact PySem.EqNone.eq_none_none (Ba I q A6)
  |bl j=>cases ry;exact PySem.EqNone.eq_none_bool (Ba I q A6)
  |int j=>obtain⟨t',rfl⟩:=ry;exact PySem.EqNone.eq_none_int (Ba I q A6)
  |str j=>obtain⟨t',rfl⟩:=ry;exact PySem.EqNone.eq_none_str (Ba I q A6)
  |_=>exact absurd (show false=true from hs) C8
 |bl i =>
  cases rx;cases y with
  |non=>cases ry;exact PySem.EqNone.eq_bool_none (Ba I q A6)
  |bl j=>cases ry;exact eq_bool (Ba I q ZB)
  |str j=>obtain⟨t',rfl⟩:=ry;exact PySem.EqMixed.eq_bool_str (Ba I q A6)
  |_=>exact absurd (show false=true from hs) C8
 |int i =>
  obtain⟨t,rfl⟩:=rx;cases y with
  |non=>cases ry;exact PySem.EqNone.eq_int_none (Ba I q A6)
  |int j=>obtain⟨t',rfl⟩:=ry;exact eq_int (Ba I q Iv)
  |str j=>obtain⟨t',rfl⟩:=ry;exact PySem.EqMixed.eq_int_str (Ba I q A6)
  |_=>exact absurd (show false=true from hs) C8
 |str i =>
  obtain⟨t,rfl⟩:=rx;cases y with
  |non=>cases ry;exact PySem.EqNone.eq_str_none (Ba I q A6)
  |bl j=>cases ry;exact PySem.EqMixed.eq_str_bool (Ba I q A6)
  |int j=>obtain⟨t',rfl⟩:=ry;exact PySem.EqMixed.eq_str_int (Ba I q A6)
  |str j=>obtain⟨t',rfl⟩:=ry;exact eq_str (Ba I q Vn)
  |_=>exact absurd (show false=true from hs) C8
 |byt i =>
  obtain⟨t,rfl⟩:=rx;cases y with
  |byt j=>obtain⟨t',rfl⟩:=ry;exact PySem.W.eq_bytes (Ba I q Vo)
  |_=>exact absurd (show false=true from hs) C8
 |_=>cases y<;>exact absurd (show false=true from hs) C8
theorem JP:OpR X (compareOp .NotEq) rNe:=by
 intro pins s σ H x y v u Q I rx ry h;obtain⟨hs,q⟩:=h;cases x with
 |non =>
  cases rx;cases y with
  |non=>cases ry;exact PySem.EqNone.ne_none_none (Ba I q A6)
  |bl j=>cases ry;exact PySem.EqNone.ne_none_bool (Ba I q A6)
  |int j=>obtain⟨t',rfl⟩:=ry;exact PySem.EqNone.ne_none_int (Ba I q A6)
  |str j=>obtain⟨t',rfl⟩:=ry;exact PySem.EqNone.ne_none_str (Ba I q A6)
  |_=>exact absurd (show false=true from hs) C8
 |bl i =>
  cases rx;cases y with
  |non=>cases ry;exact PySem.EqNone.ne_bool_none (Ba I q A6)
  |bl j=>cases ry;exact ne_bool (Ba I q (X9 not ZB))
  |str j=>obtain⟨t',rfl⟩:=ry;exact PySem.EqMixed.ne_bool_str (Ba I q A6)
  |_=>exact absurd (show false=true from hs) C8
 |int i =>
  obtain⟨t,rfl⟩:=rx;cases y with
  |non=>cases ry;exact PySem.EqNone.ne_int_none (Ba I q A6)
  |int j=>obtain⟨t',rfl⟩:=ry;exact ne_int (Ba I q (X9 not Iv))
  |str j=>obtain⟨t',rfl⟩:=ry;exact PySem.EqMixed.ne_int_str (Ba I q A6)
  |_=>exact absurd (show false=true from hs) C8
 |str i =>
  obtain⟨t,rfl⟩:=rx;cases y with
  |non=>cases ry;exact PySem.EqNone.ne_str_none (Ba I q A6)
  |bl j=>cases ry;exact PySem.EqMixed.ne_str_bool (Ba I q A6)
  |int j=>obtain⟨t',rfl⟩:=ry;exact PySem.EqMixed.ne_str_int (Ba I q A6)
  |str j=>obtain⟨t',rfl⟩:=ry;exact ne_str (Ba I q (X9 not Vn))
  |_=>exact absurd (show false=true from hs) C8
 |byt i =>
  obtain⟨t,rfl⟩:=rx;cases y with
  |byt j=>obtain⟨t',rfl⟩:=ry;exact PySem.W.ne_bytes (Ba I q (X9 not Vo))
  |_=>exact absurd (show false=true from hs) C8
 |_=>cases y<;>exact absurd (show false=true from hs) C8
theorem IH:OpR X (compareOp .Lt) (rI0 λi j=>.bl (decide (i<j))):=opB0 λ_ _ _ _ _ _ _ q=>lt_int q
theorem LQ:OpR X (compareOp .LtE) (rI0 λi j=>.bl (decide (i<=j))):=opB0 λ_ _ _ _ _ _ _ q=>le_int q
theorem UW:OpR X (compareOp .Gt) (rI0 λi j=>.bl (decide (j<i))):=opB0 λ_ _ _ _ _ _ _ q=>gt_int q
theorem VR:OpR X (compareOp .In) (λx y H Q=>∃i j,x=.str i/\y=.str j/\Q (.bl (!(Builtin.Str.occurrences j i 0 j.length 1).isEmpty)) H):=by
 intro pins s σ H x y v u Q I rx ry h;obtain⟨i,j,rfl,rfl,q⟩:=h;obtain⟨t,rfl⟩:=rx;obtain⟨t',rfl⟩:=ry;exact in_str (Ba I q rfl)
theorem Io:OpR X (compareOp .Is) (λx y H Q=>y=.non/\Q (.bl (decide (x=.non))) H):=by
 intro pins s σ H x y v u Q I rx ry h;obtain⟨rfl,q⟩:=h;cases ry;refine is_none_gen (Ba I q ?_);cases x<;>first
  | (cases rx;rfl)
  | (obtain⟨t,rfl⟩:=rx;rfl)
theorem UV:OpR X (compareOp .IsNot) (λx y H Q=>y=.non/\Q (.bl (!decide (x=.non))) H):=by
 intro pins s σ H x y v u Q I rx ry h;obtain⟨rfl,q⟩:=h;cases ry;refine isnot_none_gen (Ba I q ?_);cases x<;>first
  | (cases rx;rfl)
  | (obtain⟨t,rfl⟩:=rx;rfl)
theorem LP:OpR X (compareOp .NotIn) (λx y H Q=>∃i j,x=.str i/\y=.str j/\Q (.bl (!(!(Builtin.Str.occurrences j i 0 j.length 1).isEmpty))) H):=by
 intro pins s σ H x y v u Q I rx ry h;obtain⟨i,j,rfl,rfl,q⟩:=h;obtain⟨t,rfl⟩:=rx;obtain⟨t',rfl⟩:=ry;exact notIn_str (Ba I q rfl)
theorem AG(b:Expr){op:CmpOp}(h:op≠.In:=by decide)(h2:op≠.NotIn:=by decide):behindInMarks op b=false:=by
 have e1:(op==CmpOp.In)=false:=by cases op<;>first|rfl|exact absurd rfl h
 have e2:(op==CmpOp.NotIn)=false:=by cases op<;>first|rfl|exact absurd rfl h2
 cases b<;>simp[behindInMarks,e1,e2]
theorem DX{op:CmpOp}{r:R2}(ho:OpR X (compareOp op) r)(ha:PE X a ta)(hb:PE X b tb)(hm:behindInMarks op b=false):PE X (.Compare a [op] [b] pos) (tOp r ta tb):=by
 intro pins s σ H Q I h;exact wpAny_Compare1 (binT ha hb I h λv u s2 x y H2 I2 rx ry q=>ho pins s2 σ H2 x y v u Q I2 rx ry q) hm
def tTest(t:TE):TT:=fun σ H Q=>t σ H λx H'=>∃k,x=.bl k/\Q k H'
theorem Az{op:CmpOp}{r:R2}(ho:OpR X (compareOp op) r)(ha:PE X a ta)(hb:PE X b tb)(hm:behindInMarks op b=false):PT X (.Compare a [op] [b] pos) (tTest (tOp r ta tb)):=by
 intro pins s σ H Q I h;refine wpAny_isTrue_Compare1 (thn (ha pins s σ H _ I h) λv s1 ⟨x,H1,I1,r1,q1⟩=>thn (hb pins s1 σ H1 _ I1 q1) λu s2 ⟨y,H2,I2,r2,q2⟩ =>
  thn (ho pins s2 σ H2 x y v u _ I2 r1 r2 q2) λc s3 ⟨z,H3,I3,r3,k,e,q3⟩=>?_) hm
 subst e;cases r3;exact K2 ⟨H3,I3,q3⟩
def WP(r r':R2)(ta tb tc:TE):TE:=fun σ H Q=>ta σ H λx H1=>tb σ H1 λy H2=>r x y H2 λz H3=>∃k,z=.bl k /\
 (if k=true then tc σ H3 λw' H4=>r' y w' H4 Q else Q (.bl false) H3)
theorem Yt{op op':CmpOp}{r r':R2}(ho:OpR X (compareOp op) r)(ho':OpR X (compareOp op') r')(ha:PE X a ta)(hb:PE X b tb)(hc:PE X c tc)
  (hm:lastMarks [op,op'] [b,c]=false:=by with_unfolding_all rfl):PE X (.Compare a [op,op'] [b,c] pos) (WP r r' ta tb tc):=by
 intro pins s σ H Q I h;refine Compare_chain (thn (ha pins s σ H _ I h) λv s1 ⟨x,H1,I1,r1,q1⟩=>chain_link (thn (hb pins s1 σ H1 _ I1 q1) λu s2 ⟨y,H2,I2,r2,q2⟩ =>
  thn (ho pins s2 σ H2 x y v u _ I2 r1 r2 q2) λd s3 ⟨z,H3,I3,r3,k,e,q3⟩=>?_)) hm
 subst e;cases r3;refine K2 ?_;cases k with
 |false=>exact ite_ff ⟨.bl false,H3,I3,rfl,q3⟩
 |true=>exact ite_tt (chain_last (thn (hc pins s3 σ H3 _ I3 q3) λw' s4 ⟨z',H4,I4,r4,q4⟩=>ho' pins s4 σ H4 y z' u w' Q I4 r2 r4 q4))
theorem Sf{op op':CmpOp}{r r':R2}(ho:OpR X (compareOp op) r)(ho':OpR X (compareOp op') r')(ha:PE X a ta)(hb:PE X b tb)(hc:PE X c tc)
  (hm:lastMarks [op,op'] [b,c]=false:=by with_unfolding_all rfl):PT X (.Compare a [op,op'] [b,c] pos) (tTest (WP r r' ta tb tc)):=by
 intro pins s σ H Q I h;refine isTrue_chain (thn (ha pins s σ H _ I h) λv s1 ⟨x,H1,I1,r1,q1⟩=>test_link (thn (hb pins s1 σ H1 _ I1 q1) λu s2 ⟨y,H2,I2,r2,q2⟩ =>
  thn (ho pins s2 σ H2 x y v u _ I2 r1 r2 q2) λd s3 ⟨z,H3,I3,r3,k,e,q3⟩=>?_)) hm
 subst e;cases r3;refine K2 ?_;cases k with
 |false =>
  obtain⟨k',e',q'⟩:=q3;cases e';exact ite_ff ⟨H3,I3,q'⟩
 |true =>
  refine ite_tt (test_last (thn (hc pins s3 σ H3 _ I3 q3) λw' s4 ⟨z',H4,I4,r4,q4⟩=>thn (ho' pins s4 σ H4 y z' u w' _ I4 r2 r4 q4) λd' s5 ⟨z2,H5,I5,r5,k2,e2,q5⟩=>?_));subst e2;cases r5;exact K2 ⟨H5,I5,q5⟩
theorem MQ:(sizeLine:Nat)<2^63:=by rw[sizeLine_eq];decide
theorem Ox:OpR X (binaryOp .Add) (λx y H Q=>∃i j,x=.str i/\y=.str j/\i.length+j.length<=sizeLine/\Q (.str (i++j)) H):=by
 intro pins s σ H x y v u Q I rx ry h;obtain⟨i,j,rfl,rfl,hz,q⟩:=h;obtain⟨t,rfl⟩:=rx;obtain⟨t',rfl⟩:=ry;exact add_str (λt' tk=>⟨.str (i++j),H,I.tok _,⟨_,rfl⟩,q⟩) hz
theorem RA{x:V}{us:List Value}(r:AN [x] us):∃u,us=[u]/\AW x u:=by
 cases r with
 |cons r1 r2=>cases r2;exact⟨_,rfl,r1⟩
theorem vals2{x y:V}{us:List Value}(r:AN [x,y] us):∃u w',us=[u,w']/\AW x u/\AW y w':=by
 cases r with
 |cons r1 r2 =>
  cases r2 with
  |cons r3 r4=>cases r4;exact⟨_,_,rfl,r1,r3⟩
theorem Wz(hc:X.calm=true):Ga X (.builtin "max") (λxs H Q=>∃i j,xs=[.int i,.int j]/\Q (.int (if j > i then j else i)) H):=by
 intro pins s σ H xs us Q I r h;obtain⟨i,j,rfl,q⟩:=h;obtain⟨u,w',rfl,⟨t,rfl⟩,⟨t',rfl⟩⟩:=vals2 r;refine max_two_ints (I.ok.hd hc) λh' tk k=>⟨_,H,I.kept k,?_,q⟩
 by_cases hj:j > i
 ·rw[Y7 hj,Y7 hj];exact⟨_,rfl⟩
 ·rw[Y4 hj,Y4 hj];exact⟨_,rfl⟩
theorem Wy(hc:X.calm=true):Ga X (.builtin "min") (λxs H Q=>∃i j,xs=[.int i,.int j]/\Q (.int (if j<i then j else i)) H):=by
 intro pins s σ H xs us Q I r h;obtain⟨i,j,rfl,q⟩:=h;obtain⟨u,w',rfl,⟨t,rfl⟩,⟨t',rfl⟩⟩:=vals2 r;refine min_two_ints (I.ok.hd hc) λh' tk k=>⟨_,H,I.kept k,?_,q⟩
 by_cases hj:j<i
 ·rw[Y7 hj,Y7 hj];exact⟨_,rfl⟩
 ·rw[Y4 hj,Y4 hj];exact⟨_,rfl⟩
theorem Ix:Ga X (.type "str") (λxs H Q=>∃i,xs=[.int i]/\i.natAbs.log2<1920/\Q (.str (toString i)) H):=by
 intro pins s σ H xs us Q I r h;obtain⟨i,rfl,hz,q⟩:=h;obtain⟨u,rfl,t,rfl⟩:=RA r;exact PySem.P.str_of_int hz ⟨.str _,H,I.tok _,⟨_,rfl⟩,q⟩
end
structure Us(h:Heap)(x dx C:Addr)(mA:Str->Option Value):Prop where
 obj:h.get? x=some (instObj C dx)
 ns:h.Ns1 dx mA
 ne:dx≠x
theorem Wg{h:Heap}{dx:Addr}{mA:Str->Option Value}(n:h.Ns1 dx mA):∃od,h.get? dx=some od/\∀name,lookIn name od=some (mA name):=by
 obtain⟨o,es,ep,ho,hd,hk,_,hm⟩:=n;refine⟨o,ho,λname=>?_⟩;have e:=hm name;unfold nsFind findBy at e;rw[<-Array.find?_toList]at e;unfold lookIn;rw[hd];dsimp only;split
 ·rename_i y q;rw[q]at e;exact X9 some e
 ·rename_i q;rw[q]at e;have a:es.toList.any (·.refKey)=false:=by
   rw[List.any_eq_false];intro y hy;obtain⟨z,t,hkey⟩:=hk y (Array.mem_toList_iff.mp hy);simp[DictEntry.refKey,hkey]
  have a':¬es.toList.any (·.refKey)=true:=by rw[a];exact C8
  rw[Y4 a'];exact X9 some e
theorem Us.look{h:Heap}{x dx C:Addr}{mA:Str->Option Value}(I:Us h x dx C mA):∃od,PySem.W.InstAt h x (instObj C dx) C (some od)/\∀name,lookIn name od=some (mA name) :=
 let ⟨od,ho,hl⟩:=Wg I.ns
 ⟨od,⟨I.obj,rfl,rfl,ho⟩,hl⟩
section
variable{prog:Program}{w:World}{A:Around}{E:Value->Shared->Prop}{s:Shared}{K:PySem.W.Frag}{x dx C f:Addr}{mA:Str->Option Value}{name:Str}{v:Value}
theorem get_map{expr:Bool}{Q:Value->Shared->Prop}(X:K.In s.heap)(I:Us s.heap x dx C mA)(hg:plainGet K C name=true)(hh:hasDictIn K C=true)
  (ha:findIn K (.ref C) name=some none) (hv:mA name=some v) (hv':handedIn v=true) (h:Q v {s with toks:=s.toks+1}) :
  wpAny (model prog w) A (getAttr (.ref x) name expr) Q E s:=by
 obtain⟨od,J,hl⟩:=I.look;exact PySem.W.get_value X J (A3f hg).1 (PySem.W.findObj_own hh ha rfl (by rw[hl,hv])) hv' h
theorem Zo{pl:Sem Bool}{Q:Value×List Value->Shared->Prop}(X:K.In s.heap)(I:Us s.heap x dx C mA)(hg:plainGet K C name=true)
  (hf:findIn K (.ref C) name=some (some (.ref f))) (ht:isFn K (.ref f)=true) (hv:mA name=none) (h:Q (.ref f,[.ref x]) s) :
  wpAny (model prog w) A (getMethod (.ref x) name pl) Q E s:=by
 obtain⟨od,J,hl⟩:=I.look;exact PySem.W.method_fn X J (A3f hg).1 (A3f hg).2 hf (beq_iff_eq.mp ht) (by show(lookIn name od).map (·.isSome)=some false;rw[hl,hv];rfl) h
theorem set_map{ns:List Str}{Q:Unit->Shared->Prop}(X:K.In s.heap)(I:Us s.heap x dx C mA)
  (hs:findIn K (.ref C) "__setattr__" = some (some (.builtin "object.__setattr__"))) (hp:plainOver K C=true) (ht:takerIn K C name=some none) (hh:hasDictIn K C=true)
  (hw:PySem.Within mA ns) (hsz:ns.length<=sizeLine)
  (h:∀h',Us h' x dx C (λy=>if y=name then some v else mA y)->Heap.SameBut dx s.heap h'->Q () {s with heap:=h',toks:=s.toks+2}) :
  wpAny (model prog w) A (setAttr (.ref x) name v) Q E s:=by
 obtain⟨od,J,hl⟩:=I.look;refine PySem.W.set_plain X J hs (PySem.W.osa_open (s:={s with toks:=s.toks+1}) (r:=none) X J hp ht λb=>?_)
 obtain⟨cd,hc,hd'⟩:=any_some hh;have hx:s.heap.get? x=some ⟨.ref C,some dx,.plain,#[]⟩:=I.obj;refine W9 (Z1 (W9 (W9 (wpAny_loadPart hx (W9 (PySem.W.Looks.here (s:={s with toks:=s.toks+1}) (PySem.W.looks_clsIn X hc) ?_))))))
 rw[hd'];refine Z1 (a:=some dx) (W9 (Z1 (W9 ?_)));refine wpAny_nsSet1 (s:={s with toks:=s.toks+1}) I.ns λh' hn2 hs2=>?_;obtain⟨oD,esD,epD,hoD,hdD,hcD⟩:=hn2.count (PySem.Within.cons name v hw);refine W9 (wpAny_lookBehind hoD (by rw[hdD];exact pastItsLine_dict (C7 hcD (by rw[D8];lia))) ?_);exact Z1 (h _ ⟨(hs2.2 _ (Z3 I.ne)).trans I.obj,hn2,I.ne⟩ hs2)
theorem YW{R:Result->Shared->Prop}{vs:List Value}{kw:List (Str×Value)}(X:K.In s.heap)(hm:makesIn K C=true)
  (hi:findIn K (.ref C) "__init__" = some (some (.ref f))) (hf:PySem.W.typeIn K (.ref f)=some (.type "function"))
  (h:codeAny (model prog w) (A.under (.builtin "type.__call__" ⟨.ref C::vs,kw⟩)) (.call (.ref f) ⟨.ref (s.heap.objs.size+1)::vs,kw⟩) (PySem.W.InitBack (s.heap.objs.size+1) R)
   {s with heap:=(s.heap.push emptyDict).push (instObj C s.heap.objs.size)}) :
  codeAny (model prog w) A (.call (.ref C) ⟨vs,kw⟩) R s:=by
 obtain⟨hh,g,d,t,os⟩:=s;exact PySem.W.make_core (PySem.W.makes_of X hm) (PySem.W.looks_findIn X hi) (λself=>PySem.W.bind_fn X self hf) (.inl rfl) h
end
def AR(f:Str)(v:V):List (Str×V)->List (Str×V)
 |[]=>[(f,v)]
 | (g,x)::r=>if g=f then(g,v)::r else(g,x)::AR f v r
theorem Al(f g:Str)(v:V):∀fs:List (Str×V),(AR f v fs).lookup g=if g=f then some v else fs.lookup g
 |[]=>by
  show List.lookup g [(f,v)]=_;by_cases h:g=f
  ·have hb:(g==f)=true:=beq_iff_eq.mpr h;simp only[List.lookup,hb,Y7 h]
  ·have hb:(g==f)=false:=beq_eq_false_iff_ne.mpr h;simp only[List.lookup,hb,Y4 h]
 | (k,x)::r=>by
  have ih:=Al f g v r;rw[show AR f v ((k,x)::r)=(if k=f then(k,v)::r else(k,x)::AR f v r)from rfl];by_cases hk:k=f
  ·rw[Y7 hk];by_cases h:g=k
   ·have hb:(g==k)=true:=beq_iff_eq.mpr h;simp only[List.lookup,hb,Y7 (h.trans hk)]
   ·have hb:(g==k)=false:=beq_eq_false_iff_ne.mpr h;simp only[List.lookup,hb,Y4 (λe:g=f=>h (e.trans hk.symm))]
  ·rw[Y4 hk];by_cases h:g=k
   ·have hb:(g==k)=true:=beq_iff_eq.mpr h;simp only[List.lookup,hb,Y4 (λe:g=f=>hk (h.symm.trans e))]
   ·have hb:(g==k)=false:=beq_eq_false_iff_ne.mpr h;simp only[List.lookup,hb];exact ih
theorem MR(f:Str)(v:V):∀fs:List (Str×V),f∈(AR f v fs).map (·.1)/\∀g,g∈fs.map (·.1)->g∈(AR f v fs).map (·.1)
 |[]=>⟨by simp[AR],λg h=>by simp at h⟩
 | (k,x)::r=>by
  obtain⟨i1,i2⟩:=MR f v r;rw[show AR f v ((k,x)::r)=(if k=f then(k,v)::r else(k,x)::AR f v r)from rfl];by_cases hk:k=f
  ·rw[Y7 hk];subst hk;exact⟨by simp,λg h=>by simpa using h⟩
  ·rw[Y4 hk];refine⟨?_,λg h=>?_⟩
   ·rw[F5];exact C2 _ i1
   ·rw[F5]at h⊢;rcases C1.mp h with e|e
    ·exact C1.mpr (.inl e)
    ·exact C2 _ (i2 g e)
theorem Bz(f:Str)(v:V):∀fs:List (Str×V),(AR f v fs).length<=fs.length+1
 |[]=>by simp[AR]
 | (k,x)::r=>by
  have ih:=Bz f v r;rw[show AR f v ((k,x)::r)=(if k=f then(k,v)::r else(k,x)::AR f v r)from rfl];by_cases hk:k=f
  ·rw[Y7 hk,D8,D8];lia
  ·rw[Y4 hk,D8,D8];lia
theorem IM.some_of{v:V}{o:Option Value}(r:IM (some v) o):∃u,o=some u/\AW v u:=by
 cases o with
 |none=>exact(show False from r).elim
 |some u=>exact⟨u,rfl,r⟩
theorem IM.none_of{o:Option Value}(r:IM none o):o=none:=by
 cases o with
 |none=>rfl
 |some u=>exact(show False from r).elim
theorem Wq{v:V}{u:Value}(r:AW v u):handedIn u=true:=by
 cases v with
 |non=>cases(show u=Value.none from r);rfl
 |bl b=>cases(show u=Value.bool b from r);rfl
 |int i=>obtain⟨t,e⟩:=(show ∃t,u=Value.int i t from r);cases e;rfl
 |str x=>obtain⟨t,e⟩:=(show ∃t,u=Value.str x t from r);cases e;rfl
 |byt b=>obtain⟨t,e⟩:=(show ∃t,u=Value.bytes b t from r);cases e;rfl
 |flt b=>obtain⟨t,e⟩:=(show ∃t,u=Value.float b t from r);cases e;rfl
 |ref a=>cases(show u=Value.ref a from r);rfl
 |ty n=>cases(show u=Value.type n from r);rfl
section
variable{P:Program}{w:World}{H H':Hp}{h h':Heap}{a C dx:Addr}{fs fs':List (Str×V)}
theorem NM(hok:HOk P w H h)(e:H a=some (.ins C dx fs)):∃mA,Us h a dx C mA/\(∀f,IM (fs.lookup f) (mA f))/\PySem.Within mA (fs.map (·.1))/\fs.length<=1000/\H dx=some (.own a):=by
 obtain⟨d,z,ne,ob,mA,n,r,q⟩:=(show BI P w H h a (.ins C dx fs)from hok a _ e)
 exact⟨mA,⟨ob,n,ne⟩,r,q,z,d⟩
end
structure Cls(K:PySem.W.Frag)(C:Addr):Prop where
 pg:plainGet K C Str.empty=true
 hd:hasDictIn K C=true
 po:plainOver K C=true
 sa:findIn K (.ref C) "__setattr__" = some (some (.builtin "object.__setattr__"))
theorem Cls.get{K:PySem.W.Frag}{C:Addr}(c:Cls K C)(f:Str):plainGet K C f=true:=c.pg
def BD(K:PySem.W.Frag)(C:Addr)(f:Str):Prop:=findIn K (.ref C) f=some none
theorem BD.taker{K:PySem.W.Frag}{C:Addr}{f:Str}(n:BD K C f):takerIn K C f=some none:=by
 unfold takerIn;rw[show findIn K (.ref C) f=some none from n];rfl
structure Pt(K:PySem.W.Frag)(C:Addr)(m:Str)(f:Addr):Prop where
 at_:findIn K (.ref C) m=some (some (.ref f))
 fn:isFn K (.ref f)=true
 kp:keepIn K (.ref f)=true
section
variable{X:Cx}{pins:List (Addr×Obj)}{σ:St}{H:Hp}{s:Shared}{a C dx:Addr}{fs:List (Str×V)}{f:Str}{v:V}{A:Around}{E:Value->Shared->Prop}
theorem Ue{b:Bool}{Q:Value->Shared->Prop}(I:Inv X pins σ H s)(e:H a=some (.ins C dx fs))(c:Cls X.K C)(n:BD X.K C f)(l:fs.lookup f=some v)
  (h:∀u s',Inv X pins σ H s'->AW v u->Q u s'):wpAny (model X.prog X.w) A (getAttr (.ref a) f b) Q E s:=by
 obtain⟨mA,O,r,_,_,_⟩:=NM I.hok e;obtain⟨u,hu,ru⟩:=IM.some_of (v:=v) (o:=mA f) (by rw[<-l];exact r f);exact get_map I.kIn O (c.get f) c.hd n hu (Wq ru) (h u _ (I.tok _) ru)
theorem Ud{m:Str}{g:Addr}{pl:Sem Bool}{Q:Value×List Value->Shared->Prop}(I:Inv X pins σ H s)(e:H a=some (.ins C dx fs))(c:Cls X.K C)(k:Pt X.K C m g)(l:fs.lookup m=none)
  (h:Q (.ref g,[.ref a]) s):wpAny (model X.prog X.w) A (getMethod (.ref a) m pl) Q E s:=by
 obtain⟨mA,O,r,_,_,_⟩:=NM I.hok e;have hn:mA m=none:=IM.none_of (by rw[<-l];exact r m);exact Zo I.kIn O (c.get m) k.at_ k.fn hn h
theorem Tp{y:V}{u:Value}{Q:Unit->Shared->Prop}(I:Inv X pins σ H s)(e:H a=some (.ins C dx fs))(c:Cls X.K C)(n:BD X.K C f)(hl:fs.length<1000)(ry:AW y u)
  (h:∀s',Inv X pins σ (upd H a (.ins C dx (AR f y fs))) s'->Q () s'):wpAny (model X.prog X.w) A (setAttr (.ref a) f u) Q E s:=by
 obtain⟨mA,O,r,wi,_,ho⟩:=NM I.hok e;have hz:(fs.map (·.1)).length<=sizeLine:=by rw[B6,sizeLine_eq];lia
 refine set_map I.kIn O c.sa c.po n.taker c.hd wi hz λh' O' sb=>h _ ?_;have hd:∃o,h'.get? dx=some o:=let ⟨o,_,_,e',_⟩:=O'.ns;⟨o,e'⟩;refine I.write (x:=a) (e:=dx) (by rw[e];exact True.intro) (.inr ho) (λb q hb z=>(sb.2 b hb).trans z) hd ?_;refine⟨by rw[Au O.ne];exact ho,?_,O.ne,O'.obj,_,O'.ns,λg=>?_,λg hg=>?_⟩
 ·have:=Bz f y fs;lia
 ·show IM ((AR f y fs).lookup g) (if g=f then some u else mA g);rw[Al];by_cases q:g=f
  ·rw[Y7 q,Y7 q];exact ry
  ·rw[Y4 q,Y4 q];exact r g
 ·by_cases q:g=f
  ·rw[q];exact(MR f y fs).1
  ·refine(MR f y fs).2 g (wi g λz=>hg ?_);show(if g=f then some u else mA g)=none;rw[Y4 q];exact z
theorem Inv.made(I:Inv X pins σ H s):Inv X pins σ (upd (upd H s.heap.objs.size (.own (s.heap.objs.size+1))) (s.heap.objs.size+1) (.ins C s.heap.objs.size []))
  {s with heap:=(s.heap.push emptyDict).push (instObj C s.heap.objs.size)}:=by
 have e1:(s.heap.push emptyDict).get? s.heap.objs.size=some emptyDict:=D3 s.heap rfl;have e2:((s.heap.push emptyDict).push (instObj C s.heap.objs.size)).get? (s.heap.objs.size+1)=some (instObj C s.heap.objs.size):=by
  have:=D3 (s.heap.push emptyDict) (o:=instObj C s.heap.objs.size) rfl
  rwa [O9]at this
 have e3:(s.heap.push emptyDict).Ns s.heap.objs.size (λ_=>none):=⟨emptyDict,#[],_,e1,rfl,(λe he=>absurd he A6),λ_=>rfl⟩
 have I1:=I.laid (a:=s.heap.objs.size) (o:=.own (s.heap.objs.size+1)) (h':=s.heap.push emptyDict) (t':=s.toks) (λb u q=>B9 _ q) (C0 _) ⟨_,e1⟩;refine I1.laid (a:=s.heap.objs.size+1) (o:=.ins C s.heap.objs.size []) (t':=s.toks) (λb u q=>B9 _ q) (Nat.le_of_eq (O9 _ _)) ?_;have ne:s.heap.objs.size≠s.heap.objs.size+1:=F8 (U2 _);refine⟨by rw[Au ne,Af],J8 _,ne,e2,λ_=>none,(Heap.Ns1.of_empty e3).at λo q=>B9 _ q,λ_=>True.intro,λy hy=>absurd rfl hy⟩
theorem attr_of{prog:Program}{w:World}{env:Env}{e:Expr}{f:Str}{pos:Pos}{s:Shared}{Q:Value->Shared->Prop}(hb:attributeBase e f env (eval e env)=eval e env)
  (h:wpAny (model prog w) A (eval e env) (λo s₁=>wpAny (model prog w) A (getAttr o f true) Q E s₁) E s):wpAny (model prog w) A (eval (.Attribute e f pos) env) Q E s :=
 Attribute_any_ h (by rw[arm_eval_Attribute,hb])
end
def tFld(K:PySem.W.Frag)(ta:TE)(f:Str):TE:=fun σ H Q=>ta σ H λx H1=>∃a C dx fs v,x=.ref a/\H1 a=some (.ins C dx fs)/\Cls K C/\BD K C f/\fs.lookup f=some v/\Q v H1
def sFld(K:PySem.W.Frag)(ta tv:TE)(f:Str):TS:=λD σ H=>tv σ H λy H1=>ta σ H1 λx H2=>∃a C dx fs,x=.ref a/\H2 a=some (.ins C dx fs)/\Cls K C/\BD K C f/\fs.length<1000 /\
 D.nx σ (upd H2 a (.ins C dx (AR f y fs)))
section
variable{X:Cx}{o e value:Expr}{f:Str}{pos pos' tpos:Pos}{ta tv:TE}
theorem AB(he:PE X e ta)(hb:attributeBase e f X.env (eval e X.env)=eval e X.env):PE X (.Attribute e f pos) (tFld X.K ta f):=by
 intro pins s σ H Q I h;refine attr_of hb (thn (he pins s σ H _ I h) λu s1 ⟨x,H1,I1,rx,a,C,dx,fs,v,ex,ea,c,n,l,q⟩=>?_);subst ex;obtain rfl:u=Value.ref a:=rx;exact Ue I1 ea c n l λu' s2 I2 ru=>⟨v,H1,I2,ru,q⟩
theorem Cv(ha:PE X o ta)(hv:PE X value tv)(hs:swapsWith value (some (.Attribute o f pos')) pos.line X.env=pure false):PS X (.Assign [.Attribute o f pos'] value pos) (sFld X.K ta tv f):=by
 intro pins s σ H D I h;refine plainObj_wpAny_Assign_Attribute (thn (hv pins s σ H _ I h) λu s1 ⟨y,H1,I1,ry,q⟩=>thn (ha pins s1 σ H1 _ I1 q) λov s2 ⟨x,H2,I2,rx,a,C,dx,fs,ex,ea,c,n,l,q2⟩=>?_) hs;subst ex;obtain rfl:ov=Value.ref a:=rx;exact Tp I2 ea c n l ry λs3 I3=>⟨σ,_,I3,q2⟩
end
section
variable{X:Cx}{pins:List (Addr×Obj)}{σ:St}{H:Hp}{s:Shared}{A:Around}{E:Value->Shared->Prop}{Q:Value->Shared->Prop}{c:Value}{b:Bool}
inductive MV(K:PySem.W.Frag)(H:Hp):V->Value->Prop where
 |non:MV K H .non (.type "NoneType")
 |bl (x:Bool):MV K H (.bl x) (.type "bool")
 |int (i:Int):MV K H (.int i) (.type "int")
 |str (x:Str):MV K H (.str x) (.type "str")
 |flt (x:UInt64):MV K H (.flt x) (.type "float")
 |lst {a:Addr} {xs:List V} (e:H a=some (.lst xs)):MV K H (.ref a) (.type "list")
 |frz {a:Addr} {o:Obj} {xs:List V} (e:H a=some (.frz o (.lst xs))):MV K H (.ref a) (.type "list")
 |tup {a:Addr} {xs:List V} (e:H a=some (.tup xs)):MV K H (.ref a) (.type "tuple")
 |dK {a:Addr} {kvs:List (Key×V)} (e:H a=some (.dK kvs)):MV K H (.ref a) (.type "dict")
 |dT {a:Addr} {kvs:List (List Key×V)} (e:H a=some (.dT kvs)):MV K H (.ref a) (.type "dict")
 |ins {a C dx:Addr} {fs:List (Str×V)} (e:H a=some (.ins C dx fs)) (cl:Cls K C) (ha:findIn K (.ref C) "__class__" = some (some (.builtin "object.__class__")))
   (hn:specialIn K (.builtin "object.__class__") "__get__" = some (some (.builtin "getset_descriptor.__get__"))) (htk:takesIn K (.builtin "object.__class__")=some true)
   (hm:mroIn K C (.type "object")=some true):MV K H (.ref a) (.ref C)
theorem Wn{x:V}{u t:Value}(I:Inv X pins σ H s)(rx:AW x u)(ty:MV X.K H x t)(e:kitOne X.K t c=some b)(h:∀tk,Q (.bool b) {s with toks:=tk}) :
  wpAny (model X.prog X.w) A (call (.builtin "isinstance") [u,c]) Q E s:=by
 cases ty with
 |non=>cases(show u=Value.none from rx);exact K0 PySem.W.kitx_none I.kIn True.intro e (λz=>nomatch z) h
 |bl y=>cases(show u=Value.bool y from rx);exact K0 PySem.W.kitx_bool I.kIn True.intro e (λz=>nomatch z) h
 |int i=>obtain⟨t,q⟩:=(show ∃t,u=Value.int i t from rx);cases q;exact K0 PySem.W.kitx_int I.kIn True.intro e (λz=>nomatch z) h
 |str y=>obtain⟨t,q⟩:=(show ∃t,u=Value.str y t from rx);cases q;exact K0 PySem.W.kitx_str I.kIn True.intro e (λz=>nomatch z) h
 |flt y=>obtain⟨t,q⟩:=(show ∃t,u=Value.float y t from rx);cases q;exact K0 PySem.W.kitx_float I.kIn True.intro e (λz=>nomatch z) h
 |@lst a xs ea =>
  cases(show u=Value.ref a from rx);obtain⟨_,_,n,_,h1⟩:=(show BI X.prog X.w H s.heap a (.lst xs)from I.hok a _ ea)
  exact K0 kitx_list I.kIn ⟨_,h1,rfl⟩ e (λz=>nomatch z) h
 |@frz a ob xs ea =>
  cases(show u=Value.ref a from rx);obtain⟨_,_,_,n,_,h1⟩:=(show BI X.prog X.w H s.heap a (.frz ob (.lst xs))from I.hok a _ ea)
  exact K0 kitx_list I.kIn ⟨_,h1,rfl⟩ e (λz=>nomatch z) h
 |@tup a xs ea =>
  cases(show u=Value.ref a from rx);obtain⟨_,_,_,p⟩:=(show BI X.prog X.w H s.heap a (.tup xs)from I.hok a _ ea)
  obtain⟨o,h1,h2,_⟩:=p;exact K0 PySem.W.kitx_tuple I.kIn ⟨o,h1,h2⟩ e (λz=>nomatch z) h
 |@dK a kvs ea =>
  cases(show u=Value.ref a from rx);obtain⟨_,_,vs,_,p⟩:=(show BI X.prog X.w H s.heap a (.dK kvs)from I.hok a _ ea)
  obtain⟨o,es,ep,h1,h2,_⟩:=p;exact K0 kitx_dict I.kIn ⟨o,h1,h2.1⟩ e (λz=>nomatch z) h
 |@dT a kvs ea =>
  cases(show u=Value.ref a from rx);obtain⟨_,_,xs,_,o,es,ep,h1,h2,_⟩:=(show BI X.prog X.w H s.heap a (.dT kvs)from I.hok a _ ea)
  exact K0 kitx_dict I.kIn ⟨o,h1,h2.1⟩ e (λz=>nomatch z) h
 |@ins a C dx fs ea cl ha hn htk hm =>
  cases(show u=Value.ref a from rx);obtain⟨mA,O,_⟩:=NM I.hok ea;obtain⟨od,J,_⟩:=O.look;exact K0 (PySem.W.kitx_own (cl.get _) cl.hd ha hn htk hm) I.kIn J e (λz=>nomatch z) h
end
structure CN(k:Nat)(A:Around):Prop where
 hd:A.handled=none
 dp:A.depth+3*k+5<recursionLimit
 un:A.units+16*k+200<cLine
theorem CN.mono{j k:Nat}{A:Around}(r:CN k A)(h:j<=k):CN j A:=⟨r.hd,by have:=r.dp;lia,by have:=r.un;lia⟩
theorem CN.deeper{k:Nat}{A:Around}(r:CN (k+1) A)(env:Env):CN k (A.deeper env) :=
 ⟨r.hd,by have:=r.dp;show A.depth+1+3*k+5<_;lia,by have:=r.un;show A.units+3+16*k+200<_;lia⟩
theorem CN.in1{k:Nat}{A:Around}(r:CN (k+1) A):CN k A.in1 :=
 ⟨r.hd,by have:=r.dp;show A.depth+3*k+5<_;lia,by have:=r.un;show A.units+1+16*k+200<_;lia⟩
theorem TY{A:Around}{C:Addr}{us:List Value}{kw:List (Str×Value)}:(A.under (.builtin "type.__call__" ⟨.ref C::us,kw⟩)).depth=A.depth+1:=by
 first|rfl|simp[Around.under,Code.weight,Code.isCreation,Code.isGuard,Code.isCaller,Code.frames,Code.isFrame,guardIds]
theorem TX{A:Around}{C:Addr}{us:List Value}{kw:List (Str×Value)}:(A.under (.builtin "type.__call__" ⟨.ref C::us,kw⟩)).units=A.units+1:=by
 first|rfl|simp[Around.under,Code.cUnits,Code.frames,Code.isFrame]
theorem CN.make{k:Nat}{A:Around}(r:CN (k+1) A)(C:Addr)(us:List Value)(kw:List (Str×Value)):CN k (A.under (.builtin "type.__call__" ⟨.ref C::us,kw⟩)) :=
 ⟨r.hd,by have:=r.dp;rw[TY];lia,by have:=r.un;rw[TX];lia⟩
theorem CN.depth{k:Nat}{A:Around}(r:CN k A):A.depth<recursionLimit:=by have:=r.dp;lia
theorem CN.units{k:Nat}{A:Around}(r:CN k A):A.units+64<cLine:=by have:=r.un;lia
def OZ:TA:=λ_ H Q=>Q [] H
def CD(ta:TE)(tr:TA):TA:=fun σ H Q=>ta σ H λx H1=>tr σ H1 λxs H2=>Q (x::xs) H2
section
variable{X:Cx}{e:Expr}{es:List Expr}{te:TE}{t:TA}{pos:Pos}
theorem Ab:PA X [] OZ:=λ_ _ _ _ H Q I h=>Calls.spliced_nil ⟨[],H,I,.nil,h⟩
theorem Aa(ha:PE X e te)(hr:PA X es t)(hs:starEach (e::es) X.env=(false,eval e X.env)::starEach es X.env:=by rfl):PA X (e::es) (CD te t):=by
 intro pos pins s σ H Q I h;rw[hs];show wpAny _ _ (spliced ((false,eval e X.env)::backTo pos (starEach es X.env))) _ _ s;refine Calls.spliced_cons (thn (ha pins s σ H _ I h) λu s1 ⟨x,H1,I1,r1,q1⟩=>?_);exact thn (hr pos pins s1 σ H1 _ I1 q1) λus s2 ⟨xs,H2,I2,r2,q2⟩=>⟨x::xs,H2,I2,.cons r1 r2,q2⟩
def WN(t:TA):TE:=fun σ H Q=>t σ H λxs H1=>xs.length<=sizeLine/\∀p,H1 p=none->Q (.ref p) (upd H1 p (.tup xs))
def tLst(t:TA):TE:=fun σ H Q=>t σ H λxs H1=>xs.length<=sizeLine/\∀p,H1 p=none->Q (.ref p) (upd H1 p (.lst xs))
theorem DW{x1}(h:PA X es t):PE X (.Tuple es x1 pos) (WN t):=by
 intro pins s σ H Q I hq;refine wpAny_Tuple_spliced (thn (h pos pins s σ H _ I hq) λus s1 ⟨xs,H1,I1,r,z,q⟩=>⟨by rw[<-r.length];exact z,?_⟩);have hf:H1 s1.heap.objs.size=none:=I1.hok.fresh (C0 _);refine⟨.ref s1.heap.objs.size,upd H1 s1.heap.objs.size (.tup xs),I1.laid (t':=s1.toks) (λb u e=>B9 _ e) (C0 _) ?_,rfl,q _ hf⟩;exact⟨z,us,r,⟨_,D3 _ rfl,rfl,_,rfl⟩⟩
theorem Cm(h:PA X es t):PE X (.List es pos) (tLst t):=by
 intro pins s σ H Q I hq;refine wpAny_List_spliced (thn (h pos pins s σ H _ I hq) λus s1 ⟨xs,H1,I1,r,z,q⟩=>⟨by rw[<-r.length];exact z,?_⟩);have hf:H1 s1.heap.objs.size=none:=I1.hok.fresh (C0 _);refine⟨.ref s1.heap.objs.size,upd H1 s1.heap.objs.size (.lst xs),I1.laid (t':=s1.toks) (λb u e=>B9 _ e) (C0 _) ?_,rfl,q _ hf⟩;exact⟨z,us,0,r,D3 _ rfl⟩
end
abbrev Sp:=List V->Hp->VK->XK->Prop
abbrev CXT:=List Env->Hp->Shared->XK->Value->Shared->Prop
structure Nr(P:Program)(w:World)(K:PySem.W.Frag)(mg:Str->Option Value)(base:Heap)(A:Around)(outer:List Env)(s:Shared)(H:Hp):Prop where
 frames:A.frames=some outer
 mod:Mod K mg base
 bs:∀b o,base.get? b=some o->s.heap.get? b=some o/\H b=none
 bsz:base.objs.size<=s.heap.objs.size
 funs:s.heap.FunFrames base outer
 frf:∀b∈frs outer,H b=none
 hok:HOk P w H s.heap
 bare:AllBare s.gens
def CE(outer:List Env)(P:Program)(w:World)(H:Hp)(s:Shared)(Q:VK)(u:Value)(s':Shared):Prop :=
 ∃v H',s'.os=s.os/\AllBare s'.gens/\Un (frs outer) [] H H' s.heap s'.heap/\HOk P w H' s'.heap/\AW v u/\Q v H'
def CR(CX:CXT)(outer:List Env)(P:Program)(w:World)(H:Hp)(s:Shared)(Q:VK)(E:XK)(r:Result)(s':Shared):Prop :=
 match r with
 |.ok (.ret u)=>CE outer P w H s Q u s'
 |.ok _=>False
 |.error e=>CX outer H s E e s'
structure AI(P:Program)(w:World)(K:PySem.W.Frag)(mg:Str->Option Value)(base:Heap)(CX:CXT)(k:Nat)(f:Addr)(fd:FuncData)(ps:List Str)(sp:Sp):Prop where
 len:∀vs H Q E,sp vs H Q E->vs.length=ps.length
 run:∀(A:Around)(outer:List Env)(s:Shared)(H:Hp)(args:Args)(us:List Value)(vs:List V)(Q:VK)(E:XK),CN k A->Nr P w K mg base A outer s H->BindsTo s fd args (ps.zip us)->AN vs us->sp vs H Q E ->
  codeAny (model P w) A (.call (.ref f) args) (CR CX outer P w H s Q E) s
theorem AI.imp{P:Program}{w:World}{K:PySem.W.Frag}{mg:Str->Option Value}{base:Heap}{CX:CXT}{k:Nat}{f:Addr}{fd:FuncData}{ps:List Str}{sp sp':Sp}(F:AI P w K mg base CX k f fd ps sp)
  (h:∀vs H Q E,sp' vs H Q E->sp vs H Q E):AI P w K mg base CX k f fd ps sp' :=
 ⟨λvs H Q E q=>F.len vs H Q E (h _ _ _ _ q),λA outer s H args us vs Q E hr he hb hv hs=>F.run A outer s H args us vs Q E hr he hb hv (h _ _ _ _ hs)⟩
theorem Nr.make{P:Program}{w:World}{K:PySem.W.Frag}{mg:Str->Option Value}{base:Heap}{A:Around}{outer:List Env}{s:Shared}{H:Hp}(e:Nr P w K mg base A outer s H)(C:Addr)(us:List Value)(kw:List (Str×Value)) :
  Nr P w K mg base (A.under (.builtin "type.__call__" ⟨.ref C::us,kw⟩)) outer s H:=⟨by first|exact e.frames|(simpa[Around.under,Code.envs,Code.isFrame,pushEnvs] using e.frames),e.mod,e.bs,e.bsz,e.funs,e.frf,e.hok,e.bare⟩
theorem Nr.in1{P:Program}{w:World}{K:PySem.W.Frag}{mg:Str->Option Value}{base:Heap}{A:Around}{outer:List Env}{s:Shared}{H:Hp}(e:Nr P w K mg base A outer s H) :
  Nr P w K mg base A.in1 outer s H:=⟨e.frames,e.mod,e.bs,e.bsz,e.funs,e.frf,e.hok,e.bare⟩
section
variable{X:Cx}{pins:List (Addr×Obj)}{σ:St}{H:Hp}{s s':Shared}
theorem Inv.env0(I:Inv X pins σ H s):Nr X.prog X.w X.K X.mg X.base X.A X.stack s H :=
 ⟨I.ok.frames,I.ok.mod,I.bs,C7 I.ok.bsz I.sz,I.stack,I.stkFree,I.hok,I.bare⟩
theorem Inv.after{Q:VK}{u:Value}(I:Inv X pins σ H s)(h:CE X.stack X.prog X.w H s Q u s'):EP X pins σ Q u s':=by
 obtain⟨v,H',os,bare,un,hok,r,q⟩:=h;obtain⟨hh,g,d,t,os'⟩:=s';obtain rfl:os'=s.os:=os;exact⟨v,H',I.call (h':=hh) (g':=g) (d':=d) (t':=t) (ch:=[]) un hok bare (λb z=>absurd z A6),r,q⟩
end
def tCall(sp:Sp)(dvs:List V)(E:XK)(t:TA):TE:=fun σ H Q=>t σ H λvs H1=>sp (vs++dvs) H1 Q E
def Uz(C:Addr)(m:Str)(sp:Sp)(dvs:List V)(E:XK)(ta:TE)(t:TA):TE:=fun σ H Q=>ta σ H λx H1=>∃a dx fs,x=.ref a/\H1 a=some (.ins C dx fs)/\fs.lookup m=none /\
 t σ H1 λvs H2=>sp (x::(vs++dvs)) H2 Q E
def UA(C:Addr)(sp:Sp)(dvs:List V)(E:XK)(t:TA):TE:=fun σ H Q=>t σ H λvs H1=>∀x dx,H1 x=none->H1 dx=none->dx≠x ->
 sp (.ref x::(vs++dvs)) (upd (upd H1 dx (.own x)) x (.ins C dx [])) (λv H2=>v=.non/\Q (.ref x) H2) E
def Cs(K:PySem.W.Frag)(fd:FuncData)(ps:List Str)(ds:List Value):Prop :=
 ∀(s:Shared)(us:List Value),K.In s.heap->(us++ds).length=ps.length->BindsTo s fd ⟨us,[]⟩ (ps.zip (us++ds))
theorem Cs.all{K:PySem.W.Frag}{fd:FuncData}{ps:List Str}(h:∀us:List Value,us.length=ps.length->bindArgs fd ⟨us,[]⟩=pure (ps.zip us)):Cs K fd ps []:=λs us _ hl=>by
 rw[V5]at hl⊢;exact .of_eq (h us hl)
def FP(CX:CXT)(X:Cx)(E:XK):Prop:=∀(pins:List (Addr×Obj))(σ:St)(H:Hp)(s:Shared)(e:Value)(s':Shared),Inv X pins σ H s->CX X.stack H s E e s'->X.xe e s'
section
variable{X:Cx}{CX:CXT}{k:Nat}{f C:Addr}{fd:FuncData}{ps:List Str}{sp:Sp}{dvs:List V}{ds:List Value}{E:XK}{x m:Str}{p pos apos:Pos}{e o:Expr}{es:List Expr}{ta:TE}{t:TA}
theorem Ym{pins:List (Addr×Obj)}{σ:St}{H:Hp}{s:Shared}{Q:VK}{us:List Value}{vs:List V}(F:AI X.prog X.w X.K X.mg X.base CX k f fd ps sp)(hr:CN k X.A)(hb:Cs X.K fd ps ds)(hd:AN dvs ds)(hx:FP CX X E)
  (I:Inv X pins σ H s) (r:AN vs us) (h:sp (vs++dvs) H Q E):wpAny (model X.prog X.w) X.A (call (.ref f) us) (EP X pins σ Q) X.xe s:=by
 have r2:AN (vs++dvs) (us++ds):=r.append hd;have hl:(us++ds).length=ps.length:=by rw[<-r2.length];exact F.len _ _ _ _ h
 refine wpAny_call (A3g (F.run X.A X.stack s H ⟨us,[]⟩ (us++ds) (vs++dvs) Q E hr I.env0 (hb s us I.kIn hl) r2 h) λr s' hq=>?_);cases r with
 |error e=>exact hx pins σ H s e s' I hq
 |ok fl =>
  cases fl with
  |ret u=>exact I.after hq
  |next=>exact False.elim hq
  |brk=>exact False.elim hq
  |cont=>exact False.elim hq
theorem pe_call(F:AI X.prog X.w X.K X.mg X.base CX k f fd ps sp)(hr:CN k X.A)(hg:Gl X x)(hm:X.mg x=some (.ref f))(hk:keepIn X.K (.ref f)=true)(hb:Cs X.K fd ps ds)(hd:AN dvs ds)(hx:FP CX X E)
  (ha:PA X (e::es) t) (hdb:(x==("__debug__" : Str))=false:=by decide) (he:starEach (e::es) X.env=(false,eval e X.env)::starEach es X.env:=by rfl) (hpl:(backTo pos (starEach es X.env)).any (·.1)=false:=by rfl) :
  PE X (.Call (.Name x p) (e::es) [] pos) (tCall sp dvs E t):=by
 intro pins s σ H Q I h;refine A0f (NJ I hg hm ?_ hdb);refine A4c (h₀:=X.base) I.ok.mod.kin hk (thn (ha pos pins s σ H _ I h) λus s1 ⟨vs,H1,I1,r,q⟩=>⟨I1.kIn,?_⟩) he hpl;exact Ym F hr hb hd hx I1 r q
theorem pe_meth{pl:Sem Bool}(he:PE X o ta)(c:Cls X.K C)(hm:Pt X.K C m f)(F:AI X.prog X.w X.K X.mg X.base CX k f fd ps sp)(hr:CN k X.A)(hb:Cs X.K fd ps ds)(hd:AN dvs ds)(hx:FP CX X E)(ha:PA X (e::es) t)
  (hst:starEach (e::es) X.env=(false,eval e X.env)::starEach es X.env:=by rfl) (hpl:(backTo pos (starEach es X.env)).any (·.1)=false:=by rfl)
  (ht:eval (.Call (.Attribute o m apos) (e::es) [] pos) X.env=(do
   let ov <-eval o X.env
   standAt apos.atName
   let (f,first) <-holding [ov] (getMethod ov m pl)
   callWith pos f first (backTo pos (starEach (e::es) X.env)) (backToKw pos (keywordEach [] X.env))):=by rfl) :
  PE X (.Call (.Attribute o m apos) (e::es) [] pos) (Uz C m sp dvs E ta t):=by
 intro pins s σ H Q I h;refine PySem.W.methodCall_KW (pl:=pl) (thn (he pins s σ H _ I h) λu s1 ⟨x,H1,I1,rx,a,dx,fs,ex,ea,l,q⟩=>?_) ht;subst ex;obtain rfl:u=Value.ref a:=rx;refine Ud I1 ea c hm l ?_;refine A4c (first:=[.ref a]) (h₀:=X.base) I.ok.mod.kin hm.kp (thn (ha pos pins s1 σ H1 _ I1 q) λus s2 ⟨vs,H2,I2,r,q2⟩=>⟨I2.kIn,?_⟩) hst hpl;exact Ym (us:=.ref a::us) (vs:=.ref a::vs) F hr hb hd hx I2 (.cons rfl r) q2
structure Mk(K:PySem.W.Frag)(C f:Addr):Prop where
 makes:makesIn K C=true
 init:findIn K (.ref C) "__init__" = some (some (.ref f))
 fn:isFn K (.ref f)=true
 kp:keepIn K (.ref C)=true
theorem RZ{pins:List (Addr×Obj)}{σ:St}{H:Hp}{s:Shared}{Q:VK}{us:List Value}{vs:List V}(M:Mk X.K C f)(F:AI X.prog X.w X.K X.mg X.base CX k f fd ps sp)(hr:CN (k+1) X.A)(hb:Cs X.K fd ps ds)(hd:AN dvs ds)
  (hx:FP CX X E) (I:Inv X pins σ H s) (r:AN vs us)
  (h:∀x dx,H x=none->H dx=none->dx≠x->sp (.ref x::(vs++dvs)) (upd (upd H dx (.own x)) x (.ins C dx [])) (λv H2=>v=.non/\Q (.ref x) H2) E) :
  wpAny (model X.prog X.w) X.A (call (.ref C) us) (EP X pins σ Q) X.xe s:=by
 have hq:=h (s.heap.objs.size+1) s.heap.objs.size (I.hok.fresh (R3 _)) (I.hok.fresh (C0 _)) (F8 (U2 _));have I2:=Inv.made (C:=C) I;have r2:AN (V.ref (s.heap.objs.size+1)::(vs++dvs)) (Value.ref (s.heap.objs.size+1)::(us++ds)):=.cons rfl (r.append hd);have hl:(Value.ref (s.heap.objs.size+1)::us++ds).length=ps.length:=by
  have e:=r2.length;rw[F.len _ _ _ _ hq]at e;exact e.symm
 refine wpAny_call (YW (f:=f) I.kIn M.makes M.init (beq_iff_eq.mp M.fn) (A3g (F.run _ X.stack _ _ ⟨Value.ref (s.heap.objs.size+1)::us,[]⟩ (Value.ref (s.heap.objs.size+1)::(us++ds)) _ _ E (hr.make C us [])
  (I2.env0.make C us []) (hb _ (Value.ref (s.heap.objs.size+1)::us) I2.kIn hl) r2 hq) λr s' hq'=>?_))
 cases r with
 |error e=>exact hx pins σ _ _ e s' I2 hq'
 |ok fl =>
  cases fl with
  |ret u =>
   obtain⟨v,H',I3,rv,ev,q3⟩:=I2.after hq';subst ev;exact⟨rv,⟨V.ref (s.heap.objs.size+1),H',I3,rfl,q3⟩⟩
  |next=>exact False.elim hq'
  |brk=>exact False.elim hq'
  |cont=>exact False.elim hq'
theorem pe_make(M:Mk X.K C f)(F:AI X.prog X.w X.K X.mg X.base CX k f fd ps sp)(hr:CN (k+1) X.A)(hg:Gl X x)(hm:X.mg x=some (.ref C))(hb:Cs X.K fd ps ds)(hd:AN dvs ds)(hx:FP CX X E)
  (ha:PA X (e::es) t) (hdb:(x==("__debug__" : Str))=false:=by decide) (he:starEach (e::es) X.env=(false,eval e X.env)::starEach es X.env:=by rfl) (hpl:(backTo pos (starEach es X.env)).any (·.1)=false:=by rfl) :
  PE X (.Call (.Name x p) (e::es) [] pos) (UA C sp dvs E t):=by
 intro pins s σ H Q I h;refine A0f (NJ I hg hm ?_ hdb);refine A4c (h₀:=X.base) I.ok.mod.kin M.kp (thn (ha pos pins s σ H _ I h) λus s1 ⟨vs,H1,I1,r,q⟩=>⟨I1.kIn,?_⟩) he hpl;exact RZ M F hr hb hd hx I1 r q
theorem Ys(M:Mk X.K C f)(F:AI X.prog X.w X.K X.mg X.base CX k f fd ps sp)(hr:CN (k+1) X.A)(hg:Gl X x)(hm:X.mg x=some (.ref C))(hb:Cs X.K fd ps ds)(hd:AN dvs ds)(hx:FP CX X E)
  (hdb:(x==("__debug__" : Str))=false:=by decide):PE X (.Call (.Name x p) [] [] pos) (UA C sp dvs E OZ):=by
 intro pins s σ H Q I h;refine A0f (NJ I hg hm ?_ hdb);exact PySem.W.callWith_K0 I.kIn M.kp (RZ (us:=[]) M F hr hb hd hx I .nil h)
end
def PK(X:Cx)(kws:List Keyword)(t:TA):Prop :=
 ∀(pos:Pos)(pins:List (Addr×Obj))(s:Shared)(σ:St)(H:Hp)(Q:List V->Hp->Prop),Inv X pins σ H s->t σ H Q->wpAny (model X.prog X.w) X.A (evalAll ((backToKw pos (keywordEach kws X.env)).map (·.2))) (AP X pins σ Q) X.xe s
section
variable{X:Cx}{CX:CXT}{k:Nat}{f C:Addr}{fd:FuncData}{ps ks:List Str}{sp:Sp}{E:XK}{x m:Str}{p pos apos kpos:Pos}{e o:Expr}{es:List Expr}{kws:List Keyword}{te ta:TE}{t tk:TA}{nm:Option Str}
theorem pk_nil:PK X [] OZ:=λ_ _ _ _ H Q I h=>wpAny_evalAll_nil ⟨[],H,I,.nil,h⟩
theorem pk_cons(ha:PE X e te)(hr:PK X kws t):PK X (⟨nm,e,kpos⟩::kws) (CD te t):=by
 intro pos pins s σ H Q I h;show wpAny _ _ (evalAll ((do let v <-eval e X.env;standAt pos;pure v)::(backToKw pos (keywordEach kws X.env)).map (·.2))) _ _ s;refine wpAny_evalAll_cons (W9 (thn (ha pins s σ H _ I h) λu s1 ⟨x,H1,I1,r1,q1⟩=>W9 (A4g (Z1 ?_))));exact thn (hr pos pins s1 σ H1 _ I1 q1) λus s2 ⟨xs,H2,I2,r2,q2⟩=>⟨x::xs,H2,I2,.cons r1 r2,q2⟩
variable{g:List Value->List Value->List Value}{gV:List V->List V->List V}
end
structure As(N P:List Str)(sc:Scope):Prop where
 kind:sc.kind=.function
 co:sc.isCoroutine=false
 gen:sc.isGenerator=false
 nd:N.Nodup
 pre:N.take P.length=P
 par:∀x∈P,sc.names.lookup x=some .local\/sc.names.lookup x=some .cell
 nofree:∀y∈sc.names,y.2≠.free
theorem Qj{kindOf:Str->Option NameKind}{x:Str}:∀{binds:List (Str×Value)}{m:Str->Option Value},(∀v,(x,v)∉binds)->bindL kindOf binds m x=m x
 |[],_,_=>rfl
 | (n,v)::r,m,h=>by
  unfold bindL;rw[Qj λw hw=>h w (C2 _ hw)];split
  ·have:x≠n:=by rintro rfl;exact h v C3
   simp[this]
  ·rfl
theorem Ql{kindOf:Str->Option NameKind}{x:Str}:∀{binds:List (Str×Value)}{m:Str->Option Value},(∀v,(x,v)∉binds)->bindC kindOf binds m x=m x
 |[],_,_=>rfl
 | (n,v)::r,m,h=>by
  unfold bindC;rw[Ql λw hw=>h w (C2 _ hw)];split
  ·rfl
  ·have:x≠n:=by rintro rfl;exact h v C3
   simp[this]
theorem Qk{kindOf:Str->Option NameKind}{x:Str}{v:Value}:∀{P:List Str}{vs:List Value}{i:Nat}{m:Str->Option Value},P.Nodup->P[i]?=some x->vs[i]?=some v->kindOf x=some .local ->
  bindL kindOf (P.zip vs) m x=some v
 |[],_,_,_,_,h,_,_=>by simp at h
 |_::_,[],_,_,_,_,h,_=>by simp at h
 |p::P,w::vs,0,m,nd,h1,h2,hk=>by
  simp at h1 h2;subst h1;subst h2;show bindL kindOf ((p,w)::P.zip vs) m p=_;unfold bindL;rw[Qj λv hv=>(M4.mp nd).1 (List.of_mem_zip hv).1,Y7 hk];simp
 |p::P,w::vs,i+1,m,nd,h1,h2,hk=>by
  show bindL kindOf ((p,w)::P.zip vs) m x=_;unfold bindL;exact Qk (i:=i) (M4.mp nd).2 (by simpa using h1) (by simpa using h2) hk
theorem Qm{kindOf:Str->Option NameKind}{x:Str}{v:Value}:∀{P:List Str}{vs:List Value}{i:Nat}{m:Str->Option Value},P.Nodup->P[i]?=some x->vs[i]?=some v->kindOf x≠some .local ->
  bindC kindOf (P.zip vs) m x=some v
 |[],_,_,_,_,h,_,_=>by simp at h
 |_::_,[],_,_,_,_,h,_=>by simp at h
 |p::P,w::vs,0,m,nd,h1,h2,hk=>by
  simp at h1 h2;subst h1;subst h2;show bindC kindOf ((p,w)::P.zip vs) m p=_;unfold bindC;rw[Ql λv hv=>(M4.mp nd).1 (List.of_mem_zip hv).1,Y4 hk];simp
 |p::P,w::vs,i+1,m,nd,h1,h2,hk=>by
  show bindC kindOf ((p,w)::P.zip vs) m x=_;unfold bindC;exact Qm (i:=i) (M4.mp nd).2 (by simpa using h1) (by simpa using h2) hk
def MX(N:List Str)(vs:List V):St:=vs.map some++List.replicate (N.length-vs.length) none
def Ww(CX:CXT)(P:Program)(w:World)(K:PySem.W.Frag)(mg:Str->Option Value)(base:Heap)(N:List Str)(qual:Str)(scope:Scope)(f:Addr)(cd:Value)(A:Around)(outer:List Env)(s:Shared)(H:Hp)(E:XK):Cx where
 prog:=P
 w:=w
 K:=K
 mg:=mg
 base:=base
 A:=A.deeper (envOfC qual scope s.heap.objs.size f cd)
 N:=N
 s₀:=s
 H₀:=H
 env:=envOfC qual scope s.heap.objs.size f cd
 outer:=outer
 stack:=envOfC qual scope s.heap.objs.size f cd::outer
 ex:=[]
 calm:=true
 fn:=λ_=>true
 pn:=[]
 xe:=λe s'=>wpAny (model P w) (A.deeper (envOfC qual scope s.heap.objs.size f cd)) (leaving (envOfC qual scope s.heap.objs.size f cd) e) (λ_ s''=>CX outer H s E e s'') (λe' s''=>CX outer H s E e' s'') s'
theorem SW{sc:Scope}{n:Nat}{x:Str}(h:sc.names.lookup x=some .cell):∃c,(cellsFrom n sc.names []).lookup x=some c:=by
 have q:=PySem.W.cellsFrom_some sc.names n [] (.inl h);exact Option.isSome_iff_exists.mp q
theorem Wo{CX:CXT}{P:Program}{w:World}{K:PySem.W.Frag}{mg:Str->Option Value}{base:Heap}{N ps:List Str}{qual:Str}{scope:Scope}{f:Addr}{cd:Value}{A:Around}{outer:List Env}{s s1:Shared}{H:Hp}{E:XK}{us:List Value}{vs:List V}
  (S:As N ps scope) (hd:A.handled=none) (e0:Nr P w K mg base A outer s H) (hl:vs.length=ps.length) (r:AN vs us)
  (x:InCallC s s.heap.objs.size (bindL (envOfC qual scope s.heap.objs.size f cd).kindOf (ps.zip us) λ_=>none) (cellsFrom (s.heap.objs.size+1) scope.names []) (bindC (envOfC qual scope s.heap.objs.size f cd).kindOf (ps.zip us) λ_=>none) s1) :
  Inv (Ww CX P w K mg base N qual scope f cd A outer s H E) [] (MX N vs) H s1:=by
 have hpl:ps.length<=N.length:=by have:=X9 List.length S.pre;rw[J0]at this;lia
 obtain⟨h1,tk,rfl,hk⟩:=x.done;have noA:∀b:Addr,b∉(Ww CX P w K mg base N qual scope f cd A outer s H E).ex:=λb z=>absurd (show b∈([]:List Addr)from z) A6;refine⟨⟨e0.mod,S.kind,rfl,rfl,C0 _,λy z c h1 h2=>?_,λy hy=>?_,λy c _ h=>?_,λ_=>hd,Around.frames_deeper e0.frames,.inr ⟨rfl,rfl⟩,λb z=>absurd z (noA b),e0.bs,e0.bsz,λb _ _=>noA b,λb z=>absurd z (noA b),e0.funs,e0.frf⟩,
  rfl,e0.bare,Un.kept hk,⟨_,x.toInCall.ns,λi y v h1 h2 h3=>?_⟩,λy c h=>⟨_,x.cell y c h⟩,e0.hok.fresh (C0 _),λy c h=>?_,λp hp=>absurd (show p∈([]:List (Addr×Obj))from hp) A6,e0.hok.kept hk,?_⟩
 ·exact name_of_addr x.apart (K5 h1) (K5 h2)
 ·have hy:scope.names.lookup y=some .cell\/scope.names.lookup y=some .free:=hy;rcases hy with hy|hy
  ·exact SW hy
  ·exact absurd rfl (S.nofree _ (K5 hy))
 ·exact T4 (x.above y c (K5 h))
 ·have hi:i<vs.length:=by
   unfold MX at h2;by_cases hi:i<vs.length
   ·exact hi
   ·rw[F9 (by simpa using hi)]at h2;rw[U5]at h2;split at h2<;>cases h2
  have ha:vs[i]?=some v:=by
   unfold MX at h2;rw[L8 (by simpa using hi),B8]at h2;cases e:vs[i]? with
   |none=>rw[e]at h2;cases h2
   |some a=>rw[e]at h2;cases h2;rfl
  obtain⟨u,hu,rv⟩:=r.get ha;have hp:ps[i]?=some y:=by
   rw[<-S.pre,U1 A0];exact h1
  have ndP:ps.Nodup:=by rw[<-S.pre];exact S.nd.sublist (List.take_sublist _ _)
  refine⟨u,rv,?_⟩;rcases S.par y (C9 hp)with k|k
  ·exact .inl ⟨k,Qk ndP hp hu k⟩
  ·obtain⟨c,e⟩:=SW (n:=s.heap.objs.size+1) k;refine .inr ⟨.inl k,c,e,?_⟩;have q:=x.cell y c e;rw[Qm ndP hp hu (by show scope.names.lookup y≠_;rw[k];decide)]at q;exact q
 ·exact e0.hok.fresh (T4 (x.above y c (K5 h)))
 ·unfold MX;show _=N.length;rw[C4,B6,P4];lia
theorem fn_of{CX:CXT}{P:Program}{w:World}{K:PySem.W.Frag}{mg:Str->Option Value}{base:Heap}{k:Nat}{f:Addr}{name qual:Str}{params:Arguments}{body:List Stmt}{scope:Scope}{dV kV doc pm cdv ct oc:Value}{an od:Option Addr}
  {osl:Array (Option Value)} {N ps:List Str} {sp:Sp} (lk:K.lookup f=some ⟨oc,od,.func (PySem.W.fnOf name qual params body scope dV kV doc pm an cdv ct),osl⟩) (hcd:PySem.W.codeIn K cdv qual=true) (S:As N ps scope)
  (len:∀vs H Q E,sp vs H Q E->vs.length=ps.length)
  (hbody:∀(A:Around)(outer:List Env)(s:Shared)(H:Hp)(vs:List V)(Q:VK)(E:XK),CN k (A.deeper (envOfC qual scope s.heap.objs.size f cdv))->sp vs H Q E ->
   ∃t,PSs (Ww CX P w K mg base N qual scope f cdv A outer s H E) body t/\t {nx:=λ_ H'=>Q .non H',rt:=Q} (MX N vs) H) :
  AI P w K mg base CX (k+1) f (PySem.W.fnOf name qual params body scope dV kV doc pm an cdv ct) ps sp:=by
 refine⟨len,λA outer s H args us vs Q E hr e0 hb r hsp=>?_⟩;have hl:=len _ _ _ _ hsp;have KX:K.In s.heap:=e0.mod.kin.keeps λb o e=>(e0.bs b o e).1;have lim:s.heap.NoLimit:=e0.mod.nolimit.keeps λb o e=>(e0.bs b o e).1;have hkind:∀y∈ps.zip us,scope.names.lookup y.1=some .local\/(scope.names.lookup y.1=some .cell/\((cellsFrom (s.heap.objs.size+1) scope.names []).lookup y.1).isSome=true):=λ⟨n,v⟩ hy=>by
  rcases S.par n (List.of_mem_zip hy).1 with q|q
  ·exact .inl q
  ·exact .inr ⟨q,PySem.W.cellsFrom_some _ _ _ (.inl q)⟩
 refine codeAny_call_function hr.depth (KX _ _ lk) rfl S.co S.gen rfl (PySem.W.codeRec_of KX hcd) (hb _ _ _ _ ?_);refine wpAny_newFunctionEnv_cells S.kind hkind λenv he s1 x=>?_;subst he;refine⟨lim.keeps x.toInCall.keep,codeAny_func ?_⟩;obtain⟨t,ht,hq⟩:=hbody A outer s H vs Q E (hr.deeper _) hsp;have I:Inv (Ww CX P w K mg base N qual scope f cdv A outer s H E) [] (MX N vs) H s1:=Wo S hr.hd e0 hl r x;refine K7 (ht [] s1 (MX N vs) H _ I hq) (λfl s' hs=>?_) λe s' hs=>hs;have fin:∀{σ':St}{H':Hp}{v:V}{u:Value},Inv (Ww CX P w K mg base N qual scope f cdv A outer s H E) [] σ' H' s'->AW v u->Q v H'->CE outer P w H s Q u s' :=
  λ{σ' H' v u} J rv q=>⟨v,H',J.os,J.bare,J.base,J.hok,rv,q⟩
 cases fl with
 |ret u =>
  obtain⟨v,σ',H',J,rv,q⟩:=hs;exact fin J rv q
 |next =>
  obtain⟨σ',H',J,q⟩:=hs;exact fin (v:=V.non) (u:=Value.none) J rfl q
 |brk =>
  obtain⟨_,_,_,q⟩:=hs;exact False.elim q
 |cont =>
  obtain⟨_,_,_,q⟩:=hs;exact False.elim q
section
variable{X:Cx}{x:Str}{p pos:Pos}{e:Expr}{es:List Expr}{t:TA}{id T:String}{r:List V->Hp->VK->Prop}
def tCB(r:List V->Hp->VK->Prop)(t:TA):TE:=fun σ H Q=>t σ H λvs H1=>r vs H1 Q
theorem AU(hc:Ga X (.builtin id) r)(hg:Gl X x)(hm:X.mg x=none)(hv:bootBuiltins x=some (.builtin id))(ha:PA X (e::es) t)(hn:x≠"__name__" := by decide)(hdb:(x==("__debug__" : Str))=false:=by decide)
  (he:starEach (e::es) X.env=(false,eval e X.env)::starEach es X.env:=by rfl) (hpl:(backTo pos (starEach es X.env)).any (·.1)=false:=by rfl):PE X (.Call (.Name x p) (e::es) [] pos) (tCB r t):=by
 intro pins s σ H Q I h;refine A0f (Jr I hg hm hv ?_ hn hdb);exact PyProof.Rows.callWith_builtin1 (thn (ha pos pins s σ H _ I h) λus s1 ⟨vs,H1,I1,r1,q1⟩=>hc pins s1 σ H1 vs us Q I1 r1 q1) he hpl
theorem BC(hc:Ga X (.type T) r)(hg:Gl X x)(hm:X.mg x=none)(hv:bootBuiltins x=some (.type T))(ha:PA X (e::es) t)(hn:x≠"__name__" := by decide)(hdb:(x==("__debug__" : Str))=false:=by decide)
  (he:starEach (e::es) X.env=(false,eval e X.env)::starEach es X.env:=by rfl) (hpl:(backTo pos (starEach es X.env)).any (·.1)=false:=by rfl):PE X (.Call (.Name x p) (e::es) [] pos) (tCB r t):=by
 intro pins s σ H Q I h;refine A0f (Jr I hg hm hv ?_ hn hdb);exact K6 (thn (ha pos pins s σ H _ I h) λus s1 ⟨vs,H1,I1,r1,q1⟩=>hc pins s1 σ H1 vs us Q I1 r1 q1) he hpl
end
end L2
namespace HT
open PySem PyProof.Rows
section
open PySem.SeqAt
open PySem.AutoSeq1 (wpAny_loadPart')
open PySem.MeetsSeq PySem.MeetsSeq2 PySem.MeetsSeq3
end
section
variable{prog:Program}{w:World}{A:Around}{E:Value->Shared->Prop}{s:Shared}
def sIx(n d:Nat):Option Int->Nat
 |none=>d
 |some v=>if v<0 then(v+(n:Int)).toNat else min v.toNat n
end
end HT
namespace L2
open PySem PySem.Spec PyProof.Rows
abbrev TO:=St->Hp->(Option Int->Hp->Prop)->Prop
def PO(X:Cx)(e:Option Expr)(t:TO):Prop :=
 ∀(pins:List (Addr×Obj))(s:Shared)(σ:St)(H:Hp)(Q:Option Int->Hp->Prop),Inv X pins σ H s->t σ H Q ->
  wpAny (model X.prog X.w) X.A (evalPart e X.env) (λu s'=>∃o H',Inv X pins σ H' s'/\IsPart u o/\Q o H') X.xe s
def tNoPart:TO:=λ_ H Q=>Q none H
def tPart(t:TE):TO:=fun σ H Q=>t σ H λx H1=>∃i,x=.int i/\Q (some i) H1
section
variable{X:Cx}{e:Expr}{te:TE}{lo hi:Option Expr}{tl th:TO}{pos p2:Pos}
theorem po_none:PO X none tNoPart:=by
 intro pins s σ H Q I h;rw[evalPart_none];exact Z1 ⟨none,H,I,.none,h⟩
theorem QK(h:PE X e te):PO X (some e) (tPart te):=by
 intro pins s σ H Q I hw;rw[evalPart_some];refine thn (h pins s σ H _ I hw) λu s1 ⟨x,H1,I1,r1,q1⟩=>?_;obtain⟨i,rfl,q⟩:=q1;obtain⟨t,rfl⟩:=r1;exact⟨some i,H1,I1,.int i t,q⟩
def SlR(X:Cx)(r:V->Option Int->Option Int->Hp->VK->Prop):Prop :=
 ∀(pins:List (Addr×Obj))(s:Shared)(σ:St)(H:Hp)(x:V)(v vl vu:Value)(lo hi:Option Int)(sl:Addr)(Q:VK),Inv X pins σ H s->AW x v->s.heap.IsSliceOf sl vl vu .none->IsPart vl lo->IsPart vu hi->r x lo hi H Q ->
  ∃T id,typeLookup (.type T) "__getitem__" = pure (some (.builtin id))/\s.TypeIs v T/\wpAny (model X.prog X.w) X.A (getItem v (.ref sl)) (EP X pins σ Q) X.xe s
def tSl(r:V->Option Int->Option Int->Hp->VK->Prop)(te:TE)(tl th:TO):TE:=fun σ H Q=>te σ H λx H1=>tl σ H1 λl H2=>th σ H2 λu H3=>r x l u H3 Q
theorem Si{r:V->Option Int->Option Int->Hp->VK->Prop}(hr:SlR X r)(he:PE X e te)(hl:PO X lo tl)(hu:PO X hi th):PE X (.Subscript e (.Slice lo hi none p2) pos) (tSl r te tl th):=by
 intro pins s σ H Q I h;refine Subscript_ (thn (he pins s σ H _ I h) λv s1 ⟨x,H1,I1,r1,q1⟩=>?_);refine wpAny_Slice (thn (hl pins s1 σ H1 _ I1 q1) λvl s2 ⟨l,H2,I2,pl,q2⟩=>thn (hu pins s2 σ H2 _ I2 q2) λvu s3 ⟨u,H3,I3,pu,q3⟩=>?_);rw[evalPart_none];refine Z1 ?_;have I4:Inv X pins σ H3 {s3 with heap:=s3.heap.push {cls:=.type "slice",data:=.fields #[vl,vu,.none]} }:=I3.kept (t':=s3.toks) λb ob q=>B9 _ q;obtain⟨T,id,hT,ht,hg⟩:=hr pins {s3 with heap:=s3.heap.push {cls:=.type "slice",data:=.fields #[vl,vu,.none]} } σ H3 x v vl vu l u s3.heap.objs.size Q I4 r1 (Heap.IsSliceOf.new ..) pl pu q3;show wpAny (model X.prog X.w) X.A (subscriptTail e (.Slice lo hi none p2) v (.ref s3.heap.objs.size)) (EP X pins σ Q) X.xe {s3 with heap:=s3.heap.push {cls:=.type "slice",data:=.fields #[vl,vu,.none]} };exact tail_any (ops:=[.ref s3.heap.objs.size,v]) ht hT hg (by with_unfolding_all rfl)
def Uk(xs:List V)(lo hi:Option Int):List V:=(xs.drop (HT.sIx xs.length 0 lo)).take (HT.sIx xs.length xs.length hi-HT.sIx xs.length 0 lo)
theorem SR(xs:List V)(lo hi:Option Int):(Uk xs lo hi).length<=xs.length:=by
 unfold Uk;rw[J0,List.length_drop];lia
end
def ixN(n:Nat)(i:Int):Option Nat:=if 0<=i then(if i<n then some i.toNat else none)else if -(n:Int)<=i then some (i+n).toNat else none
def atI{α:Type}(xs:List α)(i:Int):Option α:=(ixN xs.length i).bind λj=>xs[j]?
theorem Vi{n:Nat}{i:Int}{j:Nat}(h:ixN n i=some j):seqIndex? i n=some j/\j<n/\-(n:Int)<=i/\i<n:=by
 unfold ixN at h;by_cases h0:0<=i
 ·rw[Y7 h0]at h;by_cases h1:i<n
  ·rw[Y7 h1]at h;have e:i.toNat=j:=Z5 h;exact⟨by rw[seqIndex_of h0 h1,e],by lia,by lia,h1⟩
  ·rw[Y4 h1]at h;cases h
 ·rw[Y4 h0]at h;by_cases h1:-(n:Int)<=i
  ·rw[Y7 h1]at h;have e:(i+n).toNat=j:=Z5 h;exact⟨by rw[seqIndex_neg A0 h1,e],by lia,h1,by lia⟩
  ·rw[Y4 h1]at h;cases h
theorem Rt{α:Type}{xs:List α}{i:Int}{v:α}(h:atI xs i=some v):∃j,seqIndex? i xs.length=some j/\xs[j]?=some v/\j<xs.length/\-(xs.length:Int)<=i/\i<xs.length:=by
 unfold atI at h;cases e:ixN xs.length i with
 |none=>rw[e]at h;cases h
 |some j =>
  rw[e]at h;obtain⟨h1,h2,h3,h4⟩:=Vi e;exact⟨j,h1,h,h2,h3,h4⟩
theorem Ai{α:Type}{xs:List α}{j:Nat}{v:α}(h:xs[j]?=some v):atI xs (j:Int)=some v:=by
 have hj:j<xs.length:=(B7.mp h).1;have e:ixN xs.length (j:Int)=some j:=by
  unfold ixN;rw[Y7 A0,Y7 A0];simp
 unfold atI;rw[e];exact h
def PlainIx(b:Expr):Prop:=∀o i,subscripted b false o i=operate [o,i] (getItem o i)
def IxR(X:Cx)(r:R2):Prop :=
 ∀(value slice:Expr)(pins:List (Addr×Obj))(s:Shared)(σ:St)(H:Hp)(x y:V)(v u:Value)(Q:VK),Inv X pins σ H s->AW x v->AW y u->r x y H Q ->
  subscripted slice false v u=operate [v,u] (getItem v u)->wpAny (model X.prog X.w) X.A (subscriptTail value slice v u) (EP X pins σ Q) X.xe s
def MtR(X:Cx)(id:String)(r:V->List V->Hp->VK->Prop):Prop :=
 ∀(pins:List (Addr×Obj))(s:Shared)(σ:St)(H:Hp)(x:V)(xs:List V)(v:Value)(us:List Value)(Q:VK),Inv X pins σ H s->AW x v->AN xs us->r x xs H Q ->
  wpAny (model X.prog X.w) X.A (call (.builtin id) (v::us)) (EP X pins σ Q) X.xe s
section
variable{X:Cx}{a b:Expr}{ta tb:TE}{pos:Pos}
theorem Aj{r:R2}(hr:IxR X r)(ha:PE X a ta)(hb:PE X b tb)(hs:PlainIx b):PE X (.Subscript a b pos) (tOp r ta tb):=by
 intro pins s σ H Q I h;exact Subscript_ (binT ha hb I h λv u s2 x y H2 I2 rx ry q=>hr a b pins s2 σ H2 x y v u Q I2 rx ry q (hs _ _))
def rIxL(K:PySem.W.Frag):R2:=λx y H Q=>∃p xs i v,x=.ref p/\y=.int i/\SqL K H p xs/\atI xs i=some v/\Q v H
def JK(K:PySem.W.Frag):R2:=λx y H Q=>∃p xs i v,x=.ref p/\y=.int i/\SqT K H p xs/\atI xs i=some v/\Q v H
def rIxS:R2:=λx y H Q=>∃z i c,x=.str z/\y=.int i/\z.length<=sizeLine/\atI z.cps.toList i=some c/\Q (.str ⟨#[c]⟩) H
theorem Ax:IxR X (rIxL X.K):=by
 intro value slice pins s σ H x y v u Q I rx ry h hs;obtain⟨p,xs,i,z,rfl,rfl,hq,he,q⟩:=h;cases rx;obtain⟨t,rfl⟩:=ry;obtain⟨its,r,pl,hz⟩:=I.list hq;obtain⟨j,h1,h2,h3,h4,h5⟩:=Rt he;obtain⟨w,ew,rw'⟩:=r.get h2;have hl:=r.length;have hn:=MQ;have fin:EP X pins σ Q w s:=⟨z,H,I,rw',q⟩
 by_cases h0:0<=i
 ·have hj:i.toNat=j:=by
   rw[seqIndex_of h0 h5]at h1;exact Z5 h1
  exact item_listR pl.isList h0 A0 (by rw[hj];simpa using ew) fin hs
 ·have hj:(i+(its.toArray.size:Int)).toNat=j:=by
   rw[seqIndex_neg A0 h4]at h1;rw[F1,<-hl];exact Z5 h1
  exact subscriptTail_builtinR (x:=w) pl.isList.typeIs slot_list_getitem.lookup
   (wpAny_getItem_list_neg (Q:=λr s'=>r=w/\EP X pins σ Q r s') pl.isList A0 (by rw[F1]<;>lia) A0 (by rw[hj];simpa using ew) ⟨rfl,fin⟩) hs
theorem An:IxR X (JK X.K):=by
 intro value slice pins s σ H x y v u Q I rx ry h hs;obtain⟨p,xs,i,z,rfl,rfl,hq,he,q⟩:=h;cases rx;obtain⟨t,rfl⟩:=ry;obtain⟨its,r,pl,hz⟩:=I.tuple hq;obtain⟨j,h1,h2,h3,h4,h5⟩:=Rt he;obtain⟨w,ew,rw'⟩:=r.get h2;have hl:=r.length;have hn:=MQ;have fin:EP X pins σ Q w s:=⟨z,H,I,rw',q⟩
 exact subscriptTail_builtinR (x:=w) pl.typeIs slot_tuple_getitem.lookup
  (getItem_tuple (j:=j) (Q:=λr s'=>r=w/\EP X pins σ Q r s') pl A0 A0 (by rw[F1,<-hl];exact h1) (by simpa using ew) ⟨rfl,fin⟩) hs
theorem Zm:IxR X rIxS:=by
 intro value slice pins s σ H x y v u Q I rx ry h hs;obtain⟨z,i,c,rfl,rfl,hz,he,q⟩:=h;obtain⟨t,rfl⟩:=rx;obtain⟨t',rfl⟩:=ry;obtain⟨j,h1,h2,h3,h4,h5⟩:=Rt he;have hl:z.cps.toList.length=z.length:=by simp[Str.length]
 rw[hl]at h1 h4 h5;have hn:=MQ;exact tail_any (A3h s z t) slot_str_getitem.lookup (getItem_str (c:=c) (by
  have e1:decide (i < -(2^63:Int))=false:=Z0 A0;have e2:decide (i ≥ 2^63)=false:=Z0 A0;rw[e1,e2,Bool.or_false]) (by rw[h1];simpa using h2) ⟨.str ⟨#[c]⟩,H,I.tok _,⟨_,rfl⟩,q⟩) hs
theorem TW(its:List Value)(n j:Nat)(u:Value):Obj.mapSeq (·.setIfInBounds j u) {cls:=.type "list",data:=.seq its.toArray n}={cls:=.type "list",data:=.seq (its.set j u).toArray n}:=by
 simp[Obj.mapSeq]
theorem Inv.lst{pins:List (Addr×Obj)}{σ:St}{H:Hp}{s:Shared}{p:Addr}{xs:List V}(I:Inv X pins σ H s)(h:H p=some (.lst xs)) :
  ∃(its:List Value)(n:Nat),AN xs its/\s.heap.get? p=some {cls:=.type "list",data:=.seq its.toArray n}/\xs.length<=sizeLine:=by
 obtain⟨z,its,n,r,e⟩:=I.hok p _ h;exact⟨its,n,r,e,z⟩
theorem Inv.lstUpd{pins:List (Addr×Obj)}{σ:St}{H:Hp}{s:Shared}{p:Addr}{xs ys:List V}{its its':List Value}{n n':Nat}{f:Obj->Obj}(I:Inv X pins σ H s)(h:H p=some (.lst xs))
  (ho:s.heap.get? p=some {cls:=.type "list",data:=.seq its.toArray n}) (hf:f {cls:=.type "list",data:=.seq its.toArray n}={cls:=.type "list",data:=.seq its'.toArray n'}) (r:AN ys its') (hz:ys.length<=sizeLine) (t:Nat) :
  Inv X pins σ (upd H p (.lst ys)) {s with heap:=s.heap.update p f,toks:=t}:=by
 have e:(s.heap.update p f).get? p=some {cls:=.type "list",data:=.seq its'.toArray n'}:=by
  rw[V8 f ho (by rw[hf]<;>rfl),hf]
 refine I.write (x:=p) (e:=p) (by rw[h];trivial) (.inl rfl) (λb u hb q=>(V1 _ _ (Z3 hb)).trans q) ⟨_,e⟩ ?_;exact⟨hz,its',n',r,e⟩
def rSetL:V->V->V->Hp->(Hp->Prop)->Prop:=λo i v H Q=>∃p xs k j,o=.ref p/\i=.int k/\H p=some (.lst xs)/\ixN xs.length k=some j/\Q (upd H p (.lst (xs.set j v)))
theorem Yj:PSet X rSetL:=by
 intro pins s σ H o i v ov iv u Q I ro ri rv h;obtain⟨p,xs,k,j,rfl,rfl,hp,hj,q⟩:=h;cases ro;obtain⟨t,rfl⟩:=ri;obtain⟨its,n,r,ho,hz⟩:=I.lst hp;obtain⟨h1,h2,h3,h4⟩:=Vi hj;have hl:=r.length;have hn:=MQ;have I':Inv X pins σ (upd H p (.lst (xs.set j v))) {s with heap:=s.heap.update p (Obj.mapSeq (·.setIfInBounds j u))} :=
  I.lstUpd hp ho (TW its n j u) (r.set rv j) (by rw[List.length_set];exact hz) s.toks
 by_cases h0:0<=k
 ·have hk:k.toNat=j:=by
   rw[seqIndex_of h0 h4]at h1;exact Z5 h1
  exact PySem.W.ki_setAt ho h0 A0 (by rw[F1,<-hl];exact h4) (by rw[hk];exact⟨_,I',q⟩)
 ·have hk:(k+(its.toArray.size:Int)).toNat=j:=by
   rw[seqIndex_neg A0 h3]at h1;rw[F1,<-hl];exact Z5 h1
  exact PySem.W.ki_setBack ho A0 (by rw[F1,<-hl];exact h3) A0 (by rw[hk];exact⟨_,I',q⟩)
theorem QD(lo hi:Option Int)(n:Nat):(sliceBounds lo hi none n).1=((HT.sIx n 0 lo:Nat):Int)/\(sliceBounds lo hi none n).2.1=((HT.sIx n n hi:Nat):Int)/\(sliceBounds lo hi none n).2.2=1:=by
 refine⟨?_,?_,rfl⟩
 ·cases lo with
  |none=>simp[sliceBounds,HT.sIx]
  |some i =>
   simp only[sliceBounds,HT.sIx,Option.getD_none,show(1:Int) > 0 by decide,A2f];by_cases h:i<0
   ·simp only[h,A2f]<;>lia
   ·simp only[h,A1d]<;>lia
 ·cases hi with
  |none=>simp[sliceBounds,HT.sIx]
  |some i =>
   simp only[sliceBounds,HT.sIx,Option.getD_none,show(1:Int) > 0 by decide,A2f];by_cases h:i<0
   ·simp only[h,A2f]<;>lia
   ·simp only[h,A1d]<;>lia
theorem Pa(its:List Value)(lo hi:Option Int):slicePick its.toArray lo hi none=((its.drop (HT.sIx its.length 0 lo)).take (HT.sIx its.length its.length hi-HT.sIx its.length 0 lo)).toArray:=by
 obtain⟨h1,h2,h3⟩:=QD lo hi its.toArray.size;unfold slicePick;rw[h1,h2,h3];simp only[sliceRange_one,pick_run,F1]<;>rfl
def rSlL(K:PySem.W.Frag):V->Option Int->Option Int->Hp->VK->Prop:=λx lo hi H Q=>∃a xs,x=.ref a/\SqL K H a xs/\∀p,H p=none->Q (.ref p) (upd H p (.lst (Uk xs lo hi)))
theorem UN:SlR X (rSlL X.K):=by
 intro pins s σ H x v vl vu lo hi sl Q I rx hs pl pu h;obtain⟨a,xs,rfl,hx,q⟩:=h;cases rx;obtain⟨its,r,ht,hz⟩:=I.list hx;have hlen:=r.length;refine⟨"list",_,slot_list_getitem.lookup,ht.isList.typeIs,?_⟩;refine wpAny_getItem_list_slice ht.isList hs pl pu .none A6 ?_ (by rw[F1]<;>lia);rw[Pa,<-hlen];refine⟨.ref s.heap.objs.size,_,I.laid (t':=s.toks) (o:=.lst (Uk xs lo hi)) (λb ob q=>B9 _ q) (C0 _) ?_,rfl,q _ (I.hok.fresh (C0 _))⟩;exact⟨C7 (SR xs lo hi) hz,_,0,(r.drop (HT.sIx xs.length 0 lo)).take (HT.sIx xs.length xs.length hi-HT.sIx xs.length 0 lo),D3 _ rfl⟩
def Mc:V->Bool
 |.non=>true
 |.bl _=>true
 |.int _=>true
 |.str _=>true
 |_=>false
def eqV:V->V->Bool
 |.non,.non=>true
 |.bl a,.bl b=>a==b
 |.bl a,.int b=>(if a then 1 else 0)==b
 |.int a,.bl b=>a==(if b then 1 else 0)
 |.int a,.int b=>a==b
 |.str a,.str b=>a==b
 |_,_=>false
theorem eqAt_V{A:Around}{s:Shared}{y x:V}{u v:Value}(ry:AW y u)(rx:AW x v)(fy:Mc y=true)(fx:Mc x=true):SeqAt.EqAt A s u v (eqV y x):=by
 cases y with
 |non =>
  cases ry;cases x with
  |non=>cases rx;exact SeqAt.EqAt.same _
  |bl b=>cases rx;exact SeqAt.EqAt.none_bool b
  |int b=>obtain⟨t,rfl⟩:=rx;exact SeqAt.EqAt.none_int b t
  |str b=>obtain⟨t,rfl⟩:=rx;exact SeqAt.EqAt.none_str b t
  |_=>exact absurd (show false=true from fx) C8
 |bl a =>
  cases ry;cases x with
  |non=>cases rx;exact SeqAt.EqAt.bool_none a
  |bl b=>cases rx;exact SeqAt.EqAt.bool_bool a b
  |int b=>obtain⟨t,rfl⟩:=rx;exact SeqAt.EqAt.bool_int a b t
  |str b=>obtain⟨t,rfl⟩:=rx;exact SeqAt.EqAt.bool_str a b t
  |_=>exact absurd (show false=true from fx) C8
 |int a =>
  obtain⟨t',rfl⟩:=ry;cases x with
  |non=>cases rx;exact SeqAt.EqAt.int_none a t'
  |bl b=>cases rx;exact SeqAt.EqAt.int_bool a t' b
  |int b=>obtain⟨t,rfl⟩:=rx;exact SeqAt.EqAt.int_int a t' b t
  |str b=>obtain⟨t,rfl⟩:=rx;exact SeqAt.EqAt.int_str a t' b t
  |_=>exact absurd (show false=true from fx) C8
 |str a =>
  obtain⟨t',rfl⟩:=ry;cases x with
  |non=>cases rx;exact SeqAt.EqAt.str_none a t'
  |bl b=>cases rx;exact SeqAt.EqAt.str_bool a t' b
  |int b=>obtain⟨t,rfl⟩:=rx;exact SeqAt.EqAt.str_int a t' b t
  |str b=>obtain⟨t,rfl⟩:=rx;exact SeqAt.EqAt.str_str a t' b t
  |_=>exact absurd (show false=true from fx) C8
 |_=>exact absurd (show false=true from fy) C8
def eqU(x:V)(u:Value):Bool:=match u with
 |.none=>eqV .non x
 |.bool b=>eqV (.bl b) x
 |.int i _=>eqV (.int i) x
 |.str z _=>eqV (.str z) x
 |_=>false
theorem Zx{x y:V}{u:Value}(r:AW y u)(f:Mc y=true):eqU x u=eqV y x:=by
 cases y with
 |non=>cases r;rfl
 |bl b=>cases r;rfl
 |int i=>obtain⟨t,rfl⟩:=r;rfl
 |str z=>obtain⟨t,rfl⟩:=r;rfl
 |_=>exact absurd (show false=true from f) C8
theorem Rw{x:V}:∀{xs:List V}{us:List Value},AN xs us->xs.all Mc=true->us.any (eqU x)=xs.any λy=>eqV y x
 |_,_,.nil,_=>rfl
 |y::xs,u::us,.cons r t,f=>by
  rw[List.all_cons,Q0]at f;rw[S6,S6,Zx r f.1,Rw t f.2]
theorem OJ{A:Around}{s:Shared}{x:V}{v:Value}(rx:AW x v)(fx:Mc x=true):∀{xs:List V}{us:List Value},AN xs us->xs.all Mc=true->∀u∈us,SeqAt.EqAt A s u v (eqU x u)
 |_,_,.nil,_=>λu hu=>by cases hu
 |y::xs,u::us,.cons r t,f=>λu' hu=>by
  rw[List.all_cons,Q0]at f;rcases C1.mp hu with rfl|hu
  ·rw[Zx r f.1];exact eqAt_V r rx f.1 fx
  ·exact OJ rx fx t f.2 u' hu
def inV(x:V)(xs:List V):Bool:=xs.any λy=>eqV y x
def rIn(K:PySem.W.Frag)(neg:Bool):R2:=λx y H Q=>∃p xs,y=.ref p/\(SqL K H p xs\/SqT K H p xs)/\Mc x=true/\xs.all Mc=true/\Q (.bl (if neg then !inV x xs else inV x xs)) H
theorem MG:OpR X (compareOp .In) (rIn X.K false):=by
 intro pins s σ H x y v u Q I rx ry h;obtain⟨p,xs,rfl,hq,fx,fs,q⟩:=h;cases ry;rcases hq with hq|hq
 ·obtain⟨its,r,pl,hz⟩:=I.list hq;refine SeqAt.in_listAt (eqU x) pl.isList (λw hw=>OJ rx fx r fs w (by simpa using hw)) ⟨.bl _,H,I,rfl,?_⟩;rw[show its.toArray.any (eqU x)=its.any (eqU x) by simp,Rw r fs];exact q
 ·obtain⟨its,r,pl,hz⟩:=I.tuple hq;refine SeqAt.in_tupleAt (eqU x) pl (λw hw=>OJ rx fx r fs w (by simpa using hw)) ⟨.bl _,H,I,rfl,?_⟩;rw[show its.toArray.any (eqU x)=its.any (eqU x) by simp,Rw r fs];exact q
theorem CA:Ga X (.builtin "len") (λxs H Q=>∃p ys,xs=[.ref p]/\(SqL X.K H p ys\/SqT X.K H p ys)/\Q (.int ys.length) H):=by
 intro pins s σ H xs us Q I r h;obtain⟨p,ys,rfl,hq,q⟩:=h;obtain⟨u,rfl,rx⟩:=RA r;cases rx;have hn:=MQ;rcases hq with hq|hq
 ·obtain⟨its,r',pl,hz⟩:=I.list hq;have hlen:=r'.length;exact Calls.call_len_list pl.isList (by simp only[F1]<;>lia) ⟨.int ys.length,H,I.tok _,⟨s.toks+1,by rw[F1,hlen]⟩,q⟩
 ·obtain⟨its,r',pl,hz⟩:=I.tuple hq;have hlen:=r'.length;exact len_tuple pl (by simp only[F1]<;>lia) ⟨.int ys.length,H,I.tok _,⟨s.toks+1,by rw[F1,hlen]⟩,q⟩
theorem Iy:Ga X (.builtin "len") (λxs H Q=>∃z,xs=[.str z]/\z.length<=sizeLine/\Q (.int z.length) H):=by
 intro pins s σ H xs us Q I r h;obtain⟨z,rfl,hz,q⟩:=h;obtain⟨u,rfl,t,rfl⟩:=RA r;have hn:=MQ;exact len_str A0 ⟨.int z.length,H,I.tok _,⟨_,rfl⟩,q⟩
theorem Rq:Ga X (.type "list") (λxs H Q=>∃p ys,xs=[.ref p]/\(SqL X.K H p ys\/SqT X.K H p ys)/\∀l,H l=none->Q (.ref l) (upd H l (.lst ys))):=by
 intro pins s σ H xs us Q I r h;obtain⟨p,ys,rfl,hq,q⟩:=h;obtain⟨u,rfl,rx⟩:=RA r;cases rx;have fin:∀(its:List Value),AN ys its->ys.length<=sizeLine->∀(h':Heap)(c':Nat),(∀b o',s.heap.get? b=some o'->h'.get? b=some o') ->
   h'.get? s.heap.objs.size=some {cls:=.type "list",dict:=none,data:=.seq its.toArray c',slots:=#[]}->EP X pins σ Q (.ref s.heap.objs.size) {s with heap:=h'}:=λits r' hz h' c' kp e =>
  ⟨.ref s.heap.objs.size,_,I.laid (t':=s.toks) kp (C0 _) (show BI X.prog X.w _ h' _ (.lst ys)from⟨hz,its,c',r',e⟩),rfl,q _ (I.hok.fresh (C0 _))⟩
 rcases hq with hq|hq
 ·obtain⟨its,r',pl,hz⟩:=I.list hq;have hlen:=r'.length;obtain⟨o,ho,hc,n,hd⟩:=pl.isList;exact call_list_seq p (.inl rfl) ho hc hd (λh' c' kp e=>fin its r' hz h' c' kp e) (by simp only[F1]<;>lia)
 ·obtain⟨its,r',pl,hz⟩:=I.tuple hq;have hlen:=r'.length;obtain⟨o,ho,hc,n,hd⟩:=pl;exact call_list_seq p (.inr rfl) ho hc hd (λh' c' kp e=>fin its r' hz h' c' kp e) (by simp only[F1]<;>lia)
theorem BN:Ga X (.type "tuple") (λxs H Q=>∃p ys,xs=[.ref p]/\((SqL X.K H p ys/\∀l,H l=none->Q (.ref l) (upd H l (.tup ys)))\/(SqT X.K H p ys/\Q (.ref p) H))):=by
 intro pins s σ H xs us Q I r h;obtain⟨p,ys,rfl,h⟩:=h;obtain⟨u,rfl,rx⟩:=RA r;cases rx;rcases h with ⟨hq,q⟩|⟨hq,q⟩
 ·obtain⟨its,r',pl,hz⟩:=I.list hq;have hlen:=r'.length;refine call_tuple_list pl.isList (λh' kp=>?_) (by simp only[F1]<;>lia);have I1:Inv X pins σ H {s with heap:=h'}:=I.kept (t':=s.toks) kp
  have I2:Inv X pins σ (upd H h'.objs.size (.tup ys)) {s with heap:=h'.push {cls:=.type "tuple",data:=.seq its.toArray} } :=
   I1.laid (t':=s.toks) (λb o e=>B9 _ e) (C0 _) (show BI X.prog X.w _ _ _ (.tup ys)from⟨hz,its,r',IsTup.new _ _⟩)
  exact⟨.ref h'.objs.size,_,I2,rfl,q _ (I1.hok.fresh (C0 _))⟩
 ·obtain⟨its,r',pl,hz⟩:=I.tuple hq;exact call_tuple_same pl ⟨.ref p,H,I,rfl,q⟩
def tyV(K:PySem.W.Frag)(T:String)(x:V)(H:Hp):Prop:=match x with
 |.str _=>T="str"
 |.int _=>T="int"
 |.ref p=>(T="list" /\ ∃xs,SqL K H p xs)\/(T="tuple" /\ ∃o,K.lookup p=some o/\o.cls=.type "tuple" /\ o.dict=none) \/
   (T="dict" /\ ((∃kvs,H p=some (.dK kvs))\/∃kvs,H p=some (.dT kvs)))\/(T="set" /\ ∃S n,H p=some (.set S n))
 |_=>False
theorem tyV_is{pins:List (Addr×Obj)}{σ:St}{H:Hp}{s:Shared}{T:String}{x:V}{v:Value}(I:Inv X pins σ H s)(r:AW x v)(ty:tyV X.K T x H) :
  s.TypeIs v T/\∀a,v=.ref a->∃ob,s.heap.get? a=some ob/\ob.dict=none:=by
 cases x with
 |str z =>
  obtain⟨t,rfl⟩:=r;cases(show T="str" from ty);exact⟨A3h s z t,λ_ e=>nomatch e⟩
 |int i =>
  obtain⟨t,rfl⟩:=r;cases(show T="int" from ty);exact⟨typeIs_int s i t,λ_ e=>nomatch e⟩
 |ref p =>
  cases r;rcases ty with ⟨rfl,xs,hq⟩|⟨rfl,o,hk,hc,hd⟩|⟨rfl,hk⟩|⟨rfl,S,n,hk⟩
  ·obtain⟨its,_,pl,_⟩:=I.list hq;refine⟨pl.isList.typeIs,λa e=>?_⟩;cases e;obtain⟨o,n,e,c,hd,_⟩:=pl;exact⟨o,e,hd⟩
  ·refine⟨⟨o,I.kIn p o hk,hc⟩,λa e=>?_⟩;cases e;exact⟨o,I.kIn _ o hk,hd⟩
  ·have z:∃o,s.heap.get? p=some o/\o.ExactDict:=by
    rcases hk with ⟨kvs,hk⟩|⟨kvs,hk⟩
    ·obtain⟨_,_,_,_,o,_,_,e,ex,_⟩:=I.hok p _ hk;exact⟨o,e,ex⟩
    ·obtain⟨_,_,_,_,o,_,_,e,ex,_⟩:=I.hok p _ hk;exact⟨o,e,ex⟩
   obtain⟨o,e,ex⟩:=z;refine⟨⟨o,e,ex.1⟩,λa e2=>?_⟩;cases e2;exact⟨o,e,ex.2.1⟩
  ·obtain⟨o,_,_,_,e,ex,_⟩:=I.hok p _ hk;refine⟨⟨o,e,ex.1⟩,λa e2=>?_⟩;cases e2;exact⟨o,e,ex.2.1⟩
 |_=>exact False.elim ty
def tBM(K:PySem.W.Frag)(T:String)(r:V->List V->Hp->VK->Prop)(to:TE)(t:TA):TE:=fun σ H Q=>to σ H λx H1=>tyV K T x H1/\t σ H1 λxs H2=>r x xs H2 Q
variable{o e:Expr}{es:List Expr}{to:TE}{t:TA}{name:Str}{apos cpos:Pos}{T id:String}{r:V->List V->Hp->VK->Prop}
theorem DB(pa:PlainAttrs T)(slot:Slot T name id)(hty:typeOf (.builtin id)=pure (.type "method_descriptor"))(hm:MtR X id r)(ho:PE X o to)(ha:PA X (e::es) t)
  (hbase:attributeBase o name X.env (eval o X.env)=eval o X.env:=by rfl)
  (hfew:((backTo cpos (starEach (e::es) X.env)).all (λx=>!x.1) && (backToKw cpos (keywordEach [] X.env)).all (λx=>x.1.isSome)
   && decide ((e::es).length+([]:List Keyword).length+(if([]:List Keyword).isEmpty then 0 else 1)<30))=true:=by rfl)
  (hline:(apos.endLine==cpos.line)=true:=by rfl) (hs:starEach (e::es) X.env=(false,eval e X.env)::starEach es X.env:=by rfl) (hplain:(backTo cpos (starEach es X.env)).any (·.1)=false:=by rfl) :
  PE X (.Call (.Attribute o name apos) (e::es) [] cpos) (tBM X.K T r to t):=by
 intro pins s σ H Q I h;refine wpAny_Call_method_late hbase hfew hline rfl (thn (ho pins s σ H _ I h) λv s1 ⟨x,H1,I1,r1,ty,q1⟩=>?_);obtain⟨h1,h2⟩:=tyV_is I1 r1 ty;refine⟨T,id,pa,slot,hty,h1,h2,?_⟩;have hA:=ha cpos pins s1 σ H1 _ I1 q1;rw[hs]at hA⊢;refine Calls.callWith_builtin (by show(false || (backTo cpos (starEach es X.env)).any (·.1))=false;rw[hplain]<;>rfl) (Calls.evalArgs_plain ?_);exact thn hA λus s2 ⟨vs,H2,I2,r2,q2⟩=>hm pins s2 σ H2 x vs v us Q I2 r1 r2 q2
end
def MtM(X:Cx)(id:String)(r:V->List V->Hp->VK->Prop):Prop :=
 ∀(pins:List (Addr×Obj))(s:Shared)(σ:St)(H:Hp)(x:V)(xs:List V)(v:Value)(us:List Value)(Q:VK),Inv X pins σ H s->AW x v->AN xs us->r x xs H Q ->
  wpAny (model X.prog X.w) X.A (call (.builtin id) (v::us)) (EP X pins σ Q) X.xe s
theorem AN.one:∀{x:V}{us:List Value},AN [x] us->∃u,us=[u]/\AW x u
 |_,_,.cons r .nil=>⟨_,rfl,r⟩
theorem AN.two:∀{x y:V}{us:List Value},AN [x,y] us->∃u v,us=[u,v]/\AW x u/\AW y v:=by
 intro x y us h;cases h with
 |cons r t=>cases t with
  |cons q t=>cases t;exact⟨_,_,rfl,r,q⟩
theorem AN.rep{xs:List V}{us:List Value}(h:AN xs us):∀k:Nat,AN (List.replicate k xs).flatten (List.replicate k us).flatten
 |0=>.nil
 |k+1=>by
  rw[R7,R7,R0,R0];exact AN.append h (AN.rep h k)
theorem PX(its:List Value):∀(k:Nat)(acc:List Value),
  List.foldl (λx1 x2=>x1++x2) acc.toArray (List.replicate k its.toArray)=(acc++(List.replicate k its).flatten).toArray
 |0,acc=>by simp
 |k+1,acc=>by
  have e:acc.toArray++its.toArray=(acc++its).toArray:=by simp
  have e2:(acc++its)++(List.replicate k its).flatten=acc++(List.replicate (k+1) its).flatten:=by
   rw[R7,R0,R1]
  rw[<-e2,<-PX its k (acc++its),<-e,R7,S8]
section
variable{X:Cx}{pins:List (Addr×Obj)}{σ:St}{H:Hp}{s:Shared}{l b:Addr}{xs ys zs:List V}
theorem Inv.lset{its its':List Value}{n:Nat}{f:Array Value->Array Value}{t':Nat}(I:Inv X pins σ H s)(hH:H l=some (.lst xs))
  (e:s.heap.get? l=some {cls:=.type "list",data:=.seq its.toArray n}) (hf:f its.toArray=its'.toArray) (hv:AN ys its') (hz:ys.length<=sizeLine) :
  Inv X pins σ (upd H l (.lst ys)) {s with heap:=s.heap.update l (Obj.mapSeq f),toks:=t'}:=by
 have q:=PySem.IsL.update e f;rw[hf]at q;refine I.write (x:=l) (e:=l) (by rw[hH];exact trivial) (.inl rfl) (λb' u hb hu=>(V1 s.heap (Obj.mapSeq f) (Z3 hb)).trans hu) ⟨_,q⟩ ?_;exact⟨hz,its',_,hv,q⟩
theorem Inv.lnew{its:List Value}{t':Nat}(I:Inv X pins σ H s)(hv:AN ys its)(hz:ys.length<=sizeLine) :
  Inv X pins σ (upd H s.heap.objs.size (.lst ys)) {s with heap:=s.heap.push {cls:=.type "list",data:=.seq its.toArray},toks:=t'} :=
 I.laid (λ_ _ q=>B9 _ q) (C0 _) ⟨hz,its,0,hv,D3 _ rfl⟩
theorem Inv.fresh(I:Inv X pins σ H s):H s.heap.objs.size=none:=I.hok.fresh (C0 _)
theorem Inv.lstM(I:Inv X pins σ H s)(hH:H l=some (.lst xs)):xs.length<=sizeLine/\∃(its:List Value)(n:Nat),AN xs its/\xs.length=its.length/\s.heap.get? l=some {cls:=.type "list",data:=.seq its.toArray n}:=by
 obtain⟨z,its,n,r,e⟩:=I.hok l _ hH;exact⟨z,its,n,r,r.length,e⟩
theorem YK{n:Nat}(h:n<=sizeLine):Builtin.List.listTooLong n=false:=by
 unfold Builtin.List.listTooLong;exact Z0 A0
end
section
variable{X:Cx}
def UT:V->List V->Hp->VK->Prop:=λx vs H Q=>∃l xs y,x=.ref l/\vs=[y]/\H l=some (.lst xs)/\xs.length<sizeLine/\Q .non (upd H l (.lst (xs++[y])))
theorem BW:MtM X "list.append" UT:=by
 intro pins s σ H x vs v us Q I rx rv h;obtain⟨l,xs,y,rfl,rfl,hH,hz,q⟩:=h;cases rx;obtain⟨u,rfl,ru⟩:=rv.one;obtain⟨z,its,n,r,hl,e⟩:=I.lstM hH;refine A2a F.slot_list_append ⟨_,e,rfl⟩ F.entry_list_append (F.args_list_append_2 _ _) (PySem.list_append l its.toArray n u (by rw[F1];lia)) ⟨e,?_⟩;refine⟨.non,_,I.lset (its':=its++[u]) hH e A6 (r.append (.cons ru .nil)) ?_,rfl,q⟩;rw[C4,Q7];lia
def rCat:R2:=λx y H Q=>∃l b xs zs,x=.ref l/\y=.ref b/\H l=some (.lst xs)/\H b=some (.lst zs)/\xs.length+zs.length<=sizeLine/\∀p,H p=none->Q (.ref p) (upd H p (.lst (xs++zs)))
theorem TB:OpR X (binaryOp .Add) rCat:=by
 intro pins s σ H x y v u Q I rx ry h;obtain⟨l,b,xs,zs,rfl,rfl,hH,hB,hz,q⟩:=h;cases rx;cases ry;obtain⟨z,its,n,r,hl,e⟩:=I.lstM hH;obtain⟨z2,its2,n2,r2,hl2,e2⟩:=I.lstM hB;refine PySem.P.add_list e e2 ?_ (by rw[F1,F1];lia);have ea:its.toArray++its2.toArray=(its++its2).toArray:=by simp
 rw[ea];exact⟨.ref _,_,I.lnew (t':=s.toks) (r.append r2) (by rw[C4];lia),rfl,q _ I.fresh⟩
def rRep:R2:=λx y H Q=>∃l k xs,x=.ref l/\y=.int k/\H l=some (.lst xs)/\-(2^63)<=k/\k<2^63/\xs.length*k.toNat<=sizeLine /\
 ∀p,H p=none->Q (.ref p) (upd H p (.lst (List.replicate k.toNat xs).flatten))
theorem len_rep{α:Type}(xs:List α)(k:Nat):(List.replicate k xs).flatten.length=k*xs.length:=by
 induction k with
 |zero=>simp
 |succ k ih=>rw[R7,R0,C4,ih,Nat.succ_mul,Nat.add_comm]
theorem op_rep:OpR X (binaryOp .Mult) rRep:=by
 intro pins s σ H x y v u Q I rx ry h;obtain⟨l,k,xs,rfl,rfl,hH,h1,h2,hz,q⟩:=h;cases rx;obtain⟨t,rfl⟩:=ry;obtain⟨z,its,n,r,hl,e⟩:=I.lstM hH;have hlen:its.toArray.size*k.toNat<=sizeLine:=by rw[F1,<-hl];exact hz
 have hcap:¬its.toArray.size*k.toNat > (2^63-1)/8:=by
  have:(sizeLine:Nat)<=(2^63-1)/8:=by decide
  lia
 have hfit:¬(!Builtin.List.listFitsIndex k)=true:=by
  rw[fitsIndex_both h1 h2];exact C8
 have hlong:¬Builtin.List.listTooLong (its.toArray.size*k.toNat)=true:=by
  rw[YK hlen];exact C8
 have hnew:List.foldl (λx1 x2=>x1++x2) #[] (List.replicate (if its.toArray.isEmpty=true then 0 else k.toNat) its.toArray)=(List.replicate k.toNat its).flatten.toArray:=by
  have f0:∀m:Nat,List.foldl (λx1 x2=>x1++x2) #[] (List.replicate m its.toArray)=(List.replicate m its).flatten.toArray:=λm=>by
   have:=PX its m [];rw[List.nil_append]at this;exact this
  rw[f0];cases its with
  |nil=>simp
  |cons a r'=>rw[Y4 A6]
 refine wpAny_binaryOp_repeat_ref (T:="list") (U:="int") A4 ⟨_,e,rfl⟩ (λs'=>typeIs_int s' k t) noFill_list_mul F.fills_int_mul F.slot_int_rmul repeat_list F.slot_int_index.lookup
  (A2a F.slot_int_rmul (typeIs_int s k t) F.entry_int_rmul (F.args_int_rmul_2 _ _) (int___rmul___int_list k t l its.toArray n)
   ⟨e,rfl,⟨_,e,rfl⟩,A2a F.slot_list_mul ⟨_,e,rfl⟩ F.entry_list_mul (F.args_list_mul_2 _ _) (AutoListH.list___mul___list_int_3 l its.toArray n k t hfit hcap hlong) ⟨e,?_⟩⟩)
 rw[hnew];exact⟨.ref _,_,I.lnew (t':=s.toks) (r.rep k.toNat) (by rw[len_rep,U9];exact hz),rfl,q _ I.fresh⟩
end
section
variable{prog:Program}{w:World}{A:Around}{E:Value->Shared->Prop}{s:Shared}
end
section
variable{X:Cx}
end
end L2
namespace Att
open PySem PySem.W PySem.Calls PyProof.Rows
theorem Np{P:Params}{h:Heap}:∀(ns:List Int)(vs:List Value),WellAll P h vs (ns.map WData.int)->IntsAre vs ns:=by
 intro ns;induction ns with
 |nil =>
  intro vs w;rw[W7]at w;cases w;exact .nil
 |cons n ns ih =>
  intro vs w;rw[F5]at w;cases w with
  |cons a b =>
   cases a;exact .cons _ _ (ih _ b)
theorem VN{l:OpenLaw}{n:Nat}(hn:l.most=some n){P:Params}{h:Heap}{args:List WData}{vals:List Value}
  (hpre:l.row.toRowW.claim.pre args=true) (hwl:WellAll P h vals args) :
  ∃a vs ns,vals=[Value.ref a]/\args=[WData.list (ns.map WData.int)]/\h.get? a=some {cls:=.type "list",data:=.seq vs.toArray}/\IntsAre vs ns/\ns.length<=n:=by
 have hsh:WShape.hasAll [] args [.list .int]=true:=(pre_splitW hpre).1;have hc:l.pre.holds [] {args:=args}=true:=(pre_splitW hpre).2;obtain⟨d,r,rfl,h1,h2⟩:=hasAllW_cons hsh;obtain rfl:=hasAllW_nil h2;obtain⟨xs,rfl,h3⟩:=hasW_list h1;obtain⟨ns,rfl⟩:=items_int h3;have hlen:ns.length<=n:=by
  unfold OpenLaw.pre at hc;have h4:(WTm.not (.lt (.lit (.int (n:Int))) (.len (.arg 0)))).holds [] {args:=[.list (ns.map .int)]}=true:=by
   have h4:=(holds_andW hc).1;rw[hn]at h4;exact h4
  have h5:=condW_of h4 (w_not (w_lt w_lit (w_len_list (w_arg rfl))));rw[B6]at h5;refine O6 λq=>?_;have q':(n:Int)<((ns.length:Nat):Int):=by lia
  first
   | (rw[Y5 q']at h5;exact absurd h5 A4)
   | (simp at h5;lia)
 cases hwl with
 |cons w1 w2 =>
  cases w2;cases w1 with
  |list ho hall=>exact⟨_,_,ns,rfl,rfl,ho,Np ns _ hall,hlen⟩
theorem VO(l:OpenLaw)(args:List WData):l.row.toRowW.claim.post args (.bool true) args=true :=
 postW_of (r:=l.row.toRowW) (X:=(true==true))
  (show WShape.has [] (.bool true) .bool=true by first|rfl|decide|simp[WShape.has,WShape.arms,WShape.armsAll])
  (show(WTm.eq .res (.lit (.bool true))).value [] {args:=args,res:=some (.bool true),after:=args}=some (.bool (true==true))from w_eq_bool (w_res rfl) w_lit) rfl
theorem SZ{l:OpenLaw}{n:Nat}{q:Program}{loose:List Str}{XP:(Str->Option Value)->Heap->Prop}{YP:World->Heap->Prop}{d:DefRec}
  (hn:l.most=some n) (hdf:d.params.defaults=[])
  (call:∀(w:World)(s₀ s₁:Shared)(mg mb:Str->Option Value)(fa:Addr)(o:Obj)(pm cd doc:Value)(a:Addr)(vs:List Value)(ns:List Int),
   Ground q loose [] XP w s₀ mg mb s₁.heap->YP w s₁.heap ->
   s₁.heap.get? fa=some o->o.data=.func (docDef d.name d.params d.body d.scope pm cd doc)->s₁.heap.CodeRec cd d.name->mg d.name=some (.ref fa) ->
   s₁.heap.get? a=some {cls:=.type "list",data:=.seq vs.toArray}->IntsAre vs ns->ns.length<=n->s₁.gens=#[] ->
   codeAny (model l.prog w) callerA (.call (.ref fa) ⟨[.ref a],[]⟩) (λr s'=>r=.ok (.ret (.bool true))/\OldK s₁.heap s'.heap/\s'.os=s₁.os/\AllBare s'.gens) s₁) :
  WalkO q loose XP YP l.row.toRowW d [] (λf vs=>PySem.call f vs):=by
 intro w s₀ s₁ mg mb G Y fa o pm cd doc dV kV ho hd hcd hD hmg hg args vals as hpre hlay hrd hwl hlo;obtain rfl:dV=.none:=Dflts.none hD hdf;obtain rfl:kV=.none:=Dflts.noKw hD;obtain⟨a,vs,ns,rfl,rfl,hobj,hints,hlen⟩:=VN hn hpre hwl;refine enter_call (A3g (call w s₀ s₁ mg mb fa o pm cd doc a vs ns G Y ho (fd_plain hd) hcd hmg hobj hints hlen hg) λr s' hq=>?_);obtain⟨rfl,h2,h3,h4⟩:=hq;exact⟨.inl ⟨.bool true,.bool true,[],rfl,λ_=>rfl,.bool true,VO l _,λ_=>⟨List.Pairwise.nil,λ_ hm=>(nomatch hm)⟩⟩,h2,h3,h4⟩
section
variable{prog:Program}{w:World}{A:Around}{E:Value->Shared->Prop}{s:Shared}{K:Frag}
end
end Att
namespace L2
open PySem PySem.Spec PyProof.Rows
theorem Py:∀{vs:List Value}{ns:List Int},IntsAre vs ns->AN (ns.map V.int) vs
 |_,_,.nil=>.nil
 |_,_,.cons n t h=>.cons ⟨t,rfl⟩ (Py h)
def Only(H:Hp):Prop:=∀b,H b=none\/∃o xs,H b=some (.frz o (.lst xs))
theorem Zc{P:Program}{w:World}{K:PySem.W.Frag}{mg mb:Str->Option Value}{CX:CXT}{k:Nat}{fa a:Addr}{fd:FuncData}{x:Str}{sp:Sp}{s₁:Shared}{vs:List Value}{ns:List Int}
  (KX:K.In s₁.heap) (hns:s₁.heap.Ns mainGlobals mg) (hb:s₁.heap.Ns builtinsNs mb) (hbb:∀x:Str,x≠"__name__" -> mb x=bootBuiltins x) (hlim:s₁.heap.NoLimit) (hg:s₁.gens=#[])
  (ha:s₁.heap.get? a=some {cls:=.type "list",data:=.seq vs.toArray}) (hi:IntsAre vs ns) (hl:ns.length<=sizeLine) (hr:CN k callerA)
  (F:∀base:Heap,K.In base->base.Ns mainGlobals mg->AI P w K mg base CX k fa fd [x] sp) (hbind:∀(s:Shared)(u:Value),BindsTo s fd ⟨[u],[]⟩ [(x,u)])
  (hsp:∀H:Hp,Only H->SqL K H a (ns.map V.int)->sp [.ref a] H (λv _=>v=.bl true) λ_ _ _=>False)
  (hCX:∀H e s',CX [] H s₁ (λ_ _ _=>False) e s'->False) :
  codeAny (model P w) callerA (.call (.ref fa) ⟨[.ref a],[]⟩) (λr s'=>r=.ok (.ret (.bool true))/\OldK s₁.heap s'.heap/\s'.os=s₁.os/\AllBare s'.gens) s₁:=by
 have rv:=Py hi;have lenV:=hi.length;have core:∀H:Hp,Only H->SqL K H a (ns.map V.int)->HOk P w H s₁.heap->(∀b,H b≠none->b=a)->(H a≠none->K.lookup a=none) ->
   codeAny (model P w) callerA (.call (.ref fa) ⟨[.ref a],[]⟩) (λr s'=>r=.ok (.ret (.bool true))/\OldK s₁.heap s'.heap/\s'.os=s₁.os/\AllBare s'.gens) s₁:=by
  intro H hO hS hok hA hK;have base_of:∀{b:Addr}{o:Obj},s₁.heap.get? b=some o->H b=none->(Ri s₁.heap H).get? b=some o:=λe n=>Zn e n;have noA:∀{b:Addr}{o:Obj}{es:Array DictEntry}{ep:Nat},s₁.heap.get? b=some o->o.data=.dict es ep->H b=none:=λ{b o es ep} e d=>by
   cases q:H b with
   |none=>rfl
   |some u =>
    have e':b=a:=hA b (by rw[q];simp);subst e';rw[ha]at e;cases e;have d':Data.seq vs.toArray _=Data.dict es ep:=d;cases d'
  have nsK:∀{b:Addr}{m:Str->Option Value},s₁.heap.Ns b m->(Ri s₁.heap H).Ns b m:=λ{b m} ⟨o,es,ep,e,d,r⟩=>⟨o,es,ep,base_of e (noA e d),d,r⟩
  have hKb:K.In (Ri s₁.heap H):=λb o e=>base_of (KX b o e) (by
   cases q:H b with
   |none=>rfl
   |some u =>
    have e':b=a:=hA b (by rw[q];simp);subst e';rw[hK (by rw[q];simp)]at e;cases e)
  have hM:Mod K mg (Ri s₁.heap H):=⟨hKb,nsK hns,⟨mb,nsK hb,hbb⟩,let ⟨mc,h1,h2⟩:=hlim;⟨mc,nsK h1,h2⟩⟩
  have e0:Nr P w K mg (Ri s₁.heap H) callerA [] s₁ H:=⟨rfl,hM,λb o e=>of_hidT e,Nat.le_of_eq (Wp _ _),trivial,λb hb=>absurd (show b∈([]:List Addr)from hb) A6,hok,.of_eq hg⟩
  refine A3g ((F _ hKb (nsK hns)).run callerA [] s₁ H ⟨[.ref a],[]⟩ [.ref a] [.ref a] _ _ hr e0 (hbind s₁ (.ref a)) (.cons rfl .nil) (hsp H hO hS)) λr s' h=>?_;cases r with
  |error e=>exact(hCX H e s' h).elim
  |ok fl =>
   cases fl with
   |next=>exact False.elim h
   |brk=>exact False.elim h
   |cont=>exact False.elim h
   |ret u =>
    obtain⟨v,H',os,bare,un,hok',r',q⟩:=h;have q':v=.bl true:=q;subst q';obtain rfl:u=Value.bool true:=r';refine⟨rfl,OldK.of_keep λb o e=>?_,os,bare⟩;cases q:H b with
    |none=>exact un.keep b o e q (by intro z;exact absurd (show b∈([]:List Addr)from z) A6) A6
    |some u =>
     rcases hO b with z|⟨ob,xs,z⟩
     ·rw[q]at z;cases z
     ·have z2:=un.frzs b ob _ z;obtain⟨e1,_⟩:=hok b _ z;obtain⟨e2,_⟩:=hok' b _ z2;rw[e]at e1;cases e1;exact e2
 cases hk:K.lookup a with
 |some o =>
  have e:=KX a o hk;rw[ha]at e;cases e;refine core (λ_=>none) (λ_=>.inl rfl) (.inr ⟨_,vs.toArray,_,hk,rfl,rfl,rfl,by rw[F1,lenV];exact hl,by simpa using rv⟩) (λb u z=>by have z':(none:Option HO)=some u:=z;cases z') (λb z=>absurd rfl z) λz=>absurd rfl z
 |none =>
  refine core (λb=>if b=a then some (.frz {cls:=.type "list",data:=.seq vs.toArray} (.lst (ns.map V.int)))else none) (λb=>?_) (.inl (.inr ⟨{cls:=.type "list",data:=.seq vs.toArray},Y7 rfl⟩)) (λb u z=>?_) (λb z=>?_) λ_=>hk
  ·by_cases hb:b=a
   ·exact .inr ⟨_,_,Y7 hb⟩
   ·exact .inl (Y4 hb)
  ·by_cases hb:b=a
   ·have z':=(Y7 hb).symm.trans z;cases z';subst hb;exact⟨ha,by rw[B6];exact hl,vs,_,rv,ha⟩
   ·have z':=(Y4 hb).symm.trans z;cases z'
  ·by_cases hb:b=a
   ·exact hb
   ·exact absurd (Y4 hb) z
theorem Uu{l:PySem.W.OpenLaw}{n k:Nat}{q:Program}{loose:List Str}{XP:(Str->Option Value)->Heap->Prop}{YP:World->Heap->Prop}{d:DefRec}{K:Params->PySem.W.Frag}{CX:World->CXT}{sp:World->Sp}{x:Str}
  (hn:l.most=some n) (hn2:n<=sizeLine) (hdf:d.params.defaults=[]) (hr:CN k callerA)
  (hY:∀(w:World)(h:Heap),YP w h->(K w.params).In h)
  (F:∀(w:World)(mg:Str->Option Value)(fa:Addr)(h:Heap),(K w.params).In h->h.Ns mainGlobals mg->mg d.name=some (.ref fa) ->
   ∃fd:FuncData,(∀(s:Shared)(u:Value),BindsTo s fd ⟨[u],[]⟩ [(x,u)]) /\
    ∀base:Heap,(K w.params).In base->base.Ns mainGlobals mg->AI l.prog w (K w.params) mg base (CX w) k fa fd [x] (sp w))
  (hsp:∀(w:World)(H:Hp)(a:Addr)(ns:List Int),ns.length<=n->Only H->SqL (K w.params) H a (ns.map V.int)->sp w [.ref a] H (λv _=>v=.bl true) λ_ _ _=>False)
  (hCX:∀(w:World)(H:Hp)(s:Shared)(e:Value)(s':Shared),CX w [] H s (λ_ _ _=>False) e s'->False) :
  PySem.W.WalkO q loose XP YP l.row.toRowW d [] (λf vs=>PySem.call f vs):=by
 refine Att.SZ hn hdf λw s₀ s₁ mg mb fa o pm cd doc a vs ns G Y ho hd hcd hmg hobj hints hlen hg=>?_;have KX:=hY w _ Y;obtain⟨fd,hb,hF⟩:=F w mg fa _ KX G.T.g hmg;exact Zc KX G.T.g G.T.b G.T.builtins G.T.nolimit hg hobj hints (C7 hlen hn2) hr hF hb (λH hO hS=>hsp w H a ns hlen hO hS) λH e s'=>hCX w H s₁ e s'
end L2
/- THE LAST THEOREM (shape;LID,My.* are yours):
 My.Adr: a structure of the addresses that your layer names (classes,functions);My.Txt K t: a structure (Prop) of the equations over K;
 My.txt_mk:{K} {implicit addresses ..} (e1:nsIn K mainGlobals "law" = some (some (.ref f))) (e2:K.lookup f=some ⟨oc,od,.func (fnOf "law" "law" params body scope dV kV doc pm an cdv ct),sl⟩) (e3:codeIn K cdv "law" = true) ..:∃t,My.Txt K t
set_option maxRecDepth 100000 in
set_option maxHeartbeats 0 in
theorem PySem.Challenge.cw_LID_holds:PySem.Challenge.rw_LID.Holds:=by
 w_on;o_law;k_head;(case hw=>w_witness2)
 k_fill
 refine L2.Uu (l:=PySem.Challenge.rw_LID) (n:=63) (k:=40) (x:="script") (CX:=λw=>..) (sp:=λ_=>My.sp_law) rfl A4 rfl ⟨rfl,by decide,by decide⟩ (λw h Y=>PySem.W.kIn_of Y) ?F ?S ?C
 case F =>
  intro w mg fa h KX G hmg;have T:∃t,My.Txt (L2.KOf KX) t:=by
   dsimp only[L2.KOf]                          
   (case e1=>PySem.W.k_is)                    
   (case e2=>PySem.W.k_is)
   ..
  obtain⟨t,T⟩:=T;have e0:=hmg.symm.trans (X5 KX G T.law);cases e0                                       
 case S=>exact λw H a ns hl hO hS=>..
 case C=>exact ..
(the tactic k_is has no namespace: write k_is) -/
namespace L2
open PySem PySem.Spec PyProof.Rows
def Bf(s:Stmt)(j:Nat):Stmt:=match s with
 |.ClassDef _ _ _ body _ _ _ _ _ _ _=>body.getD j (.Pass ⟨0,0,0,0⟩)
 |_=>.Pass ⟨0,0,0,0⟩
def Mf(s:Stmt):Arguments:=match s with
 |.FunctionDef _ a _ _ _ _ _ _ _ _=>a
 |_=>{posonlyargs:=[],args:=[],vararg:=none,kwonlyargs:=[],kw_defaults:=[],kwarg:=none,defaults:=[]}
def JF(s:Stmt):List Stmt:=match s with
 |.FunctionDef _ _ b _ _ _ _ _ _ _=>b
 |_=>[]
def Ah(s:Stmt):Scope:=match s with
 |.FunctionDef _ _ _ _ _ _ sc _ _ _=>sc
 |_=>{kind:=.function,names:=[],isGenerator:=false,isCoroutine:=false}
abbrev CX0:CXT:=λ_ _ _ _ _ _=>False
abbrev E0:XK:=λ_ _ _=>False
theorem Am{X:Cx}:FP CX0 X E0:=λ_ _ _ _ _ _ _ h=>h.elim
structure Fun(K:PySem.W.Frag)(x qual:Str)(st:Stmt)(f:Addr)(fd:FuncData):Prop where
 ex:∃(oc:Value)(od:Option Addr)(kV doc pm:Value)(an:Option Addr)(cdv ct:Value)(osl:Array (Option Value)),
  fd=PySem.W.fnOf x qual (Mf st) (JF st) (Ah st) .none kV doc pm an cdv ct/\K.lookup f=some ⟨oc,od,.func fd,osl⟩/\PySem.W.codeIn K cdv qual=true
 kp:keepIn K (.ref f)=true
section
variable{P:Program}{w:World}{K:PySem.W.Frag}{mg:Str->Option Value}{base:Heap}
theorem Fun.ok{x qual:Str}{st:Stmt}{f:Addr}{fd:FuncData}{N ps:List Str}{k:Nat}{sp:Sp}(F:Fun K x qual st f fd)(S:As N ps (Ah st))(len:∀vs H Q E,sp vs H Q E->vs.length=ps.length)
  (hbody:∀(cdv:Value)(A:Around)(outer:List Env)(s:Shared)(H:Hp)(vs:List V)(Q:VK)(E:XK),CN k (A.deeper (envOfC qual (Ah st) s.heap.objs.size f cdv))->sp vs H Q E ->
   ∃t,PSs (Ww CX0 P w K mg base N qual (Ah st) f cdv A outer s H E).nox (JF st) t/\t {nx:=λ_ H'=>Q .non H',rt:=Q} (MX N vs) H):AI P w K mg base CX0 (k+1) f fd ps sp:=by
 obtain⟨oc,od,kV,doc,pm,an,cdv,ct,osl,rfl,lk,hcd⟩:=F.ex;refine fn_of lk hcd S len λA outer s H vs Q E hr hsp=>?_;obtain⟨t,h,q⟩:=hbody cdv A outer s H vs Q E hr hsp;exact⟨t,h.nox,q⟩
theorem Fun.binds{x qual:Str}{st:Stmt}{f:Addr}{fd:FuncData}{ps:List Str}(F:Fun K x qual st f fd)
  (h:∀(kV doc pm:Value)(an:Option Addr)(cdv ct:Value)(us:List Value),us.length=ps.length->bindArgs (PySem.W.fnOf x qual (Mf st) (JF st) (Ah st) .none kV doc pm an cdv ct) ⟨us,[]⟩=pure (ps.zip us)):Cs K fd ps []:=by
 obtain⟨oc,od,kV,doc,pm,an,cdv,ct,osl,rfl,lk,hcd⟩:=F.ex;exact .all (h kV doc pm an cdv ct)
theorem Ug {x qual:Str} {st:Stmt} {f:Addr} {oc:Value} {od an:Option Addr} {osl:Array (Option Value)} {kV doc pm cdv ct:Value} (l:K.lookup f=some ⟨oc,od,.func (PySem.W.fnOf x qual (Mf st) (JF st) (Ah st) .none kV doc pm an cdv ct),osl⟩)
  (c:PySem.W.codeIn K cdv qual=true) (k:keepIn K (.ref f)=true):Fun K x qual st f (PySem.W.fnOf x qual (Mf st) (JF st) (Ah st) .none kV doc pm an cdv ct):=⟨⟨oc,od,kV,doc,pm,an,cdv,ct,osl,rfl,l,c⟩,k⟩
end
theorem EG{A:Around}{k:Nat}(hr:CN k A):A.units+1<cLine:=F4 (Nat.add_le_add_left (by decide:1<=64) _) hr.units
section
variable{X:Cx}
theorem pv(i:Nat){x:Str}{pos:Pos}(hN:X.N[i]?=some x:=by rfl)(hv:Vis X.env.scope x:=by first|exact Or.inl rfl|exact Or.inr (Or.inl rfl)|exact Or.inr (Or.inr rfl))(hd:(x==("__debug__" : Str))=false:=by decide)
  (hcd:(x==("__classdict__" : Str))=false:=by decide):PE X (.Name x pos) (GC i):=pe_var hN hv hd hcd
end
theorem Bo{A B:Prop}(h:B):if false=true then A else B:=by
 rw[Y4 C8];exact h
theorem Ce{A B:Prop}(h:A):if true=true then A else B:=by
 rw[Y7 rfl];exact h
theorem Fb{c A B:Prop}[Decidable c](h1:c->A)(h2:¬c->B):if c then A else B:=by
 by_cases h:c
 ·rw[Y7 h];exact h1 h
 ·rw[Y4 h];exact h2 h
theorem Vj{c A B:Prop}[Decidable c](hc:c)(h:B):if(!decide c)=true then A else B:=by
 rw[Y5 hc];exact Bo h
def Ay(H H':Hp):Prop:=∀b o,H b=some o->H' b=some o
theorem Ay.refl(H:Hp):Ay H H:=λ_ _ h=>h
theorem Ay.trans{H H1 H2:Hp}(a:Ay H H1)(b:Ay H1 H2):Ay H H2:=λc o h=>b c o (a c o h)
theorem Ay.seq{K:PySem.W.Frag}{H H':Hp}{a:Addr}{xs:List V}(e:Ay H H')(h:SqL K H a xs):SqL K H' a xs:=by
 rcases h with (h|⟨o,h⟩)|h
 ·exact .inl (.inl (e _ _ h))
 ·exact .inl (.inr ⟨o,e _ _ h⟩)
 ·exact .inr h
def VF(a D:Addr)(h:Heap):Prop:=∃o,h.get? a=some o/\o.cls=.ref D/\∃vs,o.data=.fields vs/\vs[2]?=some .none
theorem VF.not{a D:Addr}{h:Heap}(x:VF a D h):∃o,h.get? a=some o/\o.cls=.ref D/\notCls o=true:=by
 obtain⟨o,e,c,vs,d,_⟩:=x;exact⟨o,e,c,by unfold notCls;rw[d]⟩
section
variable{M:Model}{A:Around}{E:Value->Shared->Prop}{s:Shared}{b0:Heap}{env:Env}{outer:List Env}{L a T:Addr}{cls fl:Value}{Q:Unit->Shared->Prop}
end
section
variable{P:Program}{w:World}{K:PySem.W.Frag}{mg:Str->Option Value}{base:Heap}{N:List Str}{qual:Str}{scope:Scope}{f:Addr}{cd:Value}{A:Around}{outer:List Env}{s:Shared}{H:Hp}{E:XK}
end
section
variable{X:Cx}{C:Addr}{x:Str}{np cpos pos:Pos}{e:Expr}{es:List Expr}{t:TA}{E:XK}
end
section
variable{X:Cx}{CX:CXT}{k:Nat}{f:Addr}{fd:FuncData}{ps:List Str}{sp:Sp}{dvs:List V}{ds:List Value}{E:XK}{x:Str}{p pos:Pos}{e:Expr}{es:List Expr}{t:TA}{S:St->Prop}
end
def isExc(a D:Addr):HO:=.ext (VF a D)
theorem Inv.track{X:Cx}{pins:List (Addr×Obj)}{σ:St}{H:Hp}{s:Shared}{a:Addr}{o:HO}(I:Inv X pins σ H s)(ha:H a=none)(h0:X.s₀.heap.get? a=none)(hb:X.base.get? a=none)(hL:X.env.locals≠a)(hc:∀x c,X.env.cells.lookup x=some c->c≠a)
  (hp:∀p,p∈X.pn++pins->p.1≠a) (hs:∀b,b∈X.fs->b≠a) (new:BI X.prog X.w (upd H a o) s.heap a o):Inv X pins σ (upd H a o) s:=by
 have ne:∀b u,H b=some u->b≠a:=λb u q z=>by rw[z,ha]at q;cases q
 refine⟨I.ok,I.os,I.bare,⟨I.base.keep,I.base.slot,λb u q n x=>?_,I.base.there,λb xs q=>?_,λb u v q=>?_,λb ps q=>?_⟩,I.loc,I.cell,?_,λx c q=>?_,λp z=>?_,λb u q=>?_,I.len⟩
 ·rw[Au (λz=>by rw[z,h0]at q;cases q)];exact I.base.free b u q n x
 ·have z:=I.base.tups b xs q;rw[Au (ne _ _ z)];exact z
 ·have z:=I.base.frzs b u v q;rw[Au (ne _ _ z)];exact z
 ·obtain⟨m,z⟩:=I.base.tbls b ps q;exact⟨m,by rw[Au (ne _ _ z)];exact z⟩
 ·rw[Au hL];exact I.free
 ·rw[Au (hc x c q)];exact I.freeC x c q
 ·obtain⟨e,n,r⟩:=I.pin p z;exact⟨e,by rw[Au (hp p z)];exact n,r⟩
 ·by_cases z:b=a
  ·subst z;rw[Af]at q;cases q;exact new
  ·rw[Au z]at q;exact(I.hok b u q).stay (λc v _ r=>r) (λc r=>by rw[Au (ne _ _ r)];exact r) λc xs r=>by rw[Au (ne _ _ r)];exact r
section
variable{X:Cx}{C:Addr}{x n:Str}{np hpos pos:Pos}{i:Nat}{b₀:Stmt}{suite body:List Stmt}{S:St->Prop}{tb:XK->TS}{th:TS}
end
section
variable{P:Program}{w:World}{K:PySem.W.Frag}{mg:Str->Option Value}{base:Heap}
end
section
variable{X:Cx}{k:Nat}{f:Addr}{fd:FuncData}{ps:List Str}{sp:Sp}{x:Str}{p pos:Pos}{e:Expr}{es:List Expr}{t:TA}
end
section
variable{X:Cx}{tg:Expr}
def Its(x:Str):It:=⟨λi _=>i<x.cps.size,λi H v H'=>H'=H/\∃c,x.cps[i]?=some c/\v=.str ⟨#[c]⟩,λi _=>i=x.cps.size⟩
theorem RD{P:Program}{w:World}{K:PySem.W.Frag}(it:Addr)(x:Str)(t:Tok)(T:String)(hn:["enumerate","zip","dict_itemiterator","dict_reverseitemiterator","odict_iterator","itertools.zip_longest","itertools.pairwise"].contains T=false)
  (W:∀A:Around,A.handled=none->Walks P w A it [it] [it] x.cps.size (SignAt x) (λi h=>h.IsStrIter it T x t i))
  (hself:∀(A:Around)(i:Nat)(s:Shared)(Q:Value->Shared->Prop)(E:Value->Shared->Prop),s.heap.IsStrIter it T x t i->Q (.ref it) s->wpAny (model P w) A (pyIter (.ref it)) Q E s):Pq P w K tg (Its x) [it] it (λi h=>h.IsStrIter it T x t i) where
 mem:=by simp
 obj:=λi h st b hb=>by
  have e:b=it:=by simpa using hb
  subst e;obtain⟨o,e,c,d⟩:=st;exact⟨o,e,λv z=>by rw[d]at z;cases z⟩
 keep:=λi h h' ⟨o,e,r⟩ k=>⟨o,k it A6 o e,r⟩
 item:=by
  intro X hP hw hK hc i pins s σ H E I hf st hg;subst hP hw hK;obtain⟨f0,f1,f2,f3,f4,f5⟩:=hf it A6;refine(W X.A (I.ok.hd hc)).item i s _ _ hg st λv h' tk hv st' kk=>?_;obtain⟨c,u,hc',rfl⟩:=hv;have I1:Inv X pins σ H {s with heap:=h',toks:=tk}:=I.turned (λb o hb e=>kk b o (by simpa using hb) e) f0 f1 f3 f4 f5;obtain⟨o,e,oc,od⟩:=id st';exact⟨_,rfl,SM (s:={s with heap:=h',toks:=tk}) e oc od hn ⟨.str ⟨#[c]⟩,H,I1,⟨u,rfl⟩,⟨rfl,c,hc',rfl⟩,st',λb hb=>(hf b hb).1⟩⟩
 done:=by
  intro X hP hw hK hc i pins s σ H E I hf st hg;subst hP hw hK;obtain⟨f0,f1,f2,f3,f4,f5⟩:=hf it A6;have z:i=x.cps.size:=hg;subst z;exact(W X.A (I.ok.hd hc)).done s _ _ st λh' tk kk=>⟨rfl,I.turned (λb o hb e=>kk b o (by simpa using hb) e) f0 f1 f3 f4 f5⟩
 self:=hself
def iStr(tl:TE):TI:=fun σ H R=>tl σ H λv H1=>∃x,v=.str x/\R (Its x) H1
theorem Yq{l:Expr}{tl:TE}(hl:PE X l tl):PI X tg l (iStr tl):=by
 intro pins s σ H R I h;refine thn (hl pins s σ H _ I h) λv s1 ⟨y,H1,I1,r1,q1⟩=>?_;obtain⟨x,rfl,q⟩:=q1;obtain⟨t,rfl⟩:=r1;have fp:∀b,b∈[s1.heap.objs.size]->Dq X pins H1 b:=λb hb=>by
  have e:b=s1.heap.objs.size:=by simpa using hb
  subst e;exact I1.fpOk (C0 _) (I1.hok.fresh (C0 _))
 cases ha:x.cps.all (· < 128)with
 |true =>
  refine wpAny_pyIter_ascii ha ?_;refine⟨s1.heap.objs.size,[s1.heap.objs.size],_,_,H1,rfl,I1.kept (t':=s1.toks) λb o e=>B9 _ e,RD _ x t "str_ascii_iterator" A4 (λA hA=>Walks.strAscii hA _ x t) (λ_ _ _ _ _ st h=>wpAny_pyIter_striter_ascii st h),⟨_,D3 _ rfl,rfl,rfl⟩,fp,q⟩
 |false =>
  refine wpAny_pyIter_wide ha ?_;refine⟨s1.heap.objs.size,[s1.heap.objs.size],_,_,H1,rfl,I1.kept (t':=s1.toks) λb o e=>B9 _ e,RD _ x t "str_iterator" A4 (λA hA=>Walks.strWide hA _ x t) (λ_ _ _ _ _ st h=>wpAny_pyIter_striter_wide st h),⟨_,D3 _ rfl,rfl,rfl⟩,fp,q⟩
theorem for_str{x:Str}{g:TG}{tb:TS}{D:Ml}{σ:St}{H:Hp}(Pv:Nat->St->Hp->Prop)(h0:Pv 0 σ H)
  (hs:∀i c σ H,x.cps[i]?=some c->Pv i σ H->g (.str ⟨#[c]⟩) σ H fun σ2 H2=>tb {D with nx:=Pv (i+1),ct:=Pv (i+1),bk:=D.nx} σ2 H2) (hd:∀σ H,Pv x.cps.size σ H->D.nx σ H) :
  ∃W:Nat->Nat->St->Hp->Prop,(∃m,W 0 m σ H)/\∀i m σ H,W i m σ H ->
   ((Its x).stop i H/\D.nx σ H)\/((Its x).go i H/\∃N:St->Hp->Prop,(∀σ' H',N σ' H'->∃m',m'<m/\W (i+1) m' σ' H')/\∀v H',(Its x).yld i H v H'->g v σ H' fun σ2 H2=>tb {D with nx:=N,ct:=N,bk:=D.nx} σ2 H2):=by
 refine⟨λi m σ H=>m=x.cps.size-i/\i<=x.cps.size/\Pv i σ H,⟨x.cps.size,by simp,J8 _,h0⟩,?_⟩;rintro i m σ H ⟨rfl,hi,p⟩;by_cases hlt:i<x.cps.size
 ·refine .inr ⟨hlt,Pv (i+1),fun σ' H' p'=>⟨x.cps.size-(i+1),by lia,rfl,hlt,p'⟩,λv H' y=>?_⟩;obtain⟨e,c,hc,rfl⟩:=y;subst e;exact hs i c σ _ hc p
 ·have e:i=x.cps.size:=by lia
  subst e;exact .inl ⟨rfl,hd σ H p⟩
theorem Gy:Ga X (.type "int") (λxs H Q=>∃x n,xs=[.str x]/\PySem.intText? x=some n/\x.length<=640/\Q (.int n) H):=by
 intro pins s σ H xs us Q I r h;obtain⟨x,n,rfl,hn,hl,q⟩:=h;cases r with
 |cons r1 r2 =>
  cases r2;obtain⟨t,rfl⟩:=r1;exact PySem.W.KIN.call_text hn hl ⟨.int n,H,I.tok _,⟨_,rfl⟩,q⟩
theorem SY(hc:X.calm=true):Ga X (.builtin "all") (λxs H Q=>∃(p:Addr)(bs:List Bool),xs=[.ref p]/\SqL X.K H p (bs.map V.bl)/\Q (.bl (bs.all id)) H):=by
 intro pins s σ H xs us Q I r h;obtain⟨p,bs,rfl,hq,q⟩:=h;cases r with
 |cons r1 r2 =>
  cases r2;cases(show _=Value.ref p from r1);obtain⟨its,rv,pl,hz⟩:=I.list hq;have hne:p≠s.heap.objs.size:=F8 (by obtain⟨o,n,e,_⟩:=pl;exact D6 e);refine call_all_walk (A2d pl.isList ?_);have vals:∀(i:Nat) v,its[i]?=some v->∃b,bs[i]?=some b/\v=.bool b:=λi v e=>by
   cases eb:bs[i]? with
   |none =>
    have:its[i]?=none:=rv.none_of (by rw[B8,eb];rfl);rw[e]at this;cases this
   |some b =>
    obtain⟨u,hu,ru⟩:=rv.get (i:=i) (x:=V.bl b) (by rw[B8,eb];rfl);rw[e]at hu;cases hu;exact⟨b,rfl,ru⟩
  refine⟨s.heap.objs.size,_,_,_,_,_,λi=>bs.getD i true,rfl,Walks.list (A:=X.A.in1) (I.ok.hd hc) s.heap.objs.size p hne its.toArray,⟨⟨_,D3 _ rfl,rfl,rfl⟩,?_⟩,?_,?_⟩
  ·exact pl.isList.at λo e=>B9 _ e
  ·intro i v s2 Q2 E2 hP hQ;obtain⟨b,eb,rfl⟩:=vals i v (by simpa using hP);have e2:bs.getD i true=b:=by rw[D7,eb];rfl
   have hQ:Q2 (bs.getD i true) s2:=hQ;rw[e2]at hQ;exact K2 hQ
  ·intro h' tk kk;have I2:Inv X pins σ H {s with heap:=h',toks:=tk}:=I.kept λb o e=>kk b o (by intro z;exact F8 (D6 e) (by simpa using z)) (B9 _ e);have len:its.toArray.size=bs.length:=by rw[F1,<-rv.length,B6]
   have e3:(List.range its.toArray.size).all (λi=>bs.getD i true)=bs.all id:=by
    rw[len,S0,S5,S5];constructor
    ·intro z b hb;obtain⟨i,hi,e⟩:=W0.mp hb;have:=z i (L7.mpr hi);rw[D7,C5 hi,e]at this;exact this
    ·intro z i hi;have hi':=L7.mp hi;rw[D7,C5 hi'];exact z _ (R6 hi')
   rw[e3];exact⟨.bl _,H,I2,rfl,q⟩
end
section
variable{X:Cx}{iter:Expr}{ti:TE}{x G:Str}{px px1 px2 cpos pos:Pos}{scope:Scope}{g:Str}
end
structure ExcF(K:PySem.W.Frag)(D:Addr):Prop where
 hd:hasDictIn K D=true
 ga:findIn K (.ref D) "__getattribute__" = some (some (.builtin "BaseException.__getattribute__"))
 gt:findIn K (.ref D) "__getattr__" = some none
 cl:findIn K (.ref D) "__class__" = some (some (.builtin "object.__class__"))
 sp:specialIn K (.builtin "object.__class__") "__get__" = some (some (.builtin "getset_descriptor.__get__"))
 tk:takesIn K (.builtin "object.__class__")=some true
 mo:mroIn K D (.type "object")=some true
 mb:mroIn K D (.type "BaseException")=some true
section
variable{K:PySem.W.Frag}{prog:Program}{w:World}{A:Around}{E:Value->Shared->Prop}{s:Shared}{a D:Addr}{o:Obj}
open PySem.W Builtin Builtin.ObjectAttr Builtin.Getset_descriptor
theorem Zw{M:Model}{h:Heap}(X:K.In h)(f:ExcF K D):Looks M h (find (.ref a) (.ref D) "__class__") (.bind (.builtin "getset_descriptor.__get__") (.builtin "object.__class__")) :=
 (looks_findIn X f.cl).andThen ((looks_specialIn X f.sp).andThen ((show Looks M h (dataDescriptor? (some (.builtin "object.__class__")) (some (.builtin "getset_descriptor.__get__"))) (some (.builtin "getset_descriptor.__get__",.builtin "object.__class__"))from(looks_takesIn X f.tk).andThen .now).andThen (Looks.tag .now)))
theorem exc_get{R:Result->Shared->Prop}{tp:Value}(X:K.In s.heap)(f:ExcF K D)(he:s.heap.get? a=some o)(hc:o.cls=.ref D)(hq:R (.ok (.ret (.ref D))) s) :
  codeAny (model prog w) A (.call (.builtin "getset_descriptor.__get__") ⟨[.builtin "object.__class__",.ref a,tp],[]⟩) R s:=by
 obtain⟨h,g,d,t,os⟩:=s;have L0:Looks (model prog w) h (typeOf (.ref a)) (.ref D):=hc▸(Looks.ld he).andThen .now;have L1:=looks_mroIn (M:=model prog w) X f.mo;refine codeAny_call_builtin KF.slot_gs.plain KF.entry_gs (KF.slot_gs.check _ _ _ _ _ _ _ _ KF.type_class (KF.args_gs _ _ _) ?_);unfold Builtin.«getset_descriptor.__get__» descrGet;rw[dga_obj];refine W9 (Z1 ?_);unfold descrGetter descrCheckInstance descrNameAndClass isInstance;simp only[KF.owner_class]
 repeat lk
 refine⟨Code.quiet_builtin _ A1,codeAny_builtin KF.entry_class ?_⟩;unfold Builtin.«object.__class__» shownTypeOf
 repeat lk
 exact hq
theorem Ws{Q:Option Value->Shared->Prop}(X:K.In s.heap)(f:ExcF K D)(he:s.heap.get? a=some o)(hc:o.cls=.ref D)(hq:Q (some (.ref D)) {s with toks:=s.toks+1}) :
  wpAny (model prog w) A (getAttr? (.ref a) "__class__") Q E s:=by
 obtain⟨h,g,d,t,os⟩:=s;have L0:Looks (model prog w) h (typeOf (.ref a)) (.ref D):=hc▸(Looks.ld he).andThen .now;have L1:=looks_findIn (M:=model prog w) X f.ga;have L2:=looks_findIn (M:=model prog w) X f.gt;have L3:=Zw (M:=model prog w) (a:=a) X f;have L4:Looks (model prog w) h (isInstance (.ref a) (.type "BaseException")) true:=L0.andThen (looks_mroIn X f.mb);unfold getAttr? getAttrBy? getAttrBy;refine W9 (wpAny_mkText (W9 (A1f (A1b (W9 (L0.at (W9 (L1.at ?_))))))));dsimp only;have n0:(Value.builtin "BaseException.__getattribute__" == Value.builtin "object.__getattribute__")=false:=by decide +kernel
 rw[Y4 (by rw[n0,Bool.and_false];exact C8)];unfold getAttrByItsOwn hookBefore;rw[Y7 (by rfl)];refine W9 (L2.at ?_);refine W9 (A1f (A1b ?_));unfold callGetattribute;rw[Y4 A4];unfold boundAndCalled;refine W9 (wpAny_of_eq (PySem.F.excAttr_ValueError.ga.bind (.ref a)) ?_);dsimp only;refine wpAny_call (codeAny_call_builtin PySem.F.excAttr_ValueError.ga.plain PySem.F.entry_bexc_ga ?_);have hk:builtinKind "BaseException.__getattribute__" = some .slot:=by decide +kernel
 have hsp:splitId "BaseException.__getattribute__" = some ("BaseException","__getattribute__"):=by decide +kernel
 have har:=PySem.F.args_bexc_ga (.ref a) (.str "__class__" t);simp only[checkBuiltinCall,hk,hsp];refine W9 (L4.at ?_);rw[Y4 A4];refine wpAny_of_eq (a:=()) har ?_;unfold Builtin.«object.__getattribute__»;dsimp only at L3
 repeat ((fail_if_success (with_reducible show wpAny _ _ (call _ _) _ _ _));lk)
 refine wpAny_call (exc_get (s:=⟨h,g,d,t+1,os⟩) X f he hc ?_);dsimp only
 repeat lk
 exact hq
end
inductive TyX(K:PySem.W.Frag)(H:Hp):V->Value->Prop where
 |of {x:V} {t:Value} (h:MV K H x t):TyX K H x t
 |exc {a D:Addr} (e:H a=some (isExc a D)) (f:ExcF K D):TyX K H (.ref a) (.ref D)
theorem Ze{K:PySem.W.Frag}{a D:Addr}(f:ExcF K D):PySem.W.KitX K (.ref a) (.ref D) (λh=>∃o,h.get? a=some o/\o.cls=.ref D/\notCls o=true) where
 ty:=λM h X ⟨o,e,c,_⟩=>c▸(PySem.W.Looks.ld e).andThen .now
 it:=λM h X _=>by
  obtain⟨cd,hc,_⟩:=any_some f.hd;unfold clsIn at hc;split at hc
  ·rename_i c' d' cd' sl' ho;intro A' Q' E' s' k q;unfold isType loadHead;exact W9 (wpAny_loadPart (k _ _ (X _ _ ho)) (Z1 q))
  ·cases hc
 ne:=λh tp dd its n sl X htp=>by
  obtain⟨cd,hc,_⟩:=any_some f.hd;refine W8.mpr λq=>?_;have e:D=tp:=Value.ref.inj (beq_iff_eq.mp q);subst e;unfold clsIn at hc;split at hc
  ·rename_i c' d' cd' sl' ho;have z:=(X _ _ ho).symm.trans htp;cases z
  ·cases hc
 ca:=λX ⟨o,e,c,_⟩ k=>Ws X f e c k
def clsV:V->Option Value
 |.ty n=>some (.type n)
 |.ref C=>some (.ref C)
 |_=>none
theorem GI{X:Cx}:Ga X (.builtin "isinstance") (λxs H Q=>∃x c cv t b,xs=[x,c]/\clsV c=some cv/\TyX X.K H x t/\kitOne X.K t cv=some b/\Q (.bl b) H):=by
 intro pins s σ H xs us Q I r h;obtain⟨x,c,cv,t,b,rfl,hc,ty,hk,q⟩:=h;cases r with
 |@cons _ u _ _ rx rr =>
  cases rr with
  |@cons _ v _ _ rc rn =>
   cases rn;have ev:v=cv:=by
    cases c with
    |ty n=>cases hc;exact rc
    |ref C=>cases hc;exact rc
    |_=>cases hc
   subst ev;cases ty with
   |of ty=>exact Wn I rx ty hk λtk=>⟨.bl b,H,I.tok tk,rfl,q⟩
   |@exc a D e f =>
    cases(show u=Value.ref a from rx);obtain⟨p,_,_⟩:=(show BI X.prog X.w H s.heap a (isExc a D)from I.hok a _ e)
    exact K0 (Ze f) I.kIn (VF.not p) hk (λz=>nomatch z) λtk=>⟨.bl b,H,I.tok tk,rfl,q⟩
section
variable{X:Cx}{c:Expr}{a b:List Stmt}{tc:TT}{t u:TS}{pos:Pos}
def tIfJ(J:St->Hp->Prop)(tc:TT)(t u:TS):TS:=λD σ H=>(tc σ H λb H1=>if b=true then t {D with nx:=J} σ H1 else u {D with nx:=J} σ H1)/\∀σ' H',J σ' H'->D.nx σ' H'
theorem SP.nx{pins:List (Addr×Obj)}{D:Ml}{J:St->Hp->Prop}{f:Flow}{s:Shared}(k:∀σ' H',J σ' H'->D.nx σ' H')(h:SP X pins {D with nx:=J} f s):SP X pins D f s:=by
 cases f with
 |next=>obtain⟨σ',H',I,q⟩:=h;exact⟨σ',H',I,k _ _ q⟩
 |brk=>exact h
 |cont=>exact h
 |ret v=>exact h
theorem ps_ifJ(J:St->Hp->Prop)(hc:PT X c tc)(ha:PSs X a t)(hb:PSs X b u):PS X (.If c a b pos) (tIfJ J tc t u):=by
 intro pins s σ H D I h;obtain⟨h,k⟩:=h;refine wpAny_If (thn (hc pins s σ H _ I h) λd s1 ⟨H1,I1,q1⟩=>?_);cases d with
 |true=>exact thn (ha pins s1 σ H1 _ I1 q1) λf s2 q=>q.nx k
 |false=>exact thn (hb pins s1 σ H1 _ I1 q1) λf s2 q=>q.nx k
end
def Gx(env:Env)(a:List (Str×Addr))(x:Str×NameKind):List (Str×Addr):=if(x.2==NameKind.free)=true then(x.1,(env.cells.lookup x.1).getD 0)::a else a
def Um(env:Env)(l:List (Str×NameKind)):List (Str×Addr):=l.foldl (Gx env) []
theorem Uh{α β:Type}{l:List α}{f:α->β->Sem (ForInStep β)}{g:β->α->β}(h:∀x∈l,∀b,f x b=pure (.yield (g b x))):∀b,forIn l b f=pure (l.foldl g b):=by
 induction l with
 |nil=>intro b;rfl
 |cons x l ih =>
  intro b;rw[List.forIn_cons,h x C3,pure_bind];exact ih (λy hy=>h y (C2 _ hy)) _
theorem OU{scope:Scope}{env:Env}(h:∀y∈scope.names,y.2=.free->∃c,env.cells.lookup y.1=some c):closureFor scope env=pure (Um env scope.names):=by
 simp only[closureFor];rw[Uh (g:=Gx env) (λx hx c=>by
  obtain⟨n,k⟩:=x;by_cases hk:k=.free
  ·subst hk;obtain⟨a,ha⟩:=h _ hx rfl;have e:cellOf env n=pure a:=by unfold cellOf;rw[show env.cells.lookup n=some a from ha]
   simp only[Gx,beq_self_eq_true,A2f,e,show env.cells.lookup n=some a from ha,Option.getD_some];rfl
  ·have hb:(k==NameKind.free)=false:=by simpa using hk
   simp only[Gx,hb,N6,A1d])]
 rfl
theorem Qf(env:Env){y:Str}{c:Addr}:∀(l:List (Str×NameKind))(a:List (Str×Addr)),(l.foldl (Gx env) a).lookup y=some c->a.lookup y=some c\/((y,NameKind.free)∈l/\c=(env.cells.lookup y).getD 0)
 |[],a,h=>.inl h
 | (n,k)::r,a,h=>by
  rw[S8]at h;rcases Qf env r _ h with z|⟨z,e⟩
  ·unfold Gx at z;split at z
   ·rename_i hk;have hk':k=.free:=by simpa using hk
    rw[O7]at z;split at z
    ·rename_i hy;have hy':y=n:=by simpa using hy
     subst hy' hk';exact .inr ⟨C3,(Z5 z).symm⟩
    ·exact .inl z
   ·exact .inl z
  ·exact .inr ⟨C2 _ z,e⟩
theorem SV(env:Env){y:Str}:∀(l:List (Str×NameKind))(a:List (Str×Addr)),(∃c,a.lookup y=some c)->∃c,(l.foldl (Gx env) a).lookup y=some c
 |[],_,h=>h
 | (n,k)::r,a,h=>by
  rw[S8];refine SV env r _ ?_;unfold Gx;split
  ·rw[O7];split
   ·exact⟨_,rfl⟩
   ·exact h
  ·exact h
theorem Ul(env:Env){y:Str}:∀(l:List (Str×NameKind))(a:List (Str×Addr)),(y,NameKind.free)∈l->∃c,(l.foldl (Gx env) a).lookup y=some c
 |[],_,h=>by simp at h
 | (n,k)::r,a,h=>by
  rw[S8];rcases C1.mp h with e|h
  ·cases e;refine SV env r _ ⟨(env.cells.lookup y).getD 0,?_⟩;unfold Gx;simp only[beq_self_eq_true,A2f,O7]
  ·exact Ul env r _ h
theorem Oo{env:Env}{y:Str}:∀{names:List (Str×NameKind)},(∀z∈names,z.2≠.cell) ->
  ((names.map λ(n,k)=>if(k==NameKind.free && env.scope.kind==.function && env.kindOf n==some .cell)then(n,NameKind.cell)else(n,k)).lookup y=some .cell \/
   (names.map λ(n,k)=>if(k==NameKind.free && env.scope.kind==.function && env.kindOf n==some .cell)then(n,NameKind.cell)else(n,k)).lookup y=some .free)->(y,NameKind.free)∈names
 |[],_,h=>by simp at h
 | (n,k)::r,hc,h=>by
  have ih:=@Oo env y r (λz hz=>hc z (C2 _ hz));have h':List.lookup y ((if(k==NameKind.free && env.scope.kind==.function && env.kindOf n==some .cell)=true then(n,NameKind.cell)else(n,k))::(r.map λ(n,k)=>if(k==NameKind.free && env.scope.kind==.function && env.kindOf n==some .cell)then(n,NameKind.cell)else(n,k)))=some .cell \/
   List.lookup y ((if(k==NameKind.free && env.scope.kind==.function && env.kindOf n==some .cell)=true then(n,NameKind.cell)else(n,k))::(r.map λ(n,k)=>if(k==NameKind.free && env.scope.kind==.function && env.kindOf n==some .cell)then(n,NameKind.cell)else(n,k)))=some .free:=h
  clear h;by_cases hb:(k==NameKind.free && env.scope.kind==.function && env.kindOf n==some .cell)=true
  ·rw[Y7 hb]at h';have hk:k=.free:=by
    simp only[Q0,beq_iff_eq]at hb;exact hb.1.1
   simp only[O7]at h';cases hy:y==n with
   |true =>
    have:y=n:=by simpa using hy
    subst this hk;exact C3
   |false =>
    rw[hy]at h';exact C2 _ (ih h')
  ·rw[Y4 hb]at h';simp only[O7]at h';cases hy:y==n with
   |true =>
    rw[hy]at h';have:y=n:=by simpa using hy
    subst this;rcases h' with z|z
    ·exact absurd (Z5 z) (hc (y,k) C3)
    ·cases Z5 z;exact C3
   |false =>
    rw[hy]at h';exact C2 _ (ih h')
theorem LJ{env:Env}{y:Str}:∀{names:List (Str×NameKind)},names.lookup y=some .free ->
  ((names.map λ(n,k)=>if(k==NameKind.free && env.scope.kind==.function && env.kindOf n==some .cell)then(n,NameKind.cell)else(n,k)).lookup y=some .cell \/
   (names.map λ(n,k)=>if(k==NameKind.free && env.scope.kind==.function && env.kindOf n==some .cell)then(n,NameKind.cell)else(n,k)).lookup y=some .free)
 |[],h=>by simp at h
 | (n,k)::r,h=>by
  have ih:=@LJ env y r;show List.lookup y ((if(k==NameKind.free && env.scope.kind==.function && env.kindOf n==some .cell)=true then(n,NameKind.cell)else(n,k))::(r.map λ(n,k)=>if(k==NameKind.free && env.scope.kind==.function && env.kindOf n==some .cell)then(n,NameKind.cell)else(n,k)))=some .cell \/
   List.lookup y ((if(k==NameKind.free && env.scope.kind==.function && env.kindOf n==some .cell)=true then(n,NameKind.cell)else(n,k))::(r.map λ(n,k)=>if(k==NameKind.free && env.scope.kind==.function && env.kindOf n==some .cell)then(n,NameKind.cell)else(n,k)))=some .free
  rw[O7]at h;by_cases hb:(k==NameKind.free && env.scope.kind==.function && env.kindOf n==some .cell)=true
  ·rw[Y7 hb];simp only[O7];cases hy:y==n with
   |true=>exact .inl rfl
   |false=>rw[hy]at h;exact ih h
  ·rw[Y4 hb];simp only[O7];cases hy:y==n with
   |true=>rw[hy]at h;exact .inr h
   |false=>rw[hy]at h;exact ih h
section
variable{prog:Program}{w:World}{A:Around}{R:Result->Shared->Prop}{s:Shared}
abbrev Ux(ifs:List Expr)(env:Env):Sem Bool:=forIn ifs true λc r=>if r=true then do let ok <-isTrue c env (eval c env);pure (ForInStep.yield ok)else pure (ForInStep.yield r)
theorem SS{elt target iter:Expr}{ifs:List Expr}{scope:Scope}{pos:Pos}{it acc:Value}{env:Env}(I:Nat->Shared->Prop)
  (turn:∀n s,I n s->wpAny (model prog w) A (pyNext it) (λr s₁=>match r with
   |none=>R (.ok .next) s₁
   |some v=>wpAny (model prog w) A (letOwnedTupleGo target it v) (λ_ s₀=>wpAny (model prog w) A (assign target env v) (λ_ s₂ =>
     wpAny (model prog w) A (Ux ifs env) (λok s₃ =>
      if ok=true then wpAny (model prog w) A (eval elt env) (λx s₄ =>
       wpAny (model prog w) A (call (.builtin "list.append") [acc,x]) (λ_ s₅=>∃m,m<n/\I m s₅) (λ_ _=>False) s₄) (λ_ _=>False) s₃
      else ∃m,m<n/\I m s₃) (λ_ _=>False) s₂) (λ_ _=>False) s₀) (λ_ _=>False) s₁) (λ_ _=>False) s)
  (n:Nat) (h:I n s):codeAny (model prog w) A (.compLoop (.ListComp elt [⟨target,iter,ifs,0⟩] scope pos) 0 it acc env) R s:=by
 refine codeAny_loop rfl I (λn s hI=>?_) n h;show wpAny _ A ((compTurn (.ListComp elt [⟨target,iter,ifs,0⟩] scope pos) 0 it acc env).onRaise (λx=>do noteFrame x env;theTreesLotGoes x)) _ _ s;refine wpAny_noted ?_;rw[compTurn_list];refine W9 (A4g (W9 (K7 (turn n s hI) (λr s₁ h₁=>?_) λ_ _ h'=>h'.elim)));cases r with
 |none=>exact Z1 h₁
 |some v =>
  refine W9 (K7 h₁ (λ_ s₀ h₀=>?_) λ_ _ h'=>h'.elim);refine W9 (K7 h₀ (λ_ s₂ h₂=>W9 (K7 h₂ (λok s₃ h₃=>?_) λ_ _ h'=>h'.elim)) λ_ _ h'=>h'.elim);cases ok with
  |false=>exact Z1 ⟨rfl,h₃⟩
  |true =>
   exact W9 (W9 (K7 h₃ (λx s₄ h₄=>W9 (K7 h₄ (λ_ s₅ h₅=>Z1 (Z1 ⟨rfl,h₅⟩)) λ_ _ h'=>h'.elim)) λ_ _ h'=>h'.elim))
end
def Nq(cs:List Nat)(σ:St):St:=cs.map λj=>(σ[j]?).getD none
def cxC(X:Cx)(scope:Scope)(N:List Str)(s:Shared)(H:Hp)(ex:List Addr):Cx :=
 {X with N:=N,s₀:=s,H₀:=H,env:=compEnvC scope (Um X.env scope.names) s.heap.objs.size X.env,outer:=X.stack,stack:=X.stack,ex:=ex,fn:=λ_=>false,pn:=[],xe:=λ_ _=>False}
def PTs(X:Cx)(ifs:List Expr)(t:TT):Prop :=
 ∀(pins:List (Addr×Obj))(s:Shared)(σ:St)(H:Hp)(Q:Bool->Hp->Prop),Inv X pins σ H s->t σ H Q->wpAny (model X.prog X.w) X.A (Ux ifs X.env) (TP X pins σ Q) X.xe s
def tYes:TT:=λ_ H Q=>Q true H
theorem BE{X:Cx}:PTs X [] tYes:=λ_ _ _ H _ I h=>wpAny_tests_nil ⟨H,I,h⟩
theorem pts_one{X:Cx}{c:Expr}{t:TT}(h:PT X c t):PTs X [c] t:=λpins s σ H Q I q=>wpAny_tests_one (h pins s σ H Q I q)
structure Bw(X:Cx)(scope:Scope)(N:List Str)(k:Nat)(cs:List Nat):Prop where
 cell:∀y∈scope.names,y.2≠.cell
 kind:scope.kind=.function
 names:∀y∈scope.names,y.2=.local->scope.names.lookup y.1=some .local
 free:∀y∈scope.names,y.2=.free->X.env.scope.names.lookup y.1=some .cell\/X.env.scope.names.lookup y.1=some .free
 len:N.length=k+cs.length
 cap:∀j,j<cs.length->∃x,N[k+j]?=some x/\X.N[cs.getD j 0]?=some x/\scope.names.lookup x=some .free
def Gc(k:Nat)(cs:List Nat)(g:TG)(tc:TT)(te:TE)(J:It)(σ:St)(H1:Hp)(fin:List V->Hp->Prop):Prop :=
 ∃W:Nat->Nat->List V->Hp->Prop,(∃m,W 0 m [] H1)/\∀i m acc H,W i m acc H ->
  (J.stop i H/\fin acc H)\/(J.go i H/\∃Nx:List V->Hp->Prop,(∀acc' H',Nx acc' H'->∃m',m'<m/\W (i+1) m' acc' H')/\∀x H',J.yld i H x H'->g x (List.replicate k none++Nq cs σ) H' fun σ2 H2=>(∃ts:St,ts.length=k/\σ2=ts++Nq cs σ)/\acc.length<sizeLine /\
   tc σ2 H2 λb H3=>if b=true then te σ2 H3 λv H4=>Nx (acc++[v]) H4 else Nx acc H3)
def tComp(k:Nat)(cs:List Nat)(wi:TI)(g:TG)(tc:TT)(te:TE):TE:=fun σ H Q=>wi σ H λJ H1=>Gc k cs g tc te J σ H1 λacc H2=>∀p,H2 p=none->Q (.ref p) (upd H2 p (.lst acc))
section
variable{X:Cx}{tg iter elt:Expr}{ifs:List Expr}{scope:Scope}{pos:Pos}{wi:TI}{g:TG}{tc:TT}{te:TE}{N:List Str}{k:Nat}{cs:List Nat}
theorem Inv.block{pins:List (Addr×Obj)}{σ:St}{H:Hp}{s s':Shared}{ex:List Addr}(S:Bw X scope N k cs)(I:Inv X pins σ H s)
  (hex:∀b∈ex,Dq X pins H b/\∃o,s.heap.get? b=some o) (hos:s'.os=s.os) (hg:AllBare s'.gens) (hk:∀b o,s.heap.get? b=some o->s'.heap.get? b=some o) (hn:∃m,s'.heap.Ns s.heap.objs.size m) :
  Inv (cxC X scope N s H ex) [] (List.replicate k none++Nq cs σ) H s':=by
 have lk:∀{x c},(Um X.env scope.names).lookup x=some c->X.env.cells.lookup x=some c:=λ{x c} h=>by
  rcases Qf X.env _ _ h with z|⟨z,e⟩
  ·simp at z
  ·obtain⟨a,ha⟩:=I.ok.has x (S.free _ z rfl);rw[e,ha];rfl
 have nex:∀b,b∈ex->b≠s.heap.objs.size:=λb hb z=>by
  obtain⟨_,o,ho⟩:=hex b hb;exact absurd (D6 ho) (by rw[z];exact O2 _)
 refine⟨⟨I.ok.mod,S.kind,I.ok.glob,I.ok.blt,C0 _,λx y c h1 h2=>I.ok.inj x y c (lk h1) (lk h2),λx hx=>?_,λx c h _=>(nomatch h),I.ok.hd,I.ok.frames,.inl rfl,λb hb=>⟨nex b hb,λx c h=>?_⟩,I.bs,?_,λb o e hb=>?_,λb hb hf=>?_,I.stack,I.stkFree⟩,
  hos,hg,Un.kept hk,?_,λx c h=>?_,I.hok.fresh (C0 _),λx c h=>I.freeC x c (lk h),λp hp=>absurd (show p∈([]:List (Addr×Obj))from hp) A6,I.hok.kept hk,?_⟩
 ·exact Ul X.env _ _ (Oo S.cell hx)
 ·exact(hex b hb).1.2.2.2.2.1 x c (lk h)
 ·exact C7 I.ok.bsz I.sz
 ·rcases(hex b hb).1.2.2.2.1 with z|z
  ·exact I.ok.noex b o e z
  ·exact absurd (F2 (D6 e) (C7 I.ok.bsz z)) (O2 _)
 ·rcases C1.mp (I.stkSub b hf)with z|z
  ·exact(hex b hb).1.2.1 z
  ·exact(hex b hb).1.2.2.1 z
 ·obtain⟨m,hm⟩:=hn;obtain⟨mo,hmo,hlo⟩:=I.loc;refine⟨m,hm,λi x v h1 h2 h3=>?_⟩;have hi:k<=i:=by
   by_cases z:i<k
   ·rw[L8 (by simpa using z),U5,Y7 z]at h2;cases h2
   ·lia
  obtain⟨j,rfl⟩:∃j,i=k+j:=⟨i-k,by lia⟩
  rw[F9 A6,P4,Nat.add_sub_cancel_left]at h2;unfold Nq at h2;rw[B8]at h2;have hj:j<cs.length:=by
   by_cases z:j<cs.length
   ·exact z
   ·rw[Q8 A0]at h2;cases h2
  obtain⟨x',e1,e2,e3⟩:=S.cap j hj;rw[show N[k+j]?=some x from h1]at e1;cases e1;rw[C5 hj]at h2;have h2':(σ[cs[j]]?).getD none=some v:=Z5 h2;rw[D7,C5 hj]at e2;have h4:σ[cs[j]]?=some (some v):=by
   cases q:σ[cs[j]]? with
   |none=>rw[q]at h2';cases h2'
   |some w=>rw[q]at h2';rw[show w=some v from h2']
  have kO:=S.free (x,.free) (K5 e3) rfl;obtain⟨u,ru,l⟩:=hlo _ x v e2 h4 (.inr kO);refine⟨u,ru,?_⟩;rcases l with ⟨z,_⟩|⟨_,c,hc',z⟩
  ·have z':X.env.scope.names.lookup x=some .local:=z;rcases kO with q|q<;>· rw[z']at q;cases q
  ·obtain⟨c',h5⟩:=Ul X.env _ [] (K5 e3);have h6:=lk h5;rw[hc']at h6;cases h6;obtain⟨o,ho,hd⟩:=z;exact .inr ⟨LJ e3,c,h5,o,hk _ _ ho,hd⟩
 ·obtain⟨v,o,ho,hd⟩:=I.cell x c (lk h);exact⟨v,o,hk _ _ ho,hd⟩
 ·show(List.replicate k none++Nq cs σ).length=N.length;rw[C4,P4,S.len];unfold Nq;rw[B6]
end
structure ZK(C:Cx->Prop)(P:Program)(w:World)(K:PySem.W.Frag)(tg:Expr)(J:It)(fp:List Addr)(it:Addr)(tn:Nat->Heap->Prop):Prop where
 obj:∀i h,tn i h->∀b∈fp,∃o,h.get? b=some o/\∀v,o.data≠.cell v
 keep:∀i h h',tn i h->(∀b∈fp,∀o,h.get? b=some o->h'.get? b=some o)->tn i h'
 item:∀(X:Cx),C X->X.prog=P->X.w=w->X.K=K->∀(i:Nat)(pins:List (Addr×Obj))(s:Shared)(σ:St)(H:Hp)(E:Value->Shared->Prop),Inv X pins σ H s->(∀b∈fp,Dq X pins H b)->tn i s.heap->J.go i H ->
  wpAny (model P w) X.A (pyNext (.ref it)) (λr s1=>∃u,r=some u/\wpAny (model P w) X.A (letOwnedTupleGo tg (.ref it) u) (λ_ s2=>∃x H',Inv X pins σ H' s2/\AW x u/\J.yld i H x H'/\tn (i+1) s2.heap/\∀b∈fp,H' b=none) E s1) E s
 done:∀(X:Cx),C X->X.prog=P->X.w=w->X.K=K->∀(i:Nat)(pins:List (Addr×Obj))(s:Shared)(σ:St)(H:Hp)(E:Value->Shared->Prop),Inv X pins σ H s->(∀b∈fp,Dq X pins H b)->tn i s.heap->J.stop i H ->
  wpAny (model P w) X.A (pyNext (.ref it)) (λr s1=>r=none/\Inv X pins σ H s1) E s
 self:∀(A:Around)(i:Nat)(s:Shared)(Q:Value->Shared->Prop)(E:Value->Shared->Prop),tn i s.heap->Q (.ref it) s->wpAny (model P w) A (pyIter (.ref it)) Q E s
theorem Pq.q{P:Program}{w:World}{K:PySem.W.Frag}{tg:Expr}{J:It}{fp:List Addr}{it:Addr}{tn:Nat->Heap->Prop}(T:Pq P w K tg J fp it tn):ZK (λX=>X.calm=true) P w K tg J fp it tn :=
 ⟨T.obj,T.keep,λX c p w k=>T.item X p w k c,λX c p w k=>T.done X p w k c,T.self⟩
section
variable{X:Cx}{tg iter elt:Expr}{ifs:List Expr}{scope:Scope}{pos:Pos}{wi:TI}{g:TG}{tc:TT}{te:TE}{N:List Str}{k:Nat}{cs:List Nat}{fin:List V->Hp->Prop}
theorem Wx{pins:List (Addr×Obj)}{σ:St}{H2:Hp}{sD s1:Shared}{it D:Addr}{fp:List Addr}{tn:Nat->Heap->Prop}{J:It}{n0:Nat}{RR:Result->Shared->Prop}{Cq:Cx->Prop}(hc:∀s H ex,Cq (cxC X scope N s H ex))(S:Bw X scope N k cs)
  (hg:∀s H ex,PG (cxC X scope N s H ex) tg g) (ht:∀s H ex,PTs (cxC X scope N s H ex) ifs tc) (he:∀s H ex,PE (cxC X scope N s H ex) elt te)
  (ID:Inv X pins σ H2 sD) (hD:sD.heap.get? D=some {cls:=.type "list",data:=.seq ([]:List Value).toArray n0}) (hD0:X.s₀.heap.objs.size<=D) (fD:Dq X pins H2 D) (nfp:D∉fp)
  (T:ZK Cq X.prog X.w X.K tg J fp it tn) (st:tn 0 sD.heap) (f2:∀b∈fp,Dq X pins H2 b) (hb:Gc k cs g tc te J σ H2 fin)
  (hos:s1.os=sD.os) (hgn:AllBare s1.gens) (hk:∀b o,sD.heap.get? b=some o->s1.heap.get? b=some o) (hn:∃m,s1.heap.Ns sD.heap.objs.size m)
  (hRR:∀(H':Hp)(acc:List V)(s4:Shared),fin acc H'->H' D=none->Inv X pins σ (upd H' D (.lst acc)) s4->(∃m,s4.heap.Ns sD.heap.objs.size m)->Dq X pins (upd H' D (.lst acc)) sD.heap.objs.size->RR (.ok .next) s4) :
  codeAny (model X.prog X.w) X.A (.compLoop (.ListComp elt [⟨tg,iter,ifs,0⟩] scope pos) 0 (.ref it) (.ref D) (compEnvC scope (Um X.env scope.names) sD.heap.objs.size X.env)) RR s1:=by
 obtain⟨W,⟨m0,w0⟩,turn⟩:=hb;have hobj:∀b,b∈D::fp->∃o,sD.heap.get? b=some o:=λb hb=>by
  rcases C1.mp hb with rfl|z
  ·exact⟨_,hD⟩
  ·obtain⟨o,e,_⟩:=T.obj _ _ st b z;exact⟨o,e⟩
 have hexx:∀b∈D::fp,Dq X pins H2 b/\∃o,sD.heap.get? b=some o:=λb hb=>⟨by
  rcases C1.mp hb with rfl|z
  ·exact fD
  ·exact f2 b z,hobj b hb⟩
 have neC:∀b,b∈D::fp->b≠sD.heap.objs.size:=λb hb z=>by
  obtain⟨o,e⟩:=hobj b hb;exact absurd (D6 e) (by rw[z];exact O2 _)
 have nfr:∀b,b∈D::fp->b∉frs X.stack:=λb hb hf=>by
  rcases C1.mp (ID.stkSub b hf)with z|z
  ·exact(hexx b hb).1.2.1 z
  ·exact(hexx b hb).1.2.2.1 z
 have I0:=ID.block S hexx hos hgn hk hn;have I0ok:=I0.ok;have cells:∀b,b∈D::fp->∀x c,(Um X.env scope.names).lookup x=some c->c≠b:=λb hb x c h=>(I0ok.exf b hb).2 x c h;have fpok:∀{H':Hp}{pl:List (Addr×Obj)},(∀b∈fp,H' b=none)->(∀p∈pl,p.1=D)->∀b∈fp,Dq (cxC X scope N sD H2 (D::fp)) pl H' b:=λhn hp b hb =>
  ⟨hn b hb,neC b (.tail _ hb),nfr b (.tail _ hb),.inl (.tail _ hb),cells b (.tail _ hb),λp hp' z=>nfp (by
   have:=hp p hp';rw[<-this,z];exact hb)⟩
 refine SS (λn s'=>∃(i:Nat)(acc:List V)(its:List Value)(nn:Nat)(H':Hp),Inv (cxC X scope N sD H2 (D::fp)) [] (List.replicate k none++Nq cs σ) H' s'/\tn i s'.heap/\(∀b∈fp,H' b=none)/\H' D=none/\acc.length<=sizeLine/\AN acc its /\
  s'.heap.get? D=some {cls:=.type "list",data:=.seq its.toArray nn}/\W i n acc H') ?_ m0
  ⟨0,[],[],n0,H2,I0,T.keep _ _ _ st (λb _ o e=>hk b o e),λb hb=>(f2 b hb).1,fD.1,J8 _,.nil,hk _ _ hD,w0⟩
 rintro n s3 ⟨i,acc,its,nn,H3,I3,st3,fr3,nD3,hl3,v3,e3,w3⟩;have I3p:Inv (cxC X scope N sD H2 (D::fp)) [(D,{cls:=.type "list",data:=.seq its.toArray nn})] (List.replicate k none++Nq cs σ) H3 s3:=I3.pins_of λp hp=>by
  rw[D4]at hp;subst hp;exact⟨e3,nD3,neC D (.head _),nfr D (.head _),λv z=>by cases z⟩
 have one:∀p∈[((D,{cls:=.type "list",data:=.seq its.toArray nn}):Addr×Obj)],p.1=D:=λp hp=>by
  rw[D4]at hp;subst hp;rfl
 rcases turn i n acc H3 w3 with ⟨stop,qf⟩|⟨go,Nx,hNx,step⟩
 ·refine thn (T.done (cxC X scope N sD H2 (D::fp)) (hc _ _ _) rfl rfl rfl i _ s3 _ H3 _ I3p (fpok fr3 one) st3 stop) λr s4 ⟨hr,I4⟩=>?_;subst hr;have IX:Inv X pins σ H3 s4:=ID.call' (ch:=D::fp) I4.os I4.base I4.hok I4.bare λb hb=>⟨(hexx b hb).1.2.2.2.1,(hexx b hb).1.2.1,(hexx b hb).1.2.2.2.2.1,(hexx b hb).1.2.2.2.2.2⟩
  have p4:=(I4.pin (D,{cls:=.type "list",data:=.seq its.toArray nn}) (by show _∈[]++[_];simp)).1;have IY:Inv X pins σ (upd H3 D (.lst acc)) s4:=by
   refine IX.track nD3 (N9 hD0) (N9 (C7 ID.ok.bsz hD0)) (Z3 fD.2.1) fD.2.2.2.2.1 fD.2.2.2.2.2 (λb hb z=>fD.2.2.1 (z▸hb)) ?_;exact⟨hl3,its,nn,v3,p4⟩
  refine hRR H3 acc s4 qf nD3 IY ?_ (ID.fpOk (C0 _) ?_)
  ·obtain⟨m,hm,_⟩:=I4.loc;exact⟨m,hm⟩
  ·rw[Au (Z3 (neC D (.head _)))];exact I4.free
 ·refine thn (T.item (cxC X scope N sD H2 (D::fp)) (hc _ _ _) rfl rfl rfl i _ s3 _ H3 (λ_ _=>False) I3p (fpok fr3 one) st3 go) λr s4 ⟨u,hr,h4⟩=>?_;subst hr;refine thn h4 λ_ s5 ⟨x,H5,I5,r5,y5,st5,fr5⟩=>?_;have I5':=I5.pinned (fpok fr5 one) (T.obj _ _ st5);refine thn (hg sD H2 (D::fp) _ s5 _ H5 x u _ I5' r5 (step x H5 y5)) λ_ s6 ⟨σ6,H6,I6,⟨ts,tl,eσ⟩,hz6,q6⟩=>?_;refine thn (ht sD H2 (D::fp) _ s6 σ6 H6 _ I6 q6) λb s7 ⟨H7,I7,q7⟩=>?_;have weak:∀{pl:List (Addr×Obj)}{H':Hp}{s':Shared},Inv (cxC X scope N sD H2 (D::fp)) pl σ6 H' s'->Inv (cxC X scope N sD H2 (D::fp)) [] (List.replicate k none++Nq cs σ) H' s':=λ{pl H' s'} J=>by
   refine(J.weak (σ':=List.replicate k none++Nq cs σ) ?_ λj v e=>?_).pins_of λp hp=>absurd hp A6
   ·rw[eσ,C4,C4,P4,tl]
   ·by_cases z:j<k
    ·rw[L8 (by simpa using z),U5,Y7 z]at e;cases e
    ·rw[F9 (by rw[P4];lia),P4]at e;rw[eσ,F9 A0,tl];exact e
  have later:∀{pl:List (Addr×Obj)}{σ':St}{H':Hp}{s':Shared},Inv (cxC X scope N sD H2 (D::fp)) (pl++MD fp s5.heap) σ' H' s'->tn (i+1) s'.heap/\∀b∈fp,H' b=none:=λ{pl σ' H' s'} J =>
   ⟨T.keep _ _ _ st5 λb hb o e=>(J.pin (b,o) (J7 _ (J7 _ (Ip hb e)))).1,λb hb=>by
    obtain⟨o,e,_⟩:=T.obj _ _ st5 b hb;exact(J.pin (b,o) (J7 _ (J7 _ (Ip hb e)))).2.1⟩
  cases b with
  |false =>
   have q7':Nx acc H7:=by simpa using q7
   obtain⟨m',hm,w7⟩:=hNx _ _ q7';rw[Y4 C8];have p7:=I7.pin (D,{cls:=.type "list",data:=.seq its.toArray nn}) (J7 _ (S7 _ (D4.mpr rfl)));exact⟨m',hm,i+1,acc,its,nn,H7,weak I7,(later I7).1,(later I7).2,p7.2.1,hl3,v3,p7.1,w7⟩
  |true =>
   rw[Y7 rfl]at q7;rw[Y7 rfl];refine thn (he sD H2 (D::fp) _ s7 σ6 H7 _ I7 q7) λy s8 ⟨v,H8,I8,r8,q8⟩=>?_;obtain⟨m',hm,w8⟩:=hNx _ _ q8;have p8:=I8.pin (D,{cls:=.type "list",data:=.seq its.toArray nn}) (J7 _ (S7 _ (D4.mpr rfl)));have hlen:=v3.length;refine A2a F.slot_list_append ⟨_,p8.1,rfl⟩ F.entry_list_append (F.args_list_append_2 _ _) (PySem.list_append D its.toArray nn y (by rw[F1];lia)) ⟨p8.1,?_⟩;have q:=PySem.IsL.update p8.1 (·.push y);have eq:its.toArray.push y=(its++[y]).toArray:=by simp
   dsimp only at q;rw[eq]at q;have I8':Inv (cxC X scope N sD H2 (D::fp)) ([]++MD fp s5.heap) σ6 H8 s8:=I8.pins_of λp hp=>I8.pin p (J7 _ (J7 _ hp));have I9:=I8'.turned (t':=s8.toks) (it:=D) (h':=s8.heap.update D (Obj.mapSeq (·.push y))) (λb o hb e=>(V1 s8.heap (Obj.mapSeq (·.push y)) (Z3 hb)).trans e) p8.2.1 (neC D (.head _)) (.inl (.head _)) (cells D (.head _))
    (λp hp z=>nfp (by
     have:=(PJ (fp:=fp) (h:=s5.heap) (p:=p) (by simpa[cxC] using hp)).1;rw[z]at this;exact this))
   refine⟨m',hm,i+1,acc++[v],its++[y],_,H8,weak I9,(later I9).1,(later I9).2,p8.2.1,?_,v3.append (.cons r8 .nil),q,w8⟩;rw[C4,Q7];lia
theorem OT{pins:List (Addr×Obj)}{σ:St}{H2:Hp}{s2:Shared}{it:Addr}{fp:List Addr}{tn:Nat->Heap->Prop}{J:It}{RR:Value->Addr->Result->Shared->Prop}{E:Value->Shared->Prop}{Cq:Cx->Prop}(hc:∀s H ex,Cq (cxC X scope N s H ex))(S:Bw X scope N k cs)
  (hg:∀s H ex,PG (cxC X scope N s H ex) tg g) (ht:∀s H ex,PTs (cxC X scope N s H ex) ifs tc) (he:∀s H ex,PE (cxC X scope N s H ex) elt te)
  (I2:Inv X pins σ H2 s2) (T:ZK Cq X.prog X.w X.K tg J fp it tn) (st:tn 0 s2.heap) (f2:∀b∈fp,Dq X pins H2 b) (hb:Gc k cs g tc te J σ H2 fin)
  (hRR:∀(D C:Addr)(H':Hp)(acc:List V)(s4:Shared),fin acc H'->H' D=none->Inv X pins σ (upd H' D (.lst acc)) s4->(∃m,s4.heap.Ns C m)->Dq X pins (upd H' D (.lst acc)) C->RR (.ref D) C (.ok .next) s4) :
  wpAny (model X.prog X.w) X.A (newList []) (λacc s₃=>wpAny (model X.prog X.w) X.A (newFunctionEnv scope X.env.globals (Um X.env scope.names) [] X.env.qual none .none (some X.env)) (λcenv s₄ =>
   codeAny (model X.prog X.w) X.A (.compStart (.ListComp elt [⟨tg,iter,ifs,0⟩] scope pos) 0 (.ref it) acc {cenv with scope:=relabel scope X.env}) (RR acc cenv.locals) s₄) E s₃) E s2:=by
 refine A1c (wpAny_newFunctionEnv S.cell (by intro y hy;simp at hy) (λh₁ hns₁ hsb₁=>?_) S.kind);dsimp only at hns₁ hsb₁⊢;have keepD:∀b o,s2.heap.get? b=some o->(s2.heap.push {cls:=.type "list",dict:=none,data:=.seq ([]:List Value).toArray}).get? b=some o:=λb o e=>B9 _ e;have ID:Inv X pins σ H2 {s2 with heap:=s2.heap.push {cls:=.type "list",dict:=none,data:=.seq ([]:List Value).toArray} }:=I2.kept (t':=s2.toks) keepD;have hD:(s2.heap.push {cls:=.type "list",dict:=none,data:=.seq ([]:List Value).toArray}).get? s2.heap.objs.size=some {cls:=.type "list",data:=.seq ([]:List Value).toArray}:=D3 _ rfl;have nfp:s2.heap.objs.size∉fp:=λz=>by
  obtain⟨o,e,_⟩:=T.obj _ _ st _ z;exact absurd (D6 e) (O2 _)
 have stD:tn 0 (s2.heap.push {cls:=.type "list",dict:=none,data:=.seq ([]:List Value).toArray}):=T.keep _ _ _ st λb _ o e=>keepD b o e;have hk:∀b o,(s2.heap.push {cls:=.type "list",dict:=none,data:=.seq ([]:List Value).toArray}).get? b=some o->h₁.get? b=some o:=λb o e=>hsb₁.extBut b o (F8 (D6 e)) (B9 _ e);have loop:∀s₃:Shared,s₃={s2 with heap:=h₁,toks:=s2.toks+([]:List (Str×Value)).length} ->
   codeAny (model X.prog X.w) X.A (.compLoop (.ListComp elt [⟨tg,iter,ifs,0⟩] scope pos) 0 (.ref it) (.ref s2.heap.objs.size) (compEnvC scope (Um X.env scope.names) (s2.heap.push {cls:=.type "list",dict:=none,data:=.seq ([]:List Value).toArray}).objs.size X.env))
    (RR (.ref s2.heap.objs.size) (s2.heap.push {cls:=.type "list",dict:=none,data:=.seq ([]:List Value).toArray}).objs.size) s₃:=by
  rintro s₃ rfl;exact Wx (sD:={s2 with heap:=s2.heap.push {cls:=.type "list",dict:=none,data:=.seq ([]:List Value).toArray} }) hc S hg ht he ID hD I2.sz (I2.fpOk (C0 _) I2.fresh) nfp T stD f2 hb rfl I2.bare hk ⟨_,hns₁⟩ λH' acc s4=>hRR _ _ H' acc s4
 exact codeAny_compStart_list (loop _ rfl) (T.self _ 0 _ _ _ (T.keep _ _ _ stD λb _ o e=>hk b o e) (loop _ rfl))
theorem BU(hc:X.calm=true)(S:Bw X scope N k cs)(hi:PI X tg iter wi)(hg:∀s H ex,PG (cxC X scope N s H ex) tg g)(ht:∀s H ex,PTs (cxC X scope N s H ex) ifs tc)(he:∀s H ex,PE (cxC X scope N s H ex) elt te)
  (hs:∀x,foldedSetIterable iter X.env x=pure x:=by intro _;rfl):PE X (.ListComp elt [⟨tg,iter,ifs,0⟩] scope pos) (tComp k cs wi g tc te):=by
 intro pins s σ H Q I h;rw[eval_ListComp];refine wpAny_comprehension_free (use:=none) rfl hs (OU λy hy hf=>I.ok.has _ (S.free y hy hf)) S.kind S.names (thn (hi pins s σ H _ I h) λv s1 h1=>thn h1 λitv s2 h2=>?_);obtain⟨it,fp,tn,J,H2,rfl,I2,T,st2,f2,hb⟩:=h2;refine OT (RR:=λacc C=>compPost (model X.prog X.w) X.A X.xe none (EP X pins σ Q) acc C) (Cq:=λX=>X.calm=true) (λ_ _ _=>hc) S hg ht he I2 T.q st2 f2 hb λD C H' acc s4 qf nD J4 hn fC=>?_;obtain⟨m,hm⟩:=hn;refine⟨m,hm,λh' sb=>⟨.ref D,upd H' D (.lst acc),?_,rfl,qf D nD⟩⟩;exact J4.turned (t':=s4.toks) (it:=C) (λb o hb e=>(sb.2 b hb).trans e) fC.1 fC.2.1 fC.2.2.2.1 fC.2.2.2.2.1 fC.2.2.2.2.2
def WO(i k:Nat)(cs:List Nat)(wi:TI)(g:TG)(tc:TT)(te:TE):TS:=λD σ H=>wi σ H λJ H1=>Gc k cs g tc te J σ H1 λacc H2=>∀p,H2 p=none->D.nx (σ.set i (some (.ref p))) (upd H2 p (.lst acc))
theorem Ic{i:Nat}{y:Str}{py spos:Pos}(hc:X.calm=true)(hN:X.N.Nodup)(hi':X.N[i]?=some y)(hy:X.env.scope.names.lookup y=some .local)(S:Bw X scope N k cs)(hi:PI X tg iter wi)
  (hg:∀s H ex,PG (cxC X scope N s H ex) tg g) (ht:∀s H ex,PTs (cxC X scope N s H ex) ifs tc) (he:∀s H ex,PE (cxC X scope N s H ex) elt te)
  (hsw:swapsWith (.ListComp elt [⟨tg,iter,ifs,0⟩] scope pos) (some (.Name y py)) spos.line X.env=pure true:=by rfl) (hs:∀x,foldedSetIterable iter X.env x=pure x:=by intro _;rfl) :
  PS X (.Assign [.Name y py] (.ListComp elt [⟨tg,iter,ifs,0⟩] scope pos) spos) (WO i k cs wi g tc te):=by
 intro pins s σ H D I h;rw[exec_Assign_Name_used _ _ _ _ hsw];refine W9 (A4g (W9 ?_));show wpAny _ X.A (do let _ <-comprehension (.ListComp elt [⟨tg,iter,ifs,0⟩] scope pos) scope X.env _ (newList []) false (eval iter X.env) (some (assign (.Name y py) X.env))) _ _ s;refine W9 (K7 (wpAny_comprehension_free (use:=some (assign (.Name y py) X.env)) (Q:=λ_ s'=>SP X pins D .next s') rfl hs (OU λy hy hf=>I.ok.has _ (S.free y hy hf)) S.kind S.names
  (thn (hi pins s σ H _ I h) λv s1 h1=>thn h1 λitv s2 h2=>?_)) (λ_ s' hq=>Z1 (Z1 hq)) λ_ _ e=>e)
 obtain⟨it,fp,tn,J,H2,rfl,I2,T,st2,f2,hb⟩:=h2;refine OT (RR:=λacc C=>compPost (model X.prog X.w) X.A X.xe (some (assign (.Name y py) X.env)) (λ_ s'=>SP X pins D .next s') acc C) (Cq:=λX=>X.calm=true) (λ_ _ _=>hc) S hg ht he I2 T.q st2 f2 hb λL C H' acc s4 qf nD J4 hn fC=>?_;obtain⟨m,hm⟩:=hn;show wpAny _ X.A (assign (.Name y py) X.env (.ref L)) _ _ _;refine wpAny_assign_Name (PB J4 hN hi' (.inl hy) (v:=.ref L) rfl (λs5 J5 hsb=>?_) (.inr hy));obtain⟨a,sb,ha⟩:=hsb;have nCa:C≠a:=by
  rcases ha with z|z
  ·rw[z];exact fC.2.1
  ·exact λq=>fC.2.2.2.2.1 y a z q.symm
 refine⟨m,hm.sameBut sb nCa,λh' sb'=>⟨σ.set i (some (.ref L)),upd H' L (.lst acc),?_,qf L nD⟩⟩;exact J5.turned (t':=s5.toks) (it:=C) (λb o hb e=>(sb'.2 b hb).trans e) fC.1 fC.2.1 fC.2.2.2.1 fC.2.2.2.2.1 fC.2.2.2.2.2
end
section
variable{K:PySem.W.Frag}{k:Nat}{cs:List Nat}{g:TG}{tc:TT}{te:TE}{σ:St}{H:Hp}{fin:List V->Hp->Prop}
abbrev Bt(k:Nat)(cs:List Nat)(g:TG)(tc:TT)(te:TE)(σ:St)(x:V)(acc:List V)(H:Hp)(Nx:List V->Hp->Prop):Prop :=
 g x (List.replicate k none++Nq cs σ) H fun σ2 H2=>(∃ts:St,ts.length=k/\σ2=ts++Nq cs σ)/\acc.length<sizeLine/\tc σ2 H2 λb H3=>if b=true then te σ2 H3 λv H4=>Nx (acc++[v]) H4 else Nx acc H3
theorem CY{a:Addr}{xs:List V}(Pv:Nat->List V->Hp->Prop)(h0:Pv 0 [] H)(hl:∀i acc H,i<=xs.length->Pv i acc H->SqL K H a xs)
  (hs:∀i x acc H,xs[i]?=some x->Pv i acc H->Bt k cs g tc te σ x acc H (Pv (i+1))) (hd:∀acc H,Pv xs.length acc H->fin acc H):Gc k cs g tc te (Itl K a) σ H fin:=by
 refine⟨λi m acc H=>m=xs.length-i/\i<=xs.length/\Pv i acc H,⟨xs.length,by simp,J8 _,h0⟩,?_⟩;rintro i m acc H ⟨rfl,hi,p⟩;have q:=hl i acc H hi p;by_cases hlt:i<xs.length
 ·refine .inr ⟨⟨xs,xs[i],q,by simp[hlt]⟩,Pv (i+1),λacc' H' p'=>⟨xs.length-(i+1),by lia,rfl,hlt,p'⟩,λx H' y=>?_⟩;obtain⟨e,y⟩:=y;subst e;exact hs i x acc _ (y xs q) p
 ·have e:i=xs.length:=by lia
  subst e;exact .inl ⟨⟨xs,q,C0 _⟩,hd acc H p⟩
theorem Rs{a:Addr}{xs:List V}(Pv:Nat->List V->Hp->Prop)(h0:Pv 0 [] H)(hl:∀i acc H,i<=xs.length->Pv i acc H->SqT K H a xs)
  (hs:∀i x acc H,xs[i]?=some x->Pv i acc H->Bt k cs g tc te σ x acc H (Pv (i+1))) (hd:∀acc H,Pv xs.length acc H->fin acc H):Gc k cs g tc te (Itt K a) σ H fin:=by
 refine⟨λi m acc H=>m=xs.length-i/\i<=xs.length/\Pv i acc H,⟨xs.length,by simp,J8 _,h0⟩,?_⟩;rintro i m acc H ⟨rfl,hi,p⟩;have q:=hl i acc H hi p;by_cases hlt:i<xs.length
 ·refine .inr ⟨⟨xs,xs[i],q,by simp[hlt]⟩,Pv (i+1),λacc' H' p'=>⟨xs.length-(i+1),by lia,rfl,hlt,p'⟩,λx H' y=>?_⟩;obtain⟨e,y⟩:=y;subst e;exact hs i x acc _ (y xs q) p
 ·have e:i=xs.length:=by lia
  subst e;exact .inl ⟨⟨xs,q,C0 _⟩,hd acc H p⟩
theorem Qi{lo:Int}{n:Nat}(Pv:Nat->List V->Hp->Prop)(h0:Pv 0 [] H)(hs:∀i acc H,i<n->Pv i acc H->Bt k cs g tc te σ (.int (lo+i)) acc H (Pv (i+1)))(hd:∀acc H,Pv n acc H->fin acc H):Gc k cs g tc te (Itr lo n) σ H fin:=by
 refine⟨λi m acc H=>m=n-i/\i<=n/\Pv i acc H,⟨n,by simp,J8 _,h0⟩,?_⟩;rintro i m acc H ⟨rfl,hi,p⟩;by_cases hlt:i<n
 ·refine .inr ⟨hlt,Pv (i+1),λacc' H' p'=>⟨n-(i+1),by lia,rfl,hlt,p'⟩,λx H' y=>?_⟩;obtain⟨e,y⟩:=y;subst e y;exact hs i acc _ hlt p
 ·have e:i=n:=by lia
  subst e;exact .inl ⟨C0 _,hd acc H p⟩
end
section
variable{prog:Program}{w:World}{A:Around}{E:Value->Shared->Prop}{s:Shared}
theorem LS{I t:Addr}{k:Nat}{vs:Array Value}{v:Value}{Q:Value->Shared->Prop}(hI:s.heap.IsTupleIter I t k)(hV:s.heap.IsTuple t vs)(hv:vs[k]?=some v)
  (q:∀g,g.IsTupleIter I t (k+1)->Heap.SameBut I s.heap g->Q v {s with heap:=g}):wpAny (model prog w) A (Builtin.SmallTypes.nextOf (.ref I)) Q E s:=by
 obtain⟨oI,eI,cI,dI⟩:=id hI;obtain⟨oV,eV,_,nV,dV⟩:=hV;unfold Builtin.SmallTypes.nextOf;refine W9 (wpAny_callSpecial?_slot (name:=Str.ofString "__next__") hI.typeIs A1e (A0a A1e hI.typeIs F.entry_tuple_iterator_next ?_ (F.args_tuple_iterator_next_1 _)));show wpAny _ _ (field (.ref I) 0 >>= _) _ _ s;refine W9 (K8 eI dI (x:=.ref t) rfl ?_);show wpAny _ _ (if(Value.ref t==Value.none)=true then _ else _) _ _ s;rw[Y4 (λz:(Value.ref t==Value.none)=true=>C8 z)];show wpAny _ _ (field (.ref I) 1 >>= _) _ _ s;refine W9 (K8 eI dI (x:=.int k 0) rfl ?_);show wpAny _ _ (seqItems? (.ref t) >>= _) _ _ s;refine W9 (A0b eV dV ?_);simp only[L6,hv];refine W9 (A4d eI dI A6 (Z1 ⟨v,rfl,Z1 (q _ ?_ (A2g ..))⟩));exact⟨_,V8 _ eI (Obj.isFreed_of_fields (A3a dI _)),(Obj.cls_mapFields ..).trans cI,by rw[A3a dI];simp[rawInt]⟩
theorem MH{I t:Addr}{k:Nat}{vs:Array Value}{Q:Value->Shared->Prop}(hA:A.handled=none)(hI:s.heap.IsTupleIter I t k)(hV:s.heap.IsTuple t vs)(hv:vs[k]?=none)
  (q:∀g e,Heap.ExtBut I s.heap g->(∃o,g.get? e=some o/\o.cls=.type "StopIteration")->E (.ref e) {s with heap:=g}):wpAny (model prog w) A (Builtin.SmallTypes.nextOf (.ref I)) Q E s:=by
 obtain⟨oI,eI,cI,dI⟩:=id hI;obtain⟨oV,eV,_,nV,dV⟩:=hV;unfold Builtin.SmallTypes.nextOf;refine W9 (wpAny_callSpecial?_slot (name:=Str.ofString "__next__") hI.typeIs A1e (A0a A1e hI.typeIs F.entry_tuple_iterator_next ?_ (F.args_tuple_iterator_next_1 _)));show wpAny _ _ (field (.ref I) 0 >>= _) _ _ s;refine W9 (K8 eI dI (x:=.ref t) rfl ?_);show wpAny _ _ (if(Value.ref t==Value.none)=true then _ else _) _ _ s;rw[Y4 (λz:(Value.ref t==Value.none)=true=>C8 z)];show wpAny _ _ (field (.ref I) 1 >>= _) _ _ s;refine W9 (K8 eI dI (x:=.int k 0) rfl ?_);show wpAny _ _ (seqItems? (.ref t) >>= _) _ _ s;refine W9 (A0b eV dV ?_);simp only[L6,hv];refine W9 (wpAny_rule (W9 (A4d eI dI A6 ?_)));show wpAny _ _ (newExc (.type "StopIteration") [] >>= _) _ _ _;refine W9 ?_;simp only[newExc,newTuple];refine W9 (A1c ?_ (by size_fits));refine W9 (m:=firstArgMember _ _) (wpAny_of_eq (a:=Value.none) (by first|rfl|(simp only[firstArgMember];rfl)) (A1c ?_ (by size_fits)));simp only[raiseNew];refine W9 (wpAny_handled ?_)
 first|rw[show A.in1.handled=none from hA]|rw[hA]
 refine W9 (Z1 (wpAny_throw (q _ _ (((A2g ..).extBut.push _).push _) ⟨_,D3 _ rfl,rfl⟩)))
def Cr:Bool->Heap->Addr->Addr->Nat->Prop
 |true,h,I,l,k=>h.IsTupleIter I l k
 |false,h,I,l,k=>h.IsListIter I l k
def DH:Bool->Heap->Addr->Array Value->Prop
 |true,h,l,vs=>h.IsTuple l vs
 |false,h,l,vs=>h.IsList l vs
def SqX(K:PySem.W.Frag):Bool->Hp->Addr->List V->Prop
 |true,H,a,xs=>SqT K H a xs
 |false,H,a,xs=>SqL K H a xs
theorem Cr.move{b:Bool}{h g:Heap}{I l:Addr}{k:Nat}(x:Cr b h I l k)(e:∀o,h.get? I=some o->g.get? I=some o):Cr b g I l k:=by
 cases b with
 |true=>obtain⟨o,ho,r⟩:=x;exact⟨o,e _ ho,r⟩
 |false=>obtain⟨o,ho,r⟩:=x;exact⟨o,e _ ho,r⟩
theorem Cr.there{b:Bool}{h:Heap}{I l:Addr}{k:Nat}(x:Cr b h I l k):∃o,h.get? I=some o/\∀v,o.data≠.cell v:=by
 cases b with
 |true=>obtain⟨o,ho,_,d⟩:=x;exact⟨o,ho,λv z=>by rw[d]at z;cases z⟩
 |false=>obtain⟨o,ho,_,d⟩:=x;exact⟨o,ho,λv z=>by rw[d]at z;cases z⟩
theorem DH.move{b:Bool}{h g:Heap}{l:Addr}{vs:Array Value}(x:DH b h l vs)(e:∀o,h.get? l=some o->g.get? l=some o):DH b g l vs:=by
 cases b with
 |true=>obtain⟨o,ho,r⟩:=x;exact⟨o,e _ ho,r⟩
 |false=>obtain⟨o,ho,r⟩:=x;exact⟨o,e _ ho,r⟩
theorem Du{b:Bool}{I l:Addr}{k:Nat}{vs:Array Value}{v:Value}{Q:Value->Shared->Prop}(hI:Cr b s.heap I l k)(hV:DH b s.heap l vs)(hv:vs[k]?=some v)
  (q:∀g,Cr b g I l (k+1)->Heap.SameBut I s.heap g->Q v {s with heap:=g}):wpAny (model prog w) A (Builtin.SmallTypes.nextOf (.ref I)) Q E s:=by
 cases b with
 |true=>exact LS hI hV hv q
 |false=>exact wpAny_nextOf_list_item hI hV hv q
theorem FL{b:Bool}{I l:Addr}{k:Nat}{vs:Array Value}{Q:Value->Shared->Prop}(hA:A.handled=none)(hI:Cr b s.heap I l k)(hV:DH b s.heap l vs)(hv:vs[k]?=none)
  (q:∀g e,Heap.ExtBut I s.heap g->(∃o,g.get? e=some o/\o.cls=.type "StopIteration")->E (.ref e) {s with heap:=g}):wpAny (model prog w) A (Builtin.SmallTypes.nextOf (.ref I)) Q E s:=by
 cases b with
 |true=>exact MH hA hI hV hv q
 |false=>exact wpAny_nextOf_list_end hA hI hV hv q
theorem Fy{b:Bool}{l:Addr}{vs:Array Value}{Q:Value->Shared->Prop}(hV:DH b s.heap l vs)
  (q:∀g,Cr b g s.heap.objs.size l 0->g.objs.size=s.heap.objs.size+1->(∀c o,s.heap.get? c=some o->g.get? c=some o)->Q (.ref s.heap.objs.size) {s with heap:=g}):wpAny (model prog w) A (pyIter (.ref l)) Q E s:=by
 cases b with
 |true=>exact wpAny_pyIter_tuple hV (q _ ⟨_,D3 _ rfl,rfl,rfl⟩ (O9 ..) λc o e=>B9 _ e)
 |false=>exact A2d hV (q _ ⟨_,D3 _ rfl,rfl,rfl⟩ (O9 ..) λc o e=>B9 _ e)
structure VG(z U O i j l m:Addr):Prop where
 nd:[z,U,O,i,j].Nodup
 l:l∉[z,O,i,j]
 m:m∉[z,O,i,j]
theorem WF{b c:Bool}{z U O i j l m:Addr}{k:Nat}{xs ys:Array Value}{x y p q:Value}{Q:Value->Shared->Prop}(D:VG z U O i j l m)(hZ:IsZip s.heap z U O .none)(hU:IsPair s.heap U (.ref i) (.ref j))(hO:IsPair s.heap O p q)
  (hi:Cr b s.heap i l k) (hj:Cr c s.heap j m k) (hl:DH b s.heap l xs) (hm:DH c s.heap m ys) (hx:xs[k]?=some x) (hy:ys[k]?=some y)
  (fin:∀g,IsZip g z U O (rawInt s.heap.objs.size)->IsPair g O x y->Cr b g i l (k+1)->Cr c g j m (k+1)->IsPair g s.heap.objs.size x y->g.objs.size=s.heap.objs.size+1 ->
   (∀a o,a∉[z,O,i,j]->s.heap.get? a=some o->g.get? a=some o)->Q (.ref s.heap.objs.size) {s with heap:=g}) :
  wpAny (model prog w) A (Builtin.«zip.__next__» ⟨[.ref z],[]⟩) (λr s'=>∃v,r=.done (.ret v)/\Q v s') E s:=by
 obtain⟨nd,nl,nm⟩:=D;simp only[M4,C1,D9,X7,A2e,O8,and_true,A1g]at nd nl nm;obtain⟨⟨zU,zO,zi,zj⟩,⟨UO,Ui,Uj⟩,⟨Oi,Oj⟩,ij⟩:=nd;obtain⟨lz,lO,li,lj⟩:=nl;obtain⟨mz,mO,mi,mj⟩:=nm;show wpAny _ _ (field (.ref z) 2 >>= _) _ _ _;refine W9 (K8 hZ rfl (x:=.bool false) rfl ?_);show wpAny _ _ (field (.ref z) 3 >>= _) _ _ _;refine W9 (K8 hZ rfl (x:=.ref U) rfl (W9 (A0b hU rfl ?_)));show wpAny _ _ (Builtin.SmallTypes.ownedTupleIsFree (.ref z) >>= _) _ _ _;refine W9 ?_;unfold Builtin.SmallTypes.ownedTupleIsFree;refine W9 (K8 hZ rfl (x:=.none) rfl (Z1 ?_));simp only[A2f];refine W9 (wpAny_rule (W9 (K8 hZ rfl (x:=.ref O) rfl (W9 (A0g hZ A6 λh1 hZ1 s1=>?_)))));replace hZ1:IsZip h1 z U O .ellipsis:=hZ1;refine W9 ?_;simp only[List.zipIdx_cons,List.zipIdx_nil,List.forIn_cons,List.forIn_nil];refine W9 (W9 (A4h ?_));show wpAny _ _ (Builtin.SmallTypes.nextOf (.ref i) >>= _) _ _ _;refine W9 (Du (hi.move λo e=>s1.extBut _ _ (Z3 zi) e) (hl.move λo e=>s1.extBut _ _ lz e) hx λh2 hi2 s2=>Z1 ?_);have hO2:IsPair h2 O p q:=s2.extBut _ _ Oi (s1.extBut _ _ (Z3 zO) hO);refine W9 (A0b hO2 rfl (W9 (A4e hO2 λh3 hO3 s3=>?_)));replace hO3:IsPair h3 O x q:=hO3;refine W9 (wpAny_letGo (Z1 (W9 (W9 (A4h ?_)))));show wpAny _ _ (Builtin.SmallTypes.nextOf (.ref j) >>= _) _ _ _;refine W9 (Du (hj.move λo e=>s3.extBut _ _ (Z3 Oj) (s2.extBut _ _ (Z3 ij) (s1.extBut _ _ (Z3 zj) e))) (hm.move λo e=>s3.extBut _ _ mO (s2.extBut _ _ mi (s1.extBut _ _ mz e))) hy λh4 hj4 s4=>Z1 ?_);have hO4:IsPair h4 O x q:=s4.extBut _ _ Oj hO3;refine W9 (A0b hO4 rfl (W9 (A4e hO4 λh5 hO5 s5=>?_)));replace hO5:IsPair h5 O x y:=hO5;refine W9 (wpAny_letGo (Z1 (Z1 (W9 (A0b hO5 rfl (W9 (wpAny_newTuple ?_)))))));have sz:h5.objs.size=s.heap.objs.size:=by rw[s5.1,s4.1,s3.1,s2.1,s1.1]
 have hZ5:IsZip h5 z U O .ellipsis:=s5.extBut _ _ zO (s4.extBut _ _ zj (s3.extBut _ _ zO (s2.extBut _ _ zi hZ1)));have kp:∀a o,a∉[z,O,i,j]->s.heap.get? a=some o->h5.get? a=some o:=λa o ha e=>by
  simp only[C1,D9,X7,A2e]at ha;exact s5.extBut _ _ ha.2.1 (s4.extBut _ _ ha.2.2.2 (s3.extBut _ _ ha.2.1 (s2.extBut _ _ ha.2.2.1 (s1.extBut _ _ ha.1 e))))
 have hi5:Cr b h5 i l (k+1):=hi2.move λo e=>s5.extBut _ _ (Z3 Oi) (s4.extBut _ _ ij (s3.extBut _ _ (Z3 Oi) e));have hj5:Cr c h5 j m (k+1):=hj4.move λo e=>s5.extBut _ _ (Z3 Oj) e;have zlt:z<h5.objs.size:=D6 hZ5;show wpAny _ _ (Builtin.SmallTypes.ownedTupleHandOut (.ref z) (.ref h5.objs.size) >>= _) _ _ _;refine W9 ?_;unfold Builtin.SmallTypes.ownedTupleHandOut;have hZ6:IsZip (h5.push {cls:=.type "tuple",data:=.seq #[x,y]}) z U O .ellipsis:=B9 _ hZ5;refine W9 (A0g hZ6 A6 λh7 hZ7 s7=>?_);replace hZ7:IsZip h7 z U O (rawInt h5.objs.size):=hZ7;refine A0g hZ7 A6 λh8 hZ8 s8=>?_;replace hZ8:IsZip h8 z U O (rawInt h5.objs.size):=hZ8;have up:∀a o,a≠z->h5.get? a=some o->h8.get? a=some o:=λa o na e=>s8.extBut _ _ na (s7.extBut _ _ na (B9 _ e));have hT:IsPair h8 h5.objs.size x y:=s8.extBut _ _ (T1 zlt) (s7.extBut _ _ (T1 zlt) (D3 _ rfl));have sz8:h8.objs.size=h5.objs.size+1:=by rw[s8.1,s7.1,O9]
 rw[sz]at hZ8 hT sz8;refine Z1 ⟨_,rfl,?_⟩;show Q (.ref h5.objs.size) _;rw[sz];refine fin h8 hZ8 (up _ _ (Z3 zO) hO5) (hi5.move λo e=>up _ o (Z3 zi) e) (hj5.move λo e=>up _ o (Z3 zj) e) hT sz8 λa o ha e=>up a o ?_ (kp a o ha e);simp only[C1,D9,X7,A2e]at ha;exact ha.1
theorem WE{b c:Bool}{z U O i j l m:Addr}{k:Nat}{xs ys:Array Value}{p q:Value}{Q:Fin->Shared->Prop}(hA:A.handled=none)(D:VG z U O i j l m)(hZ:IsZip s.heap z U O .none)(hU:IsPair s.heap U (.ref i) (.ref j))(hO:IsPair s.heap O p q)
  (hi:Cr b s.heap i l k) (hj:Cr c s.heap j m k) (hl:DH b s.heap l xs) (hm:DH c s.heap m ys) (hend:xs[k]?=none\/ys[k]?=none)
  (fin:∀g e,(∀a o,a∉[z,O,i,j]->s.heap.get? a=some o->g.get? a=some o)->(∃o,g.get? e=some o/\o.cls=.type "StopIteration")->E (.ref e) {s with heap:=g}) :
  wpAny (model prog w) A (Builtin.«zip.__next__» ⟨[.ref z],[]⟩) Q E s:=by
 obtain⟨nd,nl,nm⟩:=D;simp only[M4,C1,D9,X7,A2e,O8,and_true,A1g]at nd nl nm;obtain⟨⟨zU,zO,zi,zj⟩,⟨UO,Ui,Uj⟩,⟨Oi,Oj⟩,ij⟩:=nd;obtain⟨lz,lO,li,lj⟩:=nl;obtain⟨mz,mO,mi,mj⟩:=nm;show wpAny _ _ (field (.ref z) 2 >>= _) _ _ _;refine W9 (K8 hZ rfl (x:=.bool false) rfl ?_);show wpAny _ _ (field (.ref z) 3 >>= _) _ _ _;refine W9 (K8 hZ rfl (x:=.ref U) rfl (W9 (A0b hU rfl ?_)));show wpAny _ _ (Builtin.SmallTypes.ownedTupleIsFree (.ref z) >>= _) _ _ _;refine W9 ?_;unfold Builtin.SmallTypes.ownedTupleIsFree;refine W9 (K8 hZ rfl (x:=.none) rfl (Z1 ?_));simp only[A2f];refine W9 (wpAny_rule (W9 (K8 hZ rfl (x:=.ref O) rfl (W9 (A0g hZ A6 λh1 hZ1 s1=>?_)))));replace hZ1:IsZip h1 z U O .ellipsis:=hZ1;refine W9 ?_;simp only[List.zipIdx_cons,List.zipIdx_nil,List.forIn_cons,List.forIn_nil];refine W9 (W9 (A4h ?_));show wpAny _ _ (Builtin.SmallTypes.nextOf (.ref i) >>= _) _ _ _;have out:∀{a:Addr},a∉[z,O,i,j]->a≠z/\a≠O/\a≠i/\a≠j:=λha=>by simpa only[C1,D9,X7,A2e] using ha
 cases hx:xs[k]? with
 |none =>
  refine W9 (FL hA (hi.move λo e=>s1.extBut _ _ (Z3 zi) e) (hl.move λo e=>s1.extBut _ _ lz e) hx λh2 e s2 he=>?_);obtain⟨oe,hoe,hce⟩:=he;have hZ2:IsZip h2 z U O .ellipsis:=s2 _ _ zi hZ1;have ez:e≠z:=λt=>by subst t;rw[hZ2]at hoe;cases hoe;simp at hce
  exact A0g hZ2 A6 λh3 _ s3=>fin h3 e (λa o ha t=>s3.extBut _ _ (out ha).1 (s2 _ _ (out ha).2.2.1 (s1.extBut _ _ (out ha).1 t))) ⟨oe,s3.extBut _ _ ez hoe,hce⟩
 |some x =>
  have hy:ys[k]?=none:=by
   rcases hend with t|t
   ·rw[hx]at t;cases t
   ·exact t
  refine W9 (Du (hi.move λo e=>s1.extBut _ _ (Z3 zi) e) (hl.move λo e=>s1.extBut _ _ lz e) hx λh2 hi2 s2=>Z1 ?_);have hO2:IsPair h2 O p q:=s2.extBut _ _ Oi (s1.extBut _ _ (Z3 zO) hO);refine W9 (A0b hO2 rfl (W9 (A4e hO2 λh3 hO3 s3=>?_)));refine W9 (wpAny_letGo (Z1 (W9 (W9 (A4h ?_)))));show wpAny _ _ (Builtin.SmallTypes.nextOf (.ref j) >>= _) _ _ _;refine W9 (FL hA (hj.move λo e=>s3.extBut _ _ (Z3 Oj) (s2.extBut _ _ (Z3 ij) (s1.extBut _ _ (Z3 zj) e))) (hm.move λo e=>s3.extBut _ _ mO (s2.extBut _ _ mi (s1.extBut _ _ mz e))) hy λh4 e s4 he=>?_);obtain⟨oe,hoe,hce⟩:=he;have hZ4:IsZip h4 z U O .ellipsis:=s4 _ _ zj (s3.extBut _ _ zO (s2.extBut _ _ zi hZ1));have ez:e≠z:=λt=>by subst t;rw[hZ4]at hoe;cases hoe;simp at hce
  exact A0g hZ4 A6 λh5 _ s5=>fin h5 e (λa o ha t=>s5.extBut _ _ (out ha).1 (s4 _ _ (out ha).2.2.2 (s3.extBut _ _ (out ha).2.1 (s2.extBut _ _ (out ha).2.2.1 (s1.extBut _ _ (out ha).1 t))))) ⟨oe,s5.extBut _ _ ez hoe,hce⟩
theorem WG(g2:Heap)(n:Nat)(e2:g2.objs.size=n+2)(i j:Value):∃g5,g5=((g2.push {cls:=.type "tuple",data:=.seq #[i,j]}).push {cls:=.type "tuple",data:=.seq #[.none,.none]}).push
   {cls:=.type "zip",data:=.fields #[.none,.bool false,.bool false,.ref g2.objs.size,.ref (g2.push {cls:=.type "tuple",data:=.seq #[i,j]}).objs.size]} /\
  IsZip g5 (n+4) (n+2) (n+3) .none/\IsPair g5 (n+2) i j/\IsPair g5 (n+3) .none .none/\(∀a o,g2.get? a=some o->g5.get? a=some o) /\
  ((g2.push {cls:=.type "tuple",data:=.seq #[i,j]}).push {cls:=.type "tuple",data:=.seq #[.none,.none]}).objs.size=n+4:=by
 have e3:(g2.push {cls:=.type "tuple",data:=.seq #[i,j]}).objs.size=n+3:=by rw[O9,e2]
 have e4:((g2.push {cls:=.type "tuple",data:=.seq #[i,j]}).push {cls:=.type "tuple",data:=.seq #[.none,.none]}).objs.size=n+4:=by rw[O9,e3]
 refine⟨_,rfl,?_,?_,?_,λa o e=>B9 _ (B9 _ (B9 _ e)),e4⟩
 ·have q:=D3 ((g2.push {cls:=.type "tuple",data:=.seq #[i,j]}).push {cls:=.type "tuple",data:=.seq #[.none,.none]}) (o:={cls:=.type "zip",data:=.fields #[.none,.bool false,.bool false,.ref g2.objs.size,.ref (g2.push {cls:=.type "tuple",data:=.seq #[i,j]}).objs.size]}) rfl;rw[e4]at q;show _=some _;rw[q,e2,e3]
 ·have q:=B9 {cls:=.type "zip",data:=.fields #[.none,.bool false,.bool false,.ref g2.objs.size,.ref (g2.push {cls:=.type "tuple",data:=.seq #[i,j]}).objs.size]} (B9 {cls:=.type "tuple",data:=.seq #[.none,.none]} (D3 g2 (o:={cls:=.type "tuple",data:=.seq #[i,j]}) rfl));rw[<-e2];exact q
 ·have q:=B9 {cls:=.type "zip",data:=.fields #[.none,.bool false,.bool false,.ref g2.objs.size,.ref (g2.push {cls:=.type "tuple",data:=.seq #[i,j]}).objs.size]} (D3 (g2.push {cls:=.type "tuple",data:=.seq #[i,j]}) (o:={cls:=.type "tuple",data:=.seq #[.none,.none]}) rfl);rw[<-e3];exact q
theorem Wf{b c:Bool}(l m:Addr)(xs ys:Array Value):Meets (Builtin.«zip.__new__» ⟨[.type "zip",.ref l,.ref m],[]⟩) (λ_ R s=>DH b s.heap l xs/\DH c s.heap m ys /\
   ∀g,IsZip g (s.heap.objs.size+4) (s.heap.objs.size+2) (s.heap.objs.size+3) .none->IsPair g (s.heap.objs.size+2) (.ref s.heap.objs.size) (.ref (s.heap.objs.size+1))->IsPair g (s.heap.objs.size+3) .none .none ->
    Cr b g s.heap.objs.size l 0->Cr c g (s.heap.objs.size+1) m 0->(∀a o,s.heap.get? a=some o->g.get? a=some o)->R (.ok (.ret (.ref (s.heap.objs.size+4)))) {s with heap:=g}) :=
 .of_wp λprog w A R s h=>by
  obtain⟨hp,g,d,tk,os⟩:=s;obtain⟨hl,hm,h⟩:=h;have hsub:=sub_zip
  wp_walk using Fy hl
  intro g1 i1 z1 k1;have hm1:DH c (Shared.heap ⟨g1,g,d,tk,os⟩) m ys:=hm.move λo e=>k1 _ o e
  wp_walk using Fy hm1
  intro g2 i2 z2 k2
  wp_walk
  refine⟨_,rfl,?_⟩;have e1:g1.objs.size=hp.objs.size+1:=z1;have e2:g2.objs.size=hp.objs.size+2:=by rw[show g2.objs.size=g1.objs.size+1 from z2,e1]
  obtain⟨g5,e5,a1,a2,a3,k5,s5⟩:=WG g2 hp.objs.size e2 (.ref hp.objs.size) (.ref g1.objs.size);have a2':IsPair g5 (hp.objs.size+2) (.ref hp.objs.size) (.ref (hp.objs.size+1)):=by rw[<-e1];exact a2
  have i2':Cr c g2 (hp.objs.size+1) m 0:=by rw[<-e1];exact i2
  have key:=h g5 a1 a2' a3 ((i1.move λo e=>k2 _ o e).move λo e=>k5 _ o e) (i2'.move λo e=>k5 _ o e) λa o e=>k5 _ _ (k2 _ _ (k1 _ _ e));dsimp only at key;rw[e5,<-s5]at key;exact key
theorem Inv.turnedL{X:Cx}{pins:List (Addr×Obj)}{σ:St}{H:Hp}{s:Shared}{g:Heap}{tk:Nat}{ch:List Addr}(I:Inv X pins σ H s)(k:∀b o,b∉ch->s.heap.get? b=some o->g.get? b=some o)(hch:∀b∈ch,Dq X pins H b):Inv X pins σ H {s with heap:=g,toks:=tk}:=by
 have nch:∀b u,H b=some u->b∉ch:=λb u e z=>by rw[(hch b z).1]at e;cases e
 refine I.step (g':=s.gens) (d':=s.drawn) (ch:=ch) (λb hb=>⟨(hch b hb).2.2.2.1,(hch b hb).2.1,(hch b hb).2.2.2.2.1,(hch b hb).2.2.2.2.2⟩) (λb o _ _ hc e _=>k b o hc e) (λb o _ _ hc e _=>⟨o.slots,k b o hc e⟩) (λ_ _ _ _ n=>n)
  (λb o hc e=>⟨o,k b o hc e⟩) (λ_ _ e=>e) (λ_ _ _ e=>e) (λb ps e=>⟨#[],by rw[e];simp⟩) (λm hm=>?_) (λb u e=>?_) I.bare
 ·obtain⟨o,es,ep,ho,r⟩:=hm;exact⟨o,es,ep,k _ o (λz=>(hch _ z).2.1 rfl) ho,r⟩
 ·refine(I.hok b u e).stay (λc v hc q=>k c v ?_ q) (λ_ q=>q) λ_ _ q=>q;rcases hc with z|z
  ·rw[z];exact nch b u e
  ·exact nch c _ z
theorem Inv.pair{X:Cx}{pins:List (Addr×Obj)}{σ:St}{H:Hp}{s:Shared}{g:Heap}{tk n:Nat}{ch:List Addr}{x y:V}{u v:Value}(I:Inv X pins σ H s)(k:∀b o,b∉ch->s.heap.get? b=some o->g.get? b=some o)(hch:∀b∈ch,Dq X pins H b)
  (rx:AW x u) (ry:AW y v) (e:g.get? s.heap.objs.size=some {cls:=.type "tuple",data:=.seq #[u,v] n}):H s.heap.objs.size=none/\Inv X pins σ (upd H s.heap.objs.size (.tup [x,y])) {s with heap:=g,toks:=tk}:=by
 have f:=I.fpOk (C0 _) I.fresh;refine⟨f.1,(I.turnedL (tk:=tk) k hch).track f.1 (N9 I.sz) (N9 (C7 I.ok.bsz I.sz)) (Z3 f.2.1) f.2.2.2.2.1 f.2.2.2.2.2 (λb hb z=>f.2.2.1 (z▸hb)) ?_⟩;exact⟨by show 2<=sizeLine;decide,[u,v],.cons rx (.cons ry .nil),_,e,rfl,n,rfl⟩
theorem Inv.sq{X:Cx}{pins:List (Addr×Obj)}{σ:St}{H:Hp}{s:Shared}{b:Bool}{a:Addr}{xs:List V}(I:Inv X pins σ H s)(h:SqX X.K b H a xs):∃its:List Value,AN xs its/\DH b s.heap a its.toArray:=by
 cases b with
 |true =>
  obtain⟨its,r,p,_⟩:=I.tuple h;exact⟨its,r,p⟩
 |false =>
  obtain⟨its,r,p,_⟩:=I.list h;exact⟨its,r,p.isList⟩
theorem Inv.sq_inj{X:Cx}{pins:List (Addr×Obj)}{σ:St}{H:Hp}{s:Shared}{b:Bool}{a:Addr}{xs ys:List V}(I:Inv X pins σ H s)(h:SqX X.K b H a xs)(h':SqX X.K b H a ys):xs=ys:=by
 cases b with
 |true=>exact I.tuple_inj h h'
 |false=>exact I.list_inj h h'
def Itz(K:PySem.W.Frag)(b c:Bool)(l m:Addr):It :=
 ⟨λi H=>∃xs ys x y,SqX K b H l xs/\SqX K c H m ys/\xs[i]?=some x/\ys[i]?=some y,
  λi H v H'=>∃(T:Addr)(x y:V),v=.ref T/\H T=none/\H'=upd H T (.tup [x,y])/\(∀xs,SqX K b H l xs->xs[i]?=some x)/\∀ys,SqX K c H m ys->ys[i]?=some y,
  λi H=>∃xs ys,SqX K b H l xs/\SqX K c H m ys/\(xs.length<=i\/ys.length<=i)⟩
def ZipTn(b c:Bool)(z U O i j l m:Addr)(k:Nat)(h:Heap):Prop:=IsZip h z U O .none/\IsPair h U (.ref i) (.ref j)/\(∃p q,IsPair h O p q)/\Cr b h i l k/\Cr c h j m k
theorem WL{P:Program}{w:World}{K:PySem.W.Frag}{es:List Expr}{n:Nat}{tpos:Pos}{b c:Bool}{z U O i j l m:Addr}(D:VG z U O i j l m):Pq P w K (.Tuple es n tpos) (Itz K b c l m) [z,U,O,i,j] z (ZipTn b c z U O i j l m) where
 mem:=by simp
 obj:=λk h st a ha=>by
  obtain⟨hZ,hU,⟨p,q,hO⟩,hi,hj⟩:=st;simp only[C1,D9,X7]at ha;rcases ha with rfl|rfl|rfl|rfl|rfl
  ·exact⟨_,hZ,λv t=>by cases t⟩
  ·exact⟨_,hU,λv t=>by cases t⟩
  ·exact⟨_,hO,λv t=>by cases t⟩
  ·exact hi.there
  ·exact hj.there
 keep:=λk h h' st kp=>by
  obtain⟨hZ,hU,⟨p,q,hO⟩,hi,hj⟩:=st;exact⟨kp z A6 _ hZ,kp U A6 _ hU,⟨p,q,kp O A6 _ hO⟩,hi.move λo e=>kp i A6 o e,hj.move λo e=>kp j A6 o e⟩
 item:=by
  intro X hP hw hK hc k pins s σ H E I hf st hg;subst hP hw hK;obtain⟨hZ,hU,⟨p,q,hO⟩,hi,hj⟩:=st;obtain⟨xs,ys,x,y,sx,sy,hx,hy⟩:=hg;obtain⟨us,ru,ou⟩:=I.sq sx;obtain⟨vs,rv,ov⟩:=I.sq sy;obtain⟨u,hu,rxu⟩:=ru.get hx;obtain⟨v,hv,ryv⟩:=rv.get hy;have hT:s.TypeIs (.ref z) "zip" := ⟨_,hZ,rfl⟩
  unfold pyNext;refine W9 (A1f (wpAny_callSpecial?_slot (name:=Str.ofString "__next__") hT A4b (A0a A4b hT F.entry_zip_next (WF D hZ hU hO hi hj ou ov (by simpa using hu) (by simpa using hv) λg gZ gO gi gj gT gs gk=>Z1 ⟨_,rfl,?_⟩) (F.args_zip_next_1 _))));refine wpAny_letOwnedTupleGo_zip (s:={s with heap:=g}) gZ λg2 gZ2 sb=>?_;obtain⟨nd,nl,nm⟩:=D;simp only[M4,C1,D9,X7,A2e,O8,and_true,A1g]at nd;obtain⟨⟨zU,zO,zi,zj⟩,⟨UO,Ui,Uj⟩,⟨Oi,Oj⟩,ij⟩:=nd;have zlt:z<s.heap.objs.size:=D6 hZ;have kk:∀a o,a∉[z,O,i,j]->s.heap.get? a=some o->g2.get? a=some o:=λa o ha e=>(sb.2 a (λt=>ha (by simp[t]))).trans (gk a o ha e);have fch:∀a∈[z,O,i,j],Dq X pins H a:=λa ha=>hf a (by
   simp only[C1,D9,X7]at ha⊢;rcases ha with t|t|t|t<;>simp[t])
  obtain⟨nT,J⟩:=I.pair (tk:=s.toks) kk fch rxu ryv ((sb.2 _ (T1 zlt)).trans gT);refine⟨.ref s.heap.objs.size,_,J,rfl,⟨_,x,y,rfl,nT,rfl,λxs' q'=>by rw[I.sq_inj q' sx];exact hx,λys' q'=>by rw[I.sq_inj q' sy];exact hy⟩,⟨gZ2,kk U _ ?_ hU,⟨u,v,(sb.2 O (Z3 zO)).trans gO⟩,gi.move λo e=>(sb.2 i (Z3 zi)).trans e,gj.move λo e=>(sb.2 j (Z3 zj)).trans e⟩,λa ha=>?_⟩
  ·simp only[C1,D9,X7,A2e];exact⟨Z3 zU,UO,Ui,Uj⟩
  ·have e:=(hf a ha).1;have lt:a≠s.heap.objs.size:=by
    simp only[C1,D9,X7]at ha;rcases ha with t|t|t|t|t<;>subst t
    ·exact F8 zlt
    ·exact F8 (D6 hU)
    ·exact F8 (D6 hO)
    ·obtain⟨o,e,_⟩:=hi.there;exact F8 (D6 e)
    ·obtain⟨o,e,_⟩:=hj.there;exact F8 (D6 e)
   rw[Au lt];exact e
 done:=by
  intro X hP hw hK hc k pins s σ H E I hf st hg;subst hP hw hK;obtain⟨hZ,hU,⟨p,q,hO⟩,hi,hj⟩:=st;obtain⟨xs,ys,sx,sy,hend⟩:=hg;obtain⟨us,ru,ou⟩:=I.sq sx;obtain⟨vs,rv,ov⟩:=I.sq sy;have lu:=ru.length;have lv:=rv.length;have hT:s.TypeIs (.ref z) "zip" := ⟨_,hZ,rfl⟩
  have he:us.toArray[k]?=none\/vs.toArray[k]?=none:=hend.imp (λt=>by simp;lia) (λt=>by simp;lia);unfold pyNext;refine W9 (A1f (wpAny_callSpecial?_slot (name:=Str.ofString "__next__") hT A4b (A0a A4b hT F.entry_zip_next (WE (I.ok.hd hc) D hZ hU hO hi hj ou ov he λg e gk ge=>?_) (F.args_zip_next_1 _))));obtain⟨o,ho,hcl⟩:=ge;refine W9 (wpAny_isInstance (T:="StopIteration") (b:=true) ⟨o,ho,hcl⟩ isSubtype_stop (Z1 ⟨rfl,?_⟩));exact I.turnedL (tk:=s.toks) gk λa ha=>hf a (by
   simp only[C1,D9,X7]at ha⊢;rcases ha with t|t|t|t<;>simp[t])
 self:=λ_ _ _ _ _ st h=>wpAny_pyIter_zip st.1 h
end
theorem DH.obj{b:Bool}{h:Heap}{l:Addr}{vs:Array Value}(x:DH b h l vs):∃o,h.get? l=some o:=by
 cases b with
 |true=>obtain⟨o,e,_⟩:=x;exact⟨o,e⟩
 |false=>obtain⟨o,e,_⟩:=x;exact⟨o,e⟩
theorem Wt(g1:Heap)(n:Nat)(e1:g1.objs.size=n+1):∃g2,g2=g1.push {cls:=.type "enumerate",data:=.fields #[.none,.bool false,.ref n,rawInt 0,.none,.none]}/\IsEnum g2 (n+1) n 0 .none/\∀a o,g1.get? a=some o->g2.get? a=some o:=by
 refine⟨_,rfl,?_,λa o e=>B9 _ e⟩;have q:=D3 g1 (o:={cls:=.type "enumerate",data:=.fields #[.none,.bool false,.ref n,rawInt 0,.none,.none]}) rfl;rw[e1]at q;exact q
set_option maxHeartbeats 1000000 in
theorem TV{b:Bool}(l:Addr)(xs:Array Value):Meets (Builtin.«enumerate.__new__» ⟨[.type "enumerate",.ref l],[]⟩) (λ_ R s=>DH b s.heap l xs /\
   ∀g,IsEnum g (s.heap.objs.size+1) s.heap.objs.size 0 .none->Cr b g s.heap.objs.size l 0->(∀a o,s.heap.get? a=some o->g.get? a=some o)->R (.ok (.ret (.ref (s.heap.objs.size+1)))) {s with heap:=g}) :=
 .of_wp λprog w A R s h=>by
  obtain⟨hp,g,d,tk,os⟩:=s;obtain⟨hl,h⟩:=h;obtain⟨ol,eol⟩:=hl.obj;have hsub:=sub_enumerate;have fin:∀g1,Cr b g1 hp.objs.size l 0->g1.objs.size=hp.objs.size+1->(∀c o,hp.get? c=some o->g1.get? c=some o)->∃v,Fin.done (Flow.ret (.ref g1.objs.size))=Fin.done (Flow.ret v)/\R (.ok (.ret v)) ⟨g1.push {cls:=.type "enumerate",data:=.fields #[.none,.bool false,.ref hp.objs.size,rawInt 0,.none,.none]},g,d,tk,os⟩:=λg1 i1 z1 k1=>by
   obtain⟨g2,e2,a1,k2⟩:=Wt g1 hp.objs.size z1;refine⟨_,rfl,?_⟩;have key:=h g2 a1 (i1.move λo e=>k2 _ o e) λa o e=>k2 _ _ (k1 _ _ e);dsimp only at key;rw[e2,<-z1]at key;exact key
  wp_walk using AutoSeq1.wpAny_loadPart' eol
  refine wpAny_stack_any λst=>Z1 ?_;split
  ·rename_i c' _ _ _ _ _;cases(c'==Value.type "enumerate")
   ·wp_walk using AutoSeq1.wpAny_loadPart' eol,Fy hl
    intro g1 i1 z1 k1
    wp_walk
    exact fin g1 i1 z1 k1
   ·wp_walk using AutoSeq1.wpAny_loadPart' eol,Fy hl
    intro g1 i1 z1 k1
    wp_walk
    exact fin g1 i1 z1 k1
  ·wp_walk using AutoSeq1.wpAny_loadPart' eol,Fy hl
   intro g1 i1 z1 k1
   wp_walk
   exact fin g1 i1 z1 k1
theorem Qb{prog:Program}{w:World}{A:Around}{b:Bool}(hA:A.handled=none)(I l:Addr)(ne:l≠I)(vs:Array Value) :
  Draws prog w A I [I,l] vs.size (λk v=>vs[k]?=some v) (λk h=>Cr b h I l k/\DH b h l vs) where
 live:=λ_ _ st=>let ⟨o,ho,_⟩:=st.1.there;⟨o,ho⟩
 frame:=λ_ _ _ st hk=>⟨st.1.move λo e=>hk I A6 o e,st.2.move λo e=>hk l A6 o e⟩
 item:=λk s Q E hi st hQ=>Du st.1 st.2 (v:=vs[k]) (by simp[hi]) λg hI sb=>hQ _ g s.toks (by simp[hi]) ⟨hI,st.2.move λo e=>(sb.2 l ne).trans e⟩ sb
 done:=λs Q E st hE=>FL hA st.1 st.2 A6 hE
def Ite(K:PySem.W.Frag)(b:Bool)(l:Addr):It :=
 ⟨λi H=>∃xs x,SqX K b H l xs/\xs[i]?=some x,
  λi H v H'=>∃(T:Addr)(x:V),v=.ref T/\H T=none/\H'=upd H T (.tup [.int i,x])/\∀xs,SqX K b H l xs->xs[i]?=some x,
  λi H=>∃xs,SqX K b H l xs/\xs.length=i⟩
theorem VJ{P:Program}{w:World}{K:PySem.W.Frag}{es:List Expr}{n:Nat}{tpos:Pos}{b:Bool}{e I l:Addr}(eI:e≠I)(le:l≠e)(lI:l≠I) :
  Pq P w K (.Tuple es n tpos) (Ite K b l) [e,I] e (λk h=>(∃old,IsEnum h e I k old)/\Cr b h I l k) where
 mem:=by simp
 obj:=λk h st a ha=>by
  obtain⟨⟨old,he⟩,hI⟩:=st;simp only[C1,D9,X7]at ha;rcases ha with rfl|rfl
  ·exact⟨_,he,λv t=>by cases t⟩
  ·exact hI.there
 keep:=λk h h' st kp=>by
  obtain⟨⟨old,he⟩,hI⟩:=st;exact⟨⟨old,kp e A6 _ he⟩,hI.move λo t=>kp I A6 o t⟩
 item:=by
  intro X hP hw hK hc k pins s σ H E J hf st hg;subst hP hw hK;obtain⟨⟨old,he⟩,hI⟩:=st;obtain⟨xs,x,sx,hx⟩:=hg;obtain⟨us,ru,ou⟩:=J.sq sx;have lu:=ru.length;have hk:k<xs.length:=(B7.mp hx).1;refine wpAny_pyNext_enum_itemD (Qb (b:=b) (A:=X.A.in1) (J.ok.hd hc) I l lI us.toArray) he ⟨hI,ou⟩ (by simp;lia) eI (by simp[eI,Z3 le]) λu g tk hu gE gS gT gs gk=>⟨_,rfl,?_⟩
  obtain⟨u',hu',rxu⟩:=ru.get hx;have eu:u=u':=by
   have:us[k]?=some u:=by simpa using hu
   rw[hu']at this;exact(Z5 this).symm
  subst eu;refine wpAny_letOwnedTupleGo_enum (s:={s with heap:=g,toks:=tk+1}) gE λg2 gE2 sb=>?_;have elt:e<s.heap.objs.size:=D6 he;have kk:∀a o,a∉[e,I]->s.heap.get? a=some o->g2.get? a=some o:=λa o ha t=>(sb.2 a (λz=>ha (by simp[z]))).trans (gk a o (λz=>ha (by simp[z])) (λz=>ha (by simp[z])) t);obtain⟨nT,J2⟩:=J.pair (tk:=tk+1) (x:=.int k) (u:=.int k tk) kk hf ⟨tk,rfl⟩ rxu ((sb.2 _ (T1 elt)).trans gT);refine⟨.ref s.heap.objs.size,_,J2,rfl,⟨_,x,rfl,nT,rfl,λxs' q'=>by rw[J.sq_inj q' sx];exact hx⟩,⟨⟨_,by simpa using gE2⟩,gS.1.move λo t=>(sb.2 I (Z3 eI)).trans t⟩,λa ha=>?_⟩;have t:=(hf a ha).1;have lt:a≠s.heap.objs.size:=by
   simp only[C1,D9,X7]at ha;rcases ha with z|z<;>subst z
   ·exact F8 elt
   ·obtain⟨o,t,_⟩:=hI.there;exact F8 (D6 t)
  rw[Au lt];exact t
 done:=by
  intro X hP hw hK hc k pins s σ H E J hf st hg;subst hP hw hK;obtain⟨⟨old,he⟩,hI⟩:=st;obtain⟨xs,sx,hend⟩:=hg;obtain⟨us,ru,ou⟩:=J.sq sx;have lu:=ru.length;have ek:k=us.toArray.size:=by simp;lia
  refine wpAny_pyNext_enum_endD (Qb (b:=b) (A:=X.A.in1) (J.ok.hd hc) I l lI us.toArray) he ⟨ek▸hI,ou⟩ λg gk=>⟨rfl,?_⟩
  exact J.turnedL (tk:=s.toks) (ch:=[e,I]) (λa o ha t=>gk a o (λz=>ha (by simp[z])) t) hf
 self:=λA i s Q E st h=>by
  obtain⟨⟨old,he⟩,_⟩:=st;exact wpAny_pyIter_enum he h
section
variable{X:Cx}{es:List Expr}{n:Nat}{tpos p pos:Pos}{e1 e2:Expr}{t:TA}
def iZip(b c:Bool)(K:PySem.W.Frag)(t:TA):TI:=fun σ H R=>t σ H λvs H1=>∃(l m:Addr),vs=[.ref l,.ref m]/\(∃xs,SqX K b H1 l xs)/\(∃ys,SqX K c H1 m ys)/\R (Itz K b c l m) H1
theorem DH.lt{b:Bool}{h:Heap}{l:Addr}{vs:Array Value}(x:DH b h l vs):l<h.objs.size:=by
 cases b with
 |true=>obtain⟨o,e,_⟩:=x;exact D6 e
 |false=>obtain⟨o,e,_⟩:=x;exact D6 e
theorem apart5(n l m:Nat)(hl:l<n)(hm:m<n):VG (n+4) (n+2) (n+3) n (n+1) l m:=by
 refine⟨(show([n+4,n+2,n+3,n,n+1]:List Nat).Nodup from ?_),(show l∉([n+4,n+3,n,n+1]:List Nat)from ?_),(show m∉([n+4,n+3,n,n+1]:List Nat)from ?_)⟩
 ·simp only[M4,C1,D9,X7,A2e,O8,and_true,A1g];lia
 ·simp only[C1,D9,X7,A2e];lia
 ·simp only[C1,D9,X7,A2e];lia
theorem Yp(b c:Bool)(hg:Gl X "zip")(hm:X.mg "zip" = none)(ha:PA X [e1,e2] t)(hs:starEach [e1,e2] X.env=[(false,eval e1 X.env),(false,eval e2 X.env)]:=by rfl)(hs2:starEach [e2] X.env=[(false,eval e2 X.env)]:=by rfl) :
  PI X (.Tuple es n tpos) (.Call (.Name "zip" p) [e1,e2] [] pos) (iZip b c X.K t):=by
 intro pins s σ H R I h;refine Call_ (Jr I hg hm PyProof.Rows.boot_zip (K6 (thn (ha pos pins s σ H _ I h) λus s1 ⟨vs,H1,I1,r1,q1⟩=>?_) (by rw[hs,hs2]) (by rw[hs2];rfl)));obtain⟨l,m,rfl,⟨xs,sx⟩,⟨ys,sy⟩,q⟩:=q1;obtain⟨u,v,rfl,ru,rv⟩:=r1.two;cases(show u=Value.ref l from ru);cases(show v=Value.ref m from rv);obtain⟨ul,_,ol⟩:=I1.sq sx;obtain⟨um,_,om⟩:=I1.sq sy;refine callType_new F.called_zip A4 (F.typeCall_zip_2 _ _) (F.newCall_zip_2 _ _) (λobj=>F.args_object_init_3 obj _ _) F.entry_zip_new (Wf (b:=b) (c:=c) l m ul.toArray um.toArray) ⟨ol,om,λg gZ gU gO gi gj gk=>?_⟩;refine⟨⟨_,gZ,rfl⟩,wpAny_pyIter_zip (s:={s1 with heap:=g}) gZ ?_⟩;have ll:=ol.lt;have lm:=om.lt;have hA:=apart5 s1.heap.objs.size l m ll lm;refine⟨s1.heap.objs.size+4,_,_,_,H1,rfl,I1.kept (t':=s1.toks) gk,WL hA,⟨gZ,gU,⟨_,_,gO⟩,gi,gj⟩,λa ha=>?_,q⟩;have le:s1.heap.objs.size<=a:=by
  simp only[C1,D9,X7]at ha;rcases ha with t|t|t|t|t<;>rw[t]<;>first|exact C0 _|exact U3 _ _
 exact I1.fpOk le (I1.hok.fresh le)
def iEnum(b:Bool)(K:PySem.W.Frag)(t:TA):TI:=fun σ H R=>t σ H λvs H1=>∃(l:Addr),vs=[.ref l]/\(∃xs,SqX K b H1 l xs)/\R (Ite K b l) H1
theorem NF(b:Bool)(hg:Gl X "enumerate")(hm:X.mg "enumerate" = none)(ha:PA X [e1] t)(hs:starEach [e1] X.env=[(false,eval e1 X.env)]:=by rfl) :
  PI X (.Tuple es n tpos) (.Call (.Name "enumerate" p) [e1] [] pos) (iEnum b X.K t):=by
 intro pins s σ H R I h;refine Call_ (Jr I hg hm PyProof.Rows.boot_enumerate (K6 (thn (ha pos pins s σ H _ I h) λus s1 ⟨vs,H1,I1,r1,q1⟩=>?_) hs rfl));obtain⟨l,rfl,⟨xs,sx⟩,q⟩:=q1;obtain⟨u,rfl,ru⟩:=r1.one;cases(show u=Value.ref l from ru);obtain⟨ul,_,ol⟩:=I1.sq sx;refine callType_new F.called_enumerate A4 (F.typeCall_enumerate_1 _) (F.newCall_enumerate_1 _) (λobj=>F.args_object_init_2 obj _) F.entry_enumerate_new (TV (b:=b) l ul.toArray) ⟨ol,λg gE gi gk=>?_⟩;refine⟨⟨_,gE,rfl⟩,wpAny_pyIter_enum (s:={s1 with heap:=g}) gE ?_⟩;have ll:=ol.lt;refine⟨s1.heap.objs.size+1,_,_,_,H1,rfl,I1.kept (t':=s1.toks) gk,VJ (e:=s1.heap.objs.size+1) (I:=s1.heap.objs.size) (l:=l) (Nat.succ_ne_self _) (F8 (W5 ll)) (F8 ll),⟨⟨_,gE⟩,gi⟩,λa ha=>?_,q⟩;have le:s1.heap.objs.size<=a:=by
  simp only[C1,D9,X7]at ha;rcases ha with t|t<;>rw[t]<;>first|exact C0 _|exact U3 _ _
 exact I1.fpOk le (I1.hok.fresh le)
end
section
variable{K:PySem.W.Frag}{b c:Bool}{l m:Addr}{xs ys:List V}{σ:St}{H:Hp}
theorem PV{K:PySem.W.Frag}{i j:Nat}{T:Addr}{x y:V}{σ:St}{H:Hp}{Q:St->Hp->Prop}(h:H T=some (.tup [x,y]))(q:Q ((σ.set i (some x)).set j (some y)) H):gTup K 2 (SN (OO i) (SN (OO j) gNil)) (.ref T) σ H Q :=
 ⟨T,_,rfl,SqT.of h,rfl,x,_,rfl,y,_,rfl,rfl,q⟩
theorem Ma{g:TG}{tb:TS}{D:Ml}(Pv:Nat->St->Hp->Prop)(h0:Pv 0 σ H)(hl:∀i σ H,i<=xs.length->Pv i σ H->SqX K b H l xs)
  (hs:∀i x σ H T,xs[i]?=some x->Pv i σ H->H T=none->g (.ref T) σ (upd H T (.tup [.int i,x])) fun σ2 H2=>tb {D with nx:=Pv (i+1),ct:=Pv (i+1),bk:=D.nx} σ2 H2) (hd:∀σ H,Pv xs.length σ H->D.nx σ H) :
  ∃W:Nat->Nat->St->Hp->Prop,(∃m,W 0 m σ H)/\∀i m σ H,W i m σ H ->
   ((Ite K b l).stop i H/\D.nx σ H)\/((Ite K b l).go i H/\∃N:St->Hp->Prop,(∀σ' H',N σ' H'->∃m',m'<m/\W (i+1) m' σ' H')/\∀x H',(Ite K b l).yld i H x H'->g x σ H' fun σ2 H2=>tb {D with nx:=N,ct:=N,bk:=D.nx} σ2 H2):=by
 refine⟨λi m σ H=>m=xs.length-i/\i<=xs.length/\Pv i σ H,⟨xs.length,by simp,J8 _,h0⟩,?_⟩;rintro i m σ H ⟨rfl,hi,p⟩;have q:=hl i σ H hi p;by_cases hlt:i<xs.length
 ·refine .inr ⟨⟨xs,xs[i],q,by simp[hlt]⟩,Pv (i+1),fun σ' H' p'=>⟨xs.length-(i+1),by lia,rfl,hlt,p'⟩,λx H' y=>?_⟩;obtain⟨T,z,rfl,nT,rfl,hz⟩:=y;exact hs i z σ _ T (hz xs q) p nT
 ·have e:i=xs.length:=by lia
  subst e;exact .inl ⟨⟨xs,q,rfl⟩,hd σ H p⟩
variable{k:Nat}{cs:List Nat}{g:TG}{tc:TT}{te:TE}{fin:List V->Hp->Prop}
theorem Vq(Pv:Nat->List V->Hp->Prop)(h0:Pv 0 [] H)(hl:∀i acc H,Pv i acc H->SqX K b H l xs/\SqX K c H m ys)
  (hs:∀i x y acc H T,xs[i]?=some x->ys[i]?=some y->Pv i acc H->H T=none->Bt k cs g tc te σ (.ref T) acc (upd H T (.tup [x,y])) (Pv (i+1))) (hd:∀acc H,Pv (min xs.length ys.length) acc H->fin acc H):Gc k cs g tc te (Itz K b c l m) σ H fin:=by
 refine⟨λi n acc H=>n=min xs.length ys.length-i/\i<=min xs.length ys.length/\Pv i acc H,⟨min xs.length ys.length,by simp,J8 _,h0⟩,?_⟩;rintro i n acc H ⟨rfl,hi,p⟩;obtain⟨qx,qy⟩:=hl i acc H p;by_cases hlt:i<min xs.length ys.length
 ·have lx:i<xs.length:=by lia
  have ly:i<ys.length:=by lia
  refine .inr ⟨⟨xs,ys,xs[i],ys[i],qx,qy,by simp[lx],by simp[ly]⟩,Pv (i+1),λacc' H' p'=>⟨min xs.length ys.length-(i+1),by lia,rfl,hlt,p'⟩,λx H' y=>?_⟩;obtain⟨T,z,z',rfl,nT,rfl,hz,hz'⟩:=y;exact hs i z z' acc _ T (hz xs qx) (hz' ys qy) p nT
 ·have e:i=min xs.length ys.length:=by lia
  subst e;exact .inl ⟨⟨xs,ys,qx,qy,by lia⟩,hd acc H p⟩
theorem blk_str{x:Str}(Pv:Nat->List V->Hp->Prop)(h0:Pv 0 [] H)(hs:∀i ch acc H,x.cps.toList[i]?=some ch->Pv i acc H->Bt k cs g tc te σ (.str ⟨#[ch]⟩) acc H (Pv (i+1)))(hd:∀acc H,Pv x.cps.toList.length acc H->fin acc H):Gc k cs g tc te (Its x) σ H fin:=by
 have e0:x.cps.toList.length=x.cps.size:=by simp
 refine⟨λi m acc H=>m=x.cps.size-i/\i<=x.cps.size/\Pv i acc H,⟨x.cps.size,by simp,J8 _,h0⟩,?_⟩;rintro i m acc H ⟨rfl,hi,p⟩;by_cases hlt:i<x.cps.size
 ·refine .inr ⟨hlt,Pv (i+1),λacc' H' p'=>⟨x.cps.size-(i+1),by lia,rfl,hlt,p'⟩,λv H' y=>?_⟩;obtain⟨e,ch,hch,rfl⟩:=y;subst e;exact hs i ch acc _ (by simpa using hch) p
 ·have e:i=x.cps.size:=by lia
  subst e;exact .inl ⟨rfl,hd acc H (by rw[e0];exact p)⟩
end
theorem PE.or{X:Cx}{e:Expr}{t u:TE}(h:PE X e t)(h':PE X e u):PE X e (fun σ H Q=>t σ H Q\/u σ H Q):=by
 intro pins s σ H Q I q;rcases q with q|q
 ·exact h pins s σ H Q I q
 ·exact h' pins s σ H Q I q
theorem rm{a b:Nat}{A:Around}(h:CN b A)(hle:a<=b:=by first|decide|lia):CN a A:=h.mono hle
structure Cal(P:Program)(w:World)(K:PySem.W.Frag)(mg:Str->Option Value)(base:Heap)(CX:CXT)(k:Nat)(x:Str)(ps:List Str)(sp:Sp):Prop where
 ex:∃(f:Addr)(fd:FuncData),AI P w K mg base CX k f fd ps sp/\mg x=some (.ref f)/\keepIn K (.ref f)=true/\Cs K fd ps []
structure BO(P:Program)(w:World)(K:PySem.W.Frag)(mg:Str->Option Value)(base:Heap)(CX:CXT)(k:Nat)(C:Addr)(m:Str)(ps:List Str)(sp:Sp):Prop where
 ex:∃(f:Addr)(fd:FuncData),AI P w K mg base CX k f fd ps sp/\Pt K C m f/\Cs K fd ps []
 cl:Cls K C
structure Rz(P:Program)(w:World)(K:PySem.W.Frag)(mg:Str->Option Value)(base:Heap)(CX:CXT)(k:Nat)(x:Str)(C:Addr)(ps:List Str)(sp:Sp):Prop where
 ex:∃(f:Addr)(fd:FuncData),AI P w K mg base CX k f fd ps sp/\Mk K C f/\mg x=some (.ref C)/\Cs K fd ps []
section
variable{X:Cx}{CX:CXT}{k:Nat}{C:Addr}{ps:List Str}{sp:Sp}{E:XK}{x m:Str}{p pos apos:Pos}{e o:Expr}{es:List Expr}{ta:TE}{t:TA}
theorem Ar(c:Cal X.prog X.w X.K X.mg X.base CX k x ps sp)(hr:CN k X.A)(hg:Gl X x)(hx:FP CX X E)(ha:PA X (e::es) t)(hdb:(x==("__debug__" : Str))=false:=by decide)
  (he:starEach (e::es) X.env=(false,eval e X.env)::starEach es X.env:=by rfl) (hpl:(backTo pos (starEach es X.env)).any (·.1)=false:=by rfl):PE X (.Call (.Name x p) (e::es) [] pos) (tCall sp [] E t):=by
 obtain⟨f,fd,F,hm,hk,hb⟩:=c.ex;exact pe_call F hr hg hm hk hb .nil hx ha hdb he hpl
theorem AF{pl:Sem Bool}(he:PE X o ta)(c:BO X.prog X.w X.K X.mg X.base CX k C m ps sp)(hr:CN k X.A)(hx:FP CX X E)(ha:PA X (e::es) t)
  (hst:starEach (e::es) X.env=(false,eval e X.env)::starEach es X.env:=by rfl) (hpl:(backTo pos (starEach es X.env)).any (·.1)=false:=by rfl)
  (ht:eval (.Call (.Attribute o m apos) (e::es) [] pos) X.env=(do
   let ov <-eval o X.env;standAt apos.atName;let (f,first) <-holding [ov] (getMethod ov m pl);callWith pos f first (backTo pos (starEach (e::es) X.env)) (backToKw pos (keywordEach [] X.env))):=by rfl):PE X (.Call (.Attribute o m apos) (e::es) [] pos) (Uz C m sp [] E ta t):=by
 obtain⟨f,fd,F,hm,hb⟩:=c.ex;exact pe_meth he c.cl hm F hr hb .nil hx ha hst hpl ht
theorem LO(c:Rz X.prog X.w X.K X.mg X.base CX k x C ps sp)(hr:CN (k+1) X.A)(hg:Gl X x)(hx:FP CX X E)(ha:PA X (e::es) t)(hdb:(x==("__debug__" : Str))=false:=by decide)
  (he:starEach (e::es) X.env=(false,eval e X.env)::starEach es X.env:=by rfl) (hpl:(backTo pos (starEach es X.env)).any (·.1)=false:=by rfl):PE X (.Call (.Name x p) (e::es) [] pos) (UA C sp [] E t):=by
 obtain⟨f,fd,F,M,hm,hb⟩:=c.ex;exact pe_make M F hr hg hm hb .nil hx ha hdb he hpl
theorem Yu(c:Rz X.prog X.w X.K X.mg X.base CX k x C ps sp)(hr:CN (k+1) X.A)(hg:Gl X x)(hx:FP CX X E)(hdb:(x==("__debug__" : Str))=false:=by decide):PE X (.Call (.Name x p) [] [] pos) (UA C sp [] E OZ):=by
 obtain⟨f,fd,F,M,hm,hb⟩:=c.ex;exact Ys M F hr hg hm hb .nil hx hdb
theorem BY{i:Int}(hg:Gl X x)(hm:∃tk,X.mg x=some (.int i tk))(hd:(x==("__debug__" : Str))=false:=by decide):PE X (.Name x pos) (tC (.int i)):=by
 obtain⟨tk,hm⟩:=hm;exact QL hg hm ⟨tk,rfl⟩ hd
theorem NG{z:Str}(hg:Gl X x)(hm:∃tk,X.mg x=some (.str z tk))(hd:(x==("__debug__" : Str))=false:=by decide):PE X (.Name x pos) (tC (.str z)):=by
 obtain⟨tk,hm⟩:=hm;exact QL hg hm ⟨tk,rfl⟩ hd
theorem pe_gref{a:Addr}(hg:Gl X x)(hm:X.mg x=some (.ref a))(hd:(x==("__debug__" : Str))=false:=by decide):PE X (.Name x pos) (tC (.ref a)):=QL hg hm rfl hd
end
def cOk(So:Scope)(No:List Str)(scope:Scope)(N:List Str)(k:Nat)(cs:List Nat):Bool :=
 scope.names.all (λy=>y.2 != .cell) && (scope.kind==.function && (scope.names.all (λy=>y.2 != .local || scope.names.lookup y.1==some .local) && (scope.names.all (λy=>y.2 != .free || (So.names.lookup y.1==some .cell || So.names.lookup y.1==some .free)) &&
  (N.length==k+cs.length && (List.range cs.length).all λj=>match N[k+j]?,No[cs.getD j 0]? with
   |some x,some y=>x==y && scope.names.lookup x==some .free
   |_,_=>false))))
theorem Bw.of{X:Cx}{So:Scope}{No:List Str}{scope:Scope}{N:List Str}{k:Nat}{cs:List Nat}(hS:X.env.scope=So)(hN:X.N=No)(h:cOk So No scope N k cs=true):Bw X scope N k cs:=by
 subst hS hN;unfold cOk at h;simp only[Q0,S5,bne_iff_ne,ne_eq,Bool.or_eq_true,beq_iff_eq,L7]at h;obtain⟨h1,h2,h3,h4,h5,h6⟩:=h;refine⟨h1,h2,λy hy e=>?_,λy hy e=>?_,h5,λj hj=>?_⟩
 ·rcases h3 y hy with z|z
  ·exact absurd e z
  ·exact z
 ·rcases h4 y hy with z|z
  ·exact absurd e z
  ·exact z
 ·have z:=h6 j hj;split at z
  ·rename_i x y e1 e2;simp only[Q0,beq_iff_eq]at z;obtain⟨z1,z2⟩:=z;subst z1;exact⟨x,e1,e2,z2⟩
  ·cases z
theorem Gb{σ:St}{H:Hp}{A B:Hp->Prop}(h:A H):tYes σ H λb H3=>if b=true then A H3 else B H3:=by
 show if true=true then A H else B H;exact Ce h
theorem NS{tb:TE}{σ:St}{H:Hp}{Q:VK}{b1 b2:Bool}(h2:b1=true->∀Q':VK,Q' (.bl b2) H->tb σ H Q')(q:Q (.bl (b1 && b2)) H):∃c,V.bl b1=.bl c/\if c=true then tb σ H Q else Q (.bl false) H:=by
 cases b1 with
 |true=>exact⟨true,rfl,Ce (h2 rfl Q q)⟩
 |false=>exact⟨false,rfl,Bo q⟩
theorem WM{u:TT}{σ:St}{H:Hp}{Q:Bool->Hp->Prop}{b1 b2:Bool}(h2:b1=true->∀Q':Bool->Hp->Prop,Q' b2 H->u σ H Q')(q:Q (b1 && b2) H):if b1=true then u σ H Q else Q false H:=by
 cases b1 with
 |true=>exact Ce (h2 rfl Q q)
 |false=>exact Bo q
section
variable{X:Cx}{scope:Scope}{N:List Str}{s:Shared}{H:Hp}{ex:List Addr}{x y:Str}{px py pos:Pos}{k:Nat}
theorem Bc{i:Nat}(hN:N.Nodup)(hi:N[i]?=some x)(hl:(relabel scope X.env).names.lookup x=some .local):PG (cxC X scope N s H ex) (.Name x pos) (OO i):=Bv (X:=cxC X scope N s H ex) hN hi (.inl hl) (.inr hl)
theorem Sh{i j:Nat}(hc:X.calm=true)(hN:N.Nodup)(hi:N[i]?=some x)(hj:N[j]?=some y)(hl:(relabel scope X.env).names.lookup x=some .local)(hm:(relabel scope X.env).names.lookup y=some .local) :
  PG (cxC X scope N s H ex) (.Tuple [.Name x px,.Name y py] k pos) (gTup X.K 2 (SN (OO i) (SN (OO j) gNil))) :=
 Oq (X:=cxC X scope N s H ex) hc (Dl (Bc hN hi hl) (Dl (Bc hN hj hm) LK))
end
theorem AN.strs:∀(l:List Str)(k:Nat),AN (l.map V.str) (strsFrom k l)
 |[],_=>.nil
 |x::r,k=>.cons ⟨k,rfl⟩ (AN.strs r (k+1))
section
variable{X:Cx}
theorem SA:MtR X "str.split" (λx xs H Q=>∃a b,x=.str a/\xs=[.str b]/\(b.length==0)=false/\a.length<=100000/\∀p,H p=none->Q (.ref p) (upd H p (.lst ((Txt.split a b).map V.str)))):=by
 intro pins s σ H x xs v us Q I rx r h;obtain⟨a,b,rfl,rfl,hb,ha,q⟩:=h;obtain⟨t,rfl⟩:=rx;obtain⟨u,rfl,hu⟩:=r.one;obtain⟨tb,rfl⟩:=hu;have big:a.length+2<=sizeLine:=C7 (Nat.add_le_add_right ha 2) A4;have fin:∀(its:List Value)(tk:Nat),AN ((Txt.split a b).map V.str) its->EP X pins σ Q (.ref s.heap.objs.size) {s with heap:=s.heap.push {cls:=.type "list",data:=.seq its.toArray},toks:=tk}:=λits tk hv =>
  ⟨.ref _,_,I.lnew (t':=tk) hv (by rw[B6];exact C7 (split_le a b) big),rfl,q _ I.fresh⟩
 by_cases h1:(decide (a.length<b.length) || decide (Builtin.Str.strKind a<Builtin.Str.strKind b))=true
 ·refine A2a F.slot_str_split (A3h _ _ _) F.entry_str_split (A5a _ _) (meets_str_split_cannot_occur a b t tb h1) ?_;refine fin _ s.toks ?_;unfold Txt.split;rw[Y7 h1];exact .cons ⟨t,rfl⟩ .nil
 ·have h1':=W8.mpr h1;by_cases h2:(Builtin.Str.occurrences a b 0 a.length (a.length+1)).isEmpty=true
  ·refine A2a F.slot_str_split (A3h _ _ _) F.entry_str_split (A5a _ _) (meets_str_split_not_found a b t tb h1' hb h2) ?_;refine fin _ s.toks ?_;unfold Txt.split;rw[Y4 h1,Y7 h2];exact .cons ⟨t,rfl⟩ .nil
  ·have e:Txt.split a b=Builtin.Str.partsBetween a (Builtin.Str.occurrences a b 0 a.length (a.length+1)) b.length:=by
    unfold Txt.split;rw[Y4 h1,Y4 h2]
   refine A2a F.slot_str_split (A3h _ _ _) F.entry_str_split (A5a _ _) (meets_str_split_sep a b t tb h1' hb (W8.mpr h2) A0 (by rw[<-e];exact C7 (split_le a b) big)) ?_;refine fin _ _ ?_;rw[e];exact AN.strs _ _
theorem Rb:MtR X "str.partition" (λx xs H Q=>∃a b,x=.str a/\xs=[.str b]/\(b.length==0)=false/\a.length<=100000/\∀p,H p=none->Q (.ref p) (upd H p (.tup [.str (Txt.partition a b).1,.str (Txt.partition a b).2.1,.str (Txt.partition a b).2.2]))):=by
 intro pins s σ H x xs v us Q I rx r h;obtain⟨a,b,rfl,rfl,hb,ha,q⟩:=h;obtain⟨t,rfl⟩:=rx;obtain⟨u,rfl,hu⟩:=r.one;obtain⟨tb,rfl⟩:=hu;have fin:∀(its:List Value)(tk:Nat),AN [.str (Txt.partition a b).1,.str (Txt.partition a b).2.1,.str (Txt.partition a b).2.2] its->EP X pins σ Q (.ref s.heap.objs.size) {s with heap:=s.heap.push {cls:=.type "tuple",data:=.seq its.toArray},toks:=tk}:=λits tk hv =>
  ⟨.ref _,_,I.laid (t':=tk) (o:=.tup [.str (Txt.partition a b).1,.str (Txt.partition a b).2.1,.str (Txt.partition a b).2.2]) (λ_ _ e=>B9 _ e) (C0 _) ⟨by show 3<=sizeLine;decide,its,hv,_,D3 _ rfl,rfl,_,rfl⟩,rfl,q _ I.fresh⟩
 refine A2a F.slot_str_partition (A3h _ _ _) F.entry_str_partition (F.args_str_partition_2 _ _) (meets_str_partition a b t tb hb (C7 ha A4)) ?_;show EP X pins σ Q _ _;cases e:Builtin.Str.occurrences a b 0 a.length 1 with
 |nil =>
  refine fin _ _ ?_;unfold Txt.partition;rw[e];exact .cons ⟨_,rfl⟩ (.cons ⟨_,rfl⟩ (.cons ⟨_,rfl⟩ .nil))
 |cons i l =>
  refine fin _ _ ?_;unfold Txt.partition;rw[e];exact .cons ⟨_,rfl⟩ (.cons ⟨_,rfl⟩ (.cons ⟨_,rfl⟩ .nil))
theorem AN.tstrs:∀{l:List Str}{its:List Value},AN (l.map V.str) its->∃ts:List (Str×Tok),its=strValues ts/\ts.map (·.1)=l
 |[],_,.nil=>⟨[],rfl,rfl⟩
 |x::r,_,.cons ⟨t,e⟩ rr=>by
  obtain⟨ts,e1,e2⟩:=AN.tstrs rr;subst e e1;exact⟨(x,t)::ts,rfl,by rw[F5,e2]⟩
theorem NI:MtR X "str.join" (λx xs H Q=>∃(sep:Str)(p:Addr)(l:List Str),x=.str sep/\xs=[.ref p]/\SqL X.K H p (l.map V.str)/\JoinOk sep l=true/\Q (.str (Str.join sep l)) H):=by
 intro pins s σ H x xs v us Q I rx r h;obtain⟨sep,p,l,rfl,rfl,hl,hok,q⟩:=h;obtain⟨t,rfl⟩:=rx;obtain⟨u,rfl,hu⟩:=r.one;cases(show u=Value.ref p from hu);obtain⟨its,rv,pl,_⟩:=I.list hl;obtain⟨ts,rfl,e⟩:=AN.tstrs rv;refine SC.join (texts:=l) pl.isList e hok λt' k=>⟨.str _,H,I.tok k,⟨t',rfl⟩,?_⟩
 have:Txt.join sep l=Str.join sep l:=StrLaws.glued_eq_join sep l;rw[this];exact q
theorem ST(n:Int):∀{ns:List Int}{its:List Value},AN (ns.map V.int) its->its.countP (λy=>match y with|.int i _=>i==n|_=>false)=ns.countP (· == n)
 |[],_,.nil=>rfl
 |x::r,_,.cons ⟨t,e⟩ rr=>by
  subst e;rw[U7,U7,ST n rr]
theorem WJ{ns:List Int}{its:List Value}(h:AN (ns.map V.int) its){y:Value}(hy:y∈its):∃i t,y=.int i t:=by
 induction ns generalizing its with
 |nil=>cases h;simp at hy
 |cons n r ih =>
  cases h with
  |cons q qq =>
   obtain⟨t,e⟩:=q;rcases C1.mp hy with z|z
   ·exact⟨n,t,z.trans e⟩
   ·exact ih qq z
theorem YR:MtR X "list.count" (λx xs H Q=>∃(l:Addr)(ns:List Int)(n:Int),x=.ref l/\xs=[.int n]/\H l=some (.lst (ns.map V.int))/\Q (.int (ns.countP (· == n):Nat)) H):=by
 intro pins s σ H x xs v us Q I rx r h;obtain⟨l,ns,n,rfl,rfl,hH,q⟩:=h;cases rx;obtain⟨u,rfl,hu⟩:=r.one;obtain⟨tk,rfl⟩:=hu;obtain⟨z,its,k,rv,hl,e⟩:=I.lstM hH;refine A2a F.slot_list_count ⟨_,e,rfl⟩ F.entry_list_count (F.args_list_count_2 _ _) (MeetsSeq.list_count l its.toArray k (.int n tk) (λy=>match y with|.int i _=>i==n|_=>false) (λy hy=>?_)) ⟨e,?_⟩
 ·obtain⟨i,t,rfl⟩:=WJ rv (by simpa using hy);exact PySem.MeetsSeq.EqGives.int i n t tk
 ·refine⟨.int _,H,I.tok _,⟨_,rfl⟩,?_⟩;have:(List.countP (λy=>match y with|Value.int i _=>i==n|_=>false) its.toArray.toList)=ns.countP (· == n):=ST n (by simpa using rv);rw[this];exact q
end
end L2
namespace L2
open PySem
section
variable{X:Cx}{es es':List Expr}{t t':TA}{pos:Pos}
theorem AO{i:Int}{j}(hr:PA X es t):PA X (.Constant (.int i) j pos::es) (CD (tC (.int i)) t):=Aa Ae hr
theorem Ou{z:Str}{j}(hr:PA X es t):PA X (.Constant (.str z) j pos::es) (CD (tC (.str z)) t):=Aa EM hr
theorem Tv(h:PA X es' t')(hr:PA X es t):PA X (.List es' pos::es) (CD (tLst t') t):=Aa (Cm h) hr
theorem BB{x1}(h:PA X es' t')(hr:PA X es t):PA X (.Tuple es' x1 pos::es) (CD (WN t') t):=Aa (DW h) hr
theorem Bp{op:Operator}{r:R2}{a b:Expr}{ta tb:TE}(ho:OpR X (binaryOp op) r)(ha:PE X a ta)(hb:PE X b tb)(hr:PA X es t):PA X (.BinOp a op b pos::es) (CD (tOp r ta tb) t):=Aa (AA ho ha hb) hr
theorem JD{K:PySem.W.Frag}(h:X.K=K):IxR X (JK K):=h▸An
theorem Zl{K:PySem.W.Frag}(h:X.K=K):IxR X (rIxL K):=h▸Ax
end
theorem AZ{P:Prop}(h:∀G:Prop,(P->G)->G):P:=h P id
theorem xq1{α:Sort _}{a:α}{P Q:α->Prop}(h:P a)(k:Q a):∃x,P x/\Q x:=⟨a,h,k⟩
theorem xq2{α β:Sort _}{a:α}{b:β}{P Q R:α->β->Prop}(h:P a b)(h':Q a b)(k:R a b):∃x y,P x y/\Q x y/\R x y:=⟨a,b,h,h',k⟩
theorem xq3{α β γ:Sort _}{a:α}{b:β}{c:γ}{P Q R S:α->β->γ->Prop}(h:P a b c)(h':Q a b c)(h'':R a b c)(k:S a b c):∃x y z,P x y z/\Q x y z/\R x y z/\S x y z:=⟨a,b,c,h,h',h'',k⟩
theorem xq4{α β γ δ:Sort _}{a:α}{b:β}{c:γ}{d:δ}{P Q R S T:α->β->γ->δ->Prop}(h:P a b c d)(h':Q a b c d)(h'':R a b c d)(h3:S a b c d)(k:T a b c d):∃x y z w,P x y z w/\Q x y z w/\R x y z w/\S x y z w/\T x y z w:=⟨a,b,c,d,h,h',h'',h3,k⟩
theorem xq5{K:PySem.W.Frag}{f:Str}{H:Hp}{a C dx:Addr}{fs:List (Str×V)}{v:V}{Q:V->Prop}(h:H a=some (.ins C dx fs))(h2:Cls K C)(h3:BD K C f)(h4:fs.lookup f=some v)(k:Q v):∃b C dx fs w,V.ref a=.ref b/\H b=some (.ins C dx fs)/\Cls K C/\BD K C f/\fs.lookup f=some w/\Q w:=⟨a,C,dx,fs,v,rfl,h,h2,h3,h4,k⟩
theorem xw2{α β:Sort _}{a:α}{b:β}{P:α->Prop}{Q:α->β->Prop}{K:α->β->Prop}(h1:P a)(h2:Q a b)(k:K a b):∃x0,P x0/\∃x1,Q x0 x1/\K x0 x1:=⟨a,h1,b,h2,k⟩
theorem xw3{α β γ:Sort _}{a:α}{b:β}{c:γ}{P:α->Prop}{Q:α->β->Prop}{R:α->β->γ->Prop}{K:α->β->γ->Prop}(h1:P a)(h2:Q a b)(h3:R a b c)(k:K a b c):∃x0,P x0/\∃x1,Q x0 x1/\∃x2,R x0 x1 x2/\K x0 x1 x2:=⟨a,h1,b,h2,c,h3,k⟩
theorem xwb{α β γ:Sort _}{a:α}{b:β}{c:γ}{P:α->Prop}{Q:α->β->γ->Prop}{R:α->β->γ->Prop}{K:α->β->γ->Prop}(h1:P a)(h2:Q a b c)(h3:R a b c)(k:K a b c):∃x0,P x0/\∃x1 x2,Q x0 x1 x2/\R x0 x1 x2/\K x0 x1 x2:=⟨a,h1,b,c,h2,h3,k⟩
theorem xwm{α β γ δ:Sort _}{a:α}{b:β}{c:γ}{d:δ}{P:α->Prop}{Q:α->β->γ->δ->Prop}{R:α->β->γ->δ->Prop}{S:α->β->γ->δ->Prop}{K:α->β->γ->δ->Prop}(h1:P a)(h2:Q a b c d)(h3:R a b c d)(h4:S a b c d)(k:K a b c d):∃x0,P x0/\∃x1 x2 x3,Q x0 x1 x2 x3/\R x0 x1 x2 x3/\S x0 x1 x2 x3/\K x0 x1 x2 x3:=⟨a,h1,b,c,d,h2,h3,h4,k⟩
theorem xwi{α β γ δ ε:Sort _}{a:α}{b:β}{c:γ}{d:δ}{e:ε}{P:α->Prop}{Q:α->β->γ->δ->ε->Prop}{R:α->β->γ->δ->ε->Prop}{S:α->β->γ->δ->ε->Prop}{T:α->β->γ->δ->ε->Prop}{K:α->β->γ->δ->ε->Prop}(h1:P a)(h2:Q a b c d e)(h3:R a b c d e)(h4:S a b c d e)(h5:T a b c d e)(k:K a b c d e):∃x0,P x0/\∃x1 x2 x3 x4,Q x0 x1 x2 x3 x4/\R x0 x1 x2 x3 x4/\S x0 x1 x2 x3 x4/\T x0 x1 x2 x3 x4/\K x0 x1 x2 x3 x4:=⟨a,h1,b,c,d,e,h2,h3,h4,h5,k⟩
theorem xwf{α β γ δ ε ζ:Sort _}{a:α}{b:β}{c:γ}{d:δ}{e:ε}{f:ζ}{P:α->Prop}{Q:α->β->γ->δ->ε->ζ->Prop}{R:α->β->γ->δ->ε->ζ->Prop}{S:α->β->γ->δ->ε->ζ->Prop}{T:α->β->γ->δ->ε->ζ->Prop}{U:α->β->γ->δ->ε->ζ->Prop}{K:α->β->γ->δ->ε->ζ->Prop}(h1:P a)(h2:Q a b c d e f)(h3:R a b c d e f)(h4:S a b c d e f)(h5:T a b c d e f)(h6:U a b c d e f)(k:K a b c d e f):∃x0,P x0/\∃x1 x2 x3 x4 x5,Q x0 x1 x2 x3 x4 x5/\R x0 x1 x2 x3 x4 x5/\S x0 x1 x2 x3 x4 x5/\T x0 x1 x2 x3 x4 x5/\U x0 x1 x2 x3 x4 x5/\K x0 x1 x2 x3 x4 x5:=⟨a,h1,b,c,d,e,f,h2,h3,h4,h5,h6,k⟩
theorem xwn{α β γ δ ε:Sort _}{a:α}{b:β}{c:γ}{d:δ}{e:ε}{P:α->Prop}{Q:α->β->γ->δ->Prop}{R:α->β->γ->δ->Prop}{S:α->β->γ->δ->Prop}{T:α->β->γ->δ->ε->Prop}{K:α->β->γ->δ->ε->Prop}(h1:P a)(h2:Q a b c d)(h3:R a b c d)(h4:S a b c d)(h5:T a b c d e)(k:K a b c d e):∃x0,P x0/\∃x1 x2 x3,Q x0 x1 x2 x3/\R x0 x1 x2 x3/\S x0 x1 x2 x3/\∃x4,T x0 x1 x2 x3 x4/\K x0 x1 x2 x3 x4:=⟨a,h1,b,c,d,h2,h3,h4,e,h5,k⟩
theorem xwj{α β γ δ ε ζ:Sort _}{a:α}{b:β}{c:γ}{d:δ}{e:ε}{f:ζ}{P:α->Prop}{Q:α->β->Prop}{R:α->β->γ->δ->ε->ζ->Prop}{S:α->β->γ->δ->ε->ζ->Prop}{T:α->β->γ->δ->ε->ζ->Prop}{U:α->β->γ->δ->ε->ζ->Prop}{K:α->β->γ->δ->ε->ζ->Prop}(h1:P a)(h2:Q a b)(h3:R a b c d e f)(h4:S a b c d e f)(h5:T a b c d e f)(h6:U a b c d e f)(k:K a b c d e f):∃x0,P x0/\∃x1,Q x0 x1/\∃x2 x3 x4 x5,R x0 x1 x2 x3 x4 x5/\S x0 x1 x2 x3 x4 x5/\T x0 x1 x2 x3 x4 x5/\U x0 x1 x2 x3 x4 x5/\K x0 x1 x2 x3 x4 x5:=⟨a,h1,b,h2,c,d,e,f,h3,h4,h5,h6,k⟩
theorem BM{A B:TS}{D:Ml}{σ:St}{H:Hp}(h:let r:=B D;let s:=σ;∀k:St->Hp->Prop,(∀{σ H},r σ H->k σ H)->let E:Ml:={D with nx:=k};A E s H):tSeq A B D σ H:=h _ λz=>z
end L2
namespace Nu
open PySem PySem.NumText PyProof.Rows
theorem ext{a b:Str}(h:a.cps.toList=b.cps.toList):a=b:=by
 obtain⟨⟨l⟩⟩:=a;obtain⟨⟨r⟩⟩:=b;cases h;rfl
theorem len(x:Str):x.length=x.cps.toList.length:=by simp[Str.length]
end Nu
namespace Tx
open PySem PySem.Builtin PySem.Builtin.Str PyProof.Rows
theorem Cz(a b:Str):(a++b).cps.toList=a.cps.toList++b.cps.toList:=cps_toList_append a b
def jl(sep:List Nat):List (List Nat)->List Nat
 |[]=>[]
 |[x]=>x
 |x::y::r=>x++sep++jl sep (y::r)
theorem EH(sep:Str):∀ts:List Str,(Str.join sep ts).cps.toList=jl sep.cps.toList (ts.map λt=>t.cps.toList)
 |[]=>rfl
 |[x]=>rfl
 |x::y::r=>by
  have e:Str.join sep (x::y::r)=x++sep++Str.join sep (y::r):=rfl;rw[e,Cz,Cz,EH sep (y::r)];rfl
theorem Ru{c:Nat}:∀{x y A B:List Nat},c∉x->c∉y->x++c::A=y++c::B->x=y/\A=B
 |[],[],A,B,_,_,h=>⟨rfl,by simpa using h⟩
 |[],y::ys,A,B,_,hy,h=>by
  simp at h;exact absurd (by rw[h.1];exact C3) hy
 |x::xs,[],A,B,hx,_,h=>by
  simp at h;exact absurd (by rw[<-h.1];exact C3) hx
 |x::xs,y::ys,A,B,hx,hy,h=>by
  simp at h;obtain⟨e,h⟩:=h;obtain⟨e2,e3⟩:=Ru (x:=xs) (y:=ys) (λz=>hx (C2 _ z)) (λz=>hy (C2 _ z)) h;exact⟨by rw[e,e2],e3⟩
theorem Uc(c:Nat)(s:List Nat):∀(as bs:List (List Nat)),as≠[]->bs≠[]->(∀t∈as,c∉t)->(∀t∈bs,c∉t)->jl (c::s) as=jl (c::s) bs->as=bs
 |[],_,h,_,_,_,_=>absurd rfl h
 |_,[],_,h,_,_,_=>absurd rfl h
 |[x],[y],_,_,_,_,e=>by
  have e':x=y:=e;rw[e']
 |[x],y::z::r,_,_,ha,_,e=>by
  have e':x=y++c::s++jl (c::s) (z::r):=e;exact absurd (by rw[e'];simp) (ha x C3)
 |x::z::r,[y],_,_,_,hb,e=>by
  have e':x++c::s++jl (c::s) (z::r)=y:=e;exact absurd (by rw[<-e'];simp) (hb y C3)
 |x::x2::r,y::y2::r',_,_,ha,hb,e=>by
  have e':x++c::(s++jl (c::s) (x2::r))=y++c::(s++jl (c::s) (y2::r')):=by
   have:x++c::s++jl (c::s) (x2::r)=y++c::s++jl (c::s) (y2::r'):=e
   simpa using this
  obtain⟨e1,e2⟩:=Ru (ha x C3) (hb y C3) e';have e3:=List.append_cancel_left e2;rw[e1,Uc c s (x2::r) (y2::r') A6 A6 (λt ht=>ha t (C2 _ ht)) (λt ht=>hb t (C2 _ ht)) e3]
theorem PP {as bs:List Str} (h:as.map (λt=>t.cps.toList)=bs.map λt=>t.cps.toList):as=bs:=by
 induction as generalizing bs with
 |nil=>cases bs with|nil=>rfl|cons=>simp at h
 |cons a r ih =>
  cases bs with
  |nil=>simp at h
  |cons b q =>
   simp at h;rw[Nu.ext (a:=a) (b:=b) (by simpa using h.1),ih (by simpa using h.2)]
theorem RO(c:Nat)(ts:List Str)(hne:ts≠[])(hf:∀t∈ts,c∉t.cps.toList):Txt.split (Str.join ⟨#[c]⟩ ts) ⟨#[c]⟩=ts:=by
 refine PP (Uc c [] _ _ ?_ ?_ ?_ ?_ ?_)
 ·intro h;have:=split_pos (Str.join ⟨#[c]⟩ ts) ⟨#[c]⟩;have h2:(Txt.split (Str.join ⟨#[c]⟩ ts) ⟨#[c]⟩).length=0:=by simpa using X9 List.length h
  lia
 ·simpa using hne
 ·intro t ht;obtain⟨p,hp,rfl⟩:=D5.mp ht;exact StrLaws.split_free _ c p hp
 ·intro t ht;obtain⟨p,hp,rfl⟩:=D5.mp ht;exact hf p hp
 ·have h:=X9 (λz:Str=>z.cps.toList) (StrLaws.join_split (Str.join ⟨#[c]⟩ ts) ⟨#[c]⟩);rw[EH,EH]at h;exact h
theorem Id(c:Nat)(a b:Str)(h:c∉a.cps.toList):Txt.partition (a++⟨#[c]⟩++b) ⟨#[c]⟩=(a,⟨#[c]⟩,b):=by
 have hin:c∈(a++⟨#[c]⟩++b).cps.toList:=by rw[Cz,Cz];simp
 have hs:=StrLaws.partition_sum (a++⟨#[c]⟩++b) ⟨#[c]⟩;have hh:=partition_head (a++⟨#[c]⟩++b) ⟨#[c]⟩;have ho:=StrLaws.found_one (a++⟨#[c]⟩++b) c;rw[Y5 hin]at ho;have hp2:(Txt.partition (a++⟨#[c]⟩++b) ⟨#[c]⟩).2.1=⟨#[c]⟩:=by
  unfold Txt.partition;cases e:occurrences (a++⟨#[c]⟩++b) ⟨#[c]⟩ 0 (a++⟨#[c]⟩++b).length 1 with
  |nil=>rw[e]at ho;simp at ho
  |cons i l=>rfl
 have hp1:c∉(Txt.partition (a++⟨#[c]⟩++b) ⟨#[c]⟩).1.cps.toList:=by
  rcases hh with ⟨_,no⟩|⟨i,e,hA,no⟩
  ·obtain⟨j,hj⟩:=J9 hin;exact absurd ((StrLaws.subAt_one _ c j).mpr hj) (no j)
  ·rw[e];exact StrLaws.part_free _ c 0 i (by have:i+1<=_:=hA.1;lia) λk _ hk=>no k hk
 have e:(Txt.partition (a++⟨#[c]⟩++b) ⟨#[c]⟩).1.cps.toList++(Txt.partition (a++⟨#[c]⟩++b) ⟨#[c]⟩).2.1.cps.toList++(Txt.partition (a++⟨#[c]⟩++b) ⟨#[c]⟩).2.2.cps.toList=a.cps.toList++[c]++b.cps.toList:=by
  have e0:=X9 (λz:Str=>z.cps.toList) hs;rw[Cz,Cz,Cz,Cz]at e0;exact e0
 rw[hp2]at e;have e':(Txt.partition (a++⟨#[c]⟩++b) ⟨#[c]⟩).1.cps.toList++c::(Txt.partition (a++⟨#[c]⟩++b) ⟨#[c]⟩).2.2.cps.toList=a.cps.toList++c::b.cps.toList:=by simpa using e
 obtain⟨e1,e2⟩:=Ru hp1 h e';exact Prod.ext (Nu.ext e1) (Prod.ext hp2 (Nu.ext e2))
theorem Md{n:Int}(h0:0<=n)(h1:n<=9):(Str.ofString (toString n))=(⟨#[48+n.toNat]⟩:Str):=by
 obtain⟨m,rfl⟩:=F7 h0;exact(show ∀m:Nat,m<10->(Str.ofString (toString (m:Int)))=(⟨#[48+(m:Int).toNat]⟩:Str) by decide +kernel) m A0
end Tx
namespace Tx
open PySem PySem.Builtin PySem.Builtin.Str PyProof.Rows
theorem Ub:∀ts:List (List Nat),jl [] ts=ts.flatten
 |[]=>rfl
 |[x]=>by simp[jl]
 |x::y::r=>by
  show x++[]++jl [] (y::r)=_;rw[Ub (y::r)];simp
theorem Vk(sep:Str)(m:Nat):∀(l:List Str)(acc:Nat),(∀t∈l,t.length<=m)->l.foldl (λa t=>a+t.length+sep.length) acc<=acc+l.length*(m+sep.length)
 |[],acc,_=>by simp
 |t::r,acc,h=>by
  have h1:=h t C3;have h2:=Vk sep m r (acc+t.length+sep.length) λz hz=>h z (C2 _ hz);rw[S8,D8,Nat.succ_mul];lia
theorem NL{sep:Str}{l:List Str}(m:Nat)(h:∀t∈l,t.length<=m)(hs:l.length*(m+sep.length)<=100000):JoinOk sep l=true:=by
 unfold JoinOk;have h2:=Vk sep m l 0 h;have e:l.toArray.foldl (λa t=>a+t.length+sep.length) 0=l.foldl (λa t=>a+t.length+sep.length) 0:=by simp
 rw[e];have:tooLong (l.foldl (λa t=>a+t.length+sep.length) 0)=false:=by
  unfold tooLong;refine Z0 ?_;have:(100000:Nat)<=sizeLine:=by decide
  lia
 rw[this];rfl
theorem app_len(a b:Str):(a++b).length=a.length+b.length:=by
 rw[Nu.len,Nu.len,Nu.len,Cz,C4]
end Tx
namespace Tx
open PySem PySem.Builtin PySem.Builtin.Str PyProof.Rows
theorem ZH(x:Str)(c d k:Nat)(h1:x.cps.toList[k]?=some c)(h2:x.cps.toList[k+1]?=some d):StrLaws.At x ⟨#[c,d]⟩ x.length k:=by
 have l:k+1<x.cps.toList.length:=(B7.mp h2).1;refine⟨?_,?_⟩
 ·show k+2<=x.length;rw[Nu.len];lia
 ·rw[StrLaws.subAt_eq];show((x.cps.toList.drop k).take 2==[c,d])=true;have e1:x.cps.toList.drop k=c::d::x.cps.toList.drop (k+2):=by
   rw[List.drop_eq_getElem_cons A0,(B7.mp h1).2,List.drop_eq_getElem_cons l,(B7.mp h2).2]
  rw[e1];simp
def Led(c d:Nat)(l:List Nat):Prop:=∀k:Nat,l[k]?=some c->l[k+1]?=some d
theorem Os{x:Str}{c d a b:Nat}(hx:Led c d x.cps.toList)(hb:b<=x.length)(hn:∀k,a<=k->k<b->¬StrLaws.At x ⟨#[c,d]⟩ x.length k):c∉(strSub x a b).cps.toList:=by
 intro hm;rw[StrLaws.strSub_toList]at hm;obtain⟨j,hj⟩:=J9 hm;have hlt:j<b-a:=by
  have h1:j<((x.cps.toList.drop a).take (b-a)).length:=(B7.mp hj).1;rw[J0]at h1;lia
 rw[U1 hlt,List.getElem?_drop]at hj;exact hn (a+j) A0 A0 (ZH x c d (a+j) hj (hx _ hj))
theorem Na{x:Str}{c d:Nat}(hx:Led c d x.cps.toList):∀(cuts:List Nat)(a f:Nat),StrLaws.ChainG x ⟨#[c,d]⟩ x.length a cuts f->(∀k,f<=k->¬StrLaws.At x ⟨#[c,d]⟩ x.length k)->∀p∈StrLaws.partsFrom x 2 a cuts,c∉p.cps.toList
 |[],a,f,h,hn,p,hp=>by
  have e:f=a:=h;subst e;rw[D4.mp hp];exact Os hx (C0 _) λk h1 _=>hn k h1
 |g::r,a,f,h,hn,p,hp=>by
  rcases C1.mp hp with rfl|hp'
  ·exact Os hx (by have:g+2<=_:=h.2.1.1;lia) h.2.2.1
  ·exact Na hx r _ f h.2.2.2 hn p hp'
theorem kind_le(x:Str):¬Builtin.Str.strKind x<Builtin.Str.strKind (⟨#[59,32]⟩:Str):=by
 have e:Builtin.Str.strKind (⟨#[59,32]⟩:Str)=1:=by simp[Builtin.Str.strKind]
 rw[e];unfold Builtin.Str.strKind;split
 ·decide
 ·split<;>decide
theorem RP{x:Str}(hx:Led 59 32 x.cps.toList):∀p∈Txt.split x ⟨#[59,32]⟩,59∉p.cps.toList:=by
 obtain⟨f,hG,hn⟩:=StrLaws.occ_tight x ⟨#[59,32]⟩ A4;have whole:59∈x.cps.toList->∃k,StrLaws.At x ⟨#[59,32]⟩ x.length k:=λhm=>by
  obtain⟨j,hj⟩:=J9 hm;exact⟨j,ZH x 59 32 j hj (hx j hj)⟩
 unfold Txt.split;split
 ·rename_i hc;intro p hp;rw[D4.mp hp];intro hm;obtain⟨k,hk⟩:=whole hm;have h2:k+2<=x.length:=hk.1;rw[Bool.or_eq_true,A4f,A4f]at hc;rcases hc with h|h
  ·have h3:x.length<2:=h;lia
  ·exact kind_le x h
 ·split
  ·rename_i he;intro p hp;rw[D4.mp hp];intro hm;obtain⟨k,hk⟩:=whole hm;rw[List.isEmpty_iff.mp he]at hG;have ef:f=0:=hG;exact hn k A0 hk
  ·rw[StrLaws.partsBetween_eq];exact Na hx _ 0 f hG hn
theorem Zb{c d:Nat}(hcd:c≠d):∀ts:List (List Nat),(∀t∈ts,c∉t)->Led c d (jl [c,d] ts)
 |[],_=>λk h=>by simp[jl]at h
 |[x],hf=>λk h=>absurd (C9 (show x[k]?=some c from h)) (hf x C3)
 |x::y::r,hf=>λk h=>by
  have ih:=Zb hcd (y::r) λt ht=>hf t (C2 _ ht);have e:jl [c,d] (x::y::r)=x++(c::d::jl [c,d] (y::r)):=by
   show x++[c,d]++jl [c,d] (y::r)=_;simp
  rw[e]at h⊢;by_cases h1:k<x.length
  ·rw[L8 h1]at h;exact absurd (C9 h) (hf x C3)
  ·rw[F9 A0]at h;rw[F9 A0];obtain⟨m,hm⟩:∃m,k-x.length=m:=⟨_,rfl⟩
   rw[show k+1-x.length=m+1 by lia];rw[hm]at h;cases m with
   |zero=>rfl
   |succ m =>
    cases m with
    |zero =>
     have:some d=some c:=h;exact absurd (Z5 this).symm hcd
    |succ m =>
     rw[U6,U6]at h⊢;exact ih m h
theorem RN(ts:List Str)(hne:ts≠[])(hf:∀t∈ts,59∉t.cps.toList):Txt.split (Str.join ⟨#[59,32]⟩ ts) ⟨#[59,32]⟩=ts:=by
 have led:Led 59 32 (Str.join ⟨#[59,32]⟩ ts).cps.toList:=by
  rw[EH];refine Zb A4 _ λt ht=>?_;obtain⟨p,hp,rfl⟩:=D5.mp ht;exact hf p hp
 refine PP (Uc 59 [32] _ _ ?_ ?_ ?_ ?_ ?_)
 ·intro h;have:=split_pos (Str.join ⟨#[59,32]⟩ ts) ⟨#[59,32]⟩;have h2:(Txt.split (Str.join ⟨#[59,32]⟩ ts) ⟨#[59,32]⟩).length=0:=by simpa using X9 List.length h
  lia
 ·simpa using hne
 ·intro t ht;obtain⟨p,hp,rfl⟩:=D5.mp ht;exact RP led p hp
 ·intro t ht;obtain⟨p,hp,rfl⟩:=D5.mp ht;exact hf p hp
 ·have h:=X9 (λz:Str=>z.cps.toList) (StrLaws.join_split (Str.join ⟨#[59,32]⟩ ts) ⟨#[59,32]⟩);rw[EH,EH]at h;exact h
end Tx
namespace L2
open PySem PySem.Spec PyProof.Rows
section
variable{κ:Type}[DecidableEq κ]
def Br(kvs:List (κ×V))(k:κ):Option V:=(kvs.find? λkv=>decide (kv.1=k)).map (·.2)
def DI(kvs:List (κ×V))(k:κ)(v:V):List (κ×V) :=
 if(kvs.any λkv=>decide (kv.1=k))=true then kvs.map (λkv=>if kv.1=k then(kv.1,v)else kv)else kvs++[(k,v)]
theorem BF{p:κ×V}{r:List (κ×V)}{k:κ}(e:p.1=k):Br (p::r) k=some p.2:=by simp[Br,Q6,e]
theorem Bq{p:κ×V}{r:List (κ×V)}{k:κ}(e:¬p.1=k):Br (p::r) k=Br r k:=by simp[Br,Q6,e]
theorem GB(k:κ):∀kvs:List (κ×V),(kvs.any λkv=>decide (kv.1=k))=(Br kvs k).isSome
 |[]=>rfl
 |p::r=>by
  rw[S6];by_cases e:p.1=k
  ·simp only[BF e,Y5 e,Bool.true_or,Option.isSome_some]
  ·rw[Bq e,Z0 e,Bool.false_or];exact GB k r
theorem RC(k j:κ)(y:V):∀kvs:List (κ×V),Br (kvs.map λkv=>if kv.1=k then(kv.1,y)else kv) j=(Br kvs j).map λx=>if j=k then y else x
 |[]=>rfl
 |p::r=>by
  have ih:=RC k j y r;rw[F5];by_cases h:p.1=k
  ·rw[Y7 h];by_cases e:p.1=j
   ·rw[BF (p:=(p.1,y)) e,BF e,V2,Y7 (e.symm.trans h)]
   ·rw[Bq (p:=(p.1,y)) e,Bq e,ih]
  ·rw[Y4 h];by_cases e:p.1=j
   ·rw[BF (p:=p) e,BF e,V2,Y4 (λz=>h (e.trans z))]
   ·rw[Bq (p:=p) e,Bq e,ih]
theorem Pz(k j:κ)(y:V):∀kvs:List (κ×V),Br kvs k=none->Br (kvs++[(k,y)]) j=if j=k then some y else Br kvs j
 |[],_=>by
  by_cases e:k=j
  ·rw[Y7 e.symm];exact BF (p:=(k,y)) e
  ·rw[Y4 (λz=>e z.symm)];exact Bq (p:=(k,y)) e
 |p::r,hn=>by
  rw[List.cons_append];have hk:¬p.1=k:=λz=>by rw[BF z]at hn;cases hn
  rw[Bq hk]at hn;have ih:=Pz k j y r hn;by_cases e:p.1=j
  ·rw[BF e,BF e,Y4 (λz=>hk (e.trans z))]
  ·rw[Bq e,Bq e,ih]
theorem IP(kvs:List (κ×V))(k j:κ)(y:V):Br (DI kvs k y) j=if j=k then some y else Br kvs j:=by
 unfold DI;by_cases a:(kvs.any λkv=>decide (kv.1=k))=true
 ·rw[Y7 a,RC];rw[GB]at a;by_cases e:j=k
  ·obtain⟨x,hx⟩:=Option.isSome_iff_exists.mp a;rw[Y7 e,e,hx,V2,Y7 rfl]
  ·rw[Y4 e];cases Br kvs j with
   |none=>rfl
   |some x=>rw[V2,Y4 e]
 ·rw[Y4 a];refine Pz k j y kvs ?_;rw[GB]at a;cases q:Br kvs k with
  |none=>rfl
  |some x=>rw[q]at a;exact(a rfl).elim
theorem FZ(kvs:List (κ×V))(k:κ)(v:V):(DI kvs k v).length<=kvs.length+1:=by
 unfold DI;split
 ·rw[B6];lia
 ·rw[C4,D8,P6];lia
theorem GD{kvs:List (κ×V)}{k:κ}(v:V)(h:Br kvs k=none):DI kvs k v=kvs++[(k,v)]:=by
 unfold DI;rw[GB,h];exact Y4 A4
theorem IM.isSome_eq{o:Option V}{u:Option Value}(r:IM o u):o.isSome=u.isSome:=by
 cases o with
 |none=>cases u with
  |none=>rfl
  |some _=>exact(show False from r).elim
 |some _=>cases u with
  |none=>exact(show False from r).elim
  |some _=>rfl
theorem IM.getD{o:Option V}{u:Option Value}{d:V}{d':Value}(r:IM o u)(rd:AW d d'):AW (o.getD d) (u.getD d'):=by
 cases o with
 |none=>cases u with
  |none=>exact rd
  |some _=>exact(show False from r).elim
 |some _=>cases u with
  |none=>exact(show False from r).elim
  |some _=>exact r
theorem KV.val{kvs:List (κ×V)}{vs:List (κ×Value)}(r:KV kvs vs)(k:κ):IM (Br kvs k) (valueAt vs k):=by
 unfold KV at r;induction r with
 |nil=>exact True.intro
 |@cons p q ps qs h t ih =>
  obtain⟨h1,h2⟩:=h;by_cases e:p.1=k
  ·have e':q.1=k:=h1.symm.trans e;have b:valueAt (q::qs) k=some q.2:=by simp[valueAt,Q6,e']
   rw[BF e,b];exact h2
  ·have e':¬q.1=k:=λz=>e (h1.trans z);have b:valueAt (q::qs) k=valueAt qs k:=by simp[valueAt,Q6,e']
   rw[Bq e,b];exact ih
theorem KV.any{kvs:List (κ×V)}{vs:List (κ×Value)}(r:KV kvs vs)(k:κ):(kvs.any λkv=>decide (kv.1=k))=vs.any λkv=>decide (kv.1=k):=by
 unfold KV at r;induction r with
 |nil=>rfl
 |cons h t ih=>rw[S6,S6,ih,h.1]
theorem KV.repl{kvs:List (κ×V)}{vs:List (κ×Value)}(r:KV kvs vs)(k:κ){y:V}{u:Value}(ry:AW y u) :
  KV (kvs.map λkv=>if kv.1=k then(kv.1,y)else kv) (vs.map λkv=>if kv.1=k then(kv.1,u)else kv):=by
 unfold KV at r⊢;induction r with
 |nil=>exact .nil
 |@cons p q ps qs h t ih =>
  rw[F5,F5];refine .cons ?_ ih;obtain⟨h1,h2⟩:=h;by_cases e:p.1=k
  ·rw[Y7 e,Y7 (h1.symm.trans e)];exact⟨h1,ry⟩
  ·rw[Y4 e,Y4 (λz=>e (h1.trans z))];exact⟨h1,h2⟩
theorem KV.put{kvs:List (κ×V)}{vs:List (κ×Value)}(r:KV kvs vs)(k:κ){y:V}{u:Value}(ry:AW y u):KV (DI kvs k y) (stored vs k u):=by
 unfold DI stored;rw[r.any k];by_cases e:(vs.any λkv=>decide (kv.1=k))=true
 ·rw[Y7 e,Y7 e];exact r.repl k ry
 ·rw[Y4 e,Y4 e];exact K9 r ⟨rfl,ry⟩
theorem KV.length{kvs:List (κ×V)}{vs:List (κ×Value)}(r:KV kvs vs):kvs.length=vs.length:=Z7 r
end
theorem SJ{P:Program}{w:World}{k:Key}{u:Value}(r:AW (kV k) u):(Ck P w).is k u=true:=by
 cases k with
 |inl i=>obtain⟨t,e⟩:=(show ∃t,u=Value.int i t from r);subst e;exact SE P w i t
 |inr x=>obtain⟨t,e⟩:=(show ∃t,u=Value.str x t from r);subst e;exact SD P w x t
theorem PU{P:Program}{w:World}:∀{ks:List Key}{us:List Value},AN (ks.map kV) us->ItemsAre (Ck P w) ks us
 |[],_,r=>by rw[W7]at r;cases r;exact .nil
 |k::ks,_,r=>by
  rw[F5]at r;cases r with
  |cons h t=>exact .cons (SJ h) (PU t)
abbrev KT(H:Hp):List (List Key×V)->List (List Key×Addr×Value)->Prop:=Paired λp q=>p.1=q.1/\H q.2.1=some (.tup (p.1.map kV))/\AW p.2 q.2.2
theorem KT.val{H:Hp}{kvs:List (List Key×V)}{xs:List (List Key×Addr×Value)}(r:KT H kvs xs)(k:List Key):IM (Br kvs k) ((atKey xs k).map (·.2)):=by
 induction r with
 |nil=>exact True.intro
 |@cons p q ps qs h t ih =>
  obtain⟨h1,_,h2⟩:=h;by_cases e:p.1=k
  ·have e':q.1=k:=h1.symm.trans e;have b:atKey (q::qs) k=some q.2:=by simp[atKey,Q6,e']
   rw[BF e,b];exact h2
  ·have e':¬q.1=k:=λz=>e (h1.trans z);have b:atKey (q::qs) k=atKey qs k:=by simp[atKey,Q6,e']
   rw[Bq e,b];exact ih
theorem KT.repl{H:Hp}{kvs:List (List Key×V)}{xs:List (List Key×Addr×Value)}(r:KT H kvs xs)(k:List Key){y:V}{u:Value}(ry:AW y u) :
  KT H (kvs.map λkv=>if kv.1=k then(kv.1,y)else kv) (xs.map (putAt k u)):=by
 induction r with
 |nil=>exact .nil
 |@cons p q ps qs h t ih =>
  rw[F5,F5];refine .cons ?_ ih;obtain⟨h1,h2,h3⟩:=h;unfold putAt;by_cases e:p.1=k
  ·rw[Y7 e,Y7 (h1.symm.trans e)];exact⟨h1,h2,ry⟩
  ·rw[Y4 e,Y4 (λz=>e (h1.trans z))];exact⟨h1,h2,h3⟩
theorem KT.put{H:Hp}{kvs:List (List Key×V)}{xs:List (List Key×Addr×Value)}(r:KT H kvs xs)(k:List Key){b:Addr}{y:V}{u:Value}(hb:H b=some (.tup (k.map kV)))(ry:AW y u) :
  KT H (DI kvs k y) (storedH xs k b u):=by
 have e:(kvs.any λkv=>decide (kv.1=k))=(atKey xs k).isSome:=by
  rw[GB,(r.val k).isSome_eq,Option.isSome_map]
 unfold DI storedH;rw[e];by_cases q:(atKey xs k).isSome=true
 ·rw[Y7 q,Y7 q];exact r.repl k ry
 ·rw[Y4 q,Y4 q];exact K9 r ⟨rfl,hb,ry⟩
theorem KT.keeps{H H':Hp}{kvs:List (List Key×V)}{xs:List (List Key×Addr×Value)}(r:KT H kvs xs)(ht:∀b ys,H b=some (.tup ys)->H' b=some (.tup ys)):KT H' kvs xs :=
 Paired.mapP r λ_ _ z=>⟨z.1,ht _ _ z.2.1,z.2.2⟩
section
variable{P:Program}{w:World}{H:Hp}{h:Heap}{a:Addr}
theorem rd_of{u:HO}(ok:HOk P w H h)(e:Rd H a u):BI P w H h a u:=e.ok ok
theorem Qc{kvs:List (Key×V)}(ok:HOk P w H h)(e:Rd H a (.dK kvs)):kvs.length<=sizeLine/\(a==sysModules)=false/\∃vs,KV kvs vs/\h.DictOf (Ck P w) a vs :=
 show BI P w H h a (.dK kvs)from rd_of ok e
theorem dk_of{kvs:List (Key×V)}(ok:HOk P w H h)(e:H a=some (.dK kvs)):kvs.length<=sizeLine/\(a==sysModules)=false/\∃vs,KV kvs vs/\h.DictOf (Ck P w) a vs:=Qc ok (.inl e)
theorem OM{ks:List Key}(ok:HOk P w H h)(e:H a=some (.tup (ks.map kV))):(tupleKind (Ck P w)).is h ks a:=by
 obtain⟨_,its,r,o,h1,h2,n,h3⟩:=(show BI P w H h a (.tup (ks.map kV))from ok a _ e)
 exact⟨o,its.toArray,n,h1,h2,h3,by simpa using PU r⟩
theorem Qa{kvs:List (List Key×V)}(ok:HOk P w H h)(e:Rd H a (.dT kvs)):kvs.length<=sizeLine/\(a==sysModules)=false /\
  ∃xs,KT H kvs xs/\h.DictOfH (tupleKind (Ck P w)) a xs:=by
 obtain⟨z,y,xs,r,o,es,ep,h1,h2,h3,h4,h5⟩:=(show BI P w H h a (.dT kvs)from rd_of ok e)
 refine⟨z,y,xs,r,o,es,ep,h1,h2,h3,h4,λx hx=>?_,h5⟩;have all:∀{l:List (List Key×V)}{m:List (List Key×Addr×Value)},KT H l m->∀x∈m,(tupleKind (Ck P w)).is h x.1 x.2.1:=by
  intro l m q;induction q with
  |nil=>intro x hx;exact nomatch hx
  |@cons p q ps qs hq t ih =>
   intro x hx;rcases C1.mp hx with e|hx
   ·subst e;exact OM ok (by rw[<-hq.1];exact hq.2.1)
   ·exact ih x hx
 exact all r x hx
theorem dt_of{kvs:List (List Key×V)}(ok:HOk P w H h)(e:H a=some (.dT kvs)):kvs.length<=sizeLine/\(a==sysModules)=false /\
  ∃xs,KT H kvs xs/\h.DictOfH (tupleKind (Ck P w)) a xs:=Qa ok (.inl e)
end
def IB(H:Hp)(a:Addr)(y:V)(r:Option V):Prop :=
 (∃kvs k,Rd H a (.dK kvs)/\y=kV k/\r=Br kvs k)\/∃kvs k b,Rd H a (.dT kvs)/\y=.ref b/\H b=some (.tup (k.map kV))/\r=Br kvs k
def Lx(H:Hp)(a:Addr)(y v:V)(H':Hp):Prop :=
 (∃kvs k,H a=some (.dK kvs)/\y=kV k/\kvs.length<sizeLine/\H'=upd H a (.dK (DI kvs k v))) \/
 ∃kvs k b,H a=some (.dT kvs)/\y=.ref b/\H b=some (.tup (k.map kV))/\kvs.length<sizeLine/\H'=upd H a (.dT (DI kvs k v))
theorem IB.k{H:Hp}{a:Addr}{kvs:List (Key×V)}{k:Key}(e:H a=some (.dK kvs)):IB H a (kV k) (Br kvs k):=.inl ⟨kvs,k,.inl e,rfl,rfl⟩
theorem IB.t{H:Hp}{a b:Addr}{kvs:List (List Key×V)}{k:List Key}(e:H a=some (.dT kvs))(eb:H b=some (.tup (k.map kV))):IB H a (.ref b) (Br kvs k):=.inr ⟨kvs,k,b,.inl e,rfl,eb,rfl⟩
theorem Lx.k{H:Hp}{a:Addr}{kvs:List (Key×V)}{k:Key}{v:V}(e:H a=some (.dK kvs))(hl:kvs.length<sizeLine):Lx H a (kV k) v (upd H a (.dK (DI kvs k v))):=.inl ⟨kvs,k,e,rfl,hl,rfl⟩
theorem Lx.t{H:Hp}{a b:Addr}{kvs:List (List Key×V)}{k:List Key}{v:V}(e:H a=some (.dT kvs))(eb:H b=some (.tup (k.map kV)))(hl:kvs.length<sizeLine) :
  Lx H a (.ref b) v (upd H a (.dT (DI kvs k v))):=.inr ⟨kvs,k,b,e,rfl,eb,hl,rfl⟩
section
variable{X:Cx}{pins:List (Addr×Obj)}{σ:St}{H:Hp}{s:Shared}{a:Addr}{y v:V}{u r:Value}{o:Option V}{A:Around}{E:Value->Shared->Prop}
theorem Inv.big(I:Inv X pins σ H s):sysModules<s.heap.objs.size:=by
 have h:mainGlobals<s.heap.objs.size:=(I.mod.glob.keeps I.bk).lt;exact T3 A4 h
theorem Wv{Q:Value->Shared->Prop}(hu:A.units+1<cLine)(I:Inv X pins σ H s)(g:IB H a y (some v))(ry:AW y u)(h:∀w' s',Inv X pins σ H s'->AW v w'->Q w' s') :
  wpAny (model X.prog X.w) A (getItem (.ref a) u) Q E s:=by
 rcases g with ⟨kvs,k,e,ey,l⟩|⟨kvs,k,b,e,ey,eb,l⟩
 ·subst ey;obtain⟨z,hd,vs,rel,dd⟩:=Qc I.hok e;obtain⟨w',hw,rw'⟩:=IM.some_of (v:=v) (o:=valueAt vs k) (by rw[l];exact rel.val k);exact wpAny_getItem_of (SJ ry) dd.mapOf hw (h w' _ (I.tok _) rw')
 ·subst ey;cases(show u=Value.ref b from ry);obtain⟨z,hd,xs,rel,dd⟩:=Qa I.hok e;obtain⟨w',hw,rw'⟩:=IM.some_of (v:=v) (o:=(atKey xs k).map (·.2)) (by rw[l];exact rel.val k);obtain⟨p,hp,hp2⟩:=D0.mp hw;refine wpAny_getItem_heap (A3b hu) (OM I.hok eb) dd hp ?_;rw[hp2];exact h w' _ (I.tok _) rw'
theorem d_notIn{Q:Value->Shared->Prop}(hu:A.units+1<cLine)(I:Inv X pins σ H s)(g:IB H a y o)(ry:AW y u)(h:∀s',Inv X pins σ H s'->Q (.bool (!o.isSome)) s') :
  wpAny (model X.prog X.w) A (compareOp .NotIn u (.ref a)) Q E s:=by
 rcases g with ⟨kvs,k,e,ey,l⟩|⟨kvs,k,b,e,ey,eb,l⟩
 ·subst ey;obtain⟨z,hd,vs,rel,dd⟩:=Qc I.hok e;refine wpAny_notIn_of (SJ ry) hd dd.mapOf ?_;rw[<-(rel.val k).isSome_eq,<-l];exact h _ (I.tok _)
 ·subst ey;cases(show u=Value.ref b from ry);obtain⟨z,hd,xs,rel,dd⟩:=Qa I.hok e;refine wpAny_notIn_heap (A3b hu) (OM I.hok eb) hd dd ?_;have q:=(rel.val k).isSome_eq;rw[Option.isSome_map]at q;rw[<-q,<-l];exact h _ (I.tok _)
theorem Rn{h':Heap}{t':Nat}{ob:HO}(I:Inv X pins σ H s)(mu:Mut (H a))(hs:Heap.SameBut a s.heap h')(he:∃q,h'.get? a=some q)(new:BI X.prog X.w (upd H a ob) h' a ob) :
  Inv X pins σ (upd H a ob) {s with heap:=h',toks:=t'} :=
 I.write (x:=a) (e:=a) mu (.inl rfl) (λb q hb z=>(hs.2 b hb).trans z) he new
theorem dk_new{P:Program}{w:World}{H':Hp}{h':Heap}{kvs:List (Key×V)}{vs:List (Key×Value)}(z:kvs.length<=sizeLine)(hd:(a==sysModules)=false)(rel:KV kvs vs)(dd:h'.DictOf (Ck P w) a vs) :
  BI P w H' h' a (.dK kvs):=⟨z,hd,vs,rel,dd⟩
theorem Wu{H':Hp}{Q:Unit->Shared->Prop}(hu:A.units+1<cLine)(I:Inv X pins σ H s)(g:Lx H a y v H')(ry:AW y u)(rv:AW v r)(h:∀s',Inv X pins σ H' s'->Q () s') :
  wpAny (model X.prog X.w) A (setItem (.ref a) u r) Q E s:=by
 rcases g with ⟨kvs,k,e,ey,l,eH⟩|⟨kvs,k,b,e,ey,eb,l,eH⟩
 ·subst ey eH;obtain⟨z,hd,vs,rel,dd⟩:=dk_of I.hok e;have hz:vs.length<=sizeLine:=by rw[<-rel.length];exact z
  have hl:(DI kvs k v).length<=sizeLine:=by have:=FZ kvs k v;lia
  refine wpAny_setItem_pairs (hsz:=hz) (SJ ry) dd λh' dd' hs=>h _ ?_;have he:∃q,h'.get? a=some q:=let ⟨q,_,_,hq,_⟩:=dd';⟨q,hq⟩;exact Rn I (by rw[e];exact True.intro) hs he (dk_new hl hd (rel.put k rv) dd')
 ·subst ey eH;cases(show u=Value.ref b from ry);obtain⟨z,hd,xs,rel,dd⟩:=dt_of I.hok e;have hz:xs.length<=sizeLine:=by rw[<-Z7 rel];exact z
  have hl:(DI kvs k v).length<=sizeLine:=by have:=FZ kvs k v;lia
  refine wpAny_setItem_heap (hsz:=hz) (A3b hu) (OM I.hok eb) dd λh' dd' hs=>h _ ?_;obtain⟨q,es,ep,hq,h2,h3,h4,_,h5⟩:=dd';refine Rn I (by rw[e];exact True.intro) hs ⟨q,hq⟩ ⟨hl,hd,_,(rel.put k eb rv).keeps λc ys ec=>?_,q,es,ep,hq,h2,h3,h4,h5⟩;rw[Au (AE ec e (λz=>nomatch z))];exact ec
end
section
variable{X:Cx}{pins:List (Addr×Obj)}{σ:St}{H:Hp}{s:Shared}{a:Addr}{kvs:List (Key×V)}{k:Key}{u:Value}{A:Around}{E:Value->Shared->Prop}
end
def NoSl(i:Expr):Prop:=∀ov iv,subscripted i false ov iv=operate [ov,iv] (getItem ov iv)
theorem subD_of{prog:Program}{w:World}{A:Around}{E:Value->Shared->Prop}{s:Shared}{env:Env}{value slice:Expr}{pos:Pos}{T id:String}{Q:Value->Shared->Prop}
  (hl:typeLookup (.type T) "__getitem__" = pure (some (.builtin id))) (hs:NoSl slice)
  (h:wpAny (model prog w) A (eval value env) (λo s₁=>wpAny (model prog w) A (eval slice env) (λi s₂=>s₂.TypeIs o T/\wpAny (model prog w) A (getItem o i) Q E s₂) E s₁) E s) :
  wpAny (model prog w) A (eval (.Subscript value slice pos) env) Q E s:=by
 refine Subscript_ (K7 h (λo s₁ h₁=>K7 h₁ (λi s₂ h₂=>?_) λ_ _ x=>x) λ_ _ x=>x);obtain⟨hT,h₂⟩:=h₂;unfold subscriptTail;refine W9 ?_;rw[getitemInPython_of_ne hT.not_modules];refine W9 (wpAny_specialOf hT hl ?_);have fin:wpAny (model prog w) A (subscripted slice false o i) (λr s₃=>wpAny (model prog w) A (letTemporaryGo value o r >>= λ_=>pure r) Q E s₃) E s₂:=by
  rw[hs o i];exact wpAny_operating (K7 h₂ (λr s₃ h₃=>W9 (wpAny_letTemporaryGo (Z1 h₃))) λ_ _ x=>x)
 first
  |exact Z1 (W9 fin)
  |exact W9 (Z1 (W9 fin))
  |exact W9 fin
theorem SQ{X:Cx}{pins:List (Addr×Obj)}{σ:St}{H:Hp}{s:Shared}{a:Addr}{y:V}{o:Option V}(I:Inv X pins σ H s)(g:IB H a y o):s.TypeIs (.ref a) "dict" := by
 rcases g with ⟨kvs,k,e,_,_⟩|⟨kvs,k,b,e,_,_,_⟩
 ·obtain⟨_,_,vs,_,dd⟩:=Qc I.hok e;exact dd.typeIs
 ·obtain⟨_,_,xs,_,dd⟩:=Qa I.hok e;exact dd.typeIs
def tDGet(td ty:TE):TE:=fun σ H Q=>td σ H λx H1=>ty σ H1 λy H2=>∃a v,x=.ref a/\IB H2 a y (some v)/\Q v H2
def tDNotIn(ty td:TE):TE:=fun σ H Q=>ty σ H λy H1=>td σ H1 λx H2=>∃a o,x=.ref a/\IB H2 a y o/\Q (.bl (!o.isSome)) H2
def sDPut(td ty tv:TE):TS:=λD σ H=>tv σ H λv H1=>td σ H1 λx H2=>ty σ H2 λy H3=>∃a H4,x=.ref a/\Lx H3 a y v H4/\D.nx σ H4
section
variable{X:Cx}{o i e value:Expr}{pos pos' tpos:Pos}{td ty tv:TE}
theorem QN(hu:X.A.units+1<cLine)(ho:PE X o td)(hi:PE X i ty)(hs:NoSl i):PE X (.Subscript o i pos) (tDGet td ty):=by
 intro pins s σ H Q I h;refine subD_of PySem.F.slot_dict_getitem.lookup hs (thn (ho pins s σ H _ I h) λu s1 ⟨x,H1,I1,rx,q1⟩=>thn (hi pins s1 σ H1 _ I1 q1) λiv s2 ⟨y,H2,I2,ry,a,v,ex,g,q2⟩=>?_);subst ex;obtain rfl:u=Value.ref a:=rx;exact⟨SQ I2 g,Wv hu I2 g ry λw' s3 I3 rw'=>⟨v,H2,I3,rw',q2⟩⟩
theorem VQ(hu:X.A.units+1<cLine)(hi:PE X i ty)(ho:PE X o td):PC X .NotIn i o (tDNotIn ty td):=by
 intro pins s σ H Q I h;refine thn (hi pins s σ H _ I h) λiv s1 ⟨y,H1,I1,ry,q1⟩=>thn (ho pins s1 σ H1 _ I1 q1) λu s2 ⟨x,H2,I2,rx,a,ov,ex,g,q2⟩=>?_;subst ex;obtain rfl:u=Value.ref a:=rx;exact d_notIn hu I2 g ry λs3 I3=>⟨.bl (!ov.isSome),H2,I3,rfl,q2⟩
theorem FW(hu:X.A.units+1<cLine)(ho:PE X o td)(hi:PE X i ty)(hv:PE X value tv)(hs:swapsWith value (some (.Subscript o i pos')) pos.line X.env=pure false) :
  PS X (.Assign [.Subscript o i pos'] value pos) (sDPut td ty tv):=by
 intro pins s σ H D I h;refine wpAny_Assign_Subscript (thn (hv pins s σ H _ I h) λr s1 ⟨v,H1,I1,rv,q1⟩=>thn (ho pins s1 σ H1 _ I1 q1) λu s2 ⟨x,H2,I2,rx,q2⟩=>thn (hi pins s2 σ H2 _ I2 q2) λiv s3 ⟨y,H3,I3,ry,a,H4,ex,g,q3⟩=>?_) hs;subst ex;obtain rfl:u=Value.ref a:=rx;exact Wu hu I3 g ry rv λs4 I4=>⟨σ,H4,I4,q3⟩
end
theorem ZA{P:Program}{w:World}{H:Hp}(h:Heap)(hb:sysModules<h.objs.size):BI P w H (h.push {cls:=.type "dict",data:=.dict #[]}) h.objs.size (.dK []) :=
 ⟨J8 _,beq_eq_false_iff_ne.mpr (Z3 (F8 hb)),[],.nil,Heap.DictOf.new h⟩
theorem Zz{P:Program}{w:World}{H:Hp}(h:Heap)(hb:sysModules<h.objs.size):BI P w H (h.push {cls:=.type "dict",data:=.dict #[]}) h.objs.size (.dT []) :=
 ⟨J8 _,beq_eq_false_iff_ne.mpr (Z3 (F8 hb)),[],.nil,_,#[],0,D3 _ rfl,⟨rfl,rfl,rfl⟩,rfl,rfl,O8⟩
def tDNewK:TE:=λ_ H Q=>∀p,H p=none->Q (.ref p) (upd H p (.dK []))
def tDNewT:TE:=λ_ H Q=>∀p,H p=none->Q (.ref p) (upd H p (.dT []))
section
variable{X:Cx}{pos:Pos}
theorem LN:PE X (.Dict [] [] pos) tDNewK:=λpins s σ H Q I h =>
 wpAny_Dict_empty ⟨.ref s.heap.objs.size,_,I.laid (a:=s.heap.objs.size) (o:=.dK []) (t':=s.toks) (λ_ _ q=>B9 _ q) (C0 _) (ZA s.heap I.big),rfl,h _ (I.hok.fresh (C0 _))⟩
theorem LM:PE X (.Dict [] [] pos) tDNewT:=λpins s σ H Q I h =>
 wpAny_Dict_empty ⟨.ref s.heap.objs.size,_,I.laid (a:=s.heap.objs.size) (o:=.dT []) (t':=s.toks) (λ_ _ q=>B9 _ q) (C0 _) (Zz s.heap I.big),rfl,h _ (I.hok.fresh (C0 _))⟩
end
structure M1(X:Cx)(o:Expr)(m:Str)(apos:Pos)(e:Expr)(cpos:Pos):Prop where
 base:attributeBase o m X.env (eval o X.env)=eval o X.env
 few:((backTo cpos (starEach [e] X.env)).all (λx=>!x.1) && (backToKw cpos (keywordEach [] X.env)).all (λx=>x.1.isSome)
  && decide (([e]:List Expr).length+([]:List Keyword).length+(if([]:List Keyword).isEmpty then 0 else 1)<30))=true
 line:(apos.endLine==cpos.line)=true
 trees:backTo cpos (starEach [e] X.env)=[(false,eval e X.env)]
def IsD(H:Hp)(a:Addr):Prop:=(∃kvs,Rd H a (.dK kvs))\/∃kvs,Rd H a (.dT kvs)
theorem isD_at{X:Cx}{pins:List (Addr×Obj)}{σ:St}{H:Hp}{s:Shared}{a:Addr}(I:Inv X pins σ H s)(d:IsD H a) :
  s.TypeIs (.ref a) "dict" /\ (∀b,Value.ref a=.ref b->∃ob,s.heap.get? b=some ob/\ob.dict=none)/\(a==sysModules)=false:=by
 rcases d with ⟨kvs,e⟩|⟨kvs,e⟩
 ·obtain⟨_,hd,vs,_,dd⟩:=Qc I.hok e;refine⟨dd.typeIs,λb q=>?_,hd⟩;cases q;obtain⟨ob,_,_,h1,h2,_⟩:=dd;exact⟨ob,h1,h2.2.1⟩
 ·obtain⟨_,hd,xs,_,dd⟩:=Qa I.hok e;refine⟨dd.typeIs,λb q=>?_,hd⟩;cases q;obtain⟨ob,_,_,h1,h2,_⟩:=dd;exact⟨ob,h1,h2.2.1⟩
section
variable{X:Cx}{pins:List (Addr×Obj)}{σ:St}{H:Hp}{s:Shared}{a:Addr}{y d:V}{u r:Value}{o:Option V}{A:Around}{E:Value->Shared->Prop}
theorem d_get1{Q:Value->Shared->Prop}(hu:A.units+1<cLine)(I:Inv X pins σ H s)(g:IB H a y o)(ry:AW y u)(h:∀w' s',Inv X pins σ H s'->AW (o.getD .non) w'->Q w' s') :
  wpAny (model X.prog X.w) A (call (.builtin "dict.get") [.ref a,u]) Q E s:=by
 rcases g with ⟨kvs,k,e,ey,l⟩|⟨kvs,k,b,e,ey,eb,l⟩
 ·subst ey;obtain⟨z,hd,vs,rel,dd⟩:=Qc I.hok e;refine call_meetsIn A3c dd.typeIs PySem.F.entry_dict_get (PySem.F.args_dict_get_2 _ _) (meets_dict_get (Ck X.prog X.w) a (SJ ry) hd) ⟨_,dd.mapOf,h _ _ (I.tok _) ?_⟩;rw[l];exact(rel.val k).getD rfl
 ·subst ey;cases(show u=Value.ref b from ry);obtain⟨z,hd,xs,rel,dd⟩:=Qa I.hok e;refine call_meetsIn A3c dd.typeIs PySem.F.entry_dict_get (PySem.F.args_dict_get_2 _ _) (meetsH_dict_get (tupleKind (Ck X.prog X.w)) a b hd) ⟨A3b hu,k,xs,OM I.hok eb,dd,h _ _ (I.tok _) ?_⟩;rw[l];exact(rel.val k).getD rfl
end
def tDGet1(td ty:TE):TE:=fun σ H Q=>td σ H λx H1=>∃a,x=.ref a/\IsD H1 a/\ty σ H1 λy H2=>∃o,IB H2 a y o/\Q (o.getD .non) H2
section
variable{X:Cx}{o e f:Expr}{apos cpos:Pos}{td ty tx:TE}
theorem Ja(hu:X.A.units+1<cLine)(ho:PE X o td)(he:PE X e ty)(m:M1 X o "get" apos e cpos):PE X (.Call (.Attribute o "get" apos) [e] [] cpos) (tDGet1 td ty):=by
 intro pins s σ H Q I h;refine wpAny_Call_method m.base m.few m.line PySem.F.plainAttrs_dict A3c PySem.F.type_dict_get (thn (ho pins s σ H _ I h) λu s1 ⟨x,H1,I1,rx,a,ex,d,q1⟩=>?_);subst ex;obtain rfl:u=Value.ref a:=rx;obtain⟨t1,t2,_⟩:=isD_at I1 d;refine⟨t1,t2,?_⟩;rw[m.trees];refine Calls.callWith_builtin rfl (Calls.evalArgs_plain (Calls.spliced_cons (thn (he pins s1 σ H1 _ I1 q1) λiv s2 ⟨y,H2,I2,ry,ov,g,q2⟩=>Calls.spliced_nil ?_)));exact d_get1 hu I2 g ry λw' s3 I3 rw'=>⟨_,H2,I3,rw',q2⟩
end
section
variable{X:Cx}{pins:List (Addr×Obj)}{σ:St}{H:Hp}{s:Shared}{a:Addr}{kvs:List (Key×V)}{A:Around}{E:Value->Shared->Prop}
end
section
variable{X:Cx}{pins:List (Addr×Obj)}{σ:St}{H:Hp}{s:Shared}{a:Addr}{y:V}{u:Value}{A:Around}{E:Value->Shared->Prop}
end
section
variable{X:Cx}
end
section
variable{κ:Type}[DecidableEq κ]
theorem WK{kvs:List (κ×V)}{k:κ}(h:Br kvs k=none):¬k∈kvs.map (·.1):=by
 intro m;obtain⟨p,hp,e⟩:=D5.mp m;have q:(kvs.any λkv=>decide (kv.1=k))=true:=S4.mpr ⟨p,hp,Y5 e⟩;rw[GB,h]at q;exact absurd q A6
theorem Vb:∀{l:List κ}{k:κ},l.Nodup->¬k∈l->(l++[k]).Nodup
 |[],k,_,_=>by simp
 |a::r,k,h,hk=>by
  obtain⟨h1,h2⟩:=M4.mp h;show(a::(r++[k])).Nodup;refine M4.mpr ⟨λm=>?_,Vb h2 λm=>hk (C1.mpr (Or.inr m))⟩;rcases F0.mp m with q|q
  ·exact h1 q
  ·exact hk (C1.mpr (Or.inl (D4.mp q).symm))
theorem nd_putK{kvs:List (κ×V)}{k:κ}(v:V)(hn:(kvs.map (·.1)).Nodup)(h:Br kvs k=none):((DI kvs k v).map (·.1)).Nodup:=by
 rw[GD v h,C6];exact Vb hn (WK h)
end
section
variable{X:Cx}
theorem QM{K:PySem.W.Frag}{e:Expr}{f:Str}{ta:TE}{pos:Pos}(hK:X.K=K)(he:PE X e ta)(hb:attributeBase e f X.env (eval e X.env)=eval e X.env):PE X (.Attribute e f pos) (tFld K ta f):=hK▸AB he hb
end
section
variable{X:Cx}
theorem LW{ns:List Int}{its:List Value}(rv:AN (ns.map V.int) its):∀(i:Nat) v,its.toArray[i]?=some v->∃t,v=.int (ns.getD i 0) t:=λi v e=>by
 have e:its[i]?=some v:=by simpa using e
 cases eb:ns[i]? with
 |none =>
  have:its[i]?=none:=rv.none_of (by rw[B8,eb];rfl);rw[e]at this;cases this
 |some b =>
  obtain⟨u,hu,ru⟩:=rv.get (i:=i) (x:=V.int b) (by rw[B8,eb];rfl);rw[e]at hu;cases hu;rw[D7,eb];obtain⟨t,rfl⟩:=ru;exact⟨t,rfl⟩
theorem Qg(hc:X.calm=true):Ga X (.builtin "min") (λxs H Q=>∃(p:Addr)(ns:List Int),xs=[.ref p]/\SqL X.K H p (ns.map V.int)/\ns≠[]/\∀m∈ns,(∀x∈ns,m<=x)->Q (.int m) H):=by
 intro pins s σ H xs us Q I r h;obtain⟨p,ns,rfl,hq,ne,q⟩:=h;cases r with
 |cons r1 r2 =>
  cases r2;cases(show _=Value.ref p from r1);obtain⟨its,rv,pl,hz⟩:=I.list hq;have hlt:p<s.heap.objs.size:=by obtain⟨o,n,e,_⟩:=pl;exact D6 e
  have hne:p≠s.heap.objs.size:=F8 hlt;have len:its.toArray.size=ns.length:=by rw[F1,<-rv.length,B6]
  have pos:0<ns.length:=S9.mpr ne;refine call_min_walk (A2d pl.isList ?_);refine⟨s.heap.objs.size,_,_,_,_,_,_,rfl,(Walks.list (A:=X.A.in1) (I.ok.hd hc) s.heap.objs.size p hne its.toArray),⟨⟨_,D3 _ rfl,rfl,rfl⟩,?_⟩,?_,by rw[len];exact pos,CmpOf.ints_lt (λi=>ns.getD i 0) (LW rv),?_⟩
  ·exact pl.isList.at λo e=>B9 _ e
  ·intro b hb;show b<(s.heap.push _).objs.size;rw[O9];rcases C1.mp hb with rfl|hb
   ·exact U2 _
   ·rcases C1.mp hb with rfl|hb
    ·exact W5 hlt
    ·cases hb
  ·intro v h' tk hP kk;have I2:Inv X pins σ H {s with heap:=h',toks:=tk}:=I.kept λb o e=>kk b o (by intro z;exact F8 (D6 e) (by simpa using z)) (B9 _ e);obtain⟨t,rfl⟩:=LW rv _ _ hP;obtain⟨b1,b2⟩:=argBest_lt (λi=>ns.getD i 0) (its.toArray.size-1);generalize argBest (λi j=>decide (ns.getD i 0<ns.getD j 0)) (its.toArray.size-1)=z at b1 b2 hP⊢;rw[len]at b1 b2;have hz2:z<ns.length:=by lia
   have ez:ns.getD z 0=ns[z]:=by rw[D7,C5 hz2];rfl
   refine⟨.int _,H,I2,⟨t,rfl⟩,q _ (by rw[ez];exact R6 hz2) λx hx=>?_⟩;obtain⟨j,hj,e⟩:=W0.mp hx;have:=b2 j A0;have ej:ns.getD j 0=x:=by rw[D7,C5 hj,<-e];rfl
   rw[<-ej];exact this
theorem Qh(hc:X.calm=true):Ga X (.builtin "max") (λxs H Q=>∃(p:Addr)(ns:List Int),xs=[.ref p]/\SqL X.K H p (ns.map V.int)/\ns≠[]/\∀m∈ns,(∀x∈ns,x<=m)->Q (.int m) H):=by
 intro pins s σ H xs us Q I r h;obtain⟨p,ns,rfl,hq,ne,q⟩:=h;cases r with
 |cons r1 r2 =>
  cases r2;cases(show _=Value.ref p from r1);obtain⟨its,rv,pl,hz⟩:=I.list hq;have hlt:p<s.heap.objs.size:=by obtain⟨o,n,e,_⟩:=pl;exact D6 e
  have hne:p≠s.heap.objs.size:=F8 hlt;have len:its.toArray.size=ns.length:=by rw[F1,<-rv.length,B6]
  have pos:0<ns.length:=S9.mpr ne;refine call_max_walk (A2d pl.isList ?_);refine⟨s.heap.objs.size,_,_,_,_,_,_,rfl,(Walks.list (A:=X.A.in1) (I.ok.hd hc) s.heap.objs.size p hne its.toArray),⟨⟨_,D3 _ rfl,rfl,rfl⟩,?_⟩,?_,by rw[len];exact pos,CmpOf.ints_gt (λi=>ns.getD i 0) (LW rv),?_⟩
  ·exact pl.isList.at λo e=>B9 _ e
  ·intro b hb;show b<(s.heap.push _).objs.size;rw[O9];rcases C1.mp hb with rfl|hb
   ·exact U2 _
   ·rcases C1.mp hb with rfl|hb
    ·exact W5 hlt
    ·cases hb
  ·intro v h' tk hP kk;have I2:Inv X pins σ H {s with heap:=h',toks:=tk}:=I.kept λb o e=>kk b o (by intro z;exact F8 (D6 e) (by simpa using z)) (B9 _ e);obtain⟨t,rfl⟩:=LW rv _ _ hP;obtain⟨b1,b2⟩:=argBest_gt (λi=>ns.getD i 0) (its.toArray.size-1);generalize argBest (λi j=>decide (ns.getD i 0 > ns.getD j 0)) (its.toArray.size-1)=z at b1 b2 hP⊢;rw[len]at b1 b2;have hz2:z<ns.length:=by lia
   have ez:ns.getD z 0=ns[z]:=by rw[D7,C5 hz2];rfl
   refine⟨.int _,H,I2,⟨t,rfl⟩,q _ (by rw[ez];exact R6 hz2) λx hx=>?_⟩;obtain⟨j,hj,e⟩:=W0.mp hx;have:=b2 j A0;have ej:ns.getD j 0=x:=by rw[D7,C5 hj,<-e];rfl
   rw[<-ej];exact this
end
section
variable{X:Cx}
end
section
variable{prog:Program}{w:World}{κ:Type}[DecidableEq κ]{knd:HeapKind prog w κ}{A:Around}{E:Value->Shared->Prop}{s:Shared}
end
section
variable{X:Cx}{pins:List (Addr×Obj)}{σ:St}{H:Hp}{s:Shared}{a:Addr}{y v:V}{u r:Value}{o:Option V}{A:Around}{E:Value->Shared->Prop}
end
section
variable{X:Cx}{o e f:Expr}{apos cpos:Pos}{td ty tx:TE}
end
section
variable{prog:Program}{w:World}{A:Around}{E:Value->Shared->Prop}{s:Shared}{d it:Addr}{o:Obj}{es:Array DictEntry}{ep i:Nat}
theorem Sc{Q:Value->Shared->Prop}(hd:(d==sysModules)=false)(ho:s.heap.get? d=some o)(hc:o.ExactDict)(da:o.data=.dict es ep)
  (q:Q (.ref s.heap.objs.size) {s with heap:=s.heap.push {cls:=.type "dict_keyiterator",data:=.fields #[.ref d,.int 0 0,.int es.size 0,.int ep 0]} }):wpAny (model prog w) A (pyIter (.ref d)) Q E s:=by
 have hT:s.TypeIs (.ref d) "dict" := ⟨o,ho,hc.1⟩
 refine wpAny_pyIter_slot hT F.slot_dict_iter (A0a F.slot_dict_iter hT F.entry_dict_iter ?_ (F.args_dict_iter_1 _));unfold Builtin.«dict.__iter__»;refine W9 ?_;unfold Builtin.Dict.dictSlotNone;refine W9 (wpAny_notOrdered_dict hT ?_);show wpAny _ _ (pure (Value.ref d)) _ _ s;refine Z1 ?_;show wpAny _ _ (Builtin.Dict.showsAll d >>= _) _ _ s;unfold Builtin.Dict.showsAll;rw[Y4 (by rw[hd];exact C8)];refine W9 (Z1 ?_);refine W9 (wpAny_dictEntries ho da ?_);refine W9 (wpAny_dictEpoch ho da ?_);refine W9 (A1c (Z1 ⟨_,rfl,"dict_keyiterator",_,⟨_,D3 _ rfl,rfl⟩,F.slot_dict_keyiterator_next.lookup,?_⟩));simpa[rawInt] using q
theorem Yn{Q:Option Value->Shared->Prop}(hit:s.heap.IsKeyIter it d i es.size ep)(ho:s.heap.get? d=some o)(da:o.data=.dict es ep)(hi:i<es.size)
  (q:∀h',h'.IsKeyIter it d (i+1) es.size ep->Heap.SameBut it s.heap h'->Q (some es[i].key) {s with heap:=h'}):wpAny (model prog w) A (pyNext (.ref it)) Q E s:=by
 obtain⟨io,hio,ic,idt⟩:=id hit;unfold pyNext;refine W9 (A1f (wpAny_callSpecial?_slot (name:=Str.ofString "__next__") hit.typeIs A1a (A0a A1a hit.typeIs F.entry_dict_keyiterator_next ?_ (F.args_dict_keyiterator_next_1 _))));refine W9 (Z1 ?_);refine W9 ?_;refine W9 ?_
 (first|refine W9 (A0e hit.typeIs (Z1 ?_))|refine W9 (A1h hit.typeIs (Z1 ?_)));refine W9 (wpAny_fieldsOf hio idt ?_)
 have hown:Builtin.Dict_items.ownsTuple "dict_keyiterator" = false:=A4;simp only[hown,N6,A1d];show wpAny _ _ (if(Value.ref d==Value.none)=true then _ else _) _ _ s;rw[Y4 (show ¬((Value.ref d==Value.none)=true)from C8)];refine W9 (Z1 ?_);refine W9 (wpAny_dictEntries ho da ?_);rw[Y4 A6];refine W9 (Z1 ?_);refine W9 (wpAny_dictEpoch ho da ?_);rw[Y4 A6];refine Z1 ?_;simp only[show ¬((i:Int)<0)from by lia,A1d,L6,Array.getElem?_eq_getElem hi];refine W9 ?_
 (first|refine W9 (A0e hit.typeIs (Z1 ?_))|refine W9 (A1h hit.typeIs (Z1 ?_)));refine W9 (wpAny_isOneOf_keyiter hit.typeIs ?_)
 show wpAny _ _ (setField (.ref it) 1 (rawInt ((i:Int)+1)) >>= _) _ _ s;refine W9 (A4d hio idt A6 ?_);have next:(s.heap.update it (Obj.mapFields (·.setIfInBounds 1 (rawInt ((i:Int)+1))))).IsKeyIter it d (i+1) es.size ep:=⟨_,V8 _ hio (Obj.isFreed_of_fields (A3a idt _)),(Obj.cls_mapFields ..).trans ic,by rw[A3a idt];simp[rawInt]⟩
 refine W9 (A1b ?_);refine W9 (wpAny_isOneOf_keyiter (s:={s with heap:=s.heap.update it (Obj.mapFields (·.setIfInBounds 1 (rawInt ((i:Int)+1))))}) next.typeIs ?_);show wpAny _ _ (pure es[i].key) _ _ _;exact Z1 (Z1 ⟨_,rfl,Z1 (q _ next (A2g ..))⟩)
theorem raw_end{Q:Option Value->Shared->Prop}(hh:A.handled=none)(hit:s.heap.IsKeyIter it d i es.size ep)(ho:s.heap.get? d=some o)(da:o.data=.dict es ep)(hi:es.size<=i)
  (q:∀h',Heap.ExtBut it s.heap h'->Q none {s with heap:=h'}):wpAny (model prog w) A (pyNext (.ref it)) Q E s:=by
 obtain⟨io,hio,ic,idt⟩:=id hit;unfold pyNext;refine W9 (A1f (wpAny_callSpecial?_slot (name:=Str.ofString "__next__") hit.typeIs A1a (A0a A1a hit.typeIs F.entry_dict_keyiterator_next ?_ (F.args_dict_keyiterator_next_1 _))));refine W9 (Z1 ?_);refine W9 ?_;refine W9 ?_
 (first|refine W9 (A0e hit.typeIs (Z1 ?_))|refine W9 (A1h hit.typeIs (Z1 ?_)));refine W9 (wpAny_fieldsOf hio idt ?_)
 have hown:Builtin.Dict_items.ownsTuple "dict_keyiterator" = false:=A4;simp only[hown,N6,A1d];show wpAny _ _ (if(Value.ref d==Value.none)=true then _ else _) _ _ s;rw[Y4 (show ¬((Value.ref d==Value.none)=true)from C8)];refine W9 (Z1 ?_);refine W9 (wpAny_dictEntries ho da ?_);rw[Y4 A6];refine W9 (Z1 ?_);refine W9 (wpAny_dictEpoch ho da ?_);rw[Y4 A6];refine Z1 ?_;simp only[show ¬((i:Int)<0)from by lia,A1d,L6,Array.getElem?_eq_none hi];refine W9 ?_
 (first|refine W9 (A0e hit.typeIs (Z1 ?_))|refine W9 (A1h hit.typeIs (Z1 ?_)))
 show wpAny _ _ (setField (.ref it) 0 .none >>= _) _ _ s;refine W9 (A4d hio idt A6 ?_);show wpAny _ _ (newExc (.type "StopIteration") [] >>= _) _ _ _;refine W9 ?_;simp only[newExc,newTuple];refine W9 (A1c ?_ (by size_fits));refine W9 (m:=firstArgMember _ _) (wpAny_of_eq (a:=Value.none) (by first|rfl|(simp only[firstArgMember];rfl)) ?_);refine A1c ?_ (by size_fits);simp only[raiseNew];refine W9 (wpAny_handled ?_);rw[show A.in1.handled=none from hh];refine W9 (Z1 (wpAny_throw ?_));refine W9 (wpAny_isInstance (T:="StopIteration") (b:=true) ⟨_,D3 _ rfl,rfl⟩ isSubtype_stop ?_);exact Z1 (q _ (((A2g ..).extBut.push _).push _))
end
def Itd(a:Addr)(o:Obj)(kvs:List (List Key×V)):It :=
 ⟨λi H=>H a=some (.frz o (.dT kvs))/\i<kvs.length,λi H x H'=>H'=H/\∃b k v,x=.ref b/\kvs[i]?=some (k,v)/\H b=some (.tup (k.map kV)),λi H=>H a=some (.frz o (.dT kvs))/\kvs.length<=i⟩
theorem Zr{P:Program}{w:World}{H:Hp}{h:Heap}{a:Addr}{o:Obj}{kvs:List (List Key×V)}(ok:HOk P w H h)(e:H a=some (.frz o (.dT kvs))) :
  h.get? a=some o/\∃(xs:List (List Key×Addr×Value))(es:Array DictEntry)(ep:Nat),KT H kvs xs/\o.data=.dict es ep/\es.toList=xs.map (entryOfKey (tupleKind (Ck P w))):=by
 obtain⟨e1,z,y,xs,r,o',es,ep,h1,h2,h3,h4,h5⟩:=(show BI P w H h a (.frz o (.dT kvs))from ok a _ e)
 rw[e1]at h1;cases h1;exact⟨e1,xs,es,ep,r,h3,h4⟩
theorem KT.at_{H:Hp}:∀{kvs:List (List Key×V)}{xs:List (List Key×Addr×Value)}{i:Nat}{x:List Key×Addr×Value},KT H kvs xs->xs[i]?=some x->∃v,kvs[i]?=some (x.1,v)/\H x.2.1=some (.tup (x.1.map kV)):=by
 intro kvs xs i x r;induction r generalizing i with
 |nil=>intro e;simp at e
 |@cons p q ps qs h t ih =>
  intro e;cases i with
  |zero =>
   have e:q=x:=by simpa using e
   subst e;obtain⟨h1,h2,_⟩:=h;exact⟨p.2,by rw[List.getElem?_cons_zero,<-h1],by rw[<-h1];exact h2⟩
  |succ i =>
   obtain⟨v,e1,e2⟩:=ih (i:=i) (by simpa using e);exact⟨v,by simpa using e1,e2⟩
theorem NT{P:Program}{w:World}{K:PySem.W.Frag}{tg:Expr}(a it:Addr)(o:Obj)(kvs:List (List Key×V))(es:Array DictEntry)(ep:Nat)(da:o.data=.dict es ep)(hz:es.size=kvs.length):Pq P w K tg (Itd a o kvs) [it] it (λi h=>h.IsKeyIter it a i es.size ep) where
 mem:=by simp
 obj:=λi h st b hb=>by
  obtain rfl:b=it:=by simpa using hb
  obtain⟨o,e,c,d⟩:=st;exact⟨o,e,λv z=>(by rw[d]at z;cases z)⟩
 keep:=λi h h' st k=>st.at λo e=>k it A6 o e
 item:=by
  intro X hP hw hK hc i pins s σ H E I hf st hg;subst hP hw hK;obtain⟨hq,hi⟩:=hg;obtain⟨ga,xs,es',ep',kt,da',el⟩:=Zr I.hok hq;rw[da]at da';cases da';have hi':i<es.size:=by lia
  obtain⟨f0,f1,f2,f3,f4,f5⟩:=hf it A6;refine Yn st ga da hi' λh' st' sb=>?_;have I1:Inv X pins σ H {s with heap:=h'}:=I.turned (t':=s.toks) (λb o hb e=>(sb.2 b hb).trans e) f0 f1 f3 f4 f5
  have lx:i<xs.length:=by rw[<-size_of_entries el];exact hi'
  obtain⟨v,e1,e2⟩:=KT.at_ kt (C5 lx);have ek:es[i].key=.ref xs[i].2.1:=by
   have:=entry_at el i;rw[Array.getElem?_eq_getElem hi',C5 lx]at this;rw[Z5 this];rfl
  obtain⟨q,e,c,d⟩:=id st';exact⟨_,rfl,SM (s:={s with heap:=h'}) e c d A4 ⟨.ref xs[i].2.1,H,I1,ek,⟨rfl,_,_,v,rfl,e1,e2⟩,st',λb hb=>(hf b hb).1⟩⟩
 done:=by
  intro X hP hw hK hc i pins s σ H E I hf st hg;subst hP hw hK;obtain⟨hq,hi⟩:=hg;obtain⟨ga,_⟩:=Zr I.hok hq;obtain⟨f0,f1,f2,f3,f4,f5⟩:=hf it A6;exact raw_end (I.ok.hd hc) st ga da A0 λh' eb=>⟨rfl,I.turned (t':=s.toks) (λb o hb e=>eb b o hb e) f0 f1 f3 f4 f5⟩
 self:=λ_ _ _ _ _ st h=>wpAny_pyIter_keyiter st h
theorem for_dT{a:Addr}{o:Obj}{kvs:List (List Key×V)}{g:TG}{tb:TS}{D:Ml}{σ:St}{H:Hp}(Pv:Nat->St->Hp->Prop)(h0:Pv 0 σ H)(hl:∀i σ H,i<=kvs.length->Pv i σ H->H a=some (.frz o (.dT kvs)))
  (hs:∀i b k v σ H,kvs[i]?=some (k,v)->H b=some (.tup (k.map kV))->Pv i σ H->g (.ref b) σ H fun σ2 H2=>tb {D with nx:=Pv (i+1),ct:=Pv (i+1),bk:=D.nx} σ2 H2) (hd:∀σ H,Pv kvs.length σ H->D.nx σ H) :
  ∃W:Nat->Nat->St->Hp->Prop,(∃m,W 0 m σ H)/\∀i m σ H,W i m σ H ->
   ((Itd a o kvs).stop i H/\D.nx σ H)\/((Itd a o kvs).go i H/\∃N:St->Hp->Prop,(∀σ' H',N σ' H'->∃m',m'<m/\W (i+1) m' σ' H')/\∀x H',(Itd a o kvs).yld i H x H'->g x σ H' fun σ2 H2=>tb {D with nx:=N,ct:=N,bk:=D.nx} σ2 H2):=by
 refine⟨λi m σ H=>m=kvs.length-i/\i<=kvs.length/\Pv i σ H,⟨kvs.length,by simp,J8 _,h0⟩,?_⟩;rintro i m σ H ⟨rfl,hi,p⟩;have e:=hl i σ H hi p;by_cases hlt:i<kvs.length
 ·refine .inr ⟨⟨e,hlt⟩,Pv (i+1),fun σ' H' z=>⟨_,by lia,rfl,by lia,z⟩,?_⟩;rintro x H' ⟨rfl,b,k,v,rfl,e1,e2⟩;exact hs i b k v σ _ e1 e2 p
 ·have hi':i=kvs.length:=by lia
  subst hi';exact .inl ⟨⟨e,C0 _⟩,hd σ H p⟩
section
variable{X:Cx}
def CDivB(i j:Int):Prop:=0<j/\j<2^64
theorem Sk:OpR X (binaryOp .FloorDiv) (rI CDivB λi j=>.int (i/j)):=opI λi j _ _ _ _ _ hc q=>by
 have h1:(0:Int)<j:=hc.1;have h2:j<2^64:=hc.2;refine floordiv_int A0 (by rw[T6 i A0];exact q) (.inl (PyProof.noPylong_of_log2 ?_));have h3:j.natAbs<2^64:=by lia
 exact F2 ((Nat.log2_lt A0).mpr h3) A4
end
end L2
namespace L2
open PySem PySem.W PyProof.Rows
section
variable{rk:Nat->Int}{n:Nat}
def rkC(rk:Nat->Int)(n i j:Nat)(C:Bool->Shared->Prop)(s:Shared):Prop:=i<n/\j<n/\C (decide (rk i<rk j)) s
structure Cp(n:Nat)(p:Array Nat):Prop where
 sz:p.size=n
 pm:p.Perm (List.range n).toArray
def kk(rk:Nat->Int)(p:Array Nat)(i:Nat):Int:=rk (p.getD i 0)
theorem Cp.lt{p:Array Nat}(h:Cp n p){i:Nat}(hi:i<n):p.getD i 0<n:=by
 have hs:i<p.size:=by rw[h.sz];exact hi
 have e:p.getD i 0=p[i]:=by simp[Array.getD,hs]
 have m:p[i]∈p:=Array.getElem_mem hs;have:=(Array.Perm.mem_iff h.pm).mp m;rw[e]
 simpa using this
theorem Cp.rev{p:Array Nat}(h:Cp n p)(i j:Nat):Cp n (kas_rev p i j):=⟨(mirror_size _ _ _ _).trans h.sz,(mirror_perm _ _ _ _).trans h.pm⟩
theorem Cp.bub{p:Array Nat}(h:Cp n p)(i j:Nat):Cp n (bubble p i j):=⟨(bubble_size _ _ _).trans h.sz,(bubble_perm _ _ _).trans h.pm⟩
theorem gd(p:Array Nat)(i:Nat):p.getD i 0=p[i]?.getD 0:=by
 simp
theorem Rf{p:Array Nat}(h:Cp n p){i j:Nat}(hj:j<=n)(k:Nat):kk rk (kas_rev p i j) k=if i<=k/\k<j then kk rk p (i+j-1-k)else kk rk p k:=by
 have e:=getElem?_mirror_all (xs:=p) (i:=i) (by rw[h.sz];exact hj) k;unfold kk kas_rev;rw[gd,e];split<;>rw[gd]
theorem Zd{p:Array Nat}(h:Cp n p){src d:Nat}(hs:src<n)(hd:d<=src)(k:Nat):kk rk (bubble p src d) k=if k=src-d then kk rk p src else if src-d<k/\k<=src then kk rk p (k-1)else kk rk p k:=by
 have e:=getElem?_bubble (xs:=p) (by rw[h.sz];exact hs) d hd k;unfold kk;rw[gd,e];split
 ·rw[gd]
 ·split<;>rw[gd]
def Up(rk:Nat->Int)(p:Array Nat)(m:Nat):Prop:=∀i j,i<=j->j<m->kk rk p i<=kk rk p j
def Dn(rk:Nat->Int)(p:Array Nat)(m:Nat):Prop:=∀i j,i<=j->j<m->kk rk p j<=kk rk p i
theorem Up.step{p:Array Nat}{m:Nat}(h:Up rk p m)(h1:1<=m)(q:kk rk p (m-1)<=kk rk p m):Up rk p (m+1):=λi j ij hj=>by
 rcases P7.mp hj with z|z
 ·exact h i j ij z
 ·subst z;rcases Nat.lt_or_ge i j with y|y
  ·exact Int.le_trans (h i (j-1) A0 A0) q
  ·have:i=j:=by lia
   subst this;exact R4 _
theorem Dn.step{p:Array Nat}{m:Nat}(h:Dn rk p m)(h1:1<=m)(q:kk rk p m<=kk rk p (m-1)):Dn rk p (m+1):=λi j ij hj=>by
 rcases P7.mp hj with z|z
 ·exact h i j ij z
 ·subst z;rcases Nat.lt_or_ge i j with y|y
  ·exact Int.le_trans q (h i (j-1) A0 A0)
  ·have:i=j:=by lia
   subst this;exact R4 _
theorem Uq{p:Array Nat}(pn:Cp n p):∀{f m:Nat}{s:Shared}{Q:Nat->Shared->Prop},1<=m->m+f<=n->Up rk p m->(∀r,m<=r->r<=m+f->Up rk p r->(r<m+f->kk rk p r<kk rk p (r-1))->Q r s)->(kas_asc p f m).kasWp (rkC rk n) Q s
 |0,m,s,Q,h1,hf,up,k=>k m (C0 _) (C0 _) up λz=>absurd z (O2 _)
 |f+1,m,s,Q,h1,hf,up,k=>by
  refine⟨pn.lt A0,pn.lt A0,?_⟩;by_cases c:kk rk p m<kk rk p (m-1)
  ·rw[Y5 (show rk (p.getD m 0)<rk (p.getD (m-1) 0)from c)];dsimp only;rw[Y7 rfl];exact k m (C0 _) A0 up λ_=>c
  ·rw[Z0 (show ¬rk (p.getD m 0)<rk (p.getD (m-1) 0)from c)];dsimp only;rw[Y4 A6];exact Uq pn A0 A0 (up.step h1 A0) λr h2 h3 h4 h5=>k r A0 A0 h4 λz=>h5 A0
theorem On{p:Array Nat}(pn:Cp n p){m q:Nat}(hm:m<=n)(hq:q+1<=m)(eq:∀i,m-(q+1)<=i->i<m->kk rk p i=kk rk p (m-1))(k:Nat):kk rk (kas_rev p (m-(q+1)) m) k=kk rk p k:=by
 rw[Rf pn hm];split
 ·rename_i z;rw[eq _ A0 A0,eq k z.1 z.2]
 ·rfl
theorem NO:∀{f m q:Nat}{p:Array Nat}{s:Shared}{Q:Array Nat×Nat×Nat->Shared->Prop},Cp n p->q+1<=m->m+f<=n->Dn rk p m->(∀i,m-(q+1)<=i->i<m->kk rk p i=kk rk p (m-1)) ->
  (∀p' m' q',Cp n p'->q'+1<=m'->m'<=n->Dn rk p' m'->(∀i,m'-(q'+1)<=i->i<m'->kk rk p' i=kk rk p' (m'-1))->Q (p',m',q') s)->(kas_desc f p m q).kasWp (rkC rk n) Q s
 |0,m,q,p,s,Q,pn,hq,hf,dn,eq,k=>k p m q pn hq hf dn eq
 |f+1,m,q,p,s,Q,pn,hq,hf,dn,eq,k=>by
  refine⟨pn.lt A0,pn.lt A0,?_⟩;have one:∀{p':Array Nat},∀i,m+1-(0+1)<=i->i<m+1->kk rk p' i=kk rk p' (m+1-1):=λi h1 h2=>by
   have:i=m+1-1:=by lia
   rw[this]
  by_cases c:kk rk p m<kk rk p (m-1)
  ·rw[Y5 (show rk (p.getD m 0)<rk (p.getD (m-1) 0)from c)];dsimp only;rw[Y7 rfl];by_cases hq0:q > 0
   ·rw[Y7 hq0];have same:=On pn A0 hq eq;refine NO (pn.rev _ _) A0 A0 ?_ one k;refine Dn.step (λi j ij hj=>?_) A0 ?_
    ·rw[same i,same j];exact dn i j ij hj
    ·rw[same m,same (m-1)];lia
   ·rw[Y4 hq0];exact NO pn A0 A0 (dn.step A0 A0) one k
  ·rw[Z0 (show ¬rk (p.getD m 0)<rk (p.getD (m-1) 0)from c)];dsimp only;rw[Y4 A6];refine⟨pn.lt A0,pn.lt A0,?_⟩;by_cases d:kk rk p (m-1)<kk rk p m
   ·rw[Y5 (show rk (p.getD (m-1) 0)<rk (p.getD m 0)from d)];dsimp only;rw[Y7 rfl];exact k p m q pn hq A0 dn eq
   ·rw[Z0 (show ¬rk (p.getD (m-1) 0)<rk (p.getD m 0)from d)];dsimp only;rw[Y4 A6];have e:kk rk p m=kk rk p (m-1):=by lia
    refine NO pn A0 A0 (dn.step A0 A0) (λi h1 h2=>?_) k;rw[Nat.add_sub_cancel];by_cases z:i=m
    ·rw[z]
    ·rw[eq i A0 A0,e]
theorem Uy{m:Nat}{p:Array Nat}{s:Shared}{Q:Nat×Array Nat->Shared->Prop}(pn:Cp n p)(h1:1<=m)(hm:m<=n)(dn:Dn rk p m)(k:∀r p',Cp n p'->r<=n->1<=r->Up rk p' r->Q (r,p') s):(kas_tail3 m n p).kasWp (rkC rk n) Q s:=by
 unfold kas_tail3;rw[KasT.kasWp_bind];refine Uq (pn.rev _ _) h1 A0 (λi j ij hj=>?_) λr h2 h3 h4 _=>k r _ (pn.rev _ _) A0 A0 h4;rw[Rf pn hm,Rf pn hm,Y7 ⟨by lia,by lia⟩,Y7 ⟨by lia,by lia⟩];exact dn _ _ A0 A0
theorem UU{m:Nat}{p:Array Nat}{s:Shared}{Q:Nat×Array Nat->Shared->Prop}(pn:Cp n p)(hm:m+1<=n)(dn:Dn rk p (m+1))(k:∀r p',Cp n p'->r<=n->1<=r->Up rk p' r->Q (r,p') s):(kas_descPart m n p).kasWp (rkC rk n) Q s:=by
 unfold kas_descPart;rw[KasT.kasWp_bind];refine NO pn A0 A0 dn (λi h1 h2=>?_) λp' m' q' pn' hq hm' dn' eq=>?_
 ·have:i=m+1-1:=by lia
  rw[this]
 ·dsimp only;split
  ·refine Uy (pn'.rev _ _) A0 hm' (λi j ij hj=>?_) k;rw[On pn' hm' hq eq,On pn' hm' hq eq];exact dn' i j ij hj
  ·exact Uy pn' A0 hm' dn' k
theorem ZC{p:Array Nat}{s:Shared}{Q:Nat×Array Nat->Shared->Prop}(pn:Cp n p)(hn:1<=n)(k:∀r p',Cp n p'->r<=n->1<=r->Up rk p' r->Q (r,p') s):(kas_count n p).kasWp (rkC rk n) Q s:=by
 unfold kas_count;rw[KasT.kasWp_bind];have up1:Up rk p 1:=λi j ij hj=>by
  have h1:i=0:=by lia
  have h2:j=0:=by lia
  rw[h1,h2];exact R4 _
 refine Uq pn (C0 _) A0 up1 λr h1 h2 up hs=>?_;by_cases e:r=n
 ·rw[Y7 (by simpa using e)];exact k r p pn A0 h1 up
 ·rw[Y4 (by simpa using e)];have hlt:=hs A0;by_cases h3:r > 1
  ·rw[Y7 h3];refine⟨pn.lt A0,pn.lt A0,?_⟩;by_cases c:kk rk p 0<kk rk p (r-1)
   ·rw[Y5 (show rk (p.getD 0 0)<rk (p.getD (r-1) 0)from c)];dsimp only;rw[Y7 rfl];exact k r p pn A0 h1 up
   ·rw[Z0 (show ¬rk (p.getD 0 0)<rk (p.getD (r-1) 0)from c)];dsimp only;rw[Y4 A6];have all:∀i,i<r->kk rk p i=kk rk p (r-1):=λi hi=>by
     have a:=up 0 i A0 hi;have b:=up i (r-1) A0 A0;lia
    have same:∀i,kk rk (kas_rev p 0 r) i=kk rk p i:=λi=>by
     rw[Rf pn A0];split
     ·rw[all _ A0,all i A0]
     ·rfl
    refine UU (pn.rev _ _) A0 (Dn.step (λi j ij hj=>?_) A0 ?_) k
    ·rw[same,same,all i A0,all j hj];exact R4 _
    ·rw[same,same];lia
  ·rw[Y4 h3];have:r=1:=by lia
   subst this;refine UU pn A0 (Dn.step (λi j ij hj=>?_) A0 A0) k;have h1:i=0:=by lia
   have h2:j=0:=by lia
   rw[h1,h2];exact R4 _
theorem Op{p:Array Nat}{k:Nat}(pn:Cp n p)(hk:k<n):∀{f l r:Nat}{s:Shared}{Q:Nat->Shared->Prop},l<=r->r<=k->r<=l+f->Up rk p k->(∀i,i<l->kk rk p i<=kk rk p k)->(∀i,r<=i->i<k->kk rk p k<=kk rk p i) ->
  (∀t,t<=k->(∀i,i<t->kk rk p i<=kk rk p k)->(∀i,t<=i->i<k->kk rk p k<=kk rk p i)->Q t s)->(kas_place p k f l r).kasWp (rkC rk n) Q s
 |0,l,r,s,Q,h1,h2,h3,up,a,b,c=>by
  have:l=r:=by lia
  subst this;exact c l h2 a b
 |f+1,l,r,s,Q,h1,h2,h3,up,a,b,c=>by
  unfold kas_place;by_cases e:l ≥ r
  ·rw[Y7 e];have:l=r:=by lia
   subst this;exact c l h2 a b
  ·rw[Y4 e];refine⟨pn.lt hk,pn.lt A0,?_⟩;by_cases d:kk rk p k<kk rk p ((l+r)/2)
   ·rw[Y5 (show rk (p.getD k 0)<rk (p.getD ((l+r)/2) 0)from d)];dsimp only;rw[Y7 rfl];refine Op pn hk A0 A0 A0 up a (λi hi hk'=>?_) c;have:=up ((l+r)/2) i hi hk';lia
   ·rw[Z0 (show ¬rk (p.getD k 0)<rk (p.getD ((l+r)/2) 0)from d)];dsimp only;rw[Y4 A6];refine Op pn hk A0 A0 A0 up (λi hi=>?_) b c;have:=up i ((l+r)/2) A0 A0;lia
theorem ZE:∀{f k:Nat}{p:Array Nat}{s:Shared}{Q:Array Nat->Shared->Prop},Cp n p->k+f=n->Up rk p k->(∀p',Cp n p'->Up rk p' n->Q p' s)->(kas_bin f p k).kasWp (rkC rk n) Q s
 |0,k,p,s,Q,pn,e,up,c=>c p pn (by rw[<-e];exact up)
 |f+1,k,p,s,Q,pn,e,up,c=>by
  unfold kas_bin;rw[KasT.kasWp_bind];refine Op pn A0 (J8 _) (C0 _) A0 up (λi hi=>absurd hi (M0 _)) (λi h1 h2=>absurd h2 A0) λt ht a b=>?_;refine ZE (pn.bub _ _) A0 (λi j ij hj=>?_) c;rw[Zd pn A0 A0,Zd pn A0 A0,show k-(k-t)=t by lia];by_cases i1:i=t
  ·rw[Y7 i1];by_cases j1:j=t
   ·rw[Y7 j1];exact R4 _
   ·rw[Y4 j1,Y7 ⟨by lia,by lia⟩];exact b _ A0 A0
  ·rw[Y4 i1];by_cases i2:t<i/\i<=k
   ·rw[Y7 i2,Y4 A0,Y7 ⟨by lia,by lia⟩];exact up _ _ A0 A0
   ·rw[Y4 i2];by_cases j1:j=t
    ·rw[Y7 j1];exact a i A0
    ·rw[Y4 j1];by_cases j2:t<j/\j<=k
     ·rw[Y7 j2];exact up _ _ A0 A0
     ·rw[Y4 j2];exact up _ _ ij A0
theorem sort_wp{s:Shared}{Q:Array Nat->Shared->Prop}(hn:1<=n)(c:∀p',Cp n p'->Up rk p' n->Q p' s):(kas_sort n).kasWp (rkC rk n) Q s:=by
 unfold kas_sort;rw[KasT.kasWp_bind];refine ZC ⟨by simp,Array.Perm.refl _⟩ hn λr p' pn hr h1 up=>?_;dsimp only;split
 ·rw[show max r 1=r by lia];exact ZE pn A0 up c
 ·have:r=n:=by lia
  subst this;exact c p' pn up
theorem rk_wp{α:Type}{cmp:Nat->Nat->(Bool->Shared->Prop)->Shared->Prop}{s:Shared}(h:∀i j C,i<n->j<n->C (decide (rk i<rk j)) s->cmp i j C s):∀{t:KasT α}{Q:α->Shared->Prop},t.kasWp (rkC rk n) Q s->t.kasWp cmp Q s
 |.ret _,_,q=>q
 |.ask _ _ _,_,⟨h1,h2,h3⟩=>h _ _ _ h1 h2 (rk_wp h h3)
end
end L2
namespace L2
open PySem PySem.W PySem.Spec PyProof.Rows
def EF:List Int->List Int->Bool
 |[],[]=>false
 |[],_::_=>true
 |_::_,[]=>false
 |a::as,b::bs=>if a=b then EF as bs else decide (a<b)
theorem OK:∀a,EF a a=false
 |[]=>rfl
 |a::as=>by unfold EF;rw[Y7 rfl];exact OK as
theorem LV:∀{a b c:List Int},EF a c=true->EF a b=true\/EF b c=true
 |[],[],_,h=>.inr h
 |[],_::_,_,_=>.inl rfl
 |_::_,_,[],h=>by cases h
 |a::as,[],c::cs,_=>.inr rfl
 |a::as,b::bs,c::cs,h=>by
  unfold EF at h⊢;by_cases ac:a=c
  ·subst ac;rw[Y7 rfl]at h;by_cases ab:a=b
   ·subst ab;rw[Y7 rfl,Y7 rfl];exact LV h
   ·rw[Y4 ab,Y4 (λz=>ab z.symm)];rcases Int.lt_or_gt_of_ne ab with z|z
    ·exact .inl (Y5 z)
    ·exact .inr (Y5 z)
  ·rw[Y4 ac]at h;have h:=X6 h;by_cases ab:a=b
   ·subst ab;rw[Y4 ac];exact .inr (Y5 h)
   ·rw[Y4 ab];by_cases z:a<b
    ·exact .inl (Y5 z)
    ·by_cases bc:b=c
     ·lia
     ·rw[Y4 bc];exact .inr (Y5 A0)
theorem YZ{a b:List Int}(h:EF a b=true):EF b a=false:=by
 cases e:EF b a with
 |false=>rfl
 |true =>
  rcases LV (b:=b) (show EF a b=true from h)with z|z
  ·
   have:EF a a=true\/EF a a=false:=by cases EF a a<;>simp
   exact absurd (lexI_two h e) A6
  ·rw[OK]at z;cases z
where lexI_two:∀{a b:List Int},EF a b=true->EF b a=true->false=true
 |[],[],h,_=>h
 |[],_::_,_,h=>h
 |_::_,[],h,_=>h
 |a::as,b::bs,h,h'=>by
  unfold EF at h h';by_cases ab:a=b
  ·subst ab;rw[Y7 rfl]at h h';exact lexI_two h h'
  ·rw[Y4 ab]at h;rw[Y4 (λz=>ab z.symm)]at h';have:=X6 h;have:=X6 h';lia
def rkOf(rows:List (List Int))(i:Nat):Int:=((rows.countP λr=>EF r (rows.getD i []):Nat):Int)
theorem Qd{α:Type}{p q:α->Bool}:∀{l:List α}{x:α},x∈l->(∀y,p y=true->q y=true)->p x=false->q x=true->l.countP p<l.countP q
 |y::l,x,hx,h,hp,hq=>by
  rw[U7,U7];have le:l.countP p<=l.countP q:=List.countP_mono_left λz _=>h z;rcases C1.mp hx with rfl|hx
  ·rw[hp,hq];simp only[N6,A1d,A2f];lia
  ·have:=Qd hx h hp hq;by_cases py:p y=true
   ·rw[py,h y py];lia
   ·rw[Y4 py];split<;>lia
theorem rk_iff{rows:List (List Int)}{i j:Nat}(hi:i<rows.length):decide (rkOf rows i<rkOf rows j)=EF (rows.getD i []) (rows.getD j []):=by
 have mi:rows.getD i []∈rows:=by
  rw[D7,C5 hi];exact R6 hi
 unfold rkOf;generalize rows.getD i []=a at *
 generalize rows.getD j []=b;cases h:EF a b with
 |true =>
  refine Y5 ?_;have:=Qd (p:=λr=>EF r a) (q:=λr=>EF r b) mi (λy hy=>?_) (OK a) h
  ·lia
  ·rcases LV (b:=b) hy with z|z
   ·exact z
   ·rw[YZ h]at z;cases z
 |false =>
  refine Z0 ?_;have:=List.countP_mono_left (l:=rows) (p:=λr=>EF r b) (q:=λr=>EF r a) λy _ hy=>?_
  ·lia
  ·rcases LV (b:=a) hy with z|z
   ·exact z
   ·rw[h]at z;cases z
section
variable{prog:Program}{w:World}{A:Around}{E:Value->Shared->Prop}
theorem Vg{b:Bool}{Q:Bool->Shared->Prop}{s:Shared}:∀{xs ys:List Int}{us vs:List Value}{i:Nat},AN (xs.map V.int) us->AN (ys.map V.int) vs->Q (EF xs ys) s->KatLex prog w A b (decide (xs.length<ys.length)) Q (us.zip vs) i s
 |[],[],_,_,i,.nil,.nil,q=>q
 |[],y::ys,_,_,i,.nil,.cons _ _,q=>by
  show Q (decide (0<ys.length+1)) s;rw[Y5 (Nat.succ_pos _)];exact q
 |x::xs,[],_,_,i,.cons _ _,.nil,q=>by
  show Q (decide (xs.length+1<0)) s;rw[Z0 (M0 _)];exact q
 |x::xs,y::ys,u::us,v::vs,i,.cons r1 t1,.cons r2 t2,q=>by
  obtain⟨t,rfl⟩:=(show ∃t,u=.int x t from r1)
  obtain⟨t',rfl⟩:=(show ∃t,v=.int y t from r2)
  refine wpAny_eqBool_int ?_;unfold EF at q;by_cases e:x=y
  ·subst e;rw[Y7 rfl]at q;simp only[beq_self_eq_true,A2f];have h:=Vg (b:=b) (i:=i+1) t1 t2 q;rw[show decide ((x::xs).length<(x::ys).length)=decide (xs.length<ys.length) by simp];exact h
  ·rw[Y4 e]at q;have e':(x==y)=false:=by simpa using e
   simp only[e',N6,A1d];cases b && i==0 with
   |true=>exact oneLt_int q
   |false =>
    exact kat_one _ _ (wpAny_lt_int q)
end
section
variable{X:Cx}
theorem Uv{H:Hp}{h:Heap}(ok:HOk X.prog X.w H h){items:List (Addr×List Int)}(hq:∀q∈items,H q.1=some (.tup (q.2.map V.int))/\q.2≠[]){i:Nat}(hi:i<items.length) :
  ∃(b:Addr)(o:Obj)(us:List Value)(m:Nat),(items.map λq=>Value.ref q.1).getD i Value.none=.ref b/\h.get? b=some o/\o.cls=.type "tuple" /\ o.data=.seq us.toArray m/\AN (((items.map (·.2)).getD i []).map V.int) us:=by
 have hm:=R6 hi;obtain⟨h1,h2⟩:=hq _ hm;obtain⟨_,its,r,o,e,c,n,d⟩:=(show BI X.prog X.w H h _ (.tup _)from ok _ _ h1)
 refine⟨_,o,its,n,?_,e,c,d,?_⟩
 ·rw[D7,B8,C5 hi];rfl
 ·rw[D7,B8,C5 hi];exact r
theorem PZ{H:Hp}{h:Heap}(ok:HOk X.prog X.w H h):∀{items:List (Addr×List Int)},(∀q∈items,H q.1=some (.tup (q.2.map V.int))/\q.2≠[])->∃fs:List Value,KatTups h (items.map λq=>Value.ref q.1) fs/\fs.length=items.length/\∀v∈fs,∃x t,v=.int x t
 |[],_=>⟨[],.nil,rfl,λv hv=>nomatch hv⟩
 |q::items,hq=>by
  obtain⟨fs,h1,h2,h3⟩:=PZ ok λq' hq'=>hq q' (C2 _ hq');obtain⟨e,ne⟩:=hq q (C3 ..);obtain⟨_,its,r,o,e1,c,n,d⟩:=(show BI X.prog X.w H h _ (.tup _)from ok _ _ e)
  match hx:q.2,ne with
  |x::xs,_ =>
   rw[hx]at r;cases r with
   |@cons _ u _ us r1 r2 =>
    obtain⟨t,rfl⟩:=(show ∃t,u=.int x t from r1)
    refine⟨.int x t::fs,.cons e1 c d A6 h1,by rw[D8,D8,h2],λv hv=>?_⟩;rcases C1.mp hv with rfl|hv
    ·exact⟨x,t,rfl⟩
    ·exact h3 v hv
end
end L2
namespace L2
open PySem PySem.W PySem.Spec PyProof.Rows
def iDictF(tl:TE):TI:=fun σ H R=>tl σ H λx H1=>∃a kvs,x=.ref a/\Rd H1 a (.dT kvs)/\∀o H2,H2 a=some (.frz o (.dT kvs))->(∀b u,H1 b=some u->b≠a->H2 b=some u)->R (Itd a o kvs) H2
theorem Yr{X:Cx}{tg l:Expr}{tl:TE}(hl:PE X l tl):PI X tg l (iDictF tl):=by
 intro pins s σ H R I h;refine thn (hl pins s σ H _ I h) λv s1 ⟨x,H1,I1,r1,q1⟩=>?_;obtain⟨a,kvs,e,ea,q⟩:=q1;subst e;cases r1;rcases ea with ea|⟨o,ea⟩
 ·obtain⟨z,y,xs,r,o,es,ep,h1,h2,h3,h4,h5⟩:=(show BI X.prog X.w H1 s1.heap a (.dT kvs)from I1.hok a _ ea)
  have hz:es.size=kvs.length:=by rw[size_of_entries h4,<-Z7 r]
  have I2:Inv X pins σ (upd H1 a (.frz o (.dT kvs))) s1:=Rn (t':=s1.toks) I1 (by rw[ea];exact True.intro) ⟨rfl,λ_ _=>rfl⟩ ⟨o,h1⟩ ⟨h1,z,y,xs,KT.keeps r λc ys ec=>(by rw[Au (AE ec ea (λz=>nomatch z))];exact ec),o,es,ep,h1,h2,h3,h4,h5⟩;refine Sc y h1 h2 h3 ?_;refine⟨s1.heap.objs.size,[s1.heap.objs.size],_,_,_,rfl,I2.kept (t':=s1.toks) λb o e=>B9 _ e,NT a _ o kvs es ep h3 hz,⟨_,D3 _ rfl,rfl,rfl⟩,λb hb=>?_,q o _ Af λb u e n=>by rw[Au n];exact e⟩;obtain rfl:b=s1.heap.objs.size:=by simpa using hb
  exact I2.fpOk (C0 _) (I2.hok.fresh (C0 _))
 ·obtain⟨h1,z,y,xs,r,o',es,ep,h1',h2,h3,h4,h5⟩:=(show BI X.prog X.w H1 s1.heap a (.frz o (.dT kvs))from I1.hok a _ ea)
  have eo:o=o':=Z5 (h1.symm.trans h1');subst eo;have hz:es.size=kvs.length:=by rw[size_of_entries h4,<-Z7 r]
  refine Sc y h1 h2 h3 ?_;refine⟨s1.heap.objs.size,[s1.heap.objs.size],_,_,_,rfl,I1.kept (t':=s1.toks) λb o e=>B9 _ e,NT a _ o kvs es ep h3 hz,⟨_,D3 _ rfl,rfl,rfl⟩,λb hb=>?_,q o _ ea λb u e n=>e⟩;obtain rfl:b=s1.heap.objs.size:=by simpa using hb
  exact I1.fpOk (C0 _) (I1.hok.fresh (C0 _))
section
variable{X:Cx}{CX:CXT}{k:Nat}{ps:List Str}{sp:Sp}{E:XK}{x:Str}{p pos:Pos}{e:Expr}{es:List Expr}{t:TA}{S:St->Prop}
end
section
variable{X:Cx}
end
section
variable{X:Cx}
end
section
variable{X:Cx}
end
section
variable{X:Cx}
end
end L2
namespace L2
open PySem PySem.W PySem.Spec PyProof.Rows
def NV:Sp:=λvs H Q _=>∃(t:Addr)(x y:Int)(r:List Int),vs=[.ref t]/\H t=some (.tup ((x::y::r).map V.int))/\∀u,H u=none->Q (.ref u) (upd H u (.tup [.int y,.int x]))
structure It3 where
 a:Addr
 x:Int
 y:Int
 r:List Int
def It3.ns(q:It3):List Int:=q.x::q.y::q.r
section
variable{X:Cx}{pins:List (Addr×Obj)}{σ:St}{H H':Hp}{s:Shared}{k:Nat}{f b:Addr}{fd:FuncData}{ps:List Str}
theorem Dq.stay(fp:Dq X pins H b)(hn:H' b=none):Dq X pins H' b:=⟨hn,fp.2⟩
theorem Dq.turn{h':Heap}{t':Nat}(fp:Dq X pins H b)(I:Inv X pins σ H s)(kp:∀c o,c≠b->s.heap.get? c=some o->h'.get? c=some o):Inv X pins σ H {s with heap:=h',toks:=t'} :=
 I.turned kp fp.1 fp.2.1 fp.2.2.2.1 fp.2.2.2.2.1 fp.2.2.2.2.2
theorem Dq.nost(fp:Dq X pins H b)(I:Inv X pins σ H s):b∉frs X.stack:=λz=>by
 rcases C1.mp (I.stkSub b z)with y|y
 ·exact fp.2.1 y
 ·exact fp.2.2.1 y
theorem Vh{A2:Around}{P:PySem.Fin->Shared->Prop}{E:Value->Shared->Prop}(I:Inv X pins σ H s){a kS:Addr}{e1 c:Nat}{ks out:Array Value}{st:SortSt}(fa:Dq X pins H a)(fS:Dq X pins H kS)(nka:kS≠a)(hk:s.heap.get? kS=some (seqObj "list" ks c))(ha:s.heap.get? a=some (seqObj "list" #[] e1))(eo:(arrOf st).map (·.2)=out)(hf:failedOf st=none)(hz:out.size<=sizeLine)(kz:ks.size<=sizeLine)
  (fin:∀(h':Heap)(c':Nat),Inv X pins σ H {s with heap:=h'}->h'.get? a=some (seqObj "list" out c')->P (.done (.ret .none)) {s with heap:=h'}):wpAny (model X.prog X.w) A2 (ksk_tail a false e1 (.ref kS) st) P E s:=by
 unfold ksk_tail;have I1:Inv X pins σ H {s with heap:=s.heap.update kS (Obj.mapSeq λ_=>#[])}:=fS.turn (t':=s.toks) I λb o hb e=>by rw[O0 _ _ _ _ hb];exact e
 have ha1:(s.heap.update kS (Obj.mapSeq λ_=>#[])).get? a=some (seqObj "list" #[] e1):=by rw[O0 _ _ _ _ (Z3 nka)];exact ha
 refine W9 (listUpdate_at hk rfl (W9 (wpAny_letGo (W9 (seqEpoch_at ha1 rfl (W9 (listUpdate_at ha1 rfl ?_ (hsz2:=?_))))))) (hsz:=kz))
 ·rw[hf];simp only[bne_self_eq_false,N6,A1d];rw[eo];refine Z1 (fin _ _ (fa.turn (s:={s with heap:=s.heap.update kS (Obj.mapSeq λ_=>#[])}) (t':=s.toks) I1 λb o hb e=>by rw[O0 _ _ _ _ hb];exact e) (get?_update_seq ha1 _))
 ·simp only[N6,A1d];rw[eo];exact Nat.le_succ_of_le hz
theorem keyTree {A2:Around} {P:PySem.Fin->Shared->Prop} {E:Value->Shared->Prop} (F:AI X.prog X.w X.K X.mg X.base CX0 k f fd ps NV) (hb:Cs X.K fd ps []) (hr:CN k A2) (hfr:∀s H,Nr X.prog X.w X.K X.mg X.base X.A X.stack s H->Nr X.prog X.w X.K X.mg X.base A2 X.stack s H) (I:Inv X pins σ H s) {a:Addr} {items:List It3} {n:Nat} (ho:s.heap.get? a=some (seqObj "list" (items.map λq=>Value.ref q.a).toArray n)) (fa:Dq X pins H a) (hit:∀q∈items,H q.a=some (.tup (q.ns.map V.int))) (h64:items.length<64)
  (fin:∀(p:Array Nat)(H':Hp)(s':Shared)(c:Nat),Cp items.length p->Inv X pins σ H' s'->(∀b u,H b=some u->H' b=some u)->H' a=none->s'.heap.get? a=some (seqObj "list" (p.toList.map λi=>(items.map λq=>Value.ref q.a).getD i Value.none).toArray c)->P (.done (.ret .none)) s') :
  wpAny (model X.prog X.w) A2 (ksk_tree a (.ref f) false) P E s:=by
 have len:(items.map λq=>Value.ref q.a).length=items.length:=B6 _;have ln:items.length<=sizeLine:=C7 (T4 h64) A4;unfold ksk_tree;refine W9 (listItems_at ho rfl (W9 (listUpdate_at ho rfl ?_)));have ⟨e1,he1⟩:∃e1,(s.heap.update a (Obj.mapSeq λ_=>#[])).get? a=some (seqObj "list" #[] e1):=⟨_,get?_update_seq ho _⟩
 have I1:Inv X pins σ H {s with heap:=s.heap.update a (Obj.mapSeq λ_=>#[])}:=fa.turn (t':=s.toks) I λc o hc e=>by rw[O0 _ _ _ _ hc];exact e
 generalize s.heap.update a (Obj.mapSeq λ_=>#[])=h1 at he1 I1⊢;refine W9 (seqEpoch_at he1 rfl (W9 (wpAny_newTuple (W9 (wpAny_newList (A1b ?_))))));have I2:Inv X pins σ H {s with heap:=h1.push (seqObj "tuple" (items.map λq=>Value.ref q.a).toArray 0)}:=I1.kept (t':=s.toks) λb o e=>B9 _ e;have he2:=B9 (seqObj "tuple" (items.map λq=>Value.ref q.a).toArray 0) he1;show wpAny (model X.prog X.w) A2 (ksk_rest a (.ref f) false (items.map λq=>Value.ref q.a).toArray e1 (.ref (h1.push (seqObj "tuple" (items.map λq=>Value.ref q.a).toArray 0)).objs.size)) P E {s with heap:=(h1.push (seqObj "tuple" (items.map λq=>Value.ref q.a).toArray 0)).push (seqObj "list" #[] 0)};generalize h1.push (seqObj "tuple" (items.map λq=>Value.ref q.a).toArray 0)=h2 at I2 he2⊢;have fS:Dq X pins H h2.objs.size:=I2.fpOk (C0 _) (I2.hok.fresh (C0 _));have he3:=B9 (seqObj "list" #[] 0) he2;have hk3:(h2.push (seqObj "list" #[] 0)).get? h2.objs.size=some (seqObj "list" #[] 0):=D3 _ rfl;have I3:Inv X pins σ H {s with heap:=h2.push (seqObj "list" #[] 0)}:=I2.kept (t':=s.toks) λb o e=>B9 _ e;have nka:h2.objs.size≠a:=T1 (D6 he2);generalize h2.push (seqObj "list" #[] 0)=h3 at he3 hk3 I3⊢;generalize h2.objs.size=kS at fS hk3 nka⊢;unfold ksk_rest;refine W9 (wpAny_rule ?_);rw[List.forIn_toArray];refine W9 (ksk_fold (λj s'=>∃(H':Hp)(us:List Addr)(c:Nat),Inv X pins σ H' s'/\(∀b u,H b=some u->H' b=some u)/\H' a=none/\H' kS=none/\s'.heap.get? kS=some (seqObj "list" (us.map Value.ref).toArray c)/\s'.heap.get? a=some (seqObj "list" #[] e1)/\us.length=j/\∀(i:Nat) u q,us[i]?=some u->items[i]?=some q->H' u=some (.tup ([q.y,q.x].map V.int))) (items.map λq=>Value.ref q.a) 0 _ ⟨H,[],0,I3,λb u e=>e,fa.1,fS.1,hk3,he3,rfl,λi u q e=>(nomatch e)⟩ ?_ ?_)
 ·rintro j x ⟨hp,gn,dr,tk,os⟩ hx ⟨H',us,c,I',kp,na,nk,hk,ha,lu,hus⟩;have jl:j<items.length:=by have:=(B7.mp hx).1;rw[len]at this;exact this
  rw[B8]at hx;obtain⟨q,eq,rfl⟩:=D0.mp hx;rw[N1]at lu⊢;have fa':=fa.stay na;have fS':=fS.stay nk;have tq:=kp _ _ (hit q (C9 eq));have sp0:NV [V.ref q.a] H' (λv H''=>∃u,v=.ref u/\H' u=none/\H''=upd H' u (.tup [.int q.y,.int q.x])) E0:=⟨q.a,q.x,q.y,q.r,rfl,tq,λu hu=>⟨u,rfl,hu,rfl⟩⟩
  refine W9 (A1f (wpAny_call (A3g (F.run A2 X.stack _ H' ⟨[Value.ref q.a],[]⟩ ([Value.ref q.a]++[]) [V.ref q.a] _ E0 hr (hfr _ _ I'.env0) (hb _ [Value.ref q.a] I'.kIn (F.len _ _ _ _ sp0)) (show AN [V.ref q.a] [Value.ref q.a]from .cons rfl .nil) sp0) λr s'' hq=>?_)));cases r with
  |error e=>exact hq.elim
  |ok fl =>
   cases fl with
   |next=>exact hq.elim
   |brk=>exact hq.elim
   |cont=>exact hq.elim
   |ret u =>
    obtain⟨v,H2,os2,bare2,un,hok2,rv,u',rfl,hu',rfl⟩:=hq;obtain⟨hh,g2,d2,t2,os'⟩:=s'';obtain rfl:os'=os:=os2;cases(show _=Value.ref u' from rv);have I4:=I'.call (h':=hh) (g':=g2) (d':=d2) (t':=t2) (ch:=[]) un hok2 bare2 (λb z=>absurd z A6);have hk4:hh.get? kS=_:=un.keep _ _ hk nk (fS'.nost I') A6;have ha4:hh.get? a=_:=un.keep _ _ ha na (fa'.nost I') A6;have np:∀{b:Addr}{o:HO},H' b=some o->upd H' u' (.tup [.int q.y,.int q.x]) b=some o:=λ{b o} e=>by rw[Au (Aw e hu')];exact e
    have na4:upd H' u' (.tup [.int q.y,.int q.x]) a=none:=un.free _ _ ha na A6;have nk4:upd H' u' (.tup [.int q.y,.int q.x]) kS=none:=un.free _ _ hk nk A6;have ⟨c2,hk5⟩:∃c2,(hh.update kS (Obj.mapSeq (·.push (.ref u')))).get? kS=some (seqObj "list" ((us.map Value.ref).toArray.push (.ref u')) c2):=⟨_,get?_update_seq hk4 _⟩
    refine W9 (listUpdate_at hk4 rfl (Z1 ⟨rfl,upd H' u' (.tup [.int q.y,.int q.x]),us++[u'],c2,(fS'.stay nk4).turn (t':=t2) I4 λb o hb e=>by rw[O0 _ _ _ _ hb];exact e,λb o e=>np (kp b o e),na4,nk4,?_,?_,by rw[C4,lu];rfl,λi u2 q2 eu eq2=>?_⟩) (hsz2:=?_))
    ·show(hh.update kS _).get? kS=_;rw[hk5];simp
    ·show(hh.update kS _).get? a=_;rw[O0 _ _ _ _ (Z3 nka)];exact ha4
    ·by_cases hi:i<j
     ·rw[L8 A0]at eu;exact np (hus i u2 q2 eu eq2)
     ·have:i=j:=by
       have:=(B7.mp eu).1;rw[C4,lu]at this;have:i<j+1:=this;lia
      subst this;rw[F9 A0,lu,U8]at eu;cases eu;rw[eq]at eq2;cases eq2;exact Af
    ·simp;lia
 ·rintro⟨hp,gn,dr,tk,os⟩ ⟨H',us,c,I',kp,na,nk,hk,ha,lu,hus⟩;rw[N1,len]at lu;have fa':=fa.stay na;have fS':=fS.stay nk;have lk:(us.map Value.ref).length=(items.map λq=>Value.ref q.a).length:=by rw[B6,len,lu]
  refine W9 (listItems_at hk rfl ?_);unfold ksk_end;dsimp only;simp only[N6,A1d];have sz:(items.map λq=>Value.ref q.a).toArray.size=items.length:=by rw[F1,len]
  by_cases few:(items.map λq=>Value.ref q.a).toArray.size<2
  ·rw[Y7 few,Y7 few];refine W9 (Z1 ?_);rw[StateT.run_pure];refine W9 (Z1 ?_);dsimp only;have eo:(arrOf (SortSt.mk' general' ((us.map Value.ref).toArray.zip (items.map λq=>Value.ref q.a).toArray) #[] 7 none)).map (·.2)=((List.range items.length).toArray.toList.map λi=>(items.map λq=>Value.ref q.a).getD i Value.none).toArray:=by
    rw[sz]at few;clear hit fin ho hus I' hk;show((us.map Value.ref).toArray.zip (items.map λq=>Value.ref q.a).toArray).map (·.2)=_
    match items,us,lu,few with
    |[],[],_,_=>simp
    |[v],[u],_,_=>simp
   refine Vh (c:=c) I' fa' fS' nka hk ha eo rfl (by simp;lia) (by simp;lia) λh' c' I5 h5=>fin (List.range items.length).toArray H' _ c' ⟨by simp,Array.Perm.refl _⟩ I5 kp na h5
  ·rw[Y4 few,Y4 few];have two:2<=items.length:=by lia
   have ktup:∀q∈(us.zip (items.map λq=>[q.y,q.x])),H' q.1=some (.tup (q.2.map V.int))/\q.2≠[]:=λq hq=>by
    obtain⟨i,hi⟩:=J9 hq;rw[T7,B8]at hi;obtain⟨h1,h2⟩:=hi;obtain⟨it,e1,e2⟩:=D0.mp h2;rw[<-e2];exact⟨hus i q.1 it h1 e1,by simp⟩
   have z1:((us.zip (items.map λq=>[q.y,q.x])).map λq=>Value.ref q.1)=us.map Value.ref:=by
    show List.map (Value.ref ∘ Prod.fst) _=_;rw[<-M5];rw[List.map_fst_zip (by rw[B6,lu];exact C0 _)]
   have zl:(us.zip (items.map λq=>[q.y,q.x])).length=items.length:=by rw[V4,B6,lu,Nat.min_self]
   obtain⟨fs,k1,k2,k3⟩:=PZ I'.hok ktup;rw[z1]at k1;refine W9 (kat_kind (T:=.type "int") k1 (by rw[k2,zl];lia) (λv hv=>?_) rfl ?_)
   ·obtain⟨x,t,rfl⟩:=k3 v hv;exact .now
   have kroom:(us.map Value.ref).toArray.size<=sizeLine:=by simp;lia
   refine W9 (K7 (kat_run (ks:=us.map Value.ref) (vs:=items.map λq=>Value.ref q.a) (κ:=tuples' true) (Q:=λst' s'=>s'={heap:=hp,gens:=gn,drawn:=dr,toks:=tk,os:=os}/\failedOf st'=none/\∃p,Cp items.length p/\arrOf st'=p.map (kas_item ((us.map Value.ref).toArray.zip (items.map λq=>Value.ref q.a).toArray))) (G:=λp s'=>s'={heap:=hp,gens:=gn,drawn:=dr,toks:=tk,os:=os}/\Cp items.length p) lk (by rw[len];exact two) (by rw[len];exact h64) (λp st' s' h1 h2 h3 h4=>⟨h4.1,h3,p,h4.2,h2⟩) ?_) ?_ λ_ _ e=>e)
   ·rw[len];refine rk_wp (rk:=rkOf (items.map λq=>[q.y,q.x])) (λi j C hi hj cc=>?_) (sort_wp A0 λp' h1 h2=>⟨rfl,h1⟩);obtain⟨b,o,vs1,m,e1,e2,e3,e4,e5⟩:=Uv I'.hok ktup (i:=i) (by rw[zl];exact hi);obtain⟨b',o',vs2,m',f1,f2,f3,f4,f5⟩:=Uv I'.hok ktup (i:=j) (by rw[zl];exact hj);have z2:((us.zip (items.map λq=>[q.y,q.x])).map (·.2))=items.map λq=>[q.y,q.x]:=List.map_snd_zip (by rw[B6,lu];exact C0 _);rw[z1]at e1 f1;rw[z2]at e5 f5;unfold kas_ask;rw[e1,f1];refine kat_lt e2 e4 f2 f4 ?_;rw[rk_iff (by rw[B6];exact hi)]at cc;have:=Vg (prog:=X.prog) (w:=X.w) (A:=A2) (b:=true) (i:=0) e5 f5 cc;have l1:=e5.length;have l2:=f5.length;rw[B6]at l1 l2;rw[F1,F1,<-l1,<-l2];exact this
   rintro⟨⟨⟩,st'⟩ s' ⟨rfl,hf,p,pn,ea⟩;dsimp only at hf ea⊢;have eo:=kat_snds lk ea;refine Vh (c:=c) I' fa' fS' nka hk ha eo hf (by simp only[F1,B6,T0,pn.sz];exact ln) kroom λh' c' I5 h5=>fin p H' _ c' pn I5 kp na h5
theorem Wk {Q:VK} (F:AI X.prog X.w X.K X.mg X.base CX0 k f fd ps NV) (hb:Cs X.K fd ps []) (hr:CN (k+2) X.A) (I:Inv X pins σ H s) {p:Addr} {items:List It3} (hq:SqL X.K H p (items.map λq=>V.ref q.a)) (hit:∀q∈items,H q.a=some (.tup (q.ns.map V.int))) (h64:items.length<64)
  (q:∀(L:Addr)(out:List It3)(H':Hp),(∀b u,H b=some u->H' b=some u)->H' L=none->out.Perm items->Q (.ref L) (upd H' L (.lst (out.map λq=>V.ref q.a)))) :
  wpAny (model X.prog X.w) X.A (call (.builtin "sorted") [.ref p] [("key",.ref f)]) (EP X pins σ Q) X.xe s:=by
 obtain⟨its,rv,pl,hz⟩:=I.list hq;have ei:its=items.map λq=>Value.ref q.a:=by
  clear pl hz q hq h64 hit;induction items generalizing its with
  |nil=>cases rv;rfl
  |cons it items ih =>
   cases rv with
   |cons a1 a2 =>
    cases(show _=Value.ref it.a from a1);rw[F5,ih _ a2]
 subst ei;have len:(items.map λq=>Value.ref q.a).length=items.length:=B6 _;have ln:items.length<=sizeLine:=C7 (T4 h64) A4;refine PyProof.Rows.call_function_entry_kw kind_sorted plain_sorted entry_sorted (ksk_s1 _ _) ?_;unfold Builtin.«sorted»;refine W9 (m:=checkCount "sorted" 1 1 _) (Z1 (W9 (collect_list pl.isList (W9 (wpAny_newList ?_ (by rw[len];exact ln))) (by rw[len];exact ln))));have sz1:((s.heap.push (seqObj "list" #[] 0)).update s.heap.objs.size (Obj.mapSeq (· ++ (items.map λq=>Value.ref q.a).toArray))).objs.size=s.heap.objs.size+1:=by
  rw[Heap.size_update];exact size_push' ..
 have at1:(((s.heap.push (seqObj "list" #[] 0)).update s.heap.objs.size (Obj.mapSeq (· ++ (items.map λq=>Value.ref q.a).toArray))).push (seqObj "list" (items.map λq=>Value.ref q.a).toArray 0)).get? (s.heap.objs.size+1)=some (seqObj "list" (items.map λq=>Value.ref q.a).toArray 0):=by
  have:=D3 ((s.heap.push (seqObj "list" #[] 0)).update s.heap.objs.size (Obj.mapSeq (· ++ (items.map λq=>Value.ref q.a).toArray))) (show(seqObj "list" (items.map λq=>Value.ref q.a).toArray 0).isFreed=false from rfl);rw[sz1]at this;exact this
 have keep1:∀b o,s.heap.get? b=some o->(((s.heap.push (seqObj "list" #[] 0)).update s.heap.objs.size (Obj.mapSeq (· ++ (items.map λq=>Value.ref q.a).toArray))).push (seqObj "list" (items.map λq=>Value.ref q.a).toArray 0)).get? b=some o:=λb o e =>
  B9 _ (by rw[O0 _ _ _ _ (F8 (D6 e))];exact B9 _ e)
 show wpAny (model X.prog X.w) _ _ _ _ {s with heap:=(((s.heap.push (seqObj "list" #[] 0)).update s.heap.objs.size (Obj.mapSeq (· ++ (items.map λq=>Value.ref q.a).toArray))).push (seqObj "list" (items.map λq=>Value.ref q.a).toArray 0))};rw[sz1];have I1:Inv X pins σ H {s with heap:=(((s.heap.push (seqObj "list" #[] 0)).update s.heap.objs.size (Obj.mapSeq (· ++ (items.map λq=>Value.ref q.a).toArray))).push (seqObj "list" (items.map λq=>Value.ref q.a).toArray 0))}:=I.kept (t':=s.toks) keep1;have fD:Dq X pins H (s.heap.objs.size+1):=I.fpOk (R3 _) (I.hok.fresh (R3 _));generalize ((s.heap.push (seqObj "list" #[] 0)).update s.heap.objs.size (Obj.mapSeq (· ++ (items.map λq=>Value.ref q.a).toArray))).push (seqObj "list" (items.map λq=>Value.ref q.a).toArray 0)=h1 at at1 I1⊢;refine W9 (A1b (PyProof.Rows.wpAny_call_entry_kw slot_list_sort ⟨_,at1,rfl⟩ entry_list_sort ?_ (ksk_l1 _ _)));rw[ksk_t1];refine keyTree F hb hr.in1.in1 (λs H e=>e.in1.in1) I1 at1 fD hit h64 λpm H' s' c pn I' kp na ha=>⟨_,rfl,Z1 ⟨_,rfl,?_⟩⟩
 have pl2:pm.toList.Perm (List.range items.length):=by simpa using pn.pm.toList
 have sz:pm.size=items.length:=pn.sz;have lt:∀i∈pm.toList,i<items.length:=λi hi=>by simpa using (pl2.mem_iff).mp hi
 let d:It3:=⟨0,0,0,[]⟩
 have out:(pm.toList.map λi=>items.getD i d).Perm items:=by
  refine(pl2.map _).trans ?_;refine List.Perm.of_eq (List.ext_getElem? λi=>?_);rw[B8];by_cases hi:i<items.length
  ·rw[P8 hi,C5 hi];show some (items.getD i d)=_;rw[D7,C5 hi];rfl
  ·rw[Q8 (by simpa using hi),Q8 A0];rfl
 refine⟨.ref (s.heap.objs.size+1),_,I'.track (o:=.lst ((pm.toList.map λi=>items.getD i d).map λq=>V.ref q.a)) na (N9 (C7 I.sz (R3 _))) (N9 (C7 I.ok.bsz (C7 I.sz (R3 _)))) (Z3 fD.2.1) fD.2.2.2.2.1 fD.2.2.2.2.2 (λb hb z=>fD.2.2.1 (z▸hb)) ⟨by rw[B6,B6,T0,sz];exact ln,_,c,?_,ha⟩,rfl,q (s.heap.objs.size+1) _ H' kp na out⟩;have:∀{l:List Nat},(∀i∈l,i<items.length)->AN ((l.map λi=>items.getD i d).map λq=>V.ref q.a) (l.map λi=>(items.map λq=>Value.ref q.a).getD i Value.none):=by
  intro l;induction l with
  |nil=>intro _;exact .nil
  |cons i l ih =>
   intro hl;refine .cons ?_ (ih λj hj=>hl j (C2 _ hj));have hi:=hl i (C3 ..);show AW (V.ref (items.getD i d).a) ((items.map λq=>Value.ref q.a).getD i Value.none);rw[D7,D7,B8,C5 hi];rfl
 exact this lt
def tSortR(K:PySem.W.Frag)(t:TA):TE:=fun σ H Q=>t σ H λvs H1=>∃(p:Addr)(items:List It3),vs=[.ref p]/\SqL K H1 p (items.map λq=>V.ref q.a)/\items.length<64/\(∀q∈items,H1 q.a=some (.tup (q.ns.map V.int)))/\∀(L:Addr)(out:List It3)(H':Hp),(∀b u,H1 b=some u->H' b=some u)->H' L=none->out.Perm items->Q (.ref L) (upd H' L (.lst (out.map λq=>V.ref q.a)))
theorem Tu{ky:Str}{e:Expr}{t:TA}{p kp kpos pos:Pos}(c:Cal X.prog X.w X.K X.mg X.base CX0 k ky ps NV)(hr:CN (k+2) X.A)(hg:Gl X "sorted")(hm:X.mg "sorted" = none)(hgk:Gl X ky)(ha:PA X [e] t)(hd:(ky==("__debug__" : Str))=false:=by decide)
  (he:backTo pos (starEach [e] X.env)=(false,eval e X.env)::backTo pos (starEach [] X.env):=by rfl) (hp1:(backTo pos (starEach [e] X.env)).any (·.1)=false:=by rfl):PE X (.Call (.Name "sorted" p) [e] [⟨some "key",.Name ky kp,kpos⟩] pos) (tSortR X.K t):=by
 intro pins s σ H Q I h;obtain⟨f,fd,F,hmk,hkp,hb⟩:=c.ex;refine A0f (Jr I hg hm PyProof.Rows.boot_sorted ?_);refine PyProof.Rows.callWith_kw (thn (ha pos pins s σ H _ I h) λus s1 ⟨vs,H1,I1,r1,q1⟩=>?_) he hp1 rfl rfl;obtain⟨p',items,rfl,hq,h64,hit,q⟩:=q1;refine thn (pk_cons (nm:=some "key") (kpos:=kpos) (pe_gref (pos:=kp) hgk hmk hd) pk_nil pos pins s1 σ H1 (λzs H2=>zs=[.ref f]/\H2=H1) I1 ⟨rfl,rfl⟩) λws s2 ⟨zs,H2,I2,rz,e1,e2⟩=>?_;subst e1;subst e2;cases r1 with
 |cons a1 a2 =>
  cases a2;cases(show _=Value.ref p' from a1);cases rz with
  |cons b1 b2 =>
   cases b2;cases(show _=Value.ref f from b1);exact Wk F hb hr I2 hq hit h64 q
end
section
variable{X:Cx}
end
end L2
namespace J
open PySem L2
def top(i:Nat):Stmt:=PySem.Challenge.pw_jumpfield_k61_whole_far_parts.main.body.getD i (.Pass ⟨0,0,0,0⟩)
abbrev La:Stmt:=top 11
abbrev TK:List Str:=["thing"]
abbrev Eo:List Str:=["thing"]
theorem RV:As TK Eo (Ah La):=⟨rfl,rfl,rfl,by decide +kernel,rfl,by decide +kernel,by decide +kernel⟩
abbrev Lb:Stmt:=top 18
abbrev TL:List Str:=["thing"]
abbrev Ig:List Str:=["thing"]
theorem RW:As TL Ig (Ah Lb):=⟨rfl,rfl,rfl,by decide +kernel,rfl,by decide +kernel,by decide +kernel⟩
abbrev QH:Stmt:=top 19
abbrev dG:List Str:=["wanted","state"]
abbrev NH:List Str:=["wanted","state"]
theorem Yk:As dG NH (Ah QH):=⟨rfl,rfl,rfl,by decide +kernel,rfl,by decide +kernel,by decide +kernel⟩
abbrev Ew:Stmt:=top 23
abbrev JS:List Str:=["text","words","cell","conditions"]
abbrev Go:List Str:=["text"]
theorem DM:As JS Go (Ah Ew):=⟨rfl,rfl,rfl,by decide +kernel,rfl,by decide +kernel,by decide +kernel⟩
abbrev GS:Stmt:=top 24
abbrev QR:List Str:=["word"]
abbrev DY:List Str:=["word"]
theorem Pc:As QR DY (Ah GS):=⟨rfl,rfl,rfl,by decide +kernel,rfl,by decide +kernel,by decide +kernel⟩
abbrev Gg:Stmt:=top 25
abbrev Pj:List Str:=["word"]
abbrev Ez:List Str:=["word"]
theorem Ob:As Pj Ez (Ah Gg):=⟨rfl,rfl,rfl,by decide +kernel,rfl,by decide +kernel,by decide +kernel⟩
abbrev Eg:Stmt:=top 26
abbrev MI:List Str:=["word"]
abbrev Em:List Str:=["word"]
theorem LD:As MI Em (Ah Eg):=⟨rfl,rfl,rfl,by decide +kernel,rfl,by decide +kernel,by decide +kernel⟩
abbrev Fo:Stmt:=top 27
abbrev OB:List Str:=["word","parts"]
abbrev FC:List Str:=["word"]
theorem IC:As OB FC (Ah Fo):=⟨rfl,rfl,rfl,by decide +kernel,rfl,by decide +kernel,by decide +kernel⟩
abbrev Fn:Stmt:=top 28
abbrev OA:List Str:=["signs","numbers","sign"]
abbrev FB:List Str:=["signs"]
theorem EJ:As OA FB (Ah Fn):=⟨rfl,rfl,rfl,by decide +kernel,rfl,by decide +kernel,by decide +kernel⟩
abbrev Ev:Stmt:=top 29
abbrev JQ:List Str:=["word"]
abbrev Gn:List Str:=["word"]
theorem Oc:As JQ Gn (Ah Ev):=⟨rfl,rfl,rfl,by decide +kernel,rfl,by decide +kernel,by decide +kernel⟩
abbrev Gf:Stmt:=top 32
abbrev Pi:List Str:=["box","dx","dy"]
abbrev Dm:List Str:=["box","dx","dy"]
theorem Oa:As Pi Dm (Ah Gf):=⟨rfl,rfl,rfl,by decide +kernel,rfl,by decide +kernel,by decide +kernel⟩
abbrev CS:Stmt:=top 33
abbrev EE:List Str:=["boxes","left","top","right","bottom"]
abbrev FX:List Str:=["boxes"]
theorem DN:As EE FX (Ah CS):=⟨rfl,rfl,rfl,by decide +kernel,rfl,by decide +kernel,by decide +kernel⟩
abbrev Gh:Stmt:=top 38
abbrev Pk:List Str:=["box","limit"]
abbrev Do:List Str:=["box","limit"]
theorem Od:As Pk Do (Ah Gh):=⟨rfl,rfl,rfl,by decide +kernel,rfl,by decide +kernel,by decide +kernel⟩
abbrev JY:Stmt:=top 39
abbrev TJ:List Str:=["grove","field"]
abbrev En:List Str:=["grove","field"]
theorem RU:As TJ En (Ah JY):=⟨rfl,rfl,rfl,by decide +kernel,rfl,by decide +kernel,by decide +kernel⟩
abbrev GV:Stmt:=top 40
abbrev QU:List Str:=["grove"]
abbrev EY:List Str:=["grove"]
theorem Pd:As QU EY (Ah GV):=⟨rfl,rfl,rfl,by decide +kernel,rfl,by decide +kernel,by decide +kernel⟩
abbrev Mt:Stmt:=top 41
abbrev VZ:List Str:=["grove","square","level","parts","bare"]
abbrev JA:List Str:=["grove","square"]
theorem GO:As VZ JA (Ah Mt):=⟨rfl,rfl,rfl,by decide +kernel,rfl,by decide +kernel,by decide +kernel⟩
abbrev Mu:Stmt:=top 42
abbrev Wa:List Str:=["grove","square","kept"]
abbrev GE:List Str:=["grove","square"]
theorem JV:As Wa GE (Ah Mu):=⟨rfl,rfl,rfl,by decide +kernel,rfl,by decide +kernel,by decide +kernel⟩
abbrev FT:Stmt:=top 43
abbrev Nc:List Str:=["grove","square","inner"]
abbrev Jd:List Str:=["grove","square"]
theorem LE:As Nc Jd (Ah FT):=⟨rfl,rfl,rfl,by decide +kernel,rfl,by decide +kernel,by decide +kernel⟩
abbrev Eh:Stmt:=top 44
abbrev MJ:List Str:=["grove","square","bare","place","quarter","part_place","part"]
abbrev Ep:List Str:=["grove","square"]
theorem BJ:As MJ Ep (Ah Eh):=⟨rfl,rfl,rfl,by decide +kernel,rfl,by decide +kernel,by decide +kernel⟩
abbrev Fl:Stmt:=top 45
abbrev Oz:List Str:=["grove","field","box","wide"]
abbrev Fz:List Str:=["grove","field","box"]
theorem EI:As Oz Fz (Ah Fl):=⟨rfl,rfl,rfl,by decide +kernel,rfl,by decide +kernel,by decide +kernel⟩
abbrev GQ:Stmt:=top 46
abbrev QP:List Str:=["grove","field","level","wide"]
abbrev EX:List Str:=["grove","field","level"]
theorem Ge:As QP EX (Ah GQ):=⟨rfl,rfl,rfl,by decide +kernel,rfl,by decide +kernel,by decide +kernel⟩
abbrev Mv:Stmt:=top 47
abbrev Wb:List Str:=["grove","field","x","y","state","place","wide","half"]
abbrev ME:List Str:=["grove","field","x","y","state"]
theorem GP:As Wb ME (Ah Mv):=⟨rfl,rfl,rfl,by decide +kernel,rfl,by decide +kernel,by decide +kernel⟩
abbrev JX:Stmt:=top 48
abbrev TH:List Str:=["grove","square","x","y","state","level","half","parts","place"]
abbrev FA:List Str:=["grove","square","x","y","state"]
theorem Dz:As TH FA (Ah JX):=⟨rfl,rfl,rfl,by decide +kernel,rfl,by decide +kernel,by decide +kernel⟩
abbrev Le:Stmt:=top 49
abbrev TN:List Str:=["grove","cells","field","cell"]
abbrev Ll:List Str:=["grove","cells"]
theorem FS:As TN Ll (Ah Le):=⟨rfl,rfl,rfl,by decide +kernel,rfl,by decide +kernel,by decide +kernel⟩
abbrev Om:Stmt:=top 51
abbrev YO:List Str:=["grove","field","box","reach"]
abbrev Ov:List Str:=["grove","field"]
theorem Mq:As YO Ov (Ah Om):=⟨rfl,rfl,rfl,by decide +kernel,rfl,by decide +kernel,by decide +kernel⟩
abbrev Ts:Stmt:=top 53
abbrev dL:List Str:=["jumps","field","n","tuples"]
abbrev Ty:List Str:=["jumps","field","n"]
theorem UP:As dL Ty (Ah Ts):=⟨rfl,rfl,rfl,by decide +kernel,rfl,by decide +kernel,by decide +kernel⟩
abbrev Tr:Stmt:=top 54
abbrev dH:List Str:=["jumps","field","n","grove","told","here","rest","e","square","result"]
abbrev Tw:List Str:=["jumps","field","n"]
theorem DL:As dH Tw (Ah Tr):=⟨rfl,rfl,rfl,by decide +kernel,rfl,by decide +kernel,by decide +kernel⟩
abbrev GU:Stmt:=top 55
abbrev QT:List Str:=["grove","field","n","box"]
abbrev Ih:List Str:=["grove","field","n"]
theorem JN:As QT Ih (Ah GU):=⟨rfl,rfl,rfl,by decide +kernel,rfl,by decide +kernel,by decide +kernel⟩
abbrev IS:Stmt:=top 56
abbrev Su:List Str:=["grove","field","e","reach","level"]
abbrev Je:List Str:=["grove","field","e"]
theorem EV:As Su Je (Ah IS):=⟨rfl,rfl,rfl,by decide +kernel,rfl,by decide +kernel,by decide +kernel⟩
abbrev Fp:Stmt:=top 60
abbrev OC:List Str:=["text"]
abbrev FE:List Str:=["text"]
theorem Nh:As OC FE (Ah Fp):=⟨rfl,rfl,rfl,by decide +kernel,rfl,by decide +kernel,by decide +kernel⟩
abbrev IR:Stmt:=top 61
abbrev Ss:List Str:=["text","rule"]
abbrev Jc:List Str:=["text"]
theorem LC:As Ss Jc (Ah IR):=⟨rfl,rfl,rfl,by decide +kernel,rfl,by decide +kernel,by decide +kernel⟩
abbrev Lf:Stmt:=top 62
abbrev TQ:List Str:=["rule","cell","around","number","clause"]
abbrev Lm:List Str:=["rule","cell","around"]
theorem IQ:As TQ Lm (Ah Lf):=⟨rfl,rfl,rfl,by decide +kernel,rfl,by decide +kernel,by decide +kernel⟩
abbrev Mw:Stmt:=top 63
abbrev Wc:List Str:=["rule","cell","around","number"]
abbrev JB:List Str:=["rule","cell","around"]
theorem Oe:As Wc JB (Ah Mw):=⟨rfl,rfl,rfl,by decide +kernel,rfl,by decide +kernel,by decide +kernel⟩
abbrev GR:Stmt:=top 64
abbrev QQ:List Str:=["rule"]
abbrev Ie:List Str:=["rule"]
theorem Pb:As QQ Ie (Ah GR):=⟨rfl,rfl,rfl,by decide +kernel,rfl,by decide +kernel,by decide +kernel⟩
abbrev GT:Stmt:=top 67
abbrev QS:List Str:=["grove","square","parts","a","b","c","d"]
abbrev DZ:List Str:=["grove","square"]
theorem CH:As QS DZ (Ah GT):=⟨rfl,rfl,rfl,by decide +kernel,rfl,by decide +kernel,by decide +kernel⟩
abbrev Ld:Stmt:=top 68
abbrev TM:List Str:=["nine"]
abbrev FD:List Str:=["nine"]
theorem RX:As TM FD (Ah Ld):=⟨rfl,rfl,rfl,by decide +kernel,rfl,by decide +kernel,by decide +kernel⟩
abbrev Dg:Stmt:=top 69
abbrev JL:List Str:=["grove","four","parts"]
abbrev Cj:List Str:=["grove","four"]
theorem EC:As JL Cj (Ah Dg):=⟨rfl,rfl,rfl,by decide +kernel,rfl,by decide +kernel,by decide +kernel⟩
abbrev IT:Stmt:=top 72
abbrev Sw:List Str:=["grove","lower","upper","level"]
abbrev Jf:List Str:=["grove","lower","upper"]
theorem LF:As Sw Jf (Ah IT):=⟨rfl,rfl,rfl,by decide +kernel,rfl,by decide +kernel,by decide +kernel⟩
abbrev QI:Stmt:=top 73
abbrev dJ:List Str:=["grove","lower","upper","known","level","bare","square"]
abbrev MF:List Str:=["grove","lower","upper","known"]
theorem Jx:As dJ MF (Ah QI):=⟨rfl,rfl,rfl,by decide +kernel,rfl,by decide +kernel,by decide +kernel⟩
abbrev CG:Stmt:=top 74
abbrev II:List Str:=["grove","lowers","uppers","known"]
abbrev Dr:List Str:=["grove","lowers","uppers","known"]
theorem Mp:As II Dr (Ah CG):=⟨rfl,rfl,rfl,by decide +kernel,rfl,by decide +kernel,by decide +kernel⟩
abbrev Mx:Stmt:=top 76
abbrev Wd:List Str:=["_law_script","_law_k"]
abbrev GF:List Str:=["_law_script","_law_k"]
theorem Tq:As Wd GF (Ah Mx):=⟨rfl,rfl,rfl,by decide +kernel,rfl,by decide +kernel,by decide +kernel⟩
abbrev Lg:Stmt:=top 77
abbrev TR:List Str:=["_law_cell","_law_k","_law_value"]
abbrev Ii:List Str:=["_law_cell","_law_k"]
theorem MY:As TR Ii (Ah Lg):=⟨rfl,rfl,rfl,by decide +kernel,rfl,by decide +kernel,by decide +kernel⟩
abbrev EK:Stmt:=top 78
abbrev Nl:List Str:=["_law_mains","_law_value"]
abbrev Ds:List Str:=["_law_mains","_law_value"]
theorem Mr:As Nl Ds (Ah EK):=⟨rfl,rfl,rfl,by decide +kernel,rfl,by decide +kernel,by decide +kernel⟩
abbrev Ch:Stmt:=top 79
abbrev ET:List Str:=["_law_mains","_law_seed","_law_j","_law_wanted","_law_k","_law_value","_law_mask"]
abbrev Di:List Str:=["_law_mains","_law_seed","_law_j"]
theorem BG:As ET Di (Ah Ch):=⟨rfl,rfl,rfl,by decide +kernel,rfl,by decide +kernel,by decide +kernel⟩
abbrev Ei:Stmt:=top 80
abbrev MK:List Str:=["_law_mains","_law_seed","_law_j","_law_taken","_law_conditions","_law_k"]
abbrev Er:List Str:=["_law_mains","_law_seed","_law_j"]
theorem BX:As MK Er (Ah Ei):=⟨rfl,rfl,rfl,by decide +kernel,rfl,by decide +kernel,by decide +kernel⟩
abbrev GW:Stmt:=top 81
abbrev QV:List Str:=["_law_condition","_law_around","_law_k","_law_many","_law_state"]
abbrev Ij:List Str:=["_law_condition","_law_around"]
theorem Dk:As QV Ij (Ah GW):=⟨rfl,rfl,rfl,by decide +kernel,rfl,by decide +kernel,by decide +kernel⟩
abbrev Fq:Stmt:=top 82
abbrev OD:List Str:=["_law_clauses","_law_cell","_law_around","_law_at_here","_law_fits","_law_condition"]
abbrev FF:List Str:=["_law_clauses","_law_cell","_law_around"]
theorem CF:As OD FF (Ah Fq):=⟨rfl,rfl,rfl,by decide +kernel,rfl,by decide +kernel,by decide +kernel⟩
abbrev Ft:Stmt:=top 83
abbrev OF:List Str:=["_law_clauses","_law_cell","_law_around","_law_at_here"]
abbrev FH:List Str:=["_law_clauses","_law_cell","_law_around"]
theorem IE:As OF FH (Ah Ft):=⟨rfl,rfl,rfl,by decide +kernel,rfl,by decide +kernel,by decide +kernel⟩
abbrev DS:Stmt:=top 84
abbrev LT:List Str:=["_law_script","_law_first","_law_many","_law_mains","_law_clauses","_law_k"]
abbrev Ea:List Str:=["_law_script","_law_first","_law_many"]
theorem BP:As LT Ea (Ah DS):=⟨rfl,rfl,rfl,by decide +kernel,rfl,by decide +kernel,by decide +kernel⟩
abbrev ED:Stmt:=top 85
abbrev Jm:List Str:=["_law_condition"]
abbrev Jg:List Str:=["_law_condition"]
theorem QE:As Jm Jg (Ah ED):=⟨rfl,rfl,rfl,by decide +kernel,rfl,by decide +kernel,by decide +kernel⟩
abbrev FU:Stmt:=top 86
abbrev Nd:List Str:=["_law_clauses","_law_parts","_law_clause","_law_words"]
abbrev Jh:List Str:=["_law_clauses"]
theorem EW:As Nd Jh (Ah FU):=⟨rfl,rfl,rfl,by decide +kernel,rfl,by decide +kernel,by decide +kernel⟩
abbrev Fs:Stmt:=top 87
abbrev OE:List Str:=["_law_cell"]
abbrev FG:List Str:=["_law_cell"]
theorem Ni:As OE FG (Ah Fs):=⟨rfl,rfl,rfl,by decide +kernel,rfl,by decide +kernel,by decide +kernel⟩
abbrev Gi:Stmt:=top 88
abbrev Pl:List Str:=["_law_states","_law_some","_law_place"]
abbrev Gp:List Str:=["_law_states"]
theorem Fk:As Pl Gp (Ah Gi):=⟨rfl,rfl,rfl,by decide +kernel,rfl,by decide +kernel,by decide +kernel⟩
abbrev IV:Stmt:=top 89
abbrev Sy:List Str:=["_law_cell"]
abbrev Jj:List Str:=["_law_cell"]
theorem QF:As Sy Jj (Ah IV):=⟨rfl,rfl,rfl,by decide +kernel,rfl,by decide +kernel,by decide +kernel⟩
abbrev IU:Stmt:=top 90
abbrev Sx:List Str:=["_law_script","_law_first","_law_many","_law_left","_law_top","_law_states","_law_k","_law_value","_law_at_here"]
abbrev Ji:List Str:=["_law_script","_law_first","_law_many","_law_left","_law_top"]
theorem DO:As Sx Ji (Ah IU):=⟨rfl,rfl,rfl,by decide +kernel,rfl,by decide +kernel,by decide +kernel⟩
abbrev Lh:Stmt:=top 91
abbrev TU:List Str:=["_law_cell"]
abbrev Lo:List Str:=["_law_cell"]
theorem RY:As TU Lo (Ah Lh):=⟨rfl,rfl,rfl,by decide +kernel,rfl,by decide +kernel,by decide +kernel⟩
abbrev Yl:Stmt:=top 92
abbrev n_law:List Str:=["_law_script","_law_rule","_law_n","_law_left","_law_top","_law_ones","_law_away","_law_others","_law_grove","_law_jumps","_law_one","_law_other","_law_both","_law_found","_law_due"]
abbrev p_law:List Str:=["_law_script"]
theorem Ct:As n_law p_law (Ah Yl):=⟨rfl,rfl,rfl,by decide +kernel,rfl,by decide +kernel,by decide +kernel⟩
abbrev Fw:Stmt:=Bf (top 20) 0
abbrev OH:List Str:=["self","state","numbers"]
abbrev FK:List Str:=["self","state","numbers"]
theorem Nk:As OH FK (Ah Fw):=⟨rfl,rfl,rfl,by decide +kernel,rfl,by decide +kernel,by decide +kernel⟩
abbrev EL:Stmt:=Bf (top 20) 1
abbrev Nm:List Str:=["self","around"]
abbrev EN:List Str:=["self","around"]
theorem Ms:As Nm EN (Ah EL):=⟨rfl,rfl,rfl,by decide +kernel,rfl,by decide +kernel,by decide +kernel⟩
abbrev Gj:Stmt:=Bf (top 21) 0
abbrev Pm:List Str:=["self","wanted"]
abbrev Gq:List Str:=["self","wanted"]
theorem Of:As Pm Gq (Ah Gj):=⟨rfl,rfl,rfl,by decide +kernel,rfl,by decide +kernel,by decide +kernel⟩
abbrev DT:Stmt:=Bf (top 21) 1
abbrev Jn:List Str:=["self","around"]
abbrev FI:List Str:=["self","around"]
theorem Nj:As Jn FI (Ah DT):=⟨rfl,rfl,rfl,by decide +kernel,rfl,by decide +kernel,by decide +kernel⟩
abbrev Gm:Stmt:=Bf (top 22) 0
abbrev Pp:List Str:=["self","cell","conditions","makes"]
abbrev Gs:List Str:=["self","cell","conditions","makes"]
theorem Oh:As Pp Gs (Ah Gm):=⟨rfl,rfl,rfl,by decide +kernel,rfl,by decide +kernel,by decide +kernel⟩
abbrev Ey:Stmt:=Bf (top 22) 1
abbrev JT:List Str:=["self","cell","around"]
abbrev Gu:List Str:=["self","cell","around"]
theorem Ol:As JT Gu (Ah Ey):=⟨rfl,rfl,rfl,by decide +kernel,rfl,by decide +kernel,by decide +kernel⟩
abbrev Ib:Stmt:=Bf (top 34) 0
abbrev Ra:List Str:=["self","state","level","bare"]
abbrev Im:List Str:=["self"]
theorem Eu:As Ra Im (Ah Ib):=⟨rfl,rfl,rfl,by decide +kernel,rfl,by decide +kernel,by decide +kernel⟩
abbrev Ia:Stmt:=Bf (top 34) 1
abbrev QZ:List Str:=["self","parts","level","number"]
abbrev Fa:List Str:=["self","parts","level"]
theorem JO:As QZ Fa (Ah Ia):=⟨rfl,rfl,rfl,by decide +kernel,rfl,by decide +kernel,by decide +kernel⟩
abbrev Fu:Stmt:=Bf (top 34) 2
abbrev OG:List Str:=["self","parts","number"]
abbrev AQ:List Str:=["self","parts"]
theorem IG:As OG AQ (Ah Fu):=⟨rfl,rfl,rfl,by decide +kernel,rfl,by decide +kernel,by decide +kernel⟩
abbrev CU:Stmt:=Bf (top 34) 3
abbrev Jq:List Str:=["self","square"]
abbrev Ca:List Str:=["self","square"]
theorem IK:As Jq Ca (Ah CU):=⟨rfl,rfl,rfl,by decide +kernel,rfl,by decide +kernel,by decide +kernel⟩
abbrev GZ:Stmt:=Bf (top 34) 4
abbrev QY:List Str:=["self","state"]
abbrev EZ:List Str:=["self","state"]
theorem Pg:As QY EZ (Ah GZ):=⟨rfl,rfl,rfl,by decide +kernel,rfl,by decide +kernel,by decide +kernel⟩
abbrev Ek:Stmt:=Bf (top 34) 7
abbrev MP:List Str:=["self","square"]
abbrev AY:List Str:=["self","square"]
theorem LH:As MP AY (Ah Ek):=⟨rfl,rfl,rfl,by decide +kernel,rfl,by decide +kernel,by decide +kernel⟩
abbrev Ej:Stmt:=Bf (top 34) 9
abbrev MN:List Str:=["self","square"]
abbrev Es:List Str:=["self","square"]
theorem LG:As MN Es (Ah Ej):=⟨rfl,rfl,rfl,by decide +kernel,rfl,by decide +kernel,by decide +kernel⟩
abbrev GY:Stmt:=Bf (top 34) 12
abbrev QX:List Str:=["self","square"]
abbrev Il:List Str:=["self","square"]
theorem Pf:As QX Il (Ah GY):=⟨rfl,rfl,rfl,by decide +kernel,rfl,by decide +kernel,by decide +kernel⟩
abbrev Ex:Stmt:=Bf (top 34) 13
abbrev Po:List Str:=["self","square","box"]
abbrev CJ:List Str:=["self","square"]
theorem DR:As Po CJ (Ah Ex):=⟨rfl,rfl,rfl,by decide +kernel,rfl,by decide +kernel,by decide +kernel⟩
abbrev Dc:Stmt:=Bf (top 34) 14
abbrev MO:List Str:=["self","square","level","half","boxes","place","quarter","box"]
abbrev Df:List Str:=["self","square"]
theorem Bu:As MO Df (Ah Dc):=⟨rfl,rfl,rfl,by decide +kernel,rfl,by decide +kernel,by decide +kernel⟩
abbrev FV:Stmt:=Bf (top 59) 0
abbrev Nf:List Str:=["self","text"]
abbrev Jk:List Str:=["self","text"]
theorem QG:As Nf Jk (Ah FV):=⟨rfl,rfl,rfl,by decide +kernel,rfl,by decide +kernel,by decide +kernel⟩
abbrev GX:Stmt:=Bf (top 70) 0
abbrev QW:List Str:=["self","grove","rule"]
abbrev Ik:List Str:=["self","grove","rule"]
theorem Pe:As QW Ik (Ah GX):=⟨rfl,rfl,rfl,by decide +kernel,rfl,by decide +kernel,by decide +kernel⟩
abbrev DU:Stmt:=Bf (top 70) 1
abbrev Jp:List Str:=["self","rule","text"]
abbrev FJ:List Str:=["self","rule"]
theorem IF:As Jp FJ (Ah DU):=⟨rfl,rfl,rfl,by decide +kernel,rfl,by decide +kernel,by decide +kernel⟩
abbrev Gk:Stmt:=Bf (top 70) 2
abbrev Pn:List Str:=["self","square","e"]
abbrev Gr:List Str:=["self","square","e"]
theorem Og:As Pn Gr (Ah Gk):=⟨rfl,rfl,rfl,by decide +kernel,rfl,by decide +kernel,by decide +kernel⟩
abbrev Dv:Stmt:=Bf (top 70) 3
abbrev Lp:List Str:=["self","square","e","level"]
abbrev Dx:List Str:=["self","square","e"]
theorem ER:As Lp Dx (Ah Dv):=⟨rfl,rfl,rfl,by decide +kernel,rfl,by decide +kernel,by decide +kernel⟩
abbrev Db:Stmt:=Bf (top 70) 4
abbrev ML:List Str:=["self","square","e","result"]
abbrev Bn:List Str:=["self","square","e"]
theorem DP:As ML Bn (Ah Db):=⟨rfl,rfl,rfl,by decide +kernel,rfl,by decide +kernel,by decide +kernel⟩
abbrev Cd:Stmt:=Bf (top 70) 5
abbrev EA:List Str:=["self","square","e","grove","level","nine"]
abbrev Dp:List Str:=["self","square","e"]
theorem DQ:As EA Dp (Ah Cd):=⟨rfl,rfl,rfl,by decide +kernel,rfl,by decide +kernel,by decide +kernel⟩
abbrev Bl:Stmt:=Bf (top 70) 6
abbrev CW:List Str:=["self","square","e","nine"]
abbrev BH:List Str:=["self","square","e"]
theorem Ed:As CW BH (Ah Bl):=⟨rfl,rfl,rfl,by decide +kernel,rfl,by decide +kernel,by decide +kernel⟩
abbrev CT:Stmt:=Bf (top 70) 7
abbrev Jo:List Str:=["self","square","parts","a","b","c","d"]
abbrev BZ:List Str:=["self","square"]
theorem Bg:As Jo BZ (Ah CT):=⟨rfl,rfl,rfl,by decide +kernel,rfl,by decide +kernel,by decide +kernel⟩
abbrev Cu:Stmt:=Bf (top 70) 8
abbrev FM:List Str:=["self","leaves","leaf","states"]
abbrev Dy:List Str:=["self","leaves"]
theorem Cg:As FM Dy (Ah Cu):=⟨rfl,rfl,rfl,by decide +kernel,rfl,by decide +kernel,by decide +kernel⟩
structure Ad where
 c_Amounts:Addr
 c_Places:Addr
 c_Clause:Addr
 c_Grove:Addr
 c_Rule:Addr
 c_Jumps:Addr
structure Top(K:PySem.W.Frag)(mg:Str->Option Value)(a:Ad):Prop where
 b_all:mg "all" = none
 b_bool:mg "bool" = none
 b_enumerate:mg "enumerate" = none
 b_int:mg "int" = none
 b_isinstance:mg "isinstance" = none
 b_len:mg "len" = none
 b_list:mg "list" = none
 b_max:mg "max" = none
 b_min:mg "min" = none
 b_range:mg "range" = none
 b_sorted:mg "sorted" = none
 b_str:mg "str" = none
 b_tuple:mg "tuple" = none
 b_zip:mg "zip" = none
 k_STATES:∃t,mg "STATES" = some (.int 8 t)
 k_NEIGHBOURS:∃t,mg "NEIGHBOURS" = some (.int 8 t)
 k_STATE_FIGURES:∃t,mg "STATE_FIGURES" = some (.str (Str.ofString "01234567") t)
 k_AMOUNT_FIGURES:∃t,mg "AMOUNT_FIGURES" = some (.str (Str.ofString "012345678") t)
 k_ANY_SIGN:∃t,mg "ANY_SIGN" = some (.str (Str.ofString "*") t)
 k_TOP_LEVEL:∃t,mg "TOP_LEVEL" = some (.int 48 t)
 k_LIMIT:∃t,mg "LIMIT" = some (.int 1099511627776 t)
 k_LEAST_LEVEL:∃t,mg "LEAST_LEVEL" = some (.int 1 t)
 k_CLAUSE_MARK:∃t,mg "CLAUSE_MARK" = some (.str (Str.ofString "; ") t)
 k_LEAST_JUMPED:∃t,mg "LEAST_JUMPED" = some (.int 2 t)
 m_Amounts:mg "Amounts" = some (.ref a.c_Amounts)
 cl_Amounts:Cls K a.c_Amounts
 na_Amounts_state:BD K a.c_Amounts "state"
 na_Amounts_numbers:BD K a.c_Amounts "numbers"
 m_Places:mg "Places" = some (.ref a.c_Places)
 cl_Places:Cls K a.c_Places
 na_Places_wanted:BD K a.c_Places "wanted"
 m_Clause:mg "Clause" = some (.ref a.c_Clause)
 cl_Clause:Cls K a.c_Clause
 na_Clause_cell:BD K a.c_Clause "cell"
 na_Clause_conditions:BD K a.c_Clause "conditions"
 na_Clause_makes:BD K a.c_Clause "makes"
 m_Grove:mg "Grove" = some (.ref a.c_Grove)
 cl_Grove:Cls K a.c_Grove
 na_Grove_levels:BD K a.c_Grove "levels"
 na_Grove_parts:BD K a.c_Grove "parts"
 na_Grove_numbers:BD K a.c_Grove "numbers"
 na_Grove_bares:BD K a.c_Grove "bares"
 na_Grove_amounts:BD K a.c_Grove "amounts"
 na_Grove_boxes:BD K a.c_Grove "boxes"
 m_Rule:mg "Rule" = some (.ref a.c_Rule)
 cl_Rule:Cls K a.c_Rule
 na_Rule_text:BD K a.c_Rule "text"
 na_Rule_clauses:BD K a.c_Rule "clauses"
 m_Jumps:mg "Jumps" = some (.ref a.c_Jumps)
 cl_Jumps:Cls K a.c_Jumps
 na_Jumps_grove:BD K a.c_Jumps "grove"
 na_Jumps_memories:BD K a.c_Jumps "memories"
 na_Jumps_rule:BD K a.c_Jumps "rule"
 na_Jumps_known_squares:BD K a.c_Jumps "known_squares"
 na_Jumps_known_cells:BD K a.c_Jumps "known_cells"
seal L2.PA L2.PE L2.PS L2.PSs L2.PT L2.PW
inductive Bh where
 |am (s:Int) (ns:List Int)
 |pl (ws:List (Option Int))
structure AV where
 cell:Option Int
 conds:List Bh
 makes:Int
abbrev AD:=List AV
def Gw:Option Int->V
 |none=>.non
 |some i=>.int i
def CQ(w:Option Int)(s:Int):Bool:=match w with
 |none=>true
 |some i=>decide (i=s)
def Bh.holds(ar:List Int):Bh->Bool
 |.am s ns=>ns.any λn=>decide (n=((ar.countP (· == s):Nat):Int))
 |.pl ws=>(ws.zip ar).all λp=>CQ p.1 p.2
def AV.fits(cell:Int)(ar:List Int)(c:AV):Bool:=CQ c.cell cell && c.conds.all (Bh.holds ar)
def IL(r:AD)(cell:Int)(ar:List Int):Option Nat:=r.findIdx? (AV.fits cell ar)
def CZ(r:AD)(cell:Int)(ar:List Int):Int:=match r.find? (AV.fits cell ar)with
 |none=>cell
 |some c=>c.makes
def fl1(f:Str)(a:V):List (Str×V):=AR f a []
def fl2(f g:Str)(a b:V):List (Str×V):=AR g b (AR f a [])
def fl3(f g h:Str)(a b c:V):List (Str×V):=AR h c (AR g b (AR f a []))
theorem fl1_1{f:Str}{a:V}:(fl1 f a).lookup f=some a:=by unfold fl1;rw[Al,Y7 rfl]
theorem Rl{f m:Str}{a:V}(h:¬m=f):(fl1 f a).lookup m=none:=by unfold fl1;rw[Al,Y4 h];rfl
theorem Zv{f g:Str}{a b:V}(h:¬f=g):(fl2 f g a b).lookup f=some a:=by unfold fl2;rw[Al,Y4 h,Al,Y7 rfl]
theorem Zu{f g:Str}{a b:V}:(fl2 f g a b).lookup g=some b:=by unfold fl2;rw[Al,Y7 rfl]
theorem fl2_no{f g m:Str}{a b:V}(h1:¬m=f)(h2:¬m=g):(fl2 f g a b).lookup m=none:=by unfold fl2;rw[Al,Y4 h2,Al,Y4 h1];rfl
theorem fl3_1{f g h:Str}{a b c:V}(h1:¬f=g)(h2:¬f=h):(fl3 f g h a b c).lookup f=some a:=by unfold fl3;rw[Al,Y4 h2,Al,Y4 h1,Al,Y7 rfl]
theorem fl3_2{f g h:Str}{a b c:V}(h1:¬g=h):(fl3 f g h a b c).lookup g=some b:=by unfold fl3;rw[Al,Y4 h1,Al,Y7 rfl]
theorem fl3_3{f g h:Str}{a b c:V}:(fl3 f g h a b c).lookup h=some c:=by unfold fl3;rw[Al,Y7 rfl]
theorem fl3_no{f g h m:Str}{a b c:V}(h1:¬m=f)(h2:¬m=g)(h3:¬m=h):(fl3 f g h a b c).lookup m=none:=by unfold fl3;rw[Al,Y4 h3,Al,Y4 h2,Al,Y4 h1];rfl
theorem Se(f:Str)(v:V):∀l:List (Str×V),(AR f v l).length<=l.length+1
 |[]=>C0 _
 | (g,w)::r=>by
  unfold AR;split
  ·exact R3 _
  ·rw[D8,D8];exact P9 (Se f v r)
theorem Ao{H:Hp}{p:Addr}{o:HO}(h:H p=none):Ay H (upd H p o):=λb u e=>by
 rw[Au (Aw e h)];exact e
theorem alc{H H':Hp}{p:Addr}{o:HO}(h:H p=none)(e:upd H p o=H'):Ay H H'/\H' p=some o:=e▸⟨Ao h,Af⟩
inductive Dj(a:Ad)(H:Hp):Addr->Bh->Prop where
 |am {p t dx:Addr} {s:Int} {ns:List Int} (h:H p=some (.ins a.c_Amounts dx (fl2 "state" "numbers" (.int s) (.ref t)))) (ht:H t=some (.tup (ns.map V.int))):Dj a H p (.am s ns)
 |pl {p t dx:Addr} {ws:List (Option Int)} (h:H p=some (.ins a.c_Places dx (fl1 "wanted" (.ref t)))) (ht:H t=some (.tup (ws.map Gw))):Dj a H p (.pl ws)
structure BR(a:Ad)(H:Hp)(p:Addr)(c:AV):Prop where
 ex:∃(dx t:Addr)(cs:List Addr),H p=some (.ins a.c_Clause dx (fl3 "cell" "conditions" "makes" (Gw c.cell) (.ref t) (.int c.makes)))/\H t=some (.tup (cs.map V.ref))/\Paired (Dj a H) cs c.conds
structure CB(a:Ad)(H:Hp)(p:Addr)(x:Str)(r:AD):Prop where
 ex:∃(dx t:Addr)(cs:List Addr),H p=some (.ins a.c_Rule dx (fl2 "text" "clauses" (.str x) (.ref t)))/\H t=some (.tup (cs.map V.ref))/\Paired (BR a H) cs r
theorem Paired.imp{α β:Type}{F G:α->β->Prop}(h:∀x y,F x y->G x y):∀{l:List α}{m:List β},Paired F l m->Paired G l m
 |_,_,.nil=>.nil
 |_,_,.cons r t=>.cons (h _ _ r) (Paired.imp h t)
theorem Paired.get{α β:Type}{F:α->β->Prop}:∀{l:List α}{m:List β}{i:Nat}{x:α},Paired F l m->l[i]?=some x->∃y,m[i]?=some y/\F x y
 |_,_,_,_,.nil,e=>by simp at e
 |_,_,0,_,.cons r _,e=>by simp at e;subst e;exact⟨_,rfl,r⟩
 |_,_,i+1,x,.cons _ t,e=>by
  obtain⟨y,h1,h2⟩:=Paired.get (i:=i) (x:=x) t (by simpa using e);exact⟨y,by simpa using h1,h2⟩
theorem Dj.same{a:Ad}{H H':Hp}{p:Addr}{c:Bh}(s:Ay H H')(h:Dj a H p c):Dj a H' p c:=by
 cases h with
 |am h ht=>exact .am (s _ _ h) (s _ _ ht)
 |pl h ht=>exact .pl (s _ _ h) (s _ _ ht)
theorem BR.same{a:Ad}{H H':Hp}{p:Addr}{c:AV}(s:Ay H H')(h:BR a H p c):BR a H' p c:=by
 obtain⟨dx,t,cs,h1,h2,h3⟩:=h.ex;exact⟨dx,t,cs,s _ _ h1,s _ _ h2,Paired.imp (λ_ _ z=>z.same s) h3⟩
theorem CB.same{a:Ad}{H H':Hp}{p:Addr}{x:Str}{r:AD}(s:Ay H H')(h:CB a H p x r):CB a H' p x r:=by
 obtain⟨dx,t,cs,h1,h2,h3⟩:=h.ex;exact⟨dx,t,cs,s _ _ h1,s _ _ h2,Paired.imp (λ_ _ z=>z.same s) h3⟩
theorem Rh(n:Int)(ns:List Int):inV (.int n) (ns.map V.int)=ns.any λm=>decide (m=n):=by
 unfold inV;rw[List.any_map];congr 1
theorem PY(ns:List Int):(ns.map V.int).all Mc=true:=by
 rw[List.all_map];exact S5.mpr λ_ _=>rfl
theorem Iv(i j:Int):decide (V.int i=V.int j)=decide (i=j):=by
 by_cases h:i=j
 ·rw[Y5 h,Y5 (by rw[h])]
 ·rw[Z0 h,Z0 λz=>h (by injection z)]
section
variable{P:Program}{w:World}{K:PySem.W.Frag}{mg:Str->Option Value}{base:Heap}{a:Ad}
inductive Vr(vs:List V)(H:Hp)(Q:VK):Prop
 |mk (x:Option Int) (s:Int) (_:vs=[Gw x,.int s]) (_:Q (.bl (CQ x s)) H):Vr vs H Q
def Nz:Sp:=λvs H Q _=>Vr vs H Q
theorem Yv{f:Addr}{fd:FuncData}(F:Fun K "takes" "takes" QH f fd):AI P w K mg base CX0 1 f fd NH Nz:=by
 refine F.ok Yk (λvs H Q E h=>?_) (λcdv A outer s H vs Q E hr h=>?_)
 ·obtain⟨x,s,rfl,_⟩:=h;rfl
 ·obtain⟨x,s,rfl,k⟩:=h;refine⟨_,(Ag (Av (pe_or (DX Io (pv 0) Dh (AG _)) (Lk (DX Cb (pv 0) (pv 1) (AG _)))))),?_⟩
  try dsimp only[cxK]
  refine xq1 rfl ⟨rfl,(xq1 rfl ?_)⟩;cases x with
  |none=>exact Ce k
  |some i =>
   have e:decide (Gw (some i)=V.int s)=CQ (some i) s:=Iv i s;rw[<-e]at k;exact Bo (xw2 rfl rfl ⟨rfl,k⟩)
inductive Te(a:Ad)(vs:List V)(H:Hp)(Q:VK):Prop
 |mk (p t dx:Addr) (s:Int) (_:vs=[.ref p,.int s,.ref t]) (_:H p=some (.ins a.c_Amounts dx [])) (_:Q .non (upd H p (.ins a.c_Amounts dx (fl2 "state" "numbers" (.int s) (.ref t))))):Te a vs H Q
def NZ(a:Ad):Sp:=λvs H Q _=>Te a vs H Q
theorem VV{f:Addr}{fd:FuncData}(F:Fun K "__init__" "Amounts.__init__" Fw f fd)(T:Top K mg a):AI P w K mg base CX0 1 f fd FK (NZ a):=by
 refine F.ok Nk (λvs H Q E h=>?_) (λcdv A outer s H vs Q E hr h=>?_)
 ·obtain⟨p,t,dx,s,rfl,_⟩:=h;rfl
 ·obtain⟨p,t,dx,s,rfl,hp,k⟩:=h;refine⟨_,(Ac (Cv (pv 0) (pv 1) rfl) (Ag (Cv (pv 0) (pv 2) rfl))),?_⟩
  try dsimp only[cxK]
  refine xw2 rfl rfl ⟨p,_,dx,[],rfl,hp,T.cl_Amounts,T.na_Amounts_state,B3,(xw2 rfl rfl ⟨p,_,dx,(xq1 rfl ⟨Af,T.cl_Amounts,T.na_Amounts_numbers,B4,?_⟩)⟩)⟩;rw[FQ];exact k
inductive Tc(a:Ad)(vs:List V)(H:Hp)(Q:VK):Prop
 |mk (p t dx:Addr) (_:vs=[.ref p,.ref t]) (_:H p=some (.ins a.c_Places dx [])) (_:Q .non (upd H p (.ins a.c_Places dx (fl1 "wanted" (.ref t))))):Tc a vs H Q
def NW(a:Ad):Sp:=λvs H Q _=>Tc a vs H Q
theorem VT{f:Addr}{fd:FuncData}(F:Fun K "__init__" "Places.__init__" Gj f fd)(T:Top K mg a):AI P w K mg base CX0 1 f fd Gq (NW a):=by
 refine F.ok Of (λvs H Q E h=>?_) (λcdv A outer s H vs Q E hr h=>?_)
 ·obtain⟨p,t,dx,rfl,_⟩:=h;rfl
 ·obtain⟨p,t,dx,rfl,hp,k⟩:=h;refine⟨_,(Ag (Cv (pv 0) (pv 1) rfl)),?_⟩
  try dsimp only[cxK]
  exact xw2 rfl rfl ⟨p,_,dx,[],rfl,hp,T.cl_Places,T.na_Places_wanted,B3,k⟩
inductive Td(a:Ad)(vs:List V)(H:Hp)(Q:VK):Prop
 |mk (p t dx:Addr) (c:Option Int) (m:Int) (_:vs=[.ref p,Gw c,.ref t,.int m]) (_:H p=some (.ins a.c_Clause dx [])) (_:Q .non (upd H p (.ins a.c_Clause dx (fl3 "cell" "conditions" "makes" (Gw c) (.ref t) (.int m))))):Td a vs H Q
def NY(a:Ad):Sp:=λvs H Q _=>Td a vs H Q
theorem VU{f:Addr}{fd:FuncData}(F:Fun K "__init__" "Clause.__init__" Gm f fd)(T:Top K mg a):AI P w K mg base CX0 1 f fd Gs (NY a):=by
 refine F.ok Oh (λvs H Q E h=>?_) (λcdv A outer s H vs Q E hr h=>?_)
 ·obtain⟨p,t,dx,c,m,rfl,_⟩:=h;rfl
 ·obtain⟨p,t,dx,c,m,rfl,hp,k⟩:=h;refine⟨_,(Ac (Cv (pv 0) (pv 1) rfl) (Ac (Cv (pv 0) (pv 2) rfl) (Ag (Cv (pv 0) (pv 3) rfl)))),?_⟩
  try dsimp only[cxK]
  refine⟨_,rfl,_,rfl,p,_,dx,[],rfl,hp,T.cl_Clause,T.na_Clause_cell,B3,_,rfl,_,rfl,p,_,dx,_,rfl,Af,T.cl_Clause,T.na_Clause_conditions,B4,_,rfl,_,rfl,p,_,dx,_,rfl,Af,T.cl_Clause,T.na_Clause_makes,
   F4 (Se _ _ _) (by show 2<1000;decide),?_⟩
  rw[FQ,FQ];exact k
def Mn(a:Ad):Sp:=λvs H Q E=>(∃(p l t dx:Addr)(s:Int)(ns ar:List Int),vs=[.ref p,.ref l]/\H p=some (.ins a.c_Amounts dx (fl2 "state" "numbers" (.int s) (.ref t)))/\H t=some (.tup (ns.map V.int))/\H l=some (.lst (ar.map V.int))/\Q (.bl (Bh.holds ar (.am s ns))) H)
theorem TD{f:Addr}{fd:FuncData}(F:Fun K "holds" "Amounts.holds" EL f fd)(T:Top K mg a):AI P w K mg base CX0 1 f fd EN (Mn a):=by
 refine F.ok Ms (λvs H Q E h=>?_) (λcdv A outer s H vs Q E hr h=>?_)
 ·obtain⟨p,l,t,dx,s,ns,ar,rfl,_⟩:=h;rfl
 ·obtain⟨p,l,t,dx,s,ns,ar,rfl,hp,ht,hl,k⟩:=h;refine⟨_,(Ag (Av (DX MG (DB Z8 PySem.F.slot_list_count PySem.F.type_list_count YR (pv 1) (Aa (AB (pv 0) rfl) Ab)) (AB (pv 0) rfl) rfl))),?_⟩
  try dsimp only[cxK]
  refine xq1 rfl ⟨.inl ⟨rfl,_,SqL.of hl⟩,(xwf rfl rfl hp T.cl_Amounts T.na_Amounts_state (Zv A1) ⟨l,ar,s,rfl,rfl,hl,(xwf rfl rfl hp T.cl_Amounts T.na_Amounts_numbers Zu ⟨t,(xq1 rfl ⟨.inr (SqT.of ht),rfl,PY ns,?_⟩)⟩)⟩)⟩;show Q (.bl (inV _ _)) H;rw[Rh];exact k
inductive Qp(a:Ad)(vs:List V)(H:Hp)(Q:VK):Prop
 |mk (p l t dx:Addr) (ws:List (Option Int)) (ar:List Int) (_:vs=[.ref p,.ref l]) (_:H p=some (.ins a.c_Places dx (fl1 "wanted" (.ref t)))) (_:H t=some (.tup (ws.map Gw))) (_:H l=some (.lst (ar.map V.int))) (_:ws.length<=100) (_:∀H',Ay H H'->Q (.bl (Bh.holds ar (.pl ws))) H'):Qp a vs H Q
def Mm(a:Ad):Sp:=λvs H Q _=>Qp a vs H Q
theorem TC{f:Addr}{fd:FuncData}(F:Fun K "holds" "Places.holds" DT f fd)(T:Top K mg a)(cG:Cal P w K mg base CX0 1 "takes" NH Nz):AI P w K mg base CX0 2 f fd FI (Mm a):=by
 refine F.ok Nj (λvs H Q E h=>?_) (λcdv A outer s H vs Q E hr h=>?_)
 ·obtain⟨p,l,t,dx,ws,ar,rfl,_⟩:=h;rfl
 ·obtain⟨p,l,t,dx,ws,ar,rfl,hp,ht,hl,hw,k⟩:=h;refine⟨_,(Ag (Av (AU (SY rfl) rfl T.b_all PyProof.Rows.boot_all (Aa (BU rfl (Bw.of (So:=Ah DT) (No:=Jn) (N:=["one","state"]) (k:=2) (cs:=[]) rfl rfl A1) (Yp true false rfl T.b_zip (Aa (AB (pv 0) rfl) (Aa (pv 1) Ab))) (λ_ _ _=>(Sh (i:=0) (j:=1) rfl A1 rfl rfl rfl rfl)) (λ_ _ _=>BE) (λ_ _ _=>(Ar cG (rm hr) rfl Am (Aa (pv 0) (Aa (pv 1) Ab))))) Ab)))),?_⟩
  try dsimp only[cxK]
  refine xwf rfl rfl hp T.cl_Places T.na_Places_wanted fl1_1 (xq1 rfl ⟨t,l,rfl,⟨_,SqT.of ht⟩,⟨_,SqL.of hl⟩,?_⟩);refine Vq (xs:=ws.map Gw) (ys:=ar.map V.int) (λi acc H2=>Ay H H2/\acc=(((ws.zip ar).take i).map λp=>V.bl (CQ p.1 p.2))) ⟨Ay.refl H,rfl⟩ (λi acc H2 z=>⟨SqT.of (z.1 _ _ ht),SqL.of (z.1 _ _ hl)⟩) ?_ ?_
  ·rintro i x y acc H2 T' hx hy ⟨sm,rfl⟩ nT;rw[B8]at hx hy;obtain⟨o,eo,rfl⟩:=D0.mp hx;obtain⟨m,em,rfl⟩:=D0.mp hy;have ez:(ws.zip ar)[i]?=some (o,m):=by rw[T7];exact⟨eo,em⟩
   refine PV Af ⟨⟨[some (Gw o),some (.int m)],rfl,rfl⟩,?_,?_⟩
   ·have:((((ws.zip ar).take i).map λp=>V.bl (CQ p.1 p.2))).length<=ws.length:=by
     rw[B6,J0,V4];omega
    exact F4 (C7 this hw) A4
   ·refine Gb ?_;refine xw2 rfl rfl ⟨o,m,rfl,sm.trans (Ao nT),?_⟩;rw[F3,ez,C6];rfl
  ·rintro acc H2 ⟨sm,rfl⟩ q nq;have len:min (ws.map Gw).length (ar.map V.int).length=(ws.zip ar).length:=by rw[B6,B6,V4]
   rw[len,F6];refine⟨q,(ws.zip ar).map (λp=>CQ p.1 p.2),rfl,SqL.of (by rw[Af,M5];rfl),?_⟩;have e:((ws.zip ar).map (λp=>CQ p.1 p.2)).all id=Bh.holds ar (.pl ws):=by rw[List.all_map];rfl
   rw[e];exact k _ (sm.trans (Ao nq))
inductive ZX(a:Ad)(vs:List V)(H:Hp)(Q:VK):Prop
 |mk (p l:Addr) (c:AV) (cell:Int) (ar:List Int) (_:vs=[.ref p,.int cell,.ref l]) (_:BR a H p c) (_:c.conds.length<=100) (_:(∀d∈c.conds,∀ws,d=Bh.pl ws->ws.length<=100)) (_:H l=some (.lst (ar.map V.int))) (_:∀H',Ay H H'->Q (.bl (c.fits cell ar)) H'):ZX a vs H Q
def Tn(a:Ad):Sp:=λvs H Q _=>ZX a vs H Q
theorem ok_Fits{f:Addr}{fd:FuncData}(F:Fun K "fits" "Clause.fits" Ey f fd)(T:Top K mg a)(cG:Cal P w K mg base CX0 1 "takes" NH Nz)(M_Am:BO P w K mg base CX0 1 a.c_Amounts "holds" EN (Mn a))(M_Pl:BO P w K mg base CX0 2 a.c_Places "holds" FI (Mm a)) :
  AI P w K mg base CX0 3 f fd Gu (Tn a):=by
 refine F.ok Ol (λvs H Q E h=>?_) (λcdv A outer s H vs Q E hr h=>?_)
 ·obtain⟨p,l,c,cell,ar,rfl,_⟩:=h;rfl
 ·obtain⟨p,l,c,cell,ar,rfl,hC,hn,hn2,hl,k⟩:=h;obtain⟨dx,t,cs,hp,ht,hcs⟩:=hC.ex;refine⟨_,(Ag (Av (Jb (Ar cG (rm hr) rfl Am (Aa (AB (pv 0) rfl) (Aa (pv 1) Ab))) (Lk (AU (SY rfl) rfl T.b_all PyProof.Rows.boot_all (Aa (BU rfl (Bw.of (So:=Ah Ey) (No:=JT) (N:=["condition","around"]) (k:=1) (cs:=[2]) rfl rfl A1) (Tt (AB (pv 0) rfl)) (λ_ _ _=>(Bc (i:=0) A1 rfl rfl)) (λ_ _ _=>BE) (λ_ _ _=>(PE.or (AF (pv 0) M_Am (rm hr) Am (Aa (pv 1) Ab)) (AF (pv 0) M_Pl (rm hr) Am (Aa (pv 1) Ab))))) Ab)))))),?_⟩
  try dsimp only[cxK]
  refine xwf rfl rfl hp T.cl_Clause T.na_Clause_cell (fl3_1 A1 A1) (xq1 rfl ⟨c.cell,cell,rfl,CQ c.cell cell,rfl,?_⟩);cases et:CQ c.cell cell with
  |false =>
   refine Bo ?_;have:=k H (Ay.refl H);unfold AV.fits at this;rw[et]at this;exact this
  |true =>
   refine Ce ?_;have ln:cs.length=c.conds.length:=Z7 hcs;refine xwf rfl rfl hp T.cl_Clause T.na_Clause_conditions (fl3_2 A1) ⟨t,rfl,⟨_,SqT.of ht⟩,?_⟩;refine Rs (xs:=cs.map V.ref) (λi acc H2=>Ay H H2/\acc=((c.conds.take i).map λd=>V.bl (Bh.holds ar d))) ⟨Ay.refl H,rfl⟩ (λi acc H2 _ z=>SqT.of (z.1 _ _ ht)) ?_ ?_
   ·rintro i x acc H2 hx ⟨sm,rfl⟩;rw[B8]at hx;obtain⟨q,eq,rfl⟩:=D0.mp hx;obtain⟨d,ed,hd⟩:=Paired.get hcs eq;have hd2:=hd.same sm;refine⟨⟨[some (.ref q)],rfl,rfl⟩,?_,?_⟩
    ·have:((c.conds.take i).map λd=>V.bl (Bh.holds ar d)).length<=c.conds.length:=by
      rw[B6,J0];omega
     exact F4 (C7 this hn) A4
    ·refine Gb ?_;have nx:∀H4,Ay H2 H4->Ay H H4/\((c.conds.take i).map λd=>V.bl (Bh.holds ar d))++[V.bl (Bh.holds ar d)]=((c.conds.take (i+1)).map λd=>V.bl (Bh.holds ar d)):=λH4 s4=>⟨sm.trans s4,by
      rw[F3,ed,C6];rfl⟩
     have md:d∈c.conds:=C9 ed;cases hd2 with
     |@am t2 dx2 s ns h1 h2=>exact .inl ⟨_,rfl,q,dx2,_,rfl,h1,fl2_no A1 A1,_,rfl,q,l,t2,dx2,s,ns,ar,rfl,h1,h2,sm _ _ hl,nx H2 (Ay.refl H2)⟩
     |@pl t2 dx2 ws h1 h2=>exact .inr ⟨_,rfl,q,dx2,_,rfl,h1,Rl A1,_,rfl,q,l,t2,dx2,ws,ar,rfl,h1,h2,sm _ _ hl,hn2 _ md ws rfl,λH4 s4=>nx H4 s4⟩
   ·rintro acc H2 ⟨sm,rfl⟩ q nq;rw[B6,ln,F6];refine⟨q,c.conds.map (Bh.holds ar),rfl,SqL.of (by rw[Af,M5];rfl),?_⟩;have e:(c.conds.map (Bh.holds ar)).all id=c.fits cell ar:=by
     unfold AV.fits;rw[et,List.all_map];rfl
    rw[e];exact k _ (sm.trans (Ao nq))
def ROk(r:AD):Prop:=r.length<=5000/\∀c∈r,c.conds.length<=100/\∀d∈c.conds,∀ws,d=Bh.pl ws->ws.length<=100
def decV(o:Option Nat):V:=match o with
 |none=>.non
 |some n=>.int n
inductive SpDec(a:Ad)(vs:List V)(H:Hp)(Q:VK):Prop
 |mk (p l:Addr) (z:Str) (r:AD) (cell:Int) (ar:List Int) (_:vs=[.ref p,.int cell,.ref l]) (_:CB a H p z r) (_:ROk r) (_:H l=some (.lst (ar.map V.int))) (_:∀H',Ay H H'->Q (decV (IL r cell ar)) H'):SpDec a vs H Q
def Yf(a:Ad):Sp:=λvs H Q _=>SpDec a vs H Q
theorem ok_dec{f:Addr}{fd:FuncData}(F:Fun K "deciding" "deciding" Lf f fd)(T:Top K mg a)(bR:BO P w K mg base CX0 3 a.c_Clause "fits" Gu (Tn a)):AI P w K mg base CX0 4 f fd Lm (Yf a):=by
 refine F.ok IQ (λvs H Q E h=>?_) (λcdv A outer s H vs Q E hr h=>?_)
 ·obtain⟨p,l,z,r,cell,ar,rfl,_⟩:=h;rfl
 ·obtain⟨p,l,z,r,cell,ar,rfl,hR,hn,hl,k⟩:=h;obtain⟨dx,t,cs,hp,ht,hcs⟩:=hR.ex;have ln:cs.length=r.length:=Z7 hcs;refine⟨_,(Ac (CL Z6 rfl (NF true rfl T.b_enumerate (Aa (AB (pv 0) rfl) Ab)) (Oq rfl (Dl (Bv (i:=3) IQ.nd rfl (Or.inl rfl)) (Dl (Bv (i:=4) IQ.nd rfl (Or.inl rfl)) LK))) (Ag (AM (Dw (AF (pv 4) bR (rm hr) Am (Aa (pv 1) (Aa (pv 2) Ab)))) (Ag (Av (pv 3))) AC))) (Ag (Av Dh))),?_⟩
  try dsimp only[cxK]
  refine xwf rfl rfl hp T.cl_Rule T.na_Rule_clauses Zu ⟨t,rfl,⟨_,SqT.of ht⟩,?_⟩;refine Ma (b:=true) (xs:=cs.map V.ref) (λi σ H2=>Ay H H2/\(∃u v,σ=[some (.ref p),some (.int cell),some (.ref l),u,v])/\∀c∈r.take i,c.fits cell ar=false) ⟨Ay.refl H,⟨none,none,rfl⟩,λc hc=>by simp at hc⟩ (λi σ H2 _ q=>SqT.of (q.1 _ _ ht)) ?_ ?_
  ·rintro i x σ H2 T' hx ⟨sm,⟨u,v,rfl⟩,no⟩ nT;rw[B8]at hx;obtain⟨q,eq,rfl⟩:=D0.mp hx;obtain⟨c,ec,hc⟩:=Paired.get hcs eq;have s3:=sm.trans (Ao (o:=.tup [.int i,.ref q]) nT);have hc3:=hc.same s3;obtain⟨dx2,t2,cs2,h1,_⟩:=hc3.ex;refine PV Af ?_;have mc:=C9 ec;refine xwn rfl rfl h1 (fl3_no A1 A1 A1) rfl (xq1 rfl ⟨q,l,c,cell,ar,rfl,hc3,(hn.2 c mc).1,(hn.2 c mc).2,s3 _ _ hl,λH4 s4=>(xq1 rfl ?_)⟩);cases ef:c.fits cell ar with
   |true =>
    refine Ce ?_;refine xq1 rfl ?_;have e:IL r cell ar=some i:=by
     unfold IL;rw[S2];have hi:i<r.length:=(B7.mp ec).1;refine⟨hi,?_,λj hj=>?_⟩
     ·rw[(B7.mp ec).2];exact ef
     ·have:=no r[j] (List.mem_take_iff_getElem.mpr ⟨j,by omega,rfl⟩);rw[this];exact C8
    have:=k H4 (s3.trans s4);rw[e]at this;exact this
   |false =>
    refine Bo ⟨s3.trans s4,⟨_,_,rfl⟩,λd hd=>?_⟩;rw[F3,ec]at hd;rcases F0.mp hd with z|z
    ·exact no d z
    ·have:d=c:=by simpa using z
     rw[this];exact ef
  ·rintro σ H2 ⟨sm,⟨u,v,rfl⟩,no⟩;rw[B6,ln,F6]at no;have e:IL r cell ar=none:=by
    unfold IL;rw[T8];exact no
   have:=k H2 sm;rw[e]at this;exact this
inductive SpBec(a:Ad)(vs:List V)(H:Hp)(Q:VK):Prop
 |mk (p l:Addr) (z:Str) (r:AD) (cell:Int) (ar:List Int) (_:vs=[.ref p,.int cell,.ref l]) (_:CB a H p z r) (_:ROk r) (_:H l=some (.lst (ar.map V.int))) (_:∀H',Ay H H'->Q (.int (CZ r cell ar)) H'):SpBec a vs H Q
def UM(a:Ad):Sp:=λvs H Q _=>SpBec a vs H Q
theorem Mi{r:AD}{cell:Int}{ar:List Int}(h:IL r cell ar=none):CZ r cell ar=cell:=by
 unfold IL at h;rw[T8]at h;unfold CZ;rw[List.find?_eq_none.mpr λc hc=>by rw[h c hc];exact C8]
theorem Mh{r:AD}{cell:Int}{ar:List Int}{i:Nat}(h:IL r cell ar=some i):∃c,r[i]?=some c/\CZ r cell ar=c.makes:=by
 unfold IL at h;rw[S2]at h;obtain⟨hi,h1,h2⟩:=h;refine⟨r[i],C5 hi,?_⟩;unfold CZ;have:r.find? (AV.fits cell ar)=some r[i]:=by
  rw[List.find?_eq_some_iff_getElem];exact⟨h1,i,hi,rfl,λj hj=>by simpa using h2 j hj⟩
 rw[this]
theorem ok_bec{f:Addr}{fd:FuncData}(F:Fun K "becomes" "becomes" Mw f fd)(T:Top K mg a)(cH:Cal P w K mg base CX0 4 "deciding" Lm (Yf a)):AI P w K mg base CX0 5 f fd JB (UM a):=by
 refine F.ok Oe (λvs H Q E h=>?_) (λcdv A outer s H vs Q E hr h=>?_)
 ·obtain⟨p,l,z,r,cell,ar,rfl,_⟩:=h;rfl
 ·obtain⟨p,l,z,r,cell,ar,rfl,hR,hn,hl,k⟩:=h;refine⟨_,(Ac (Aq (i:=3) Oe.nd rfl (Or.inl rfl) (Ar cH (rm hr) rfl Am (Aa (pv 0) (Aa (pv 1) (Aa (pv 2) Ab))))) (Ac (AM (Az Io (pv 3) Dh (AG _)) (Ag (Av (pv 1))) AC) (Ag (Av (AB (Aj An (AB (pv 0) rfl) (pv 3) (λ_ _=>rfl)) rfl))))),?_⟩
  try dsimp only[cxK]
  refine xw3 rfl rfl rfl ⟨p,l,z,r,cell,ar,rfl,hR,hn,hl,λH2 s2=>?_⟩;refine xq1 rfl ⟨rfl,(xq1 rfl ?_)⟩;cases e:IL r cell ar with
  |none =>
   refine Ce (xq1 rfl ?_);have:=k H2 s2;rw[Mi e]at this;exact this
  |some i =>
   obtain⟨c,ec,em⟩:=Mh e;obtain⟨dx,t,cs,hp,ht,hcs⟩:=hR.ex;obtain⟨q,eq⟩:∃q,cs[i]?=some q:=by
    have ln:cs.length=r.length:=Z7 hcs;have:i<cs.length:=by rw[ln];exact(B7.mp ec).1
    exact⟨_,C5 this⟩
   obtain⟨c',ec',hc⟩:=Paired.get hcs eq;rw[ec]at ec';cases ec';obtain⟨dx2,t2,cs2,h1,_⟩:=(hc.same s2).ex;refine Bo (xwf rfl rfl (s2 _ _ hp) T.cl_Rule T.na_Rule_clauses Zu (xwi rfl rfl rfl (SqT.of (s2 _ _ ht)) (Ai (by rw[B8,eq];rfl)) (xq5 h1 T.cl_Clause T.na_Clause_makes fl3_3 ?_)));have:=k H2 s2;rw[em]at this;exact this
end
def sgD(d:Int):Str:=⟨#[48+d.toNat]⟩
def wC:Option Int->Nat
 |none=>42
 |some d=>48+d.toNat
def wS(x:Option Int):Str:=⟨#[wC x]⟩
def DF(ns:List Int):Str:=⟨(ns.map λn=>48+n.toNat).toArray⟩
def AT:Bh->Str
 |.am s ns=>sgD s++⟨#[61]⟩++DF ns
 |.pl ws=>⟨(ws.map wC).toArray⟩
def BL(c:AV):Str:=Str.join ⟨#[32]⟩ (wS c.cell::(c.conds.map AT++[sgD c.makes]))
def PN:Str:=⟨#[59,32]⟩
def DA(r:AD):Str:=Str.join PN (r.map BL)
def IJ(d:Int):Prop:=0<=d/\d<8
def wOk:Option Int->Prop
 |none=>True
 |some d=>IJ d
def Bh.ok:Bh->Prop
 |.am s ns=>IJ s/\ns≠[]/\(∀n∈ns,0<=n/\n<=8)/\ns.Pairwise (· < ·)
 |.pl ws=>ws.length=8/\∀w∈ws,wOk w
structure AV.ok(c:AV):Prop where
 cell:wOk c.cell
 makes:IJ c.makes
 few:c.conds.length<=50
 conds:∀d∈c.conds,d.ok
theorem eight{d:Int}(h:IJ d):d=0\/d=1\/d=2\/d=3\/d=4\/d=5\/d=6\/d=7:=by
 obtain⟨m,rfl⟩:=F7 h.1;have h1:=h.2;exact(show ∀m:Nat,m<8->((m:Int)=0\/(m:Int)=1\/(m:Int)=2\/(m:Int)=3\/(m:Int)=4\/(m:Int)=5\/(m:Int)=6\/(m:Int)=7) by decide) m B2
abbrev figs8:Str:=Str.ofString "01234567"
abbrev figs9:Str:=Str.ofString "012345678"
theorem WR{d:Int}(h:IJ d):PySem.intText? (sgD d)=some d/\(!(Builtin.Str.occurrences figs8 (sgD d) 0 figs8.length 1).isEmpty)=true:=by
 rcases eight h with rfl|rfl|rfl|rfl|rfl|rfl|rfl|rfl<;>exact⟨by decide +kernel,by decide +kernel⟩
theorem nine{d:Int}(h0:0<=d)(h1:d<=8):d=0\/d=1\/d=2\/d=3\/d=4\/d=5\/d=6\/d=7\/d=8:=by
 obtain⟨m,rfl⟩:=F7 h0;exact(show ∀m:Nat,m<9->((m:Int)=0\/(m:Int)=1\/(m:Int)=2\/(m:Int)=3\/(m:Int)=4\/(m:Int)=5\/(m:Int)=6\/(m:Int)=7\/(m:Int)=8) by decide) m B2
theorem ZJ{d:Int}(h0:0<=d)(h1:d<=8):PySem.intText? (⟨#[48+d.toNat]⟩:Str)=some d/\(!(Builtin.Str.occurrences figs9 (⟨#[48+d.toNat]⟩:Str) 0 figs9.length 1).isEmpty)=true:=by
 rcases nine h0 h1 with rfl|rfl|rfl|rfl|rfl|rfl|rfl|rfl|rfl<;>exact⟨by decide +kernel,by decide +kernel⟩
theorem star_no{d:Int}(h:IJ d):decide (V.str (wS (some d))=V.str (Str.ofString "*"))=false:=by
 rcases eight h with rfl|rfl|rfl|rfl|rfl|rfl|rfl|rfl<;>decide +kernel
theorem Px{x:Option Int}(h:wOk x):wC x≠61/\wC x≠32/\wC x≠59:=by
 cases x with
 |none=>exact⟨by decide,by decide,by decide⟩
 |some d =>
  have:=h.1;have:=h.2;show 48+d.toNat≠61/\48+d.toNat≠32/\48+d.toNat≠59;refine⟨?_,?_,?_⟩<;>omega
theorem Qe{d:Bh}(h:d.ok):32∉(AT d).cps.toList/\59∉(AT d).cps.toList:=by
 cases d with
 |am s ns =>
  obtain⟨⟨s0,s1⟩,_,hn,_⟩:=h;have e:(AT (.am s ns)).cps.toList=(48+s.toNat)::61::ns.map λn=>48+n.toNat:=by
   show(sgD s++⟨#[61]⟩++DF ns).cps.toList=_;rw[Tx.Cz,Tx.Cz];rfl
  rw[e];constructor
  ·intro z;rcases C1.mp z with z|z
   ·omega
   ·rcases C1.mp z with z|z
    ·omega
    ·obtain⟨n,hn',e⟩:=D5.mp z;have:=hn n hn';omega
  ·intro z;rcases C1.mp z with z|z
   ·omega
   ·rcases C1.mp z with z|z
    ·omega
    ·obtain⟨n,hn',e⟩:=D5.mp z;have:=hn n hn';omega
 |pl ws =>
  have e:(AT (.pl ws)).cps.toList=ws.map wC:=rfl;rw[e];constructor
  ·intro z;obtain⟨x,hx,e⟩:=D5.mp z;exact(Px (h.2 x hx)).2.1 e
  ·intro z;obtain⟨x,hx,e⟩:=D5.mp z;exact(Px (h.2 x hx)).2.2 e
theorem NR:∀(ns:List Int)(lo:Int),lo<=9->(∀n∈ns,lo<=n/\n<=8)->ns.Pairwise (· < ·)->(ns.length:Int)<=9-lo
 |[],lo,h,_,_=>by show(0:Int)<=9-lo;omega
 |n::r,lo,_,hn,hp=>by
  have h1:=hn n C3;have h2:=NR r (n+1) B2 (λm hm=>⟨by have:=(List.pairwise_cons.mp hp).1 m hm;omega,(hn m (C2 _ hm)).2⟩) (List.pairwise_cons.mp hp).2;rw[D8];omega
theorem Mg{d:Bh}(h:d.ok):(AT d).length<=11:=by
 cases d with
 |am s ns =>
  obtain⟨_,_,hn,hp⟩:=h;have hl:=NR ns 0 A4 hn hp;rw[Nu.len];show(sgD s++⟨#[61]⟩++DF ns).cps.toList.length<=11;rw[Tx.Cz,Tx.Cz,C4,C4];show 1+1+(ns.map λn=>48+n.toNat).length<=11;rw[B6];omega
 |pl ws =>
  rw[Nu.len];show(ws.map wC).length<=11;rw[B6,h.1];decide
section
variable{P:Program}{w:World}{K:PySem.W.Frag}{mg:Str->Option Value}{base:Heap}{a:Ad}
theorem UD(K:PySem.W.Frag):kitOne K (.type "str") (.type "str")=some true:=by kernel_rfl
inductive SpRS(vs:List V)(H:Hp)(Q:VK):Prop
 |mk (d:Int) (_:vs=[.str (sgD d)]) (_:IJ d) (_:Q (.int d) H):SpRS vs H Q
def WV:Sp:=λvs H Q _=>SpRS vs H Q
theorem ok_rs{f:Addr}{fd:FuncData}(F:Fun K "read_state" "read_state" GS f fd)(T:Top K mg a):AI P w K mg base CX0 1 f fd DY WV:=by
 refine F.ok Pc (λvs H Q E h=>?_) (λcdv A outer s H vs Q E hr h=>?_)
 ·obtain⟨d,rfl,_⟩:=h;rfl
 ·obtain⟨d,rfl,hd,k⟩:=h;obtain⟨e1,e2⟩:=WR hd;refine⟨_,(Ac (AM (PW.pt (MZ (Az JP (AU Iy rfl T.b_len K4 (Aa (pv 0) Ab)) Ae (AG _)) (Lj (Az LP (pv 0) (NG rfl T.k_STATE_FIGURES) rfl)))) (Ag Bm) AC) (Ag (Av (BC Gy rfl T.b_int A0c (Aa (pv 0) Ab))))),?_⟩
  try dsimp only[cxK]
  refine xw2 rfl rfl ⟨(by show 1<=sizeLine;decide),rfl,(xq1 rfl ?_)⟩;refine Vj rfl (xwb rfl rfl rfl (xq1 rfl ?_));rw[e2];exact Bo (xq1 rfl ⟨_,d,rfl,e1,(by show 1<=640;decide),k⟩)
inductive SpRW(vs:List V)(H:Hp)(Q:VK):Prop
 |mk (x:Option Int) (_:vs=[.str (wS x)]) (_:wOk x) (_:Q (Gw x) H):SpRW vs H Q
def spRW:Sp:=λvs H Q _=>SpRW vs H Q
theorem ok_rw{f:Addr}{fd:FuncData}(F:Fun K "read_wanted" "read_wanted" Gg f fd)(T:Top K mg a)(aM:Cal P w K mg base CX0 1 "read_state" DY WV):AI P w K mg base CX0 2 f fd Ez spRW:=by
 refine F.ok Ob (λvs H Q E h=>?_) (λcdv A outer s H vs Q E hr h=>?_)
 ·obtain⟨x,rfl,_⟩:=h;rfl
 ·obtain⟨x,rfl,hx,k⟩:=h;refine⟨_,(Ac (AM (Az Cb (pv 0) (NG rfl T.k_ANY_SIGN) (AG _)) (Ag (Av Dh)) AC) (Ag (Av (Ar aM (rm hr) rfl Am (Aa (pv 0) Ab))))),?_⟩
  try dsimp only[cxK]
  refine xq1 rfl ⟨rfl,(xq1 rfl ?_)⟩;cases x with
  |none=>exact Ce k
  |some d =>
   rw[star_no hx];exact Bo (xq1 rfl ⟨d,rfl,hx,k⟩)
inductive SpRN(vs:List V)(H:Hp)(Q:VK):Prop
 |mk (ns:List Int) (_:vs=[.str (DF ns)]) (_:ns≠[]) (_:ns.length<=100) (_:(∀n∈ns,0<=n/\n<=8)) (_:ns.Pairwise (· < ·)) (_:∀(t:Addr)(H':Hp),Ay H H'->H' t=some (.tup (ns.map V.int))->Q (.ref t) H'):SpRN vs H Q
def spRN:Sp:=λvs H Q _=>SpRN vs H Q
theorem ok_rn{f:Addr}{fd:FuncData}(F:Fun K "read_numbers" "read_numbers" Fn f fd)(T:Top K mg a):AI P w K mg base CX0 1 f fd FB spRN:=by
 refine F.ok EJ (λvs H Q E h=>?_) (λcdv A outer s H vs Q E hr h=>?_)
 ·obtain⟨ns,rfl,_⟩:=h;rfl
 ·obtain⟨ns,rfl,hne,hl,hn,hp,k⟩:=h;have el:(DF ns).length=ns.length:=by rw[Nu.len];show(ns.map _).length=_;rw[B6]
  have ec:(DF ns).cps.toList=ns.map λn=>48+n.toNat:=rfl;have pos:0<ns.length:=S9.mpr hne;refine⟨_,(Ac (AM (Az Cb (AU Iy rfl T.b_len K4 (Aa (pv 0) Ab)) Ae (AG _)) (Ag Bm) AC) (Ac (Aq (i:=1) EJ.nd rfl (Or.inl rfl) (Cm Ab)) (Ac (CL Z6 rfl (Yq (pv 0)) (Bv (i:=2) EJ.nd rfl (Or.inl rfl)) (Ac (AM (Az LP (pv 2) (NG rfl T.k_AMOUNT_FIGURES) rfl) (Ag Bm) AC) (Ac (AM (PW.pt (MB (Az UW (AU CA rfl T.b_len K4 (Aa (pv 1) Ab)) Ae (AG _)) (Jy (Az LQ (BC Gy rfl T.b_int A0c (Aa (pv 2) Ab)) (Aj Ax (pv 1) (LL GM Ae) (λ_ _=>rfl)) (AG _))))) (Ag Bm) AC) (Ag (BS (DB Z8 Z9 X4 BW (pv 1) (Aa (BC Gy rfl T.b_int A0c (Aa (pv 2) Ab)) Ab))))))) (Ag (Av (BC BN rfl T.b_tuple X8 (Aa (pv 1) Ab))))))),?_⟩
  try dsimp only[cxK]
  refine xw2 rfl rfl ⟨(by rw[el];exact C7 hl A4),rfl,(xq1 rfl ?_)⟩;have nz:decide (V.int ((DF ns).length:Int)=V.int 0)=false:=Z0 λz=>by
   injection z with z
   omega
  rw[nz];refine Bo ⟨(by show 0<=sizeLine;decide),λl hl0=>?_⟩;refine xw2 rfl rfl ?_;refine for_str (λi σ H2=>∃v,σ=[some (.str (DF ns)),some (.ref l),v]/\H2=upd H l (.lst ((ns.take i).map V.int))) ⟨none,rfl,rfl⟩ ?_ ?_
  ·rintro i ch σ H2 hch ⟨v,rfl,rfl⟩;have hch':(ns.map λn=>48+n.toNat)[i]?=some ch:=by rw[<-ec];simpa using hch
   rw[B8]at hch';obtain⟨n,en,rfl⟩:=D0.mp hch';have mn:=C9 en;obtain⟨f1,f2⟩:=ZJ (hn n mn).1 (hn n mn).2;have hi:i<ns.length:=(B7.mp en).1;have tl:(ns.take i).length=i:=by rw[J0];omega
   refine xwb rfl rfl rfl (xq1 rfl ?_);rw[f2];refine Bo (xq1 rfl ⟨l,(xq1 rfl ⟨.inl (SqL.of Af),(xq2 rfl rfl (xq1 rfl ?_))⟩)⟩);have nx:∃v,([some (V.str (DF ns)),some (.ref l),some (.str ⟨#[48+n.toNat]⟩)]:St)=[some (.str (DF ns)),some (.ref l),v]/\upd (upd H l (.lst ((ns.take i).map V.int))) l (.lst ((ns.take i).map V.int++[V.int n]))=upd H l (.lst ((ns.take (i+1)).map V.int)):=by
    refine xq1 rfl ?_;rw[FQ,F3,en,C6];rfl
   have app:tDrop (tBM K "list" UT (GC 1) (CD (tCB (λxs H Q=>∃x n,xs=[.str x]/\PySem.intText? x=some n/\x.length<=640/\Q (.int n) H) (CD (GC 2) OZ)) OZ))
     {nx:=fun σ H2=>∃v,σ=[some (.str (DF ns)),some (.ref l),v]/\H2=upd H l (.lst ((ns.take (i+1)).map V.int)),rt:=Q,bk:=λ_ _=>False,ct:=fun σ H2=>∃v,σ=[some (.str (DF ns)),some (.ref l),v]/\H2=upd H l (.lst ((ns.take (i+1)).map V.int))}
     [some (.str (DF ns)),some (.ref l),some (.str ⟨#[48+n.toNat]⟩)] (upd H l (.lst ((ns.take i).map V.int))) :=
    ⟨_,rfl,.inl ⟨rfl,_,SqL.of Af⟩,_,rfl,_,n,rfl,f1,(by show 1<=640;decide),l,_,_,rfl,rfl,Af,(by rw[B6,tl];exact F2 hi (C7 hl A4)),nx⟩
   by_cases i0:i=0
   ·subst i0;exact Bo app
   ·have ip:0<i:=by omega
    have lt0:decide ((0:Int)<(((ns.take i).map V.int).length:Int))=true:=Y5 (by rw[B6,tl];omega);rw[lt0];have hm:i-1<ns.length:=by omega
    have hlt:ns[i-1]<n:=by
     have:=List.pairwise_iff_getElem.mp hp (i-1) i hm hi B2;rw[(B7.mp en).2]at this;exact this
    have at1:atI ((ns.take i).map V.int) (-1)=some (V.int ns[i-1]):=by
     have:((ns.take i).map V.int)[i-1]?=some (V.int ns[i-1]):=by
      rw[B8,U1 B2,C5 hm];rfl
     have e1:((ns.take i).map V.int).length=i:=by rw[B6,tl]
     unfold atI ixN;rw[e1,Y4 A4,Y7 B2];show((ns.take i).map V.int)[((-1:Int)+(i:Nat)).toNat]?=_;rw[show((-1:Int)+(i:Nat)).toNat=i-1 by omega];exact this
    refine Ce (xq1 rfl ⟨_,n,rfl,f1,(by show 1<=640;decide),(xw2 rfl rfl ⟨l,_,(xq2 rfl rfl ⟨SqL.of Af,at1,(xq2 rfl rfl (xq1 rfl ?_))⟩)⟩)⟩);rw[Z0 (by omega:¬n<=ns[i-1])];exact Bo app
  ·rintro σ H2 ⟨v,rfl,rfl⟩;have e:(DF ns).cps.size=ns.length:=by
    have:(DF ns).cps.toList.length=ns.length:=by rw[ec,B6]
    simpa using this
   rw[e,F6];refine xq1 rfl ⟨l,(xq1 rfl (.inl ⟨SqL.of Af,λt ht=>?_⟩))⟩;exact k t _ ((Ao hl0).trans (Ao ht)) Af
end
section
variable{P:Program}{w:World}{K:PySem.W.Frag}{mg:Str->Option Value}{base:Heap}{a:Ad}
theorem eq_in(x:Str):(!(Builtin.Str.occurrences x (Str.ofString "=") 0 x.length 1).isEmpty)=decide (61∈x.cps.toList):=by
 have:Str.ofString "=" = (⟨#[61]⟩:Str):=by decide +kernel
 rw[this];exact StrLaws.found_one x 61
inductive Vu(a:Ad)(vs:List V)(H:Hp)(Q:VK):Prop
 |mk (d:Bh) (_:vs=[.str (AT d)]) (_:d.ok) (_:∀(p:Addr)(H':Hp),Ay H H'->Dj a H' p d->Q (.ref p) H'):Vu a vs H Q
def Qu(a:Ad):Sp:=λvs H Q _=>Vu a vs H Q
inductive SpRAm(a:Ad)(vs:List V)(H:Hp)(Q:VK):Prop
 |mk (s:Int) (ns:List Int) (_:vs=[.str (AT (.am s ns))]) (_:(Bh.am s ns).ok) (_:∀(p:Addr)(H':Hp),Ay H H'->Dj a H' p (.am s ns)->Q (.ref p) H'):SpRAm a vs H Q
def WX(a:Ad):Sp:=λvs H Q _=>SpRAm a vs H Q
theorem ok_ram{f:Addr}{fd:FuncData}(F:Fun K "read_amounts" "read_amounts" Fo f fd)(T:Top K mg a)(aM:Cal P w K mg base CX0 1 "read_state" DY WV)(bI:Cal P w K mg base CX0 1 "read_numbers" FB spRN)
  (cM:Rz P w K mg base CX0 1 "Amounts" a.c_Amounts FK (NZ a)):AI P w K mg base CX0 3 f fd FC (WX a):=by
 refine F.ok IC (λvs H Q E h=>?_) (λcdv A outer s H vs Q E hr h=>?_)
 ·obtain⟨s,ns,rfl,_⟩:=h;rfl
 ·obtain⟨d,ns,rfl,ho,k⟩:=h;have hlen:=Mg ho;obtain⟨hd,hne,hn,hp⟩:=ho;have hl:=NR ns 0 A4 hn hp;have e61:Str.ofString "=" = (⟨#[61]⟩:Str):=by decide +kernel
  have ep:Txt.partition (AT (.am d ns)) (Str.ofString "=")=(sgD d,⟨#[61]⟩,DF ns):=by
   rw[e61];refine Tx.Id 61 (sgD d) (DF ns) ?_;intro z;have:61=48+d.toNat:=by simpa[sgD] using z
   have:=hd.2;omega
  refine⟨_,(Ac (Aq (i:=1) IC.nd rfl (Or.inl rfl) (DB K3 PySem.F.slot_str_partition PySem.F.type_str_partition Rb (pv 0) (Ou Ab))) (Ag (Av (LO cM (rm hr) rfl Am (Aa (Ar aM (rm hr) rfl Am (Aa (Aj An (pv 1) Ae (λ_ _=>rfl)) Ab)) (Aa (Ar bI (rm hr) rfl Am (Aa (Aj An (pv 1) Ae (λ_ _=>rfl)) Ab)) Ab)))))),?_⟩
  try dsimp only[cxK]
  refine xq1 rfl ⟨rfl,(xq2 rfl rfl ⟨A1,B2,λt ht=>?_⟩)⟩;rw[ep];refine xq1 rfl ⟨t,_,0,(xq1 rfl ⟨rfl,SqT.of Af,rfl,d,rfl,hd,(xq1 rfl ⟨t,_,2,(xq1 rfl ⟨rfl,SqT.of Af,rfl,ns,rfl,hne,by omega,hn,hp,λt2 H2 s2 ht2=>?_⟩)⟩)⟩)⟩;intro x dx nx ndx nex;have sx:Ay H2 (upd (upd H2 dx (.own x)) x (.ins a.c_Amounts dx [])):=(Ao ndx).trans (Ao (by rw[Au (Z3 nex)];exact nx));refine⟨x,t2,dx,d,rfl,Af,rfl,?_⟩;have nx2:(upd H2 dx (.own x)) x=none:=by rw[Au (Z3 nex)];exact nx
  rw[FQ];have sy:Ay H2 (upd (upd H2 dx (.own x)) x (.ins a.c_Amounts dx (fl2 "state" "numbers" (.int d) (.ref t2)))):=(Ao ndx).trans (Ao nx2);exact k x _ (((Ao ht).trans s2).trans sy) (.am Af (sy _ _ ht2))
inductive SpRPl(a:Ad)(vs:List V)(H:Hp)(Q:VK):Prop
 |mk (ws:List (Option Int)) (_:vs=[.str (AT (.pl ws))]) (_:(Bh.pl ws).ok) (_:∀(p:Addr)(H':Hp),Ay H H'->Dj a H' p (.pl ws)->Q (.ref p) H'):SpRPl a vs H Q
def WW(a:Ad):Sp:=λvs H Q _=>SpRPl a vs H Q
theorem ok_rpl{f:Addr}{fd:FuncData}(F:Fun K "read_places" "read_places" Ev f fd)(T:Top K mg a)(aS:Cal P w K mg base CX0 2 "read_wanted" Ez spRW)
  (cS:Rz P w K mg base CX0 1 "Places" a.c_Places Gq (NW a)):AI P w K mg base CX0 3 f fd Gn (WW a):=by
 refine F.ok Oc (λvs H Q E h=>?_) (λcdv A outer s H vs Q E hr h=>?_)
 ·obtain⟨ws,rfl,_⟩:=h;rfl
 ·obtain⟨ws,rfl,ho,k⟩:=h;have hlen:=Mg ho;obtain⟨h8,hw⟩:=ho;have el:(AT (.pl ws)).length=8:=by rw[Nu.len];show(ws.map wC).length=8;rw[B6,h8]
  have ec:(AT (.pl ws)).cps.toList=ws.map wC:=rfl;refine⟨_,(Ac (AM (Az JP (AU Iy rfl T.b_len K4 (Aa (pv 0) Ab)) (BY rfl T.k_NEIGHBOURS) (AG _)) (Ag Bm) AC) (Ag (Av (LO cS (rm hr) rfl Am (Aa (BC BN rfl T.b_tuple X8 (Aa (BU rfl (Bw.of (So:=Ah Ev) (No:=JQ) (N:=["sign"]) (k:=1) (cs:=[]) rfl rfl A1) (Yq (pv 0)) (λ_ _ _=>(Bc (i:=0) A1 rfl rfl)) (λ_ _ _=>BE) (λ_ _ _=>(Ar aS (rm hr) rfl Am (Aa (pv 0) Ab)))) Ab)) Ab))))),?_⟩
  try dsimp only[cxK]
  refine xw2 rfl rfl ⟨C7 hlen A4,rfl,(xq1 rfl ?_)⟩;rw[el];refine Vj rfl (xw2 rfl rfl ?_);refine blk_str (λi acc H2=>H2=H/\acc=(ws.take i).map Gw) ⟨rfl,rfl⟩ ?_ ?_
  ·rintro i ch acc H2 hch ⟨rfl,rfl⟩;rw[ec,B8]at hch;obtain⟨x,ex,rfl⟩:=D0.mp hch;refine⟨⟨[some (.str ⟨#[wC x]⟩)],rfl,rfl⟩,?_,?_⟩
   ·rw[B6,J0];exact F4 (O5 _ _) (by rw[h8];decide)
   ·refine Gb (xq1 rfl ⟨x,rfl,hw x (C9 ex),rfl,?_⟩);rw[F3,ex,C6];rfl
  ·rintro acc H2 ⟨rfl,rfl⟩ q nq;rw[ec,B6,F6];refine⟨q,(xq1 rfl (.inl ⟨SqL.of Af,λt ht=>?_⟩))⟩;intro x dx nx ndx nex;have nx2:∀o,(upd (upd (upd H2 q (.lst (ws.map Gw))) t (.tup (ws.map Gw))) dx o) x=none:=λo=>by rw[Au (Z3 nex)];exact nx
   refine⟨x,t,dx,rfl,Af,rfl,?_⟩;rw[FQ];have s1:Ay H2 (upd (upd H2 q (.lst (ws.map Gw))) t (.tup (ws.map Gw))):=(Ao nq).trans (Ao ht);have s2:Ay (upd (upd H2 q (.lst (ws.map Gw))) t (.tup (ws.map Gw))) (upd (upd (upd (upd H2 q (.lst (ws.map Gw))) t (.tup (ws.map Gw))) dx (.own x)) x (.ins a.c_Places dx (fl1 "wanted" (.ref t)))):=(Ao ndx).trans (Ao (nx2 _));exact k x _ (s1.trans s2) (.pl Af (s2 _ _ Af))
theorem Yz{f:Addr}{fd:FuncData}(F:Fun K "read_condition" "read_condition" Eg f fd)(T:Top K mg a)(bJ:Cal P w K mg base CX0 3 "read_amounts" FC (WX a))(bS:Cal P w K mg base CX0 3 "read_places" Gn (WW a)) :
  AI P w K mg base CX0 4 f fd Em (Qu a):=by
 refine F.ok LD (λvs H Q E h=>?_) (λcdv A outer s H vs Q E hr h=>?_)
 ·obtain⟨d,rfl,_⟩:=h;rfl
 ·obtain⟨d,rfl,ho,k⟩:=h;refine⟨_,(Ac (AM (Az VR EM (pv 0) rfl) (Ag (Av (Ar bJ (rm hr) rfl Am (Aa (pv 0) Ab)))) AC) (Ag (Av (Ar bS (rm hr) rfl Am (Aa (pv 0) Ab))))),?_⟩
  try dsimp only[cxK]
  refine xwb rfl rfl rfl (xq1 rfl ?_);rw[eq_in];cases d with
  |am s ns =>
   have m:61∈(AT (.am s ns)).cps.toList:=by
    show 61∈(sgD s++⟨#[61]⟩++DF ns).cps.toList;rw[Tx.Cz,Tx.Cz];simp
   rw[Y5 m];exact Ce (xq1 rfl ⟨s,ns,rfl,ho,k⟩)
  |pl ws =>
   have m:¬61∈(AT (.pl ws)).cps.toList:=λz=>by
    obtain⟨x,hx,e⟩:=D5.mp (show 61∈ws.map wC from z);exact(Px (ho.2 x hx)).1 e
   rw[Z0 m];exact Bo (xq1 rfl ⟨ws,rfl,ho,k⟩)
inductive SpRC(a:Ad)(vs:List V)(H:Hp)(Q:VK):Prop
 |mk (c:AV) (_:vs=[.str (BL c)]) (_:c.ok) (_:∀(p:Addr)(H':Hp),Ay H H'->BR a H' p c->Q (.ref p) H'):SpRC a vs H Q
def spRC(a:Ad):Sp:=λvs H Q _=>SpRC a vs H Q
theorem Lr{c:AV}(h:c.ok):(BL c).length<=1000:=by
 have j:=StrLaws.join_length_le ⟨#[32]⟩ (wS c.cell::(c.conds.map AT++[sgD c.makes]));have b:∀l:List Bh,(∀d∈l,d.ok)->((l.map AT).map (·.length)).sum<=11*l.length:=by
  intro l;induction l with
  |nil=>intro _;exact J8 _
  |cons d r ih =>
   intro hd;have h1:=Mg (hd d C3);have h2:=ih λe he=>hd e (C2 _ he);simp only[F5,O3,D8];omega
 have b1:=b c.conds h.conds;have h50:=h.few;simp only[F5,C6,W7,O3,List.sum_append,List.sum_nil,D8,C4,P6,B6]at j;have l1:(wS c.cell).length=1:=rfl;have l2:(sgD c.makes).length=1:=rfl;have l3:(⟨#[32]⟩:Str).length=1:=rfl;rw[l1,l2,l3]at j;unfold BL;omega
theorem JH(x:Option Int)(h:wOk x):32∉(wS x).cps.toList/\59∉(wS x).cps.toList:=by
 have:=Px h;constructor
 ·intro z;have:32=wC x:=by simpa[wS] using z
  exact(Px h).2.1 this.symm
 ·intro z;have:59=wC x:=by simpa[wS] using z
  exact(Px h).2.2 this.symm
theorem Ro{c:AV}(h:c.ok):Txt.split (BL c) (Str.ofString " ")=wS c.cell::(c.conds.map AT++[sgD c.makes]):=by
 have e:Str.ofString " " = (⟨#[32]⟩:Str):=by decide +kernel
 rw[e];refine Tx.RO 32 _ A6 λt ht=>?_;rcases C1.mp ht with rfl|ht
 ·exact(JH _ h.cell).1
 ·rcases F0.mp ht with ht|ht
  ·obtain⟨d,hd,rfl⟩:=D5.mp ht;exact(Qe (h.conds d hd)).1
  ·rw[D4.mp ht];exact(JH (some c.makes) h.makes).1
theorem cut_mid(x z:V)(ys:List V):Uk (x::(ys++[z])) (some 1) (some (-1))=ys:=by
 have n:(x::(ys++[z])).length=ys.length+2:=by simp
 unfold Uk;rw[n];have h1:HT.sIx (ys.length+2) 0 (some 1)=1:=by
  show(if(1:Int)<0 then((1:Int)+((ys.length+2:Nat):Int)).toNat else min (1:Int).toNat (ys.length+2))=1;rw[Y4 A4];show min 1 (ys.length+2)=1;omega
 have h2:HT.sIx (ys.length+2) (ys.length+2) (some (-1))=ys.length+1:=by
  show(if(-1:Int)<0 then((-1:Int)+((ys.length+2:Nat):Int)).toNat else min (-1:Int).toNat (ys.length+2))=ys.length+1;rw[Y7 A4];omega
 rw[h1,h2];show(ys++[z]).take (ys.length+1-1)=ys;rw[Nat.add_sub_cancel,List.take_left' rfl]
theorem at_last(x:V)(ys:List V)(z:V):atI (x::(ys++[z])) (-1)=some z:=by
 have n:(x::(ys++[z])).length=ys.length+2:=by simp
 unfold atI ixN;rw[n,Y4 A4,Y7 B2];show(x::(ys++[z]))[((-1:Int)+((ys.length+2:Nat):Int)).toNat]?=some z;rw[show((-1:Int)+((ys.length+2:Nat):Int)).toNat=ys.length+1 by omega,U6,F9 (C0 _),U8];rfl
theorem ok_rc{f:Addr}{fd:FuncData}(F:Fun K "read_clause" "read_clause" Ew f fd)(T:Top K mg a)(aM:Cal P w K mg base CX0 1 "read_state" DY WV)(aS:Cal P w K mg base CX0 2 "read_wanted" Ez spRW)
  (b8:Cal P w K mg base CX0 4 "read_condition" Em (Qu a)) (cT:Rz P w K mg base CX0 1 "Clause" a.c_Clause Gs (NY a)):AI P w K mg base CX0 5 f fd Go (spRC a):=by
 refine F.ok DM (λvs H Q E h=>?_) (λcdv A outer s H vs Q E hr h=>?_)
 ·obtain⟨c,rfl,_⟩:=h;rfl
 ·obtain⟨c,rfl,ho,k⟩:=h;have hlen:=Lr ho;have f50:=ho.few;refine⟨_,(Ac (AM (El (Dw (AU GI rfl T.b_isinstance K1 (Aa (pv 0) (Aa (Jz (v:=.ty "str") rfl T.b_str A0d rfl) Ab))))) (Ag Bm) AC) (Ac (Aq (i:=1) DM.nd rfl (Or.inl rfl) (DB K3 PySem.F.slot_str_split PySem.F.type_str_split SA (pv 0) (Ou Ab))) (Ac (AM (Az IH (AU CA rfl T.b_len K4 (Aa (pv 1) Ab)) Ae (AG _)) (Ag Bm) AC) (Ac (Aq (i:=2) DM.nd rfl (Or.inl rfl) (Ar aS (rm hr) rfl Am (Aa (Aj Ax (pv 1) Ae (λ_ _=>rfl)) Ab))) (Ac (Aq (i:=3) DM.nd rfl (Or.inl rfl) (BC BN rfl T.b_tuple X8 (Aa (BU rfl (Bw.of (So:=Ah Ew) (No:=JS) (N:=["word"]) (k:=1) (cs:=[]) rfl rfl A1) (BT (Si UN (pv 1) (QK Ae) (QK (LL GM Ae)))) (λ_ _ _=>(Bc (i:=0) A1 rfl rfl)) (λ_ _ _=>BE) (λ_ _ _=>(Ar b8 (rm hr) rfl Am (Aa (pv 0) Ab)))) Ab))) (Ag (Av (LO cT (rm hr) rfl Am (Aa (pv 2) (Aa (pv 3) (Aa (Ar aM (rm hr) rfl Am (Aa (Aj Ax (pv 1) (LL GM Ae) (λ_ _=>rfl)) Ab)) Ab))))))))))),?_⟩
  try dsimp only[cxK]
  refine xq1 rfl ⟨_,_,_,.type "str",true,rfl,rfl,.of (.str _),UD K,true,rfl,?_⟩;refine Bo (xq1 rfl ⟨rfl,(xq2 rfl rfl ⟨A1,B2,λl hl=>?_⟩)⟩);rw[Ro ho];have eW:((wS c.cell::(c.conds.map AT++[sgD c.makes])).map V.str)=V.str (wS c.cell)::((c.conds.map λd=>V.str (AT d))++[V.str (sgD c.makes)]):=by
   rw[F5,C6,M5];rfl
  rw[eW];have hL:∀o,upd H l o l=some o:=λo=>Af;refine xq1 rfl ⟨l,(xq1 rfl ⟨.inl (SqL.of Af),(xq2 rfl rfl (xq1 rfl ?_))⟩)⟩;rw[Z0 (by simp;omega:¬((((V.str (wS c.cell)::((c.conds.map λd=>V.str (AT d))++[V.str (sgD c.makes)])).length:Nat):Int)<2))];refine Bo (xwi rfl rfl rfl (SqL.of Af) (Ai (j:=0) rfl) ⟨c.cell,rfl,ho.cell,?_⟩);refine xw3 rfl rfl rfl (xq1 rfl ⟨l,(xq1 rfl ⟨SqL.of Af,λq hq=>⟨q,rfl,⟨_,SqL.of Af⟩,?_⟩⟩)⟩);rw[cut_mid];have s0:Ay H (upd (upd H l (.lst (V.str (wS c.cell)::((c.conds.map λd=>V.str (AT d))++[V.str (sgD c.makes)])))) q (.lst (c.conds.map λd=>V.str (AT d)))):=(Ao hl).trans (Ao hq);have nlq:l≠q:=λz=>by rw[<-z,Af]at hq;cases hq
  generalize hH1:upd (upd H l (.lst (V.str (wS c.cell)::((c.conds.map λd=>V.str (AT d))++[V.str (sgD c.makes)])))) q (.lst (c.conds.map λd=>V.str (AT d)))=H1;rw[hH1]at s0;have hq1:H1 q=some (.lst (c.conds.map λd=>V.str (AT d))):=by rw[<-hH1];exact Af
  have hl1:H1 l=some (.lst (V.str (wS c.cell)::((c.conds.map λd=>V.str (AT d))++[V.str (sgD c.makes)]))):=by rw[<-hH1,Au nlq];exact Af
  refine CY (xs:=c.conds.map λd=>V.str (AT d)) (λi acc H2=>∃ps:List Addr,acc=ps.map V.ref/\Ay H1 H2/\Paired (Dj a H2) ps (c.conds.take i)) ⟨[],rfl,Ay.refl H1,.nil⟩ (λi acc H2 _ ⟨ps,_,sm,_⟩=>SqL.of (sm _ _ hq1)) ?_ ?_
  ·rintro i x acc H2 hx ⟨ps,rfl,sm,pr⟩;rw[B8]at hx;obtain⟨d,ed,rfl⟩:=D0.mp hx;refine⟨⟨[some (.str (AT d))],rfl,rfl⟩,?_,?_⟩
   ·have e1:=Z7 pr;rw[J0]at e1;rw[B6,e1];exact F4 (O5 _ _) (F4 f50 A4)
   ·refine Gb (xq1 rfl ⟨d,rfl,ho.conds d (C9 ed),λp H3 s3 hp=>⟨ps++[p],by rw[C6];rfl,sm.trans s3,?_⟩⟩);rw[F3,ed];exact K9 (Paired.imp (λ_ _ z=>z.same s3) pr) hp
  ·rintro acc H2 ⟨ps,rfl,sm,pr⟩ r nr;rw[B6,F6]at pr;refine⟨r,(xq1 rfl (.inl ⟨SqL.of Af,λt ht=>?_⟩))⟩;have s3:Ay H1 (upd (upd H2 r (.lst (ps.map V.ref))) t (.tup (ps.map V.ref))):=(sm.trans (Ao nr)).trans (Ao ht);generalize hH3:upd (upd H2 r (.lst (ps.map V.ref))) t (.tup (ps.map V.ref))=H3;have ht3:H3 t=some (.tup (ps.map V.ref)):=by rw[<-hH3];exact Af
   have s23:Ay H2 H3:=by rw[<-hH3];exact(Ao nr).trans (Ao ht)
   rw[hH3]at s3;refine xw3 rfl rfl rfl (xq1 rfl ⟨l,_,(xq2 rfl rfl ⟨SqL.of (s3 _ _ hl1),at_last _ _ _,c.makes,rfl,ho.makes,?_⟩)⟩);intro x dx nx ndx nex;have nx2:∀o,(upd H3 dx o) x=none:=λo=>by rw[Au (Z3 nex)];exact nx
   refine⟨x,t,dx,c.cell,c.makes,rfl,Af,rfl,?_⟩;rw[FQ];have s4:Ay H3 (upd (upd H3 dx (.own x)) x (.ins a.c_Clause dx (fl3 "cell" "conditions" "makes" (Gw c.cell) (.ref t) (.int c.makes)))):=(Ao ndx).trans (Ao (nx2 _));exact k x _ ((s0.trans s3).trans s4) ⟨dx,t,ps,Af,s4 _ _ ht3,Paired.imp (λ_ _ z=>(z.same s23).same s4) pr⟩
theorem SU{c:AV}(h:c.ok):59∉(BL c).cps.toList:=by
 intro z;unfold BL at z;rw[PyProof.Rows.mem_join]at z;rcases z with ⟨t,ht,z⟩|⟨_,z⟩
 ·rcases C1.mp ht with rfl|ht
  ·exact(JH _ h.cell).2 z
  ·rcases F0.mp ht with ht|ht
   ·obtain⟨d,hd,rfl⟩:=D5.mp ht;exact(Qe (h.conds d hd)).2 z
   ·rw[D4.mp ht]at z;exact(JH (some c.makes) h.makes).2 z
 ·have:59=32:=by simpa using z
  omega
end
structure IN(r:AD):Prop where
 few:r.length<=50
 ok:∀c∈r,c.ok
theorem IN.rok{r:AD}(h:IN r):ROk r:=⟨C7 h.few A4,λc hc=>⟨C7 (h.ok c hc).few A4,λd hd ws e=>by
 subst e;rw[((h.ok c hc).conds _ hd).1];decide⟩⟩
theorem Sa{r:AD}(h:IN r):(DA r).length<=60000:=by
 have j:=StrLaws.join_length_le PN (r.map BL);have b:∀l:List AV,(∀c∈l,c.ok)->((l.map BL).map (·.length)).sum<=1000*l.length:=by
  intro l;induction l with
  |nil=>intro _;exact J8 _
  |cons d r ih =>
   intro hd;have h1:=Lr (hd d C3);have h2:=ih λe he=>hd e (C2 _ he);simp only[F5,O3,D8];omega
 have b1:=b r h.ok;have h50:=h.few;have l3:PN.length=2:=rfl;rw[l3,B6]at j;unfold DA;omega
theorem rule_ne{r:AD}(h:r≠[]):decide (V.str (DA r)=V.str (Str.ofString ""))=false:=by
 refine Z0 λz=>?_;injection z with z
 obtain⟨c,hc⟩:=List.exists_mem_of_ne_nil r h;have h1:=PySem.join_mem_le PN (r.map BL) (BL c) (D5.mpr ⟨c,hc,rfl⟩);have h2:=PySem.join_mem_le ⟨#[32]⟩ (wS c.cell::(c.conds.map AT++[sgD c.makes])) (wS c.cell) C3;have h3:(wS c.cell).length=1:=rfl;have h4:(DA r).length=0:=by rw[z];decide +kernel
 unfold DA at h4;have h5:(BL c).length=(Str.join ⟨#[32]⟩ (wS c.cell::(c.conds.map AT++[sgD c.makes]))).length:=rfl;omega
theorem Dj.put{a:Ad}{H:Hp}{p q:Addr}{o u:HO}{c:Bh}(h:Dj a H q c)(hp:H p=some u)(n:∀C d fs,u=HO.ins C d fs->fs.lookup ("state" : Str)=none/\fs.lookup ("wanted" : Str)=none/\fs.lookup ("makes" : Str)=none)(nt:∀xs,u≠.tup xs):Dj a (upd H p o) q c:=by
 have other:∀{b v},H b=some v->v≠u->upd H p o b=some v:=λ{b v} e d=>by rw[Au (AE e hp d)];exact e
 cases h with
 |am h ht =>
  refine .am (other h λz=>?_) (other ht λz=>nt _ z.symm);have:=(n _ _ _ z.symm).1;rw[Zv A1]at this;cases this
 |pl h ht =>
  refine .pl (other h λz=>?_) (other ht λz=>nt _ z.symm);have:=(n _ _ _ z.symm).2.1;rw[fl1_1]at this;cases this
theorem BR.put{a:Ad}{H:Hp}{p q:Addr}{o u:HO}{c:AV}(h:BR a H q c)(hp:H p=some u)(n:∀C d fs,u=HO.ins C d fs->fs.lookup ("state" : Str)=none/\fs.lookup ("wanted" : Str)=none/\fs.lookup ("makes" : Str)=none)(nt:∀xs,u≠.tup xs):BR a (upd H p o) q c:=by
 have other:∀{b v},H b=some v->v≠u->upd H p o b=some v:=λ{b v} e d=>by rw[Au (AE e hp d)];exact e
 obtain⟨dx,t,cs,h1,h2,h3⟩:=h.ex;refine⟨dx,t,cs,other h1 λz=>?_,other h2 λz=>nt _ z.symm,Paired.imp (λ_ _ z=>z.put hp n nt) h3⟩;have:=(n _ _ _ z.symm).2.2;rw[fl3_3]at this;cases this
section
variable{P:Program}{w:World}{K:PySem.W.Frag}{mg:Str->Option Value}{base:Heap}{a:Ad}
inductive SpCT(vs:List V)(H:Hp)(Q:VK):Prop
 |mk (r:AD) (_:vs=[.str (DA r)]) (_:IN r) (_:∀(l:Addr)(H':Hp),Ay H H'->H' l=some (.lst (r.map λc=>V.str (BL c)))->Q (.ref l) H'):SpCT vs H Q
def spCT:Sp:=λvs H Q _=>SpCT vs H Q
theorem ok_ct{f:Addr}{fd:FuncData}(F:Fun K "clause_texts" "clause_texts" Fp f fd)(T:Top K mg a):AI P w K mg base CX0 1 f fd FE spCT:=by
 refine F.ok Nh (λvs H Q E h=>?_) (λcdv A outer s H vs Q E hr h=>?_)
 ·obtain⟨r,rfl,_⟩:=h;rfl
 ·obtain⟨r,rfl,ho,k⟩:=h;have hlen:=Sa ho;refine⟨_,(Ac (AM (Az Cb (pv 0) EM (AG _)) (Ag (Av (Cm Ab))) AC) (Ag (Av (DB K3 PySem.F.slot_str_split PySem.F.type_str_split SA (pv 0) (Aa (NG rfl T.k_CLAUSE_MARK) Ab))))),?_⟩
  try dsimp only[cxK]
  refine xq1 rfl ⟨rfl,(xq1 rfl ?_)⟩;by_cases hr0:r=[]
  ·subst hr0;refine Ce ⟨(by show 0<=sizeLine;decide),λl hl=>?_⟩;exact k l _ (Ao hl) Af
  ·rw[rule_ne hr0];refine Bo (xq1 rfl ⟨rfl,(xq2 rfl rfl ⟨A1,B2,λl hl=>?_⟩)⟩);have em:Str.ofString "; " = (⟨#[59,32]⟩:Str):=by decide +kernel
   have e:Txt.split (DA r) (Str.ofString "; ")=r.map BL:=by
    rw[em];refine Tx.RN _ (by simpa using hr0) λt ht=>?_;obtain⟨c,hc,rfl⟩:=D5.mp ht;exact SU (ho.ok c hc)
   rw[e,M5];exact k l _ (Ao hl) Af
inductive SpRI(a:Ad)(vs:List V)(H:Hp)(Q:VK):Prop
 |mk (p dx:Addr) (r:AD) (_:vs=[.ref p,.str (DA r)]) (_:H p=some (.ins a.c_Rule dx [])) (_:IN r) (_:∀H',(∀b o,H b=some o->b≠p->H' b=some o)->CB a H' p (DA r) r->Q .non H'):SpRI a vs H Q
def spRI(a:Ad):Sp:=λvs H Q _=>SpRI a vs H Q
theorem ok_ri{f:Addr}{fd:FuncData}(F:Fun K "__init__" "Rule.__init__" FV f fd)(T:Top K mg a)(bK:Cal P w K mg base CX0 1 "clause_texts" FE spCT)(bT:Cal P w K mg base CX0 5 "read_clause" Go (spRC a)) :
  AI P w K mg base CX0 6 f fd Jk (spRI a):=by
 refine F.ok QG (λvs H Q E h=>?_) (λcdv A outer s H vs Q E hr h=>?_)
 ·obtain⟨p,dx,r,rfl,_⟩:=h;rfl
 ·obtain⟨p,dx,r,rfl,hp,ho,k⟩:=h;have hlen:=Sa ho;have f50:=ho.few;refine⟨_,(Ac (Cv (pv 0) (pv 1) rfl) (Ag (Cv (pv 0) (BC BN rfl T.b_tuple X8 (Aa (BU rfl (Bw.of (So:=Ah FV) (No:=Nf) (N:=["part"]) (k:=1) (cs:=[]) rfl rfl A1) (BT (Ar bK (rm hr) rfl Am (Aa (pv 1) Ab))) (λ_ _ _=>(Bc (i:=0) A1 rfl rfl)) (λ_ _ _=>BE) (λ_ _ _=>(Ar bT (rm hr) rfl Am (Aa (pv 0) Ab)))) Ab)) rfl))),?_⟩
  try dsimp only[cxK]
  refine xw2 rfl rfl ⟨p,_,dx,[],rfl,hp,T.cl_Rule,T.na_Rule_text,B3,?_⟩;generalize hH1:upd H p (.ins a.c_Rule dx (AR "text" (.str (DA r)) []))=H1;have hp1:H1 p=some (.ins a.c_Rule dx (AR "text" (.str (DA r)) [])):=by rw[<-hH1];exact Af
  have k1:∀b o,H b=some o->b≠p->H1 b=some o:=λb o e n=>by rw[<-hH1,Au n];exact e
  refine xq1 rfl ⟨r,rfl,ho,λl H2 s2 hl=>⟨l,rfl,⟨_,SqL.of hl⟩,?_⟩⟩;refine CY (xs:=r.map λc=>V.str (BL c)) (λi acc H3=>∃ps:List Addr,acc=ps.map V.ref/\Ay H2 H3/\Paired (BR a H3) ps (r.take i)) ⟨[],rfl,Ay.refl H2,.nil⟩ (λi acc H3 _ ⟨ps,_,sm,_⟩=>SqL.of (sm _ _ hl)) ?_ ?_
  ·rintro i x acc H3 hx ⟨ps,rfl,sm,pr⟩;rw[B8]at hx;obtain⟨c,ec,rfl⟩:=D0.mp hx;refine⟨⟨[some (.str (BL c))],rfl,rfl⟩,?_,?_⟩
   ·have e1:=Z7 pr;rw[J0]at e1;rw[B6,e1];exact F4 (O5 _ _) (F4 f50 A4)
   ·refine Gb (xq1 rfl ⟨c,rfl,ho.ok c (C9 ec),λq H4 s4 hq=>⟨ps++[q],by rw[C6];rfl,sm.trans s4,?_⟩⟩);rw[F3,ec];exact K9 (Paired.imp (λ_ _ z=>z.same s4) pr) hq
  ·rintro acc H3 ⟨ps,rfl,sm,pr⟩ q nq;rw[B6,F6]at pr;refine⟨q,(xq1 rfl (.inl ⟨SqL.of Af,λt ht=>?_⟩))⟩;generalize hH4:upd (upd H3 q (.lst (ps.map V.ref))) t (.tup (ps.map V.ref))=H4;have s34:Ay H3 H4:=by rw[<-hH4];exact(Ao nq).trans (Ao ht)
   have ht4:H4 t=some (.tup (ps.map V.ref)):=by rw[<-hH4];exact Af
   have s14:Ay H1 H4:=(s2.trans sm).trans s34;have ntp:t≠p:=λz=>by rw[z,s14 _ _ hp1]at ht4;cases ht4
   refine xq1 rfl ⟨p,_,dx,(xq1 rfl ⟨s14 _ _ hp1,T.cl_Rule,T.na_Rule_clauses,B4,?_⟩)⟩;have up:∀b o,H4 b=some o->b≠p->upd H4 p (.ins a.c_Rule dx (fl2 "text" "clauses" (.str (DA r)) (.ref t))) b=some o:=λb o e n=>by rw[Au n];exact e
   have cl:∀q' c,BR a H4 q' c->BR a (upd H4 p (.ins a.c_Rule dx (fl2 "text" "clauses" (.str (DA r)) (.ref t)))) q' c:=λq' c hc=>by
    exact hc.put (s14 _ _ hp1) (λC d fs e=>by
     cases e;exact⟨Rl A1,Rl A1,Rl A1⟩) (λxs z=>by cases z)
   exact k _ (λb o e n=>up _ _ (s14 _ _ (k1 b o e n)) n) ⟨dx,t,ps,Af,up _ _ ht4 ntp,Paired.imp (λq' c z=>cl q' c (z.same s34)) pr⟩
def BV:List Int:=[0,0,0,0,0,0,0,0]
inductive SpRR(a:Ad)(vs:List V)(H:Hp)(Q:VK):Prop
 |mk (r:AD) (_:vs=[.str (DA r)]) (_:IN r) (_:CZ r 0 BV=0) (_:∀(p:Addr)(H':Hp),Ay H H'->CB a H' p (DA r) r->Q (.ref p) H'):SpRR a vs H Q
def spRR(a:Ad):Sp:=λvs H Q _=>SpRR a vs H Q
theorem ok_rr{f:Addr}{fd:FuncData}(F:Fun K "read_rule" "read_rule" IR f fd)(T:Top K mg a)(dB:Rz P w K mg base CX0 6 "Rule" a.c_Rule Jk (spRI a))(bE:Cal P w K mg base CX0 5 "becomes" JB (UM a)) :
  AI P w K mg base CX0 8 f fd Jc (spRR a):=by
 refine F.ok LC (λvs H Q E h=>?_) (λcdv A outer s H vs Q E hr h=>?_)
 ·obtain⟨r,rfl,_⟩:=h;rfl
 ·obtain⟨r,rfl,ho,hz,k⟩:=h;refine⟨_,(Ac (AM (El (Dw (AU GI rfl T.b_isinstance K1 (Aa (pv 0) (Aa (Jz (v:=.ty "str") rfl T.b_str A0d rfl) Ab))))) (Ag Bm) AC) (Ac (Aq (i:=1) LC.nd rfl (Or.inl rfl) (LO dB (rm hr) rfl Am (Aa (pv 0) Ab))) (Ac (AM (Az JP (Ar bE (rm hr) rfl Am (Aa (pv 1) (AO (Bp op_rep (Cm (AO Ab)) (BY rfl T.k_NEIGHBOURS) Ab)))) Ae (AG _)) (Ag Bm) AC) (Ag (Av (pv 1)))))),?_⟩
  try dsimp only[cxK]
  refine xq1 rfl ⟨_,_,_,.type "str",true,rfl,rfl,.of (.str _),UD K,true,rfl,?_⟩;refine Bo (xq1 rfl ?_);intro x dx nx ndx nex;refine⟨x,dx,r,rfl,Af,ho,λH2 kp hR=>⟨rfl,?_⟩⟩;have s2:Ay H H2:=λb o e=>kp b o (by rw[Au (Aw e nx),Au (Aw e ndx)];exact e) (Aw e nx);refine xq1 rfl ⟨(by show 1<=sizeLine;decide),λl hl=>?_⟩;refine⟨l,8,(xq1 rfl ⟨rfl,Af,A4,A4,A4,λm hm=>?_⟩)⟩;have s3:=(s2.trans (Ao (o:=.lst [.int 0]) hl)).trans (Ao (o:=.lst (BV.map V.int)) hm);have s23:=(Ao (o:=.lst [.int 0]) hl).trans (Ao (o:=.lst (BV.map V.int)) hm);refine⟨x,m,_,r,0,BV,rfl,hR.same s23,ho.rok,Af,λH4 s4=>?_⟩;refine⟨rfl,(xq1 rfl ?_)⟩;rw[hz];refine Vj rfl (xq1 rfl ?_);exact k x H4 (s3.trans s4) ((hR.same s23).same s4)
end
end J
namespace J
open PySem L2
structure Sq where
 parts:List Int
 lev:Int
abbrev Gv:=List Sq
structure GA where
 p:Addr
 dx:Addr
 lv:Addr
 pt:Addr
 nm:Addr
 br:Addr
 am:Addr
 bx:Addr
def fl6(g:GA):List (Str×V):=AR "boxes" (.ref g.bx) (AR "amounts" (.ref g.am) (AR "bares" (.ref g.br) (AR "numbers" (.ref g.nm) (AR "parts" (.ref g.pt) (AR "levels" (.ref g.lv) [])))))
theorem EQ(g:GA):(fl6 g).lookup ("levels" : Str)=some (V.ref g.lv):=by
 unfold fl6;rw[Al,Y4 A1,Al,Y4 A1,Al,Y4 A1,Al,Y4 A1,Al,Y4 A1,Al,Y7 rfl]
theorem Cf(g:GA):(fl6 g).lookup ("parts" : Str)=some (V.ref g.pt):=by
 unfold fl6;rw[Al,Y4 A1,Al,Y4 A1,Al,Y4 A1,Al,Y4 A1,Al,Y7 rfl]
theorem Zs(g:GA):(fl6 g).lookup ("numbers" : Str)=some (V.ref g.nm):=by
 unfold fl6;rw[Al,Y4 A1,Al,Y4 A1,Al,Y4 A1,Al,Y7 rfl]
theorem Iu(g:GA):(fl6 g).lookup ("bares" : Str)=some (V.ref g.br):=by
 unfold fl6;rw[Al,Y4 A1,Al,Y4 A1,Al,Y7 rfl]
theorem fl6_am(g:GA):(fl6 g).lookup ("amounts" : Str)=some (V.ref g.am):=by
 unfold fl6;rw[Al,Y4 A1,Al,Y7 rfl]
theorem Zt(g:GA):(fl6 g).lookup ("boxes" : Str)=some (V.ref g.bx):=by
 unfold fl6;rw[Al,Y7 rfl]
theorem Ir(g:GA){m:Str}(h1:¬m=("boxes" : Str))(h2:¬m=("amounts" : Str))(h3:¬m=("bares" : Str))(h4:¬m=("numbers" : Str))(h5:¬m=("parts" : Str))(h6:¬m=("levels" : Str)):(fl6 g).lookup m=none:=by
 unfold fl6;rw[Al,Y4 h1,Al,Y4 h2,Al,Y4 h3,Al,Y4 h4,Al,Y4 h5,Al,Y4 h6];rfl
theorem QO(g:GA):(fl6 g).lookup ("kept" : Str)=none:=Ir g A1 A1 A1 A1 A1 A1
theorem BK(g:GA):(fl6 g).lookup ("linked" : Str)=none:=Ir g A1 A1 A1 A1 A1 A1
theorem Sn(g:GA):(fl6 g).lookup ("check_square" : Str)=none:=Ir g A1 A1 A1 A1 A1 A1
theorem UY(g:GA):(fl6 g).lookup ("leaf" : Str)=none:=Ir g A1 A1 A1 A1 A1 A1
theorem CV(g:GA):(fl6 g).lookup ("level_of" : Str)=none:=Ir g A1 A1 A1 A1 A1 A1
theorem TF(g:GA):(fl6 g).lookup ("state_of" : Str)=none:=Ir g A1 A1 A1 A1 A1 A1
def kOf(ps:List Int):List Key:=ps.map Sum.inl
theorem Zg(ps:List Int):(kOf ps).map kV=ps.map V.int:=by unfold kOf;rw[M5];rfl
theorem JC:∀{ps qs:List Int},kOf ps=kOf qs->ps=qs
 |[],[],_=>rfl
 |[],_::_,h=>by cases h
 |_::_,[],h=>by cases h
 |x::r,y::t,h=>by
  have h:Sum.inl x::kOf r=(Sum.inl y:Key)::kOf t:=h;injection h with h1 h2
  injection h1 with h1
  rw[h1,JC h2]
def Js:Nat->Gv->List (List Key×V)
 |_,[]=>[]
 |n,q::r=>(kOf q.parts,.int (n:Int))::Js (n+1) r
theorem SI:∀(G:Gv)(n:Nat),(Js n G).length=G.length
 |[],_=>rfl
 |q::r,n=>by show(Js (n+1) r).length+1=r.length+1;rw[SI r]
theorem PQ(q:Sq):∀(G:Gv)(n:Nat),Js n (G++[q])=Js n G++[(kOf q.parts,.int ((n+G.length:Nat):Int))]
 |[],_=>rfl
 |p::r,n=>by
  show(kOf p.parts,V.int (n:Int))::Js (n+1) (r++[q])=_;rw[PQ q r (n+1)];show _=(kOf p.parts,V.int (n:Int))::(Js (n+1) r++[(kOf q.parts,V.int ((n+(r.length+1):Nat):Int))]);rw[show n+1+r.length=n+(r.length+1) by lia]
theorem Re(ps:List Int):∀(G:Gv)(n:Nat),(∃(i:Nat)(q:Sq),G[i]?=some q/\q.parts=ps/\Br (Js n G) (kOf ps)=some (.int ((n+i:Nat):Int)))\/(Br (Js n G) (kOf ps)=none/\∀q∈G,q.parts≠ps)
 |[],n=>.inr ⟨rfl,λq hq=>by simp at hq⟩
 |p::r,n=>by
  by_cases e:p.parts=ps
  ·exact .inl ⟨0,p,rfl,e,BF (by rw[e])⟩
  ·have ne:¬(kOf p.parts,V.int (n:Int)).1=kOf ps:=λz=>e (JC z);rcases Re ps r (n+1)with ⟨i,q,h1,h2,h3⟩|⟨h1,h2⟩
   ·refine .inl ⟨i+1,q,h1,h2,?_⟩;show Br ((kOf p.parts,V.int (n:Int))::Js (n+1) r) (kOf ps)=_;rw[Bq ne,h3,show n+1+i=n+(i+1) by lia]
   ·refine .inr ⟨?_,λq hq=>?_⟩
    ·show Br ((kOf p.parts,V.int (n:Int))::Js (n+1) r) (kOf ps)=_;rw[Bq ne,h1]
    ·rcases C1.mp hq with rfl|hq
     ·exact e
     ·exact h2 q hq
def TupAt(H:Hp)(t:Addr)(q:Sq):Prop:=H t=some (.tup (q.parts.map V.int))
structure AJ(a:Ad)(H:Hp)(g:GA)(G:Gv):Prop where
 hp:H g.p=some (.ins a.c_Grove g.dx (fl6 g))
 lv:H g.lv=some (.lst (G.map λq=>.int q.lev))
 pt:∃ts:List Addr,H g.pt=some (.lst (ts.map V.ref))/\Paired (TupAt H) ts G
 nm:H g.nm=some (.dT (Js 0 G))
 ne:g.lv≠g.pt
def Fr(g:GA)(H H':Hp):Prop:=∀b o,H b=some o->b≠g.lv->b≠g.pt->b≠g.nm->H' b=some o
theorem Fr.refl(g:GA)(H:Hp):Fr g H H:=λ_ _ e _ _ _=>e
theorem Fr.trans{g:GA}{H1 H2 H3:Hp}(h:Fr g H1 H2)(h2:Fr g H2 H3):Fr g H1 H3:=λb o e n1 n2 n3=>h2 b o (h b o e n1 n2 n3) n1 n2 n3
theorem Ay.fr{g:GA}{H1 H2:Hp}(h:Ay H1 H2):Fr g H1 H2:=λb o e _ _ _=>h b o e
theorem PairedM.imp{α β:Type}{F G:α->β->Prop}(h:∀x y,F x y->G x y):∀{l:List α}{m:List β},Paired F l m->Paired G l m
 |_,_,.nil=>.nil
 |_,_,.cons r t=>.cons (h _ _ r) (PairedM.imp h t)
theorem PairedM.get{α β:Type}{F:α->β->Prop}:∀{l:List α}{m:List β}{i:Nat}{y:β},Paired F l m->m[i]?=some y->∃x,l[i]?=some x/\F x y
 |_,_,_,_,.nil,e=>by simp at e
 |_,_,0,_,.cons r _,e=>by simp at e;subst e;exact⟨_,rfl,r⟩
 |_,_,i+1,y,.cons _ t,e=>by
  obtain⟨x,h1,h2⟩:=PairedM.get (i:=i) (y:=y) t (by simpa using e);exact⟨x,by simpa using h1,h2⟩
theorem AK{H:Hp}{p:Addr}{o:HO}(h:H p=none):Ay H (upd H p o):=λb u e=>by
 rw[Au (Aw e h)];exact e
theorem AJ.same{a:Ad}{H H':Hp}{g:GA}{G:Gv}(s:Ay H H')(h:AJ a H g G):AJ a H' g G:=by
 obtain⟨h1,h2,⟨ts,h3,h4⟩,h5,h6⟩:=h;exact⟨s _ _ h1,s _ _ h2,⟨ts,s _ _ h3,PairedM.imp (λt q z=>s _ _ z) h4⟩,s _ _ h5,h6⟩
theorem AJ.put{a:Ad}{H:Hp}{g:GA}{G:Gv}{l:Addr}{xs:List V}{o:HO}(hl:H l=some (.lst xs))(n1:l≠g.lv)(n2:l≠g.pt)(h:AJ a H g G):AJ a (upd H l o) g G:=by
 obtain⟨h1,h2,⟨ts,h3,h4⟩,h5,h6⟩:=h;have other:∀{b v},H b=some v->v≠.lst xs->upd H l o b=some v:=λ{b v} e n=>by rw[Au (AE e hl n)];exact e
 exact⟨other h1 A3,by rw[Au (Z3 n1)];exact h2,⟨ts,by rw[Au (Z3 n2)];exact h3,PairedM.imp (λt q z=>other z A3) h4⟩,other h5 A3,h6⟩
def Ak(G:Gv)(x:Nat)(l:Int):Prop:=∃q,G[x]?=some q/\q.lev=l
structure GOk(G:Gv):Prop where
 leaf:∀s:Nat,s<8->G[s]?=some ⟨[(s:Int)],0⟩
 node:∀(i:Nat) q,G[i]?=some q->8<=i->∃x y z w:Nat,q.parts=[(x:Int),(y:Int),(z:Int),(w:Int)]/\(Ak G x (q.lev-1)/\Ak G y (q.lev-1)/\Ak G z (q.lev-1)/\Ak G w (q.lev-1))/\1<=q.lev/\q.lev<=48
 nd:(G.map Sq.parts).Nodup
theorem Ak.lt{G:Gv}{x:Nat}{l:Int}(h:Ak G x l):x<G.length:=by
 obtain⟨q,h,_⟩:=h;exact(B7.mp h).1
theorem LX{G r:Gv}{x:Nat}{q:Sq}(h:G[x]?=some q):(G++r)[x]?=some q:=by
 rw[L8 (B7.mp h).1];exact h
theorem Ak.app{G r:Gv}{x:Nat}{l:Int}(h:Ak G x l):Ak (G++r) x l:=by
 obtain⟨q,h,e⟩:=h;exact⟨q,LX h,e⟩
theorem GOk.lev{G:Gv}(h:GOk G){i:Nat}{q:Sq}(e:G[i]?=some q):0<=q.lev/\q.lev<=48:=by
 by_cases h8:i<8
 ·rw[h.leaf i h8]at e;cases e;exact⟨R4 0,by show(0:Int)<=48;decide⟩
 ·obtain⟨x,y,z,w,_,_,h1,h2⟩:=h.node i q e A0;exact⟨by lia,h2⟩
theorem GOk.snoc{G:Gv}(h:GOk G){x y z w:Nat}{l:Int}(hx:Ak G x l)(hy:Ak G y l)(hz:Ak G z l)(hw:Ak G w l)(h47:l<=47)(new:∀q∈G,q.parts≠[(x:Int),(y:Int),(z:Int),(w:Int)]):GOk (G++[⟨[(x:Int),(y:Int),(z:Int),(w:Int)],l+1⟩]) where
 leaf:=λs hs=>LX (h.leaf s hs)
 node:=λi q e hi=>by
  by_cases hl:i<G.length
  ·rw[L8 hl]at e;obtain⟨x,y,z,w,h1,⟨a1,a2,a3,a4⟩,h3⟩:=h.node i q e hi;exact⟨x,y,z,w,h1,⟨a1.app,a2.app,a3.app,a4.app⟩,h3⟩
  ·rw[F9 A0]at e;have:i-G.length=0:=by
    by_cases z:i-G.length=0
    ·exact z
    ·rw[Q8 (by rw[Q7];lia)]at e;cases e
   rw[this]at e;cases e;obtain⟨q0,e0,l0⟩:=hx;have:=(h.lev e0).1;have el:l+1-1=l:=by lia
   refine⟨x,y,z,w,rfl,?_,?_,?_⟩
   ·show Ak _ x (l+1-1)/\Ak _ y (l+1-1)/\Ak _ z (l+1-1)/\Ak _ w (l+1-1);rw[el];exact⟨Ak.app ⟨q0,e0,l0⟩,hy.app,hz.app,hw.app⟩
   ·show 1<=l+1;lia
   ·show l+1<=48;lia
 nd:=by
  rw[C6,Q9];refine⟨h.nd,by simp,λp hp p' hp'=>?_⟩;obtain⟨q,hq,rfl⟩:=D5.mp hp;rw[show p'=[(x:Int),(y:Int),(z:Int),(w:Int)] by simpa using hp'];exact new q hq
theorem GOk.one{G:Gv}(h:GOk G){i j:Nat}{p q:Sq}(hi:G[i]?=some p)(hj:G[j]?=some q)(e:p.parts=q.parts):i=j:=by
 have li:=(B7.mp hi).1;have lj:=(B7.mp hj).1;have h1:(G.map Sq.parts)[i]'(by rw[B6];exact li)=(G.map Sq.parts)[j]'(by rw[B6];exact lj):=by
  rw[List.getElem_map,List.getElem_map,(B7.mp hi).2,(B7.mp hj).2,e]
 exact(List.getElem_inj h.nd).mp h1
seal L2.PA L2.PE L2.PS L2.PSs L2.PT L2.PW
theorem FY{n:Nat}(h:n<10000000):n<sizeLine:=F2 h A4
theorem kit_w(K:PySem.W.Frag):kitOne K (.type "int") (.type "int")=some true/\kitOne K (.type "int") (.type "bool")=some false:=⟨by kernel_rfl,by kernel_rfl⟩
section
variable{P:Program}{w:World}{K:PySem.W.Frag}{mg:Str->Option Value}{base:Heap}{a:Ad}
inductive SpIW(vs:List V)(H:Hp)(Q:VK):Prop
 |mk (i:Int) (_:vs=[.int i]) (_:Q (.bl true) H):SpIW vs H Q
def VM:Sp:=λvs H Q _=>SpIW vs H Q
theorem ok_iw{f:Addr}{fd:FuncData}(F:Fun K "is_whole" "is_whole" La f fd)(T:Top K mg a):AI P w K mg base CX0 1 f fd Eo VM:=by
 refine F.ok RV (λvs H Q E h=>?_) (λcdv A outer s H vs Q E hr h=>?_)
 ·obtain⟨i,rfl,_⟩:=h;rfl
 ·obtain⟨i,rfl,k⟩:=h;exact⟨_,(Ag (Av (Jb (AU GI rfl T.b_isinstance K1 (Aa (pv 0) (Aa (Jz (v:=.ty "int") rfl T.b_int A0c rfl) Ab))) (Lk (pe_not (AU GI rfl T.b_isinstance K1 (Aa (pv 0) (Aa (Jz (v:=.ty "bool") rfl T.b_bool PyProof.Rows.boot_bool rfl) Ab)))))))),(xq1 rfl ⟨_,_,_,.type "int",true,rfl,rfl,.of (.int i),(kit_w K).1,true,rfl,Ce (xq1 rfl ⟨_,_,_,.type "int",false,rfl,rfl,.of (.int i),(kit_w K).2,false,rfl,k⟩)⟩)⟩
inductive SpIS(vs:List V)(H:Hp)(Q:VK):Prop
 |mk (i:Int) (_:vs=[.int i]) (_:0<=i) (_:i<8) (_:Q (.bl true) H):SpIS vs H Q
def spIS:Sp:=λvs H Q _=>SpIS vs H Q
theorem ok_is{f:Addr}{fd:FuncData}(F:Fun K "is_state" "is_state" Lb f fd)(T:Top K mg a)(aJ:Cal P w K mg base CX0 1 "is_whole" Eo VM):AI P w K mg base CX0 2 f fd Ig spIS:=by
 refine F.ok RW (λvs H Q E h=>?_) (λcdv A outer s H vs Q E hr h=>?_)
 ·obtain⟨i,rfl,_⟩:=h;rfl
 ·obtain⟨i,rfl,h0,h1,k⟩:=h;refine⟨_,(Ag (Av (Jb (Ar aJ (rm hr) rfl Am (Aa (pv 0) Ab)) (Lk (Yt LQ IH Ae (pv 0) (BY rfl T.k_STATES)))))),?_⟩
  try dsimp only[cxK]
  refine xq1 rfl ⟨i,rfl,true,rfl,Ce (xwb rfl rfl rfl (xq1 rfl ?_))⟩;rw[Y5 h0];refine Ce (xq2 rfl rfl ?_);show Q (.bl (decide (i<8))) H;rw[Y5 h1];exact k
inductive ZT(a:Ad)(vs:List V)(H:Hp)(Q:VK):Prop
 |mk (g:GA) (G:Gv) (t:Addr) (ps:List Int) (l:Int) (_:vs=[.ref g.p,.ref t,.int l]) (_:AJ a H g G) (_:H t=some (.tup (ps.map V.int))) (_:(∀q∈G,q.parts≠ps)) (_:G.length<9000000) (_:∀H',Fr g H H'->AJ a H' g (G++[⟨ps,l⟩])->Q (.int (G.length:Int)) H'):ZT a vs H Q
def Qy(a:Ad):Sp:=λvs H Q _=>ZT a vs H Q
theorem ok_kept{f:Addr}{fd:FuncData}(F:Fun K "kept" "Grove.kept" Ia f fd)(T:Top K mg a):AI P w K mg base CX0 1 f fd Fa (Qy a):=by
 refine F.ok JO (λvs H Q E h=>?_) (λcdv A outer s H vs Q E hr h=>?_)
 ·obtain⟨g,G,t,ps,l,rfl,_⟩:=h;rfl
 ·obtain⟨g,G,t,ps,l,rfl,hg,ht,new,few,k⟩:=h;obtain⟨h1,h2,⟨ts,h3,h4⟩,h5,h6⟩:=hg;have lt:ts.length=G.length:=Z7 h4;refine⟨_,(Ac (Aq (i:=3) JO.nd rfl (Or.inl rfl) (AU CA rfl T.b_len K4 (Aa (AB (pv 0) rfl) Ab))) (Ac (FW (EG hr) (AB (pv 0) rfl) (pv 1) (pv 3) rfl) (Ac (BS (DB Z8 Z9 X4 BW (AB (pv 0) rfl) (Aa (pv 2) Ab))) (Ac (BS (DB Z8 Z9 X4 BW (AB (pv 0) rfl) (Aa (pv 1) Ab))) (Ag (Av (pv 3))))))),?_⟩
  try dsimp only[cxK]
  refine xwf rfl rfl h1 T.cl_Grove T.na_Grove_levels (EQ g) ⟨g.lv,(xq1 rfl ⟨.inl (SqL.of h2),?_⟩)⟩;rw[B6];have ne1:g.p≠g.nm:=AE h1 h5 A3;have ne2:g.lv≠g.nm:=AE h2 h5 A3;have ne3:g.pt≠g.nm:=AE h3 h5 A3;have ne4:g.p≠g.lv:=AE h1 h2 A3;have ne5:g.p≠g.pt:=AE h1 h3 A3;have vn:Br (Js 0 G) (kOf ps)=none:=by
   rcases Re ps G 0 with ⟨i,q,e1,e2,_⟩|⟨e,_⟩
   ·exact absurd e2 (new q (C9 e1))
   ·exact e
  refine xw2 rfl rfl (xq5 h1 T.cl_Grove T.na_Grove_numbers (Zs g) (xq1 rfl ⟨g.nm,(xq1 rfl ⟨Lx.t (k:=kOf ps) h5 (by rw[Zg];exact ht) (by rw[SI];exact FY A0),?_⟩)⟩));rw[GD _ vn];have e5:Js 0 G++[(kOf ps,V.int (G.length:Int))]=Js 0 (G++[⟨ps,l⟩]):=by rw[PQ,N1]
  rw[e5];generalize hH1:upd H g.nm (.dT (Js 0 (G++[⟨ps,l⟩])))=H1;have k1:∀b o,H b=some o->b≠g.nm->H1 b=some o:=λb o e n=>by rw[<-hH1,Au n];exact e
  have n1:H1 g.nm=some (.dT (Js 0 (G++[⟨ps,l⟩]))):=by rw[<-hH1];exact Af
  refine xwf rfl rfl (k1 _ _ h1 ne1) T.cl_Grove T.na_Grove_levels (EQ g) ⟨.inl ⟨rfl,_,SqL.of (k1 _ _ h2 ne2)⟩,(xq1 rfl ⟨g.lv,(xq2 rfl rfl ⟨k1 _ _ h2 ne2,by rw[B6];exact FY A0,?_⟩)⟩)⟩;generalize hH2:upd H1 g.lv (.lst ((G.map λq=>V.int q.lev)++[.int l]))=H2;have k2:∀b o,H1 b=some o->b≠g.lv->H2 b=some o:=λb o e n=>by rw[<-hH2,Au n];exact e
  have n2:H2 g.lv=some (.lst ((G++[(⟨ps,l⟩:Sq)]).map λq=>V.int q.lev)):=by rw[<-hH2,Af,C6];rfl
  have h3':=k2 _ _ (k1 _ _ h3 ne3) (Z3 h6);refine xwf rfl rfl (k2 _ _ (k1 _ _ h1 ne1) ne4) T.cl_Grove T.na_Grove_parts (Cf g) ⟨.inl ⟨rfl,_,SqL.of h3'⟩,(xq1 rfl ⟨g.pt,(xq2 rfl rfl ⟨h3',by rw[B6,lt];exact FY A0,?_⟩)⟩)⟩;generalize hH3:upd H2 g.pt (.lst (ts.map V.ref++[.ref t]))=H3;have k3:∀b o,H2 b=some o->b≠g.pt->H3 b=some o:=λb o e n=>by rw[<-hH3,Au n];exact e
  have n3:H3 g.pt=some (.lst ((ts++[t]).map V.ref)):=by rw[<-hH3,Af,C6];rfl
  have fr:Fr g H H3:=λb o e m1 m2 m3=>k3 _ _ (k2 _ _ (k1 _ _ e m3) m1) m2;have tp:∀(c:Addr)(xs:List V),H c=some (.tup xs)->H3 c=some (.tup xs):=λc xs e=>fr _ _ e (AE e h2 A3) (AE e h3 A3) (AE e h5 A3);refine xq1 rfl (k H3 fr ⟨fr _ _ h1 ne4 ne5 ne1,k3 _ _ n2 h6,⟨ts++[t],n3,K9 (PairedM.imp (λc q z=>tp c _ z) h4) (tp t _ ht)⟩,k3 _ _ (k2 _ _ n1 (Z3 ne2)) (Z3 ne3),h6⟩)
structure AH(G G':Gv)(n:Nat):Prop where
 ok:GOk G'
 pre:∃r,G'=G++r
 few:G'.length<=G.length+n
theorem AH.refl{G:Gv}(h:GOk G):AH G G 0:=⟨h,⟨[],by simp⟩,C0 _⟩
theorem AH.trans{G G' G'':Gv}{n m:Nat}(h:AH G G' n)(h2:AH G' G'' m):AH G G'' (n+m):=by
 obtain⟨r,e⟩:=h.pre;obtain⟨t,e2⟩:=h2.pre;have f1:=h.few;have f2:=h2.few;exact⟨h2.ok,⟨r++t,by rw[e2,e,R1]⟩,by lia⟩
theorem AH.get{G G':Gv}{n x:Nat}{q:Sq}(h:AH G G' n)(e:G[x]?=some q):G'[x]?=some q:=by
 obtain⟨r,e2⟩:=h.pre;rw[e2];exact LX e
theorem AH.lev{G G':Gv}{n x:Nat}{l:Int}(h:AH G G' n)(e:Ak G x l):Ak G' x l:=by
 obtain⟨q,e,z⟩:=e;exact⟨q,h.get e,z⟩
inductive Ur(a:Ad)(vs:List V)(H:Hp)(Q:VK):Prop
 |mk (g:GA) (G:Gv) (t:Addr) (x y z w:Nat) (l:Int) (_:vs=[.ref g.p,.ref t]) (_:AJ a H g G) (_:GOk G) (_:H t=some (.tup [.int x,.int y,.int z,.int w])) (_:(Ak G x l/\Ak G y l/\Ak G z l/\Ak G w l)) (_:l<=47) (_:G.length<9000000) (_:∀(n:Nat)(G':Gv)(H':Hp),Fr g H H'->AJ a H' g G'->AH G G' 1->G'[n]?=some ⟨[(x:Int),(y:Int),(z:Int),(w:Int)],l+1⟩->Q (.int n) H'):Ur a vs H Q
def DK(a:Ad):Sp:=λvs H Q _=>Ur a vs H Q
theorem ok_link{f:Addr}{fd:FuncData}(F:Fun K "linked" "Grove.linked" Fu f fd)(T:Top K mg a)(aP:BO P w K mg base CX0 1 a.c_Grove "kept" Fa (Qy a)):AI P w K mg base CX0 2 f fd AQ (DK a):=by
 refine F.ok IG (λvs H Q E h=>?_) (λcdv A outer s H vs Q E hr h=>?_)
 ·obtain⟨g,G,t,x,y,z,w,l,rfl,_⟩:=h;rfl
 ·obtain⟨g,G,t,x,y,z,w,l,rfl,hg,ok,ht,⟨hx,hy,hz,hw⟩,h47,few,k⟩:=h;have hg0:=hg;obtain⟨h1,h2,⟨ts,h3,h4⟩,h5,h6⟩:=hg;refine⟨_,(Ac (Aq (i:=2) IG.nd rfl (Or.inl rfl) (Ja (EG hr) (AB (pv 0) rfl) (pv 1) ⟨rfl,rfl,rfl,rfl⟩)) (Ac (AM (Az Io (pv 2) Dh (AG _)) (Ag (Av (AF (pv 0) aP (rm hr) Am (Aa (pv 1) (Bp AL (Aj Ax (AB (pv 0) rfl) (Aj An (pv 1) Ae (λ_ _=>rfl)) (λ_ _=>rfl)) Ae Ab))))) AC) (Ag (Av (pv 2))))),?_⟩
  try dsimp only[cxK]
  refine xwf rfl rfl h1 T.cl_Grove T.na_Grove_numbers (Zs g) ⟨g.nm,rfl,.inr ⟨_,.inl h5⟩,(xq1 rfl ⟨_,IB.t (k:=kOf [(x:Int),(y:Int),(z:Int),(w:Int)]) h5 (by rw[Zg];exact ht),?_⟩)⟩;rcases Re [(x:Int),(y:Int),(z:Int),(w:Int)] G 0 with ⟨i,q,e1,e2,e3⟩|⟨e,new⟩
  ·rw[e3];refine xq1 rfl ⟨rfl,(xq1 rfl (Bo (xq1 rfl ?_)))⟩;rw[N1];refine k i G H (Fr.refl g H) hg0 ⟨ok,⟨[],by simp⟩,by lia⟩ ?_;have h8:8<=i:=by
    refine O6 λz'=>?_;rw[ok.leaf i z']at e1;cases e1;cases e2
   obtain⟨x',y',z',w',p1,⟨lx,_⟩,_⟩:=ok.node i q e1 h8;have exx:x'=x:=by
    rw[p1]at e2;injection e2 with e2 _
    exact Z4 e2
   rw[exx]at lx;obtain⟨qa,a1,a2⟩:=lx;obtain⟨qb,b1,b2⟩:=hx;rw[a1]at b1;cases b1;have el:q.lev=l+1:=by lia
   rw[e1];cases q with
   |mk pp ll=>cases e2;cases el;rfl
  ·rw[e];refine xq1 rfl ⟨rfl,(xq1 rfl (Ce ?_))⟩;obtain⟨q,e1,e2⟩:=id hx;refine xwn rfl rfl h1 (QO g) rfl (xwf rfl rfl h1 T.cl_Grove T.na_Grove_levels (EQ g) (xwi rfl rfl rfl (SqT.of ht) (Ai (j:=0) rfl) (xq4 rfl rfl (SqL.of h2) (Ai (by rw[B8,e1];rfl)) (xq2 rfl rfl ?_))));refine⟨g,G,t,[(x:Int),(y:Int),(z:Int),(w:Int)],l+1,by rw[<-e2];rfl,hg0,ht,new,few,λH' fr hg'=>?_⟩;refine k G.length _ H' fr hg' ⟨ok.snoc hx hy hz hw h47 new,⟨_,rfl⟩,by rw[C4];exact C0 _⟩ ?_;rw[F9 (C0 _),U8];rfl
inductive SpChk(a:Ad)(vs:List V)(H:Hp)(Q:VK):Prop
 |mk (g:GA) (G:Gv) (i:Nat) (_:vs=[.ref g.p,.int i]) (_:AJ a H g G) (_:i<G.length) (_:Q .non H):SpChk a vs H Q
def UK(a:Ad):Sp:=λvs H Q _=>SpChk a vs H Q
theorem ok_chk{f:Addr}{fd:FuncData}(F:Fun K "check_square" "Grove.check_square" CU f fd)(T:Top K mg a)(aJ:Cal P w K mg base CX0 1 "is_whole" Eo VM):AI P w K mg base CX0 2 f fd Ca (UK a):=by
 refine F.ok IK (λvs H Q E h=>?_) (λcdv A outer s H vs Q E hr h=>?_)
 ·obtain⟨g,G,i,rfl,_⟩:=h;rfl
 ·obtain⟨g,G,i,rfl,hg,hi,k⟩:=h;refine⟨_,(Ag (AM (PW.pt (MZ (El (Dw (Ar aJ (rm hr) rfl Am (Aa (pv 1) Ab)))) (Lj (El (Sf LQ IH Ae (pv 1) (AU CA rfl T.b_len K4 (Aa (AB (pv 0) rfl) Ab))))))) (Ag Bm) AC)),?_⟩
  try dsimp only[cxK]
  refine⟨_,rfl,_,rfl,true,rfl,Bo ⟨_,rfl,_,_,rfl,rfl,_,rfl,?_⟩⟩;rw[Y5 (by lia:(0:Int)<=(i:Int))];refine Ce (xwf rfl rfl hg.hp T.cl_Grove T.na_Grove_levels (EQ g) ⟨g.lv,(xq1 rfl ⟨.inl (SqL.of hg.lv),(xq2 rfl rfl (xq1 rfl ?_))⟩)⟩);rw[B6,Y5 (by lia:(i:Int)<(G.length:Int))];exact Bo k
inductive ZR(a:Ad)(vs:List V)(H:Hp)(Q:VK):Prop
 |mk (p:Addr) (i:Int) (_:vs=[.ref p,.int i]) (_:0<=i) (_:i<8) (_:Q (.int i) H):ZR a vs H Q
def Qx(a:Ad):Sp:=λvs H Q _=>ZR a vs H Q
theorem ok_leaf{f:Addr}{fd:FuncData}(F:Fun K "leaf" "Grove.leaf" GZ f fd)(T:Top K mg a)(b9:Cal P w K mg base CX0 2 "is_state" Ig spIS):AI P w K mg base CX0 3 f fd EZ (Qx a):=by
 refine F.ok Pg (λvs H Q E h=>?_) (λcdv A outer s H vs Q E hr h=>?_)
 ·obtain⟨g,i,rfl,_⟩:=h;rfl
 ·obtain⟨g,i,rfl,h0,h1,k⟩:=h;exact⟨_,(Ac (AM (El (Dw (Ar b9 (rm hr) rfl Am (Aa (pv 1) Ab)))) (Ag Bm) AC) (Ag (Av (pv 1)))),(xq1 rfl ⟨i,rfl,h0,h1,true,rfl,Bo (xq1 rfl k)⟩)⟩
inductive SpLev(a:Ad)(vs:List V)(H:Hp)(Q:VK):Prop
 |mk (g:GA) (G:Gv) (i:Nat) (q:Sq) (_:vs=[.ref g.p,.int i]) (_:AJ a H g G) (_:G[i]?=some q) (_:Q (.int q.lev) H):SpLev a vs H Q
def LA(a:Ad):Sp:=λvs H Q _=>SpLev a vs H Q
theorem ok_lev{f:Addr}{fd:FuncData}(F:Fun K "level_of" "Grove.level_of" Ek f fd)(T:Top K mg a)(aC:BO P w K mg base CX0 2 a.c_Grove "check_square" Ca (UK a)):AI P w K mg base CX0 3 f fd AY (LA a):=by
 refine F.ok LH (λvs H Q E h=>?_) (λcdv A outer s H vs Q E hr h=>?_)
 ·obtain⟨g,G,i,q,rfl,_⟩:=h;rfl
 ·obtain⟨g,G,i,q,rfl,hg,hi,k⟩:=h;refine⟨_,(Ac (BS (AF (pv 0) aC (rm hr) Am (Aa (pv 1) Ab))) (Ag (Av (Aj Ax (AB (pv 0) rfl) (pv 1) (λ_ _=>rfl))))),?_⟩
  try dsimp only[cxK]
  refine xwn rfl rfl hg.hp (Sn g) rfl ⟨g,G,i,rfl,hg,(B7.mp hi).1,?_⟩;exact xwf rfl rfl hg.hp T.cl_Grove T.na_Grove_levels (EQ g) (xwi rfl rfl rfl (SqL.of hg.lv) (Ai (by rw[B8,hi];rfl)) k)
inductive SpSta(a:Ad)(vs:List V)(H:Hp)(Q:VK):Prop
 |mk (g:GA) (G:Gv) (i:Nat) (q:Sq) (_:vs=[.ref g.p,.int i]) (_:AJ a H g G) (_:G[i]?=some q) (_:q.lev=0) (_:Q (.int i) H):SpSta a vs H Q
def WT(a:Ad):Sp:=λvs H Q _=>SpSta a vs H Q
theorem ok_sta{f:Addr}{fd:FuncData}(F:Fun K "state_of" "Grove.state_of" Ej f fd)(T:Top K mg a)(a7:BO P w K mg base CX0 3 a.c_Grove "level_of" AY (LA a)):AI P w K mg base CX0 4 f fd Es (WT a):=by
 refine F.ok LG (λvs H Q E h=>?_) (λcdv A outer s H vs Q E hr h=>?_)
 ·obtain⟨g,G,i,q,rfl,_⟩:=h;rfl
 ·obtain⟨g,G,i,q,rfl,hg,hi,h0,k⟩:=h;refine⟨_,(Ac (AM (Az JP (AF (pv 0) a7 (rm hr) Am (Aa (pv 1) Ab)) Ae (AG _)) (Ag Bm) AC) (Ag (Av (pv 1)))),?_⟩
  try dsimp only[cxK]
  refine xwn rfl rfl hg.hp (CV g) rfl ⟨g,G,i,q,rfl,hg,hi,rfl,(xq1 rfl ?_)⟩;rw[h0];exact Vj rfl (xq1 rfl k)
end
end J
namespace J
open PySem L2
section
variable{P:Program}{w:World}{K:PySem.W.Frag}{mg:Str->Option Value}{base:Heap}{a:Ad}
end
def bareN:Nat->Nat
 |0=>0
 |j+1=>8+j
def DC(n:Nat):Gv:=(List.range n).map λ(s:Nat)=>(⟨[(s:Int)],0⟩:Sq)
def FO(n:Nat):Gv:=(List.range n).map λ(j:Nat)=>(⟨[(bareN j:Int),(bareN j:Int),(bareN j:Int),(bareN j:Int)],(j:Int)+1⟩:Sq)
def G0:Gv:=DC 8++FO 48
theorem TZ(n:Nat):DC (n+1)=DC n++[⟨[(n:Int)],0⟩]:=by unfold DC;rw[R9,C6];rfl
theorem OW(n:Nat):FO (n+1)=FO n++[⟨[(bareN n:Int),(bareN n:Int),(bareN n:Int),(bareN n:Int)],(n:Int)+1⟩]:=by unfold FO;rw[R9,C6];rfl
theorem Fc(n:Nat):(DC n).length=n:=by unfold DC;rw[B6,M6]
theorem Qo(n:Nat):(FO n).length=n:=by unfold FO;rw[B6,M6]
theorem WA{i j:Nat}(h:bareN i=bareN j):i=j:=by
 cases i<;>cases j
 ·rfl
 ·have:0=8+_:=h;lia
 ·have:8+_=0:=h;lia
 ·have:8+_=8+_:=h;lia
theorem Wi(n:Nat):∀q∈DC n,q.parts≠[(n:Int)]:=λq hq z=>by
 obtain⟨s,hs,rfl⟩:=D5.mp hq;have:=L7.mp hs;injection z with z _
 have:s=n:=Z4 z;lia
theorem Qn(n:Nat):∀q∈DC 8++FO n,q.parts≠[(bareN n:Int),(bareN n:Int),(bareN n:Int),(bareN n:Int)]:=λq hq z=>by
 rcases F0.mp hq with hq|hq
 ·obtain⟨s,hs,rfl⟩:=D5.mp hq;cases z
 ·obtain⟨s,hs,rfl⟩:=D5.mp hq;have:=L7.mp hs;injection z with z _
  have:=WA (Z4 z);lia
theorem Uf:G0.length=56:=by unfold G0;rw[C4,Fc,Qo]
theorem NN(j:Nat)(h:j<48):G0[8+j]?=some ⟨[(bareN j:Int),(bareN j:Int),(bareN j:Int),(bareN j:Int)],(j:Int)+1⟩:=by
 unfold G0;rw[F9 (by rw[Fc];lia),Fc,show 8+j-8=j by lia];unfold FO;rw[B8,P8 h];rfl
theorem Rj(s:Nat)(h:s<8):G0[s]?=some ⟨[(s:Int)],0⟩:=by
 unfold G0;rw[L8 (by rw[Fc];exact h)];unfold DC;rw[B8,P8 h];rfl
theorem Zq(j:Nat)(h:j<=48):Ak G0 (bareN j) (j:Int):=by
 cases j with
 |zero=>exact⟨_,Rj 0 A4,rfl⟩
 |succ j=>exact⟨_,NN j A0,rfl⟩
theorem g0_nd:∀n,((DC 8++FO n).map Sq.parts).Nodup
 |0=>by decide
 |n+1=>by
  rw[OW,<-R1,C6,Q9];refine⟨g0_nd n,by simp,λp hp p' hp'=>?_⟩;obtain⟨q,hq,rfl⟩:=D5.mp hp;rw[show p'=[(bareN n:Int),(bareN n:Int),(bareN n:Int),(bareN n:Int)] by simpa using hp'];exact Qn n q hq
theorem g0_ok:GOk G0 where
 leaf:=Rj
 node:=λi q e h8=>by
  have hi:i<56:=by rw[<-Uf];exact(B7.mp e).1
  obtain⟨j,rfl⟩:∃j,i=8+j:=⟨i-8,by lia⟩
  rw[NN j A0]at e;cases e;have:=Zq j A0;refine⟨bareN j,bareN j,bareN j,bareN j,rfl,?_,?_,?_⟩
  ·show Ak G0 _ ((j:Int)+1-1)/\Ak G0 _ ((j:Int)+1-1)/\Ak G0 _ ((j:Int)+1-1)/\Ak G0 _ ((j:Int)+1-1);rw[show(j:Int)+1-1=(j:Int) by lia];exact⟨this,this,this,this⟩
  ·show 1<=(j:Int)+1;lia
  ·show(j:Int)+1<=48;lia
 nd:=g0_nd 48
def amK(n:Nat):List (Key×V):=(List.range n).map λ(s:Nat)=>(Sum.inl (s:Int),V.int (if(1:Int)<(s:Int)then 1 else(s:Int)))
theorem Ta(n:Nat):amK (n+1)=amK n++[(Sum.inl (n:Int),V.int (if(1:Int)<(n:Int)then 1 else(n:Int)))]:=by unfold amK;rw[R9,C6];rfl
theorem amK_len(n:Nat):(amK n).length=n:=by unfold amK;rw[B6,M6]
theorem Qr{κ:Type}[DecidableEq κ]{k:κ}:∀{l m:List (κ×V)},Br l k=none->Br (l++m) k=Br m k
 |[],_,_=>rfl
 |p::r,m,h=>by
  by_cases e:p.1=k
  ·rw[BF e]at h;cases h
  ·rw[Bq e]at h;show Br (p::(r++m)) k=_;rw[Bq e];exact Qr h
theorem Tb(n:Nat):∀m,n<=m->Br (amK n) (Sum.inl (m:Int))=none:=by
 induction n with
 |zero=>intro m _;rfl
 |succ n ih =>
  intro m hm;rw[Ta,Qr (ih m A0),Bq (by intro z;injection z with z;have:=Z4 z;lia)];rfl
def Da(n:Nat):List Int:=(List.range (n+1)).map λj=>((bareN j:Nat):Int)
theorem OX(n:Nat):Da (n+1)=Da n++[((bareN (n+1):Nat):Int)]:=by unfold Da;rw[R9,C6];rfl
theorem Uo(n:Nat):(Da n).getLast?=some ((bareN n:Nat):Int):=by
 cases n with
 |zero=>rfl
 |succ n=>rw[OX,List.getLast?_append];rfl
theorem ZI{xs:List V}{x:V}(h:xs.getLast?=some x):atI xs (-1)=some x:=by
 obtain⟨ys,rfl⟩:=List.getLast?_eq_some_iff.mp h;unfold atI ixN;rw[Y4 A4,Y7 (by rw[C4,Q7];lia)];show(ys++[x])[((-1:Int)+((ys++[x]).length:Nat)).toNat]?=some x;rw[C4,Q7,show((-1:Int)+((ys.length+1:Nat):Int)).toNat=ys.length by lia,F9 (C0 _),U8];rfl
seal L2.PA L2.PE L2.PS L2.PSs L2.PT L2.PW
structure Tf(a:Ad)(H H':Hp)(g:GA)(G:Gv)(B:List Int)(am:List (Key×V)):Prop where
 kp:∀b o,H b=some o->b≠g.p->H' b=some o
 at':AJ a H' g G
 br:H' g.br=some (.lst (B.map V.int))
 am:H' g.am=some (.dK am)
 bx:H' g.bx=some (.dK [])
 fresh:H g.lv=none/\H g.pt=none/\H g.nm=none/\H g.br=none/\H g.am=none/\H g.bx=none
 n1:g.br≠g.lv
 n2:g.br≠g.pt
 n3:g.am≠g.bx
section
variable{P:Program}{w:World}{K:PySem.W.Frag}{mg:Str->Option Value}{base:Heap}{a:Ad}
inductive Vz(a:Ad)(vs:List V)(H:Hp)(Q:VK):Prop
 |mk (p dx:Addr) (_:vs=[.ref p]) (_:H p=some (.ins a.c_Grove dx [])) (_:∀(g:GA)(H':Hp),g.p=p->Tf a H H' g G0 (Da 48) (amK 8)->Q .non H'):Vz a vs H Q
def QB(a:Ad):Sp:=λvs H Q _=>Vz a vs H Q
theorem YE{f:Addr}{fd:FuncData}(F:Fun K "__init__" "Grove.__init__" Ib f fd)(T:Top K mg a)(aP:BO P w K mg base CX0 1 a.c_Grove "kept" Fa (Qy a)):AI P w K mg base CX0 2 f fd Im (QB a):=by
 refine F.ok Eu (λvs H Q E h=>?_) (λcdv A outer s H vs Q E hr h=>?_)
 ·obtain⟨p,dx,rfl,_⟩:=h;rfl
 ·obtain⟨p,dx,rfl,hp,k⟩:=h;refine⟨_,(Ac (Cv (pv 0) (Cm Ab) rfl) (Ac (Cv (pv 0) (Cm Ab) rfl) (Ac (Cv (pv 0) LM rfl) (Ac (Cv (pv 0) (Cm (AO Ab)) rfl) (Ac (Cv (pv 0) LN rfl) (Ac (Cv (pv 0) LN rfl) (Ac (CL Z6 rfl (De rfl T.b_range (Aa (BY rfl T.k_STATES) Ab)) (Bv (i:=1) Eu.nd rfl (Or.inl rfl)) (Ac (BS (AF (pv 0) aP (rm hr) Am (BB (Aa (pv 1) Ab) (AO Ab)))) (Ag (FW (EG hr) (AB (pv 0) rfl) (pv 1) (AU (Wy rfl) rfl T.b_min A3d (Aa (pv 1) (AO Ab))) rfl)))) (Ag (CL Z6 rfl (VP rfl T.b_range (AO (Bp AL (BY rfl T.k_TOP_LEVEL) Ae Ab))) (Bv (i:=2) Eu.nd rfl (Or.inl rfl)) (Ac (Aq (i:=3) Eu.nd rfl (Or.inl rfl) (Aj Ax (AB (pv 0) rfl) (LL GM Ae) (λ_ _=>rfl))) (Ag (BS (DB Z8 Z9 X4 BW (AB (pv 0) rfl) (Aa (AF (pv 0) aP (rm hr) Am (BB (Aa (pv 3) (Aa (pv 3) (Aa (pv 3) (Aa (pv 3) Ab)))) (Aa (pv 2) Ab))) Ab)))))))))))))),?_⟩
  try dsimp only[cxK]
  have stp:∀{Hk:Hp}{x:Addr}{o:HO}{fs fs':List (Str×V)},Hk p=some (.ins a.c_Grove dx fs)->Hk x=none->(∀b v,Hk b=some v->b≠p->upd (upd Hk x o) p (.ins a.c_Grove dx fs') b=some v)/\upd (upd Hk x o) p (.ins a.c_Grove dx fs') x=some o/\upd (upd Hk x o) p (.ins a.c_Grove dx fs') p=some (.ins a.c_Grove dx fs')/\upd Hk x o p=some (.ins a.c_Grove dx fs):=λ{Hk x o fs fs'} e1 e2=>by
   have n:x≠p:=λz=>by rw[z,e1]at e2;cases e2
   exact⟨λb v e nb=>by rw[Au nb,Au (Aw e e2)];exact e,by rw[Au n];exact Af,Af,by rw[Au (Z3 n)];exact e1⟩
  refine BM ?_;intro r_k_ s_k_ k_ hk_ E_k_;refine⟨(by show 0<=sizeLine;decide),λlv hlv=>?_⟩;obtain⟨k1,x1,p1,q1⟩:=stp (o:=.lst []) (fs':=AR "levels" (.ref lv) []) hp hlv;refine xq1 rfl ⟨p,_,dx,[],rfl,q1,T.cl_Grove,T.na_Grove_levels,B3,?_⟩;show k_ _ _;generalize upd (upd H lv _) p _=H1 at k1 x1 p1⊢;refine hk_ ?_;refine BM ?_;intro r_k_ s_k_ k_ hk_ E_k_;refine⟨(by show 0<=sizeLine;decide),λpt hpt=>?_⟩;obtain⟨k2,x2,p2,q2⟩:=stp (o:=.lst []) (fs':=AR "parts" (.ref pt) (AR "levels" (.ref lv) [])) p1 hpt;refine xq1 rfl ⟨p,_,dx,(xq1 rfl ⟨q2,T.cl_Grove,T.na_Grove_parts,B4,?_⟩)⟩;show k_ _ _;generalize upd (upd H1 pt _) p _=H2 at k2 x2 p2⊢;refine hk_ ?_;refine BM ?_;intro r_k_ s_k_ k_ hk_ E_k_;intro nm hnm;obtain⟨k3,x3,p3,q3⟩:=stp (o:=.dT []) (fs':=AR "numbers" (.ref nm) (AR "parts" (.ref pt) (AR "levels" (.ref lv) []))) p2 hnm;refine xq1 rfl ⟨p,_,dx,(xq1 rfl ⟨q3,T.cl_Grove,T.na_Grove_numbers,(by show 2<1000;decide),?_⟩)⟩;show k_ _ _;generalize upd (upd H2 nm _) p _=H3 at k3 x3 p3⊢;refine hk_ ?_;refine BM ?_;intro r_k_ s_k_ k_ hk_ E_k_;refine⟨(by show 1<=sizeLine;decide),λbr hbr=>?_⟩;obtain⟨k4,x4,p4,q4⟩:=stp (o:=.lst [.int 0]) (fs':=AR "bares" (.ref br) (AR "numbers" (.ref nm) (AR "parts" (.ref pt) (AR "levels" (.ref lv) [])))) p3 hbr;refine xq1 rfl ⟨p,_,dx,(xq1 rfl ⟨q4,T.cl_Grove,T.na_Grove_bares,(by show 3<1000;decide),?_⟩)⟩;show k_ _ _;generalize upd (upd H3 br _) p _=H4 at k4 x4 p4⊢;refine hk_ ?_;refine BM ?_;intro r_k_ s_k_ k_ hk_ E_k_;intro am ham;obtain⟨k5,x5,p5,q5⟩:=stp (o:=.dK []) (fs':=AR "amounts" (.ref am) (AR "bares" (.ref br) (AR "numbers" (.ref nm) (AR "parts" (.ref pt) (AR "levels" (.ref lv) []))))) p4 ham;refine xq1 rfl ⟨p,_,dx,(xq1 rfl ⟨q5,T.cl_Grove,T.na_Grove_amounts,(by show 4<1000;decide),?_⟩)⟩;show k_ _ _;generalize upd (upd H4 am _) p _=H5 at k5 x5 p5⊢;refine hk_ ?_;refine BM ?_;intro r_k_ s_k_ k_ hk_ E_k_;intro bx hbx;obtain⟨k6,x6,p6,q6⟩:=stp (o:=.dK []) (fs':=fl6 ⟨p,dx,lv,pt,nm,br,am,bx⟩) p5 hbx;refine xq1 rfl ⟨p,_,dx,(xq1 rfl ⟨q6,T.cl_Grove,T.na_Grove_boxes,(by show 5<1000;decide),?_⟩)⟩;show k_ _ (upd (upd H5 bx (.dK [])) p (.ins a.c_Grove dx (fl6 ⟨p,dx,lv,pt,nm,br,am,bx⟩)));generalize upd (upd H5 bx _) p _=H6 at k6 x6 p6⊢;refine hk_ ?_;have f26:∀b v,H1 b=some v->b≠p->H6 b=some v:=λb v e n=>k6 _ _ (k5 _ _ (k4 _ _ (k3 _ _ (k2 _ _ e n) n) n) n) n;have f36:∀b v,H2 b=some v->b≠p->H6 b=some v:=λb v e n=>k6 _ _ (k5 _ _ (k4 _ _ (k3 _ _ e n) n) n) n;have f46:∀b v,H3 b=some v->b≠p->H6 b=some v:=λb v e n=>k6 _ _ (k5 _ _ (k4 _ _ e n) n) n;have f56:∀b v,H4 b=some v->b≠p->H6 b=some v:=λb v e n=>k6 _ _ (k5 _ _ e n) n;have np:∀{Hk:Hp}{x:Addr}{fs:List (Str×V)},Hk p=some (.ins a.c_Grove dx fs)->Hk x=none->x≠p:=λ{Hk x fs} e1 e2 z=>by rw[z,e1]at e2;cases e2
  have no:∀{Hk Hm:Hp}{x y:Addr}{v:HO},Hk x=some v->Hk y=none->x≠y:=λ{Hk Hm x y v} e1 e2=>Aw e1 e2;have nlv:=np hp hlv;have npt:=np p1 hpt;have nnm:=np p2 hnm;have nbr:=np p3 hbr;have nam:=np p4 ham;have nbx:=np p5 hbx;have y1:=f26 _ _ x1 nlv;have y2:=f36 _ _ x2 npt;have y3:=f46 _ _ x3 nnm;have y4:=f56 _ _ x4 nbr;have y5:=k6 _ _ x5 nam;have back:∀{Hk:Hp}{x:Addr},(∀b v,H b=some v->b≠p->Hk b=some v)->x≠p->Hk x=none->H x=none:=λ{Hk x} kp n e=>by
   cases h:H x with
   |none=>rfl
   |some v=>rw[kp _ _ h n]at e;cases e
  have c2:∀b v,H b=some v->b≠p->H2 b=some v:=λb v e n=>k2 _ _ (k1 _ _ e n) n;have c3:∀b v,H b=some v->b≠p->H3 b=some v:=λb v e n=>k3 _ _ (c2 _ _ e n) n;have c4:∀b v,H b=some v->b≠p->H4 b=some v:=λb v e n=>k4 _ _ (c3 _ _ e n) n;have c5:∀b v,H b=some v->b≠p->H5 b=some v:=λb v e n=>k5 _ _ (c4 _ _ e n) n;have c6:∀b v,H b=some v->b≠p->H6 b=some v:=λb v e n=>k6 _ _ (c5 _ _ e n) n;have d1:lv≠pt:=Aw x1 hpt;have d2:br≠lv:=Z3 (Aw (k3 _ _ (k2 _ _ x1 nlv) nlv) hbr);have d3:br≠pt:=Z3 (Aw (k3 _ _ x2 npt) hbr);have d4:am≠bx:=Aw x5 hbx;have N0:Tf a H H6 ⟨p,dx,lv,pt,nm,br,am,bx⟩ (DC 0) (Da 0) (amK 0):=⟨c6,⟨p6,y1,⟨[],y2,.nil⟩,y3,d1⟩,y4,y5,x6,⟨hlv,back k1 npt hpt,back c2 nnm hnm,back c3 nbr hbr,back c4 nam ham,back c5 nbx hbx⟩,d2,d3,d4⟩
  have k':=k ⟨p,dx,lv,pt,nm,br,am,bx⟩;have gp:(⟨p,dx,lv,pt,nm,br,am,bx⟩:GA).p=p:=rfl;generalize (⟨p,dx,lv,pt,nm,br,am,bx⟩:GA)=g at N0 k' gp;subst gp;clear k p6 q6 q5 q4 q3 q2 q1 y1 y2 y3 y4 y5 x6 c6 c5 c4 c3 c2 f26 f36 f46 f56 k1 k2 k3 k4 k5 k6 x1 x2 x3 x4 x5 p1 p2 p3 p4 p5 d1 d2 d3 d4 nlv npt nnm nbr nam nbx hbx ham hbr hnm hpt hlv back no np stp;refine⟨8,rfl,by decide,by decide,?_⟩;refine DD (n:=8) (λi σ H7=>∃u1:Option V,σ=[some (.ref g.p),u1,none,none]/\Tf a H H7 g (DC i) (Da 0) (amK i)) ⟨none,rfl,N0⟩ ?_ ?_
  ·rintro i σ H7 hi ⟨u1,rfl,N⟩;obtain⟨kp,at',hbr,ham,hbx,fresh,n1,n2,n3⟩:=N;have cl:(i:Int)=0+(i:Int):=(T5 _).symm;refine xq1 rfl ⟨g.p,g.dx,(xq1 rfl ⟨at'.hp,QO g,(xq1 rfl ⟨(by show 1<=sizeLine;decide),λt ht=>?_⟩)⟩)⟩;have s1:=AK (o:=.tup [.int (0+(i:Int))]) ht;refine⟨g,DC i,t,[0+(i:Int)],0,rfl,at'.same s1,Af,by rw[<-cl];exact Wi i,by rw[Fc];lia,λH8 fr at8=>?_⟩;rw[<-cl,<-TZ]at at8;have fr':Fr g H7 H8:=(Ay.fr s1).trans fr;obtain⟨ts,h3,h4⟩:=at'.pt;have kd:∀(b:Addr)(kvs:List (Key×V)),H7 b=some (.dK kvs)->H8 b=some (.dK kvs):=λb kvs e=>fr' _ _ e (AE e at'.lv A3) (AE e h3 A3) (AE e at'.nm A3);have ham8:=kd _ _ ham;refine xq1 rfl ⟨_,_,rfl,(xwf rfl rfl at8.hp T.cl_Grove T.na_Grove_amounts (fl6_am g) (xq1 rfl ⟨g.am,(xq1 rfl ⟨Lx.k (k:=Sum.inl (0+(i:Int))) ham8 (by rw[amK_len];exact FY A0),?_⟩)⟩))⟩;rw[<-cl,GD _ (Tb i i (C0 _)),<-Ta];have other:∀{b:Addr}{v:HO},H8 b=some v->b≠g.am->upd H8 g.am (.dK (amK (i+1))) b=some v:=λ{b v} e n=>by rw[Au n];exact e
   have na:∀{b:Addr}{v:HO},H8 b=some v->v≠.dK (amK i)->b≠g.am:=λ{b v} e n=>AE e ham8 n;obtain⟨ts8,h38,h48⟩:=at8.pt;refine xq1 rfl ⟨?_,⟨other at8.hp (na at8.hp A3),other at8.lv (na at8.lv A3),⟨ts8,other h38 (na h38 A3),PairedM.imp (λc q z=>other z (na z A3)) h48⟩,other at8.nm (na at8.nm A3),at8.ne⟩,?_,Af,?_,fresh,n1,n2,n3⟩
   ·intro b v e nb;have e8:H8 b=some v:=fr' _ _ (kp _ _ e nb) (Aw e fresh.1) (Aw e fresh.2.1) (Aw e fresh.2.2.1);exact other e8 (Aw e fresh.2.2.2.2.1)
   ·have e8:H8 g.br=_:=fr' _ _ hbr n1 n2 (AE hbr at'.nm A3);exact other e8 (na e8 A3)
   ·exact other (kd _ _ hbx) (Z3 n3)
  ·rintro σ H7 ⟨u1,rfl,N⟩;refine xq2 rfl rfl ⟨1,49,rfl,⟨by decide,by decide,by decide,by decide⟩,?_⟩;have N0:Tf a H H7 g (DC 8++FO 0) (Da 0) (amK 8):=by rw[show DC 8++FO 0=DC 8 from V5 _];exact N
   clear N;refine DD (lo:=1) (n:=48) (λj σ H8=>∃u2 u3:Option V,σ=[some (.ref g.p),u1,u2,u3]/\Tf a H H8 g (DC 8++FO j) (Da j) (amK 8)) ⟨none,none,rfl,N0⟩ ?_ ?_
   ·rintro j σ H8 hj ⟨u2,u3,rfl,N⟩;obtain⟨kp,at',hbr,ham,hbx,fresh,n1,n2,n3⟩:=N;refine xwf rfl rfl at'.hp T.cl_Grove T.na_Grove_bares (Iu g) (xwi rfl rfl rfl (SqL.of hbr) (ZI (by rw[List.getLast?_map,Uo];rfl)) ?_);refine xwf rfl rfl at'.hp T.cl_Grove T.na_Grove_bares (Iu g) ⟨.inl ⟨rfl,_,SqL.of hbr⟩,(xq1 rfl ⟨g.p,g.dx,(xq1 rfl ⟨at'.hp,QO g,(xw3 rfl rfl rfl (xq1 rfl ⟨(by show 4<=sizeLine;decide),λt ht=>(xq1 rfl ?_)⟩))⟩)⟩)⟩;have s1:=AK (o:=.tup [.int (bareN j:Int),.int (bareN j:Int),.int (bareN j:Int),.int (bareN j:Int)]) ht;have ln:(DC 8++FO j).length=8+j:=by rw[C4,Fc,Qo]
    refine⟨g,DC 8++FO j,t,[(bareN j:Int),(bareN j:Int),(bareN j:Int),(bareN j:Int)],1+(j:Int),rfl,at'.same s1,Af,Qn j,by rw[ln];lia,λH9 fr at9=>?_⟩;rw[show(1:Int)+(j:Int)=(j:Int)+1 by lia,R1,<-OW]at at9;have fr':Fr g H8 H9:=(Ay.fr s1).trans fr;obtain⟨ts,h3,h4⟩:=at'.pt;have kd:∀(b:Addr)(kvs:List (Key×V)),H8 b=some (.dK kvs)->H9 b=some (.dK kvs):=λb kvs e=>fr' _ _ e (AE e at'.lv A3) (AE e h3 A3) (AE e at'.nm A3);have hbr9:H9 g.br=_:=fr' _ _ hbr n1 n2 (AE hbr at'.nm A3);refine⟨g.br,(xq2 rfl rfl ⟨hbr9,by rw[B6];unfold Da;rw[B6,M6];exact FY A0,?_⟩)⟩;have eb:(Da j).map V.int++[V.int ((DC 8++FO j).length:Int)]=(Da (j+1)).map V.int:=by rw[OX,C6,ln];rfl
    rw[eb];have other:∀{b:Addr}{v:HO},H9 b=some v->v≠.lst ((Da j).map V.int)->upd H9 g.br (.lst ((Da (j+1)).map V.int)) b=some v:=λ{b v} e n=>by rw[Au (AE e hbr9 n)];exact e
    refine⟨_,_,rfl,?_,at9.put hbr9 n1 n2,Af,other (kd _ _ ham) A3,other (kd _ _ hbx) A3,fresh,n1,n2,n3⟩;intro b v e nb;rw[Au (Aw e fresh.2.2.2.1)];exact fr' _ _ (kp _ _ e nb) (Aw e fresh.1) (Aw e fresh.2.1) (Aw e fresh.2.2.1)
   ·rintro σ H8 ⟨u2,u3,rfl,N⟩;exact k' H8 rfl N
end
end J
namespace J
open PySem L2
theorem Ak.uniq{G:Gv}{i:Nat}{l m:Int}(h:Ak G i l)(h2:Ak G i m):l=m:=by
 obtain⟨q,e,z⟩:=h;obtain⟨p,e2,z2⟩:=h2;rw[e]at e2;cases e2;exact z.symm.trans z2
structure CP(G:Gv)(n i:Nat)(q:Sq)(x y z w:Nat):Prop where
 g:G[i]?=some q
 ps:q.parts=[(x:Int),(y:Int),(z:Int),(w:Int)]
 lev:q.lev=(n:Int)+1
 hx:Ak G x n
 hy:Ak G y n
 hz:Ak G z n
 hw:Ak G w n
theorem Be{G:Gv}(ok:GOk G){n i:Nat}(h:Ak G i ((n+1:Nat):Int)):∃q x y z w,CP G n i q x y z w:=by
 obtain⟨q,e,el⟩:=h;have n8:8<=i:=by
  refine O6 λl8=>?_;rw[ok.leaf i l8]at e;cases e;have:(0:Int)=((n+1:Nat):Int):=el;lia
 obtain⟨x,y,z,w,ep,⟨hx,hy,hz,hw⟩,_,_⟩:=ok.node i q e n8;have en:q.lev-1=(n:Int):=by lia
 rw[en]at hx hy hz hw;exact⟨q,x,y,z,w,e,ep,by lia,hx,hy,hz,hw⟩
theorem CP.app{G G':Gv}{k n i:Nat}{q:Sq}{x y z w:Nat}(go:AH G G' k)(h:CP G n i q x y z w):CP G' n i q x y z w:=⟨go.get h.g,h.ps,h.lev,go.lev h.hx,go.lev h.hy,go.lev h.hz,go.lev h.hw⟩
def Bj(G:Gv):Nat->Nat->Int
 |0,i=>if i=0 then 0 else 1
 |n+1,i=>match G[i]? with
  |some q=>(q.parts.map λp=>Bj G n p.toNat).sum
  |none=>0
theorem Fe{G:Gv}{n i:Nat}{q:Sq}{x y z w:Nat}(h:CP G n i q x y z w):Bj G (n+1) i=([x,y,z,w].map λk=>Bj G n k).sum:=by
 rw[show Bj G (n+1) i=(match G[i]? with|some q=>(q.parts.map λ(p:Int)=>Bj G n p.toNat).sum|none=>0)from rfl,h.g];show(q.parts.map λ(p:Int)=>Bj G n p.toNat).sum=_;rw[h.ps];rfl
theorem Jt{G G':Gv}{k:Nat}(ok:GOk G)(go:AH G G' k):∀(n i:Nat),Ak G i (n:Int)->Bj G' n i=Bj G n i
 |0,i,_=>rfl
 |n+1,i,h=>by
  obtain⟨q,x,y,z,w,nd⟩:=Be ok h;rw[Fe nd,Fe (nd.app go)];show Bj G' n x+(Bj G' n y+(Bj G' n z+(Bj G' n w+0)))=_;rw[Jt ok go n x nd.hx,Jt ok go n y nd.hy,Jt ok go n z nd.hz,Jt ok go n w nd.hw];rfl
theorem CO(G:Gv):∀(n i:Nat),0<=Bj G n i
 |0,i=>by
  show 0<=if i=0 then(0:Int)else 1;split<;>lia
 |n+1,i=>by
  unfold Bj;split
  ·rename_i q _;have:∀l:List Int,0<=(l.map λp=>Bj G n p.toNat).sum:=by
    intro l;induction l with
    |nil=>exact R4 0
    |cons p r ih=>rw[F5,O3];have:=CO G n p.toNat;lia
   exact this _
  ·exact R4 0
theorem JE:∀(n:Nat)(l:List Nat),l.Nodup->(∀x∈l,x<n)->l.length<=n
 |0,l,_,h=>by
  cases l with
  |nil=>exact C0 0
  |cons x r=>exact absurd (h x C3) (M0 _)
 |n+1,l,nd,h=>by
  by_cases hm:n∈l
  ·have:=JE n (l.erase n) (nd.erase n) λx hx=>by
    have h1:=(nd.mem_erase_iff).mp hx;have:=h x h1.2;have:=h1.1;lia
   rw[List.length_erase_of_mem hm]at this;lia
  ·have:=JE n l nd λx hx=>by
    have:=h x hx;have:x≠n:=λz=>hm (z▸hx);lia
   lia
structure Gz(G:Gv)(ks:List (Key×V)):Prop where
 nd:(ks.map Prod.fst).Nodup
 lt:∀k∈ks.map Prod.fst,∃i:Nat,i<G.length/\k=Sum.inl (i:Int)
theorem Gz.len{G:Gv}{ks:List (Key×V)}(h:Gz G ks):ks.length<=G.length:=by
 let f:Key->Nat:=λk=>match k with|.inl i=>i.toNat|.inr _=>0
 have:=JE G.length ((ks.map Prod.fst).map f) (by
  rw[M7,W6];refine A2h (λ{a b} ha hb hne z=>hne ?_) (M7.mp h.nd);obtain⟨i,_,rfl⟩:=h.lt a ha;obtain⟨j,_,rfl⟩:=h.lt b hb;have:(i:Int).toNat=(j:Int).toNat:=z;rw[L6,L6]at this;rw[this]) (λx hx=>by
  obtain⟨k,hk,rfl⟩:=D5.mp hx;obtain⟨i,hi,rfl⟩:=h.lt k hk;show(i:Int).toNat<_;rw[L6];exact hi)
 rw[B6,B6]at this;exact this
theorem Gz.app{G G':Gv}{ks:List (Key×V)}(le:G.length<=G'.length)(h:Gz G ks):Gz G' ks:=⟨h.nd,λk hk=>by
 obtain⟨i,hi,e⟩:=h.lt k hk;exact⟨i,by lia,e⟩⟩
theorem Gz.put{G:Gv}{ks:List (Key×V)}(h:Gz G ks){i:Nat}(hi:i<G.length)(v:V):Gz G (DI ks (Sum.inl (i:Int)) v):=by
 unfold DI;by_cases a:(ks.any λkv=>decide (kv.1=Sum.inl (i:Int)))=true
 ·rw[Y7 a];have e:(ks.map λkv=>if kv.1=Sum.inl (i:Int)then(kv.1,v)else kv).map Prod.fst=ks.map Prod.fst:=by
   rw[M5];refine List.map_congr_left λkv _=>?_;show(if kv.1=Sum.inl (i:Int)then(kv.1,v)else kv).1=kv.1;split<;>rfl
  exact⟨by rw[e];exact h.nd,by rw[e];exact h.lt⟩
 ·rw[Y4 a];refine⟨?_,λk hk=>?_⟩
  ·rw[C6,Q9];refine⟨h.nd,by simp,λk hk k' hk' z=>a ?_⟩;have:k'=Sum.inl (i:Int):=by simpa using hk'
   subst this;subst z;obtain⟨kv,h1,h2⟩:=D5.mp hk;exact S4.mpr ⟨kv,h1,Y5 h2⟩
  ·rw[C6]at hk;rcases F0.mp hk with z|z
   ·exact h.lt k z
   ·exact⟨i,hi,by simpa using z⟩
structure AmOk(G:Gv)(ks:List (Key×V)):Prop where
 keys:Gz G ks
 leaf:∀s:Nat,s<8->∃v,Br ks (Sum.inl (s:Int))=some v
 val:∀(i:Nat) v,Br ks (Sum.inl (i:Int))=some v->∃l:Nat,Ak G i l/\v=.int (Bj G l i)
theorem AmOk.app{G G':Gv}{k:Nat}{ks:List (Key×V)}(ok:GOk G)(go:AH G G' k)(h:AmOk G ks):AmOk G' ks:=⟨h.keys.app (by obtain⟨r,e⟩:=go.pre;rw[e,C4];lia),h.leaf,λi v e=>by
 obtain⟨l,h1,h2⟩:=h.val i v e;exact⟨l,go.lev h1,by rw[Jt ok go l i h1];exact h2⟩⟩
theorem am0:AmOk G0 (amK 8) where
 keys:=⟨by decide +kernel,λk hk=>by
  obtain⟨p,hp,rfl⟩:=D5.mp hk;obtain⟨s,hs,rfl⟩:=D5.mp hp;have:=L7.mp hs;exact⟨s,by rw[Uf];lia,rfl⟩⟩
 leaf:=λs hs=>by
  match s,hs with
  |0,_=>exact⟨_,rfl⟩
  |1,_=>exact⟨_,rfl⟩
  |2,_=>exact⟨_,rfl⟩
  |3,_=>exact⟨_,rfl⟩
  |4,_=>exact⟨_,rfl⟩
  |5,_=>exact⟨_,rfl⟩
  |6,_=>exact⟨_,rfl⟩
  |7,_=>exact⟨_,rfl⟩
 val:=λi v e=>by
  have hi:i<8:=by
   refine Nat.lt_of_not_le λz=>?_;rw[Tb 8 i z]at e;cases e
  refine⟨0,⟨_,Rj i hi,rfl⟩,?_⟩
  match i,hi with
  |0,_=>cases e;rfl
  |1,_=>cases e;rfl
  |2,_=>cases e;rfl
  |3,_=>cases e;rfl
  |4,_=>cases e;rfl
  |5,_=>cases e;rfl
  |6,_=>cases e;rfl
  |7,_=>cases e;rfl
structure Bx where
 l:Int
 t:Int
 w:Int
 h:Int
def Bx.ns(b:Bx):List Int:=[b.l,b.t,b.w,b.h]
def shB(half:Int)(k:Nat)(b:Bx):Bx:=⟨b.l+half*((k:Int)%2),b.t+half*((k:Int)/2),b.w,b.h⟩
def DJ(half:Int):Nat->List (Option Bx)->List Bx
 |_,[]=>[]
 |k,none::r=>DJ half (k+1) r
 |k,some b::r=>shB half k b::DJ half (k+1) r
def mnL(l:List Int):Int:=l.min?.getD 0
def mxL(l:List Int):Int:=l.max?.getD 0
def OL(bs:List Bx):Bx:=⟨mnL (bs.map (·.l)),mnL (bs.map (·.t)),mxL (bs.map λb=>b.l+b.w)-mnL (bs.map (·.l)),mxL (bs.map λb=>b.t+b.h)-mnL (bs.map (·.t))⟩
def Ph(half:Int)(obs:List (Option Bx)):Option Bx:=match DJ half 0 obs with
 |[]=>none
 |b::r=>some (OL (b::r))
def BQ(G:Gv):Nat->Nat->Option Bx
 |0,i=>if i=0 then none else some ⟨0,0,1,1⟩
 |n+1,i=>match G[i]? with
  |some q=>Ph (2^n) (q.parts.map λ(p:Int)=>BQ G n p.toNat)
  |none=>none
theorem YS{l:List Int}{m:Int}(h:m∈l)(h2:∀x∈l,m<=x):m=mnL l:=by
 unfold mnL;rw[List.min?_eq_some_iff.mpr ⟨h,h2⟩];rfl
theorem YQ{l:List Int}{m:Int}(h:m∈l)(h2:∀x∈l,x<=m):m=mxL l:=by
 unfold mxL;rw[List.max?_eq_some_iff.mpr ⟨h,h2⟩];rfl
theorem Fj{G:Gv}{n i:Nat}{q:Sq}{x y z w:Nat}(h:CP G n i q x y z w):BQ G (n+1) i=Ph (2^n) [BQ G n x,BQ G n y,BQ G n z,BQ G n w]:=by
 rw[show BQ G (n+1) i=(match G[i]? with|some q=>Ph (2^n) (q.parts.map λ(p:Int)=>BQ G n p.toNat)|none=>none)from rfl,h.g];show Ph (2^n) (q.parts.map λ(p:Int)=>BQ G n p.toNat)=_;rw[h.ps];rfl
theorem GJ{G G':Gv}{k:Nat}(ok:GOk G)(go:AH G G' k):∀(n i:Nat),Ak G i (n:Int)->BQ G' n i=BQ G n i
 |0,i,_=>rfl
 |n+1,i,h=>by
  obtain⟨q,x,y,z,w,nd⟩:=Be ok h;rw[Fj nd,Fj (nd.app go),GJ ok go n x nd.hx,GJ ok go n y nd.hy,GJ ok go n z nd.hz,GJ ok go n w nd.hw]
theorem PH{half:Int}:∀{obs:List (Option Bx)},Ph half obs=none ↔ ∀o∈obs,o=none:=by
 intro obs;have g:∀(obs:List (Option Bx))(k:Nat),DJ half k obs=[] ↔ ∀o∈obs,o=none:=by
  intro obs;induction obs with
  |nil=>intro k;exact⟨λ_ o ho=>by simp at ho,λ_=>rfl⟩
  |cons o r ih =>
   intro k;cases o with
   |none =>
    rw[show DJ half k (none::r)=DJ half (k+1) r from rfl,ih (k+1)];exact⟨λh o ho=>by rcases C1.mp ho with z|z;exact z;exact h o z,λh o ho=>h o (C2 _ ho)⟩
   |some b=>exact⟨λh=>(by cases h),λh=>(by cases h (some b) C3)⟩
 rw[<-g obs 0];unfold Ph;constructor
 ·intro h;split at h
  ·assumption
  ·cases h
 ·intro h;rw[h]
theorem JI{G:Gv}(ok:GOk G):∀(n i:Nat),Ak G i (n:Int)->(BQ G n i=none↔Bj G n i=0)
 |0,i,_=>by
  show(if i=0 then none else some (⟨0,0,1,1⟩:Bx))=none↔(if i=0 then(0:Int)else 1)=0;split
  ·exact⟨λ_=>rfl,λ_=>rfl⟩
  ·exact⟨λh=>(by cases h),λh=>A0⟩
 |n+1,i,h=>by
  obtain⟨q,x,y,z,w,nd⟩:=Be ok h;rw[Fj nd,Fe nd,PH];show _↔Bj G n x+(Bj G n y+(Bj G n z+(Bj G n w+0)))=0;have ex:=JI ok n x nd.hx;have ey:=JI ok n y nd.hy;have ez:=JI ok n z nd.hz;have ew:=JI ok n w nd.hw;have nx:=CO G n x;have ny:=CO G n y;have nz:=CO G n z;have nw:=CO G n w;constructor
  ·intro h;rw[ex.mp (h _ A6),ey.mp (h _ A6),ez.mp (h _ A6),ew.mp (h _ A6)];rfl
  ·intro h o ho;simp only[C1,D9,X7]at ho;rcases ho with rfl|rfl|rfl|rfl
   ·exact ex.mpr A0
   ·exact ey.mpr A0
   ·exact ez.mpr A0
   ·exact ew.mpr A0
theorem Zp{G r:Gv}(e:G=G0++r)(j:Nat)(h:j<48):G[8+j]?=some ⟨[(bareN j:Int),(bareN j:Int),(bareN j:Int),(bareN j:Int)],(j:Int)+1⟩:=by
 rw[e];exact LX (NN j h)
theorem GL{G:Gv}(ok:GOk G){r:Gv}(e:G=G0++r):∀(n i:Nat),n<=48->Ak G i (n:Int)->(BQ G n i=none↔i=bareN n)
 |0,i,_,_=>by
  show(if i=0 then none else some (⟨0,0,1,1⟩:Bx))=none↔i=0;split
  ·rename_i z;exact⟨λ_=>z,λ_=>rfl⟩
  ·rename_i z;exact⟨λh=>(by cases h),λh=>absurd h z⟩
 |n+1,i,hn,h=>by
  obtain⟨q,x,y,z,w,nd⟩:=Be ok h;rw[Fj nd,PH];have ex:=GL ok e n x A0 nd.hx;have ey:=GL ok e n y A0 nd.hy;have ez:=GL ok e n z A0 nd.hz;have ew:=GL ok e n w A0 nd.hw;have hb:=Zp e n A0;constructor
  ·intro h;have hx:=ex.mp (h _ A6);have hy:=ey.mp (h _ A6);have hz:=ez.mp (h _ A6);have hw:=ew.mp (h _ A6);show i=8+n;refine ok.one nd.g hb ?_;rw[nd.ps,hx,hy,hz,hw]
  ·intro h;have h:i=8+n:=h;have g:=nd.g;rw[h,hb]at g;cases g;have p:=nd.ps;have p:[(bareN n:Int),(bareN n:Int),(bareN n:Int),(bareN n:Int)]=[(x:Int),(y:Int),(z:Int),(w:Int)]:=p;injection p with p1 p
   injection p with p2 p
   injection p with p3 p
   injection p with p4 p
   intro o ho;simp only[C1,D9,X7]at ho;rcases ho with rfl|rfl|rfl|rfl
   ·exact ex.mpr (Z4 p1).symm
   ·exact ey.mpr (Z4 p2).symm
   ·exact ez.mpr (Z4 p3).symm
   ·exact ew.mpr (Z4 p4).symm
structure BxOk(G:Gv)(H:Hp)(ks:List (Key×V)):Prop where
 keys:Gz G ks
 val:∀(i:Nat) v,Br ks (Sum.inl (i:Int))=some v->∃(l:Nat)(b:Bx)(t:Addr),Ak G i l/\BQ G l i=some b/\v=.ref t/\H t=some (.tup (b.ns.map V.int))
structure AX(a:Ad)(H:Hp)(g:GA)(G:Gv):Prop where
 at':AJ a H g G
 ok:GOk G
 g0:∃r,G=G0++r
 br:H g.br=some (.lst ((Da 48).map V.int))
 am:∃ks,H g.am=some (.dK ks)/\AmOk G ks
 bx:∃ks,H g.bx=some (.dK ks)/\BxOk G H ks
 n1:g.br≠g.lv
 n2:g.br≠g.pt
 n3:g.am≠g.bx
theorem AX.new{a:Ad}{H H':Hp}{g:GA}(h:Tf a H H' g G0 (Da 48) (amK 8)):AX a H' g G0:=⟨h.at',g0_ok,⟨[],by simp⟩,h.br,⟨_,h.am,am0⟩,⟨_,h.bx,⟨by simp,λk hk=>by simp at hk⟩,λi v e=>by cases e⟩,h.n1,h.n2,h.n3⟩
theorem AX.ne_am{a:Ad}{H:Hp}{g:GA}{G:Gv}(h:AX a H g G){b:Addr}{o:HO}(e:H b=some o)(n:∀ks,o≠.dK ks):b≠g.am/\b≠g.bx:=by
 obtain⟨ks,h1,_⟩:=h.am;obtain⟨ks',h2,_⟩:=h.bx;exact⟨AE e h1 (n _),AE e h2 (n _)⟩
theorem AX.same{a:Ad}{H H':Hp}{g:GA}{G:Gv}(s:Ay H H')(h:AX a H g G):AX a H' g G:=by
 obtain⟨at',ok,g0,br,⟨ks,h1,h2⟩,⟨ks',h3,h4⟩,n1,n2,n3⟩:=h;refine⟨at'.same s,ok,g0,s _ _ br,⟨ks,s _ _ h1,h2⟩,⟨ks',s _ _ h3,h4.keys,λi v e=>?_⟩,n1,n2,n3⟩;obtain⟨l,b,t,e1,e2,e3,e4⟩:=h4.val i v e;exact⟨l,b,t,e1,e2,e3,s _ _ e4⟩
theorem AH.le{G G':Gv}{k:Nat}(go:AH G G' k):G.length<=G'.length:=by
 obtain⟨r,e⟩:=go.pre;rw[e,C4];lia
theorem AX.fr{a:Ad}{H H':Hp}{g:GA}{G G':Gv}{m:Nat}(h:AX a H g G)(f:Fr g H H')(at2:AJ a H' g G')(go:AH G G' m):AX a H' g G':=by
 obtain⟨at',ok,⟨r,g0⟩,br,⟨ks,h1,h2⟩,⟨ks',h3,h4⟩,n1,n2,n3⟩:=h;obtain⟨us,hp,_⟩:=at'.pt;have keep:∀{b:Addr}{o:HO},H b=some o->(∀l,o≠.lst l)->(∀l,o≠.dT l)->H' b=some o:=λ{b o} e z1 z2=>f _ _ e (AE e at'.lv (z1 _)) (AE e hp (z1 _)) (AE e at'.nm (z2 _));obtain⟨t,et⟩:=go.pre;refine⟨at2,go.ok,⟨r++t,by rw[et,g0,R1]⟩,f _ _ br n1 n2 (AE br at'.nm A3),⟨ks,keep h1 (by intro l z;cases z) (by intro l z;cases z),h2.app ok go⟩,⟨ks',keep h3 (by intro l z;cases z) (by intro l z;cases z),h4.keys.app go.le,λi v e=>?_⟩,n1,n2,n3⟩;obtain⟨l,b,t,e1,e2,e3,e4⟩:=h4.val i v e;exact⟨l,b,t,go.lev e1,by rw[GJ ok go l i e1];exact e2,e3,keep e4 (by intro l z;cases z) (by intro l z;cases z)⟩
theorem AX.put{a:Ad}{H:Hp}{g:GA}{G:Gv}{l:Addr}{xs:List V}{o:HO}(h:AX a H g G)(hl:H l=some (.lst xs))(m1:l≠g.lv)(m2:l≠g.pt)(m3:l≠g.br):AX a (upd H l o) g G:=by
 obtain⟨at',ok,g0,br,⟨ks,h1,h2⟩,⟨ks',h3,h4⟩,n1,n2,n3⟩:=h;have other:∀{b v},H b=some v->v≠.lst xs->upd H l o b=some v:=λ{b v} e n=>by rw[Au (AE e hl n)];exact e
 refine⟨at'.put hl m1 m2,ok,g0,by rw[Au (Z3 m3)];exact br,⟨ks,other h1 A3,h2⟩,⟨ks',other h3 A3,h4.keys,λi v e=>?_⟩,n1,n2,n3⟩;obtain⟨l,b,t,e1,e2,e3,e4⟩:=h4.val i v e;exact⟨l,b,t,e1,e2,e3,other e4 A3⟩
def FrQ(g:GA)(H H':Hp):Prop:=∀b o,H b=some o->b≠g.am->b≠g.bx->H' b=some o
theorem FrQ.refl(g:GA)(H:Hp):FrQ g H H:=λ_ _ e _ _=>e
theorem FrQ.trans{g:GA}{H1 H2 H3:Hp}(h:FrQ g H1 H2)(h2:FrQ g H2 H3):FrQ g H1 H3:=λb o e n1 n2=>h2 b o (h b o e n1 n2) n1 n2
theorem Ay.frq{g:GA}{H1 H2:Hp}(h:Ay H1 H2):FrQ g H1 H2:=λb o e _ _=>h b o e
theorem AJ.dict{a:Ad}{H:Hp}{g:GA}{G:Gv}{d:Addr}{ks:List (Key×V)}{o:HO}(hd:H d=some (.dK ks))(h:AJ a H g G):AJ a (upd H d o) g G:=by
 obtain⟨h1,h2,⟨ts,h3,h4⟩,h5,h6⟩:=h;have other:∀{b v},H b=some v->v≠.dK ks->upd H d o b=some v:=λ{b v} e n=>by rw[Au (AE e hd n)];exact e
 exact⟨other h1 A3,other h2 A3,⟨ts,other h3 A3,PairedM.imp (λt q z=>other z A3) h4⟩,other h5 A3,h6⟩
theorem AX.bx_put{a:Ad}{H:Hp}{g:GA}{G:Gv}{ks ks2:List (Key×V)}(h:AX a H g G)(e:H g.bx=some (.dK ks))(h2:BxOk G H ks2):AX a (upd H g.bx (.dK ks2)) g G/\FrQ g H (upd H g.bx (.dK ks2)):=by
 obtain⟨at',ok,g0,br,⟨ks',h3,h4⟩,⟨_,_,_⟩,n1,n2,n3⟩:=h;have other:∀{b v},H b=some v->v≠.dK ks->upd H g.bx (.dK ks2) b=some v:=λ{b v} e' n=>by rw[Au (AE e' e n)];exact e'
 refine⟨⟨at'.dict e,ok,g0,other br A3,⟨ks',by rw[Au n3];exact h3,h4⟩,⟨_,Af,h2.keys,λi v e=>?_⟩,n1,n2,n3⟩,λb o e' _ m1=>by rw[Au m1];exact e'⟩;obtain⟨l,b,t,e1,e2,e3,e4⟩:=h2.val i v e;exact⟨l,b,t,e1,e2,e3,other e4 A3⟩
theorem Sr(g:GA):(fl6 g).lookup ("boxed" : Str)=none:=Ir g A1 A1 A1 A1 A1 A1
theorem Sm(g:GA):(fl6 g).lookup ("measured" : Str)=none:=Ir g A1 A1 A1 A1 A1 A1
theorem no_span(g:GA):(fl6 g).lookup ("span" : Str)=none:=Ir g A1 A1 A1 A1 A1 A1
theorem CP.mem{G:Gv}{n i:Nat}{q:Sq}{x y z w:Nat}(h:CP G n i q x y z w){j:Nat}{v:V}(e:(q.parts.map V.int)[j]?=some v):∃k:Nat,v=.int k/\Ak G k n/\q.parts[j]?=some (k:Int):=by
 rw[B8]at e;obtain⟨p,hp,rfl⟩:=D0.mp e;have hm:=C9 hp;rw[h.ps]at hm;simp only[C1,D9,X7]at hm;rcases hm with rfl|rfl|rfl|rfl
 ·exact⟨x,rfl,h.hx,hp⟩
 ·exact⟨y,rfl,h.hy,hp⟩
 ·exact⟨z,rfl,h.hz,hp⟩
 ·exact⟨w,rfl,h.hw,hp⟩
section
variable{P:Program}{w:World}{K:PySem.W.Frag}{mg:Str->Option Value}{base:Heap}{a:Ad}
end
seal L2.PA L2.PE L2.PS L2.PSs L2.PT L2.PW
theorem ON(half:Int):∀(l r:List (Option Bx))(k:Nat),DJ half k (l++r)=DJ half k l++DJ half (k+l.length) r
 |[],r,k=>rfl
 |none::l,r,k=>by
  show DJ half (k+1) (l++r)=DJ half (k+1) l++DJ half (k+(l.length+1)) r;rw[ON half l r (k+1),show k+1+l.length=k+(l.length+1) by lia]
 |some b::l,r,k=>by
  show shB half k b::DJ half (k+1) (l++r)=shB half k b::(DJ half (k+1) l++DJ half (k+(l.length+1)) r);rw[ON half l r (k+1),show k+1+l.length=k+(l.length+1) by lia]
theorem LY(half:Int):∀(l:List (Option Bx))(k:Nat),(DJ half k l).length<=l.length
 |[],k=>C0 _
 |none::l,k=>C7 (LY half l (k+1)) (R3 _)
 |some b::l,k=>P9 (LY half l (k+1))
theorem PairedM.getL{α β:Type}{F:α->β->Prop}:∀{l:List α}{m:List β}{i:Nat}{x:α},Paired F l m->l[i]?=some x->∃y,m[i]?=some y/\F x y
 |_,_,_,_,.nil,e=>by simp at e
 |_,_,0,_,.cons r _,e=>by simp at e;subst e;exact⟨_,rfl,r⟩
 |_,_,i+1,x,.cons _ t,e=>by
  obtain⟨y,h1,h2⟩:=PairedM.getL (i:=i) (x:=x) t (by simpa using e);exact⟨y,by simpa using h1,h2⟩
def MW(H:Hp)(t:Addr)(b:Bx):Prop:=H t=some (.tup (b.ns.map V.int))
theorem NQ{β:Type}{K:PySem.W.Frag}{k:Nat}{cs:List Nat}{g:TG}{tc:TT}{te:TE}{σ:St}{H:Hp}{fin:List V->Hp->Prop}{D:Addr->β->Prop}{L:Addr}{ts:List Addr}{bs:List β}(col:β->Int)(hL:H L=some (.lst (ts.map V.ref)))(pr:Paired D ts bs)(few:ts.length<1000)
  (hs:∀t b acc N,D t b->acc.length<sizeLine->N (acc++[.int (col b)]) H->Bt k cs g tc te σ (.ref t) acc H N) (hd:fin ((bs.map col).map V.int) H):Gc k cs g tc te (Itl K L) σ H fin:=by
 have ln:ts.length=bs.length:=Z7 pr;refine CY (xs:=ts.map V.ref) (λj acc H2=>H=H2/\acc=((bs.take j).map col).map V.int) ⟨rfl,rfl⟩ (λj acc H2 _ z=>z.1▸SqL.of hL) ?_ ?_
 ·rintro j v acc H2 ev ⟨rfl,rfl⟩;rw[B8]at ev;obtain⟨t,et,rfl⟩:=D0.mp ev;obtain⟨b,eb,d⟩:=PairedM.getL pr et;refine hs t b _ _ d (by rw[B6,B6,J0];exact FY A0) ⟨rfl,?_⟩;rw[F3,eb,C6,C6];rfl
 ·rintro acc H2 ⟨rfl,rfl⟩;rw[B6,ln,F6];exact hd
section
variable{P:Program}{w:World}{K:PySem.W.Frag}{mg:Str->Option Value}{base:Heap}{a:Ad}
inductive Vs(vs:List V)(H:Hp)(Q:VK):Prop
 |mk (t:Addr) (b:Bx) (dx dy:Int) (_:vs=[.ref t,.int dx,.int dy]) (_:MW H t b) (_:∀t',H t'=none->Q (.ref t') (upd H t' (.tup [.int (b.l+dx),.int (b.t+dy),.int b.w,.int b.h]))):Vs vs H Q
def Lz:Sp:=λvs H Q _=>Vs vs H Q
theorem Yw{f:Addr}{fd:FuncData}(F:Fun K "shifted_box" "shifted_box" Gf f fd)(T:Top K mg a):AI P w K mg base CX0 1 f fd Dm Lz:=by
 refine F.ok Oa (λvs H Q E h=>?_) (λcdv A outer s H vs Q E hr h=>?_)
 ·obtain⟨t,b,dx,dy,rfl,_⟩:=h;rfl
 ·obtain⟨t,b,dx,dy,rfl,ht,k⟩:=h;have ht:H t=some (.tup [.int b.l,.int b.t,.int b.w,.int b.h]):=ht;refine⟨_,(Ag (Av (DW (Bp AL (Aj An (pv 0) Ae (λ_ _=>rfl)) (pv 1) (Bp AL (Aj An (pv 0) Ae (λ_ _=>rfl)) (pv 2) (Aa (Aj An (pv 0) Ae (λ_ _=>rfl)) (Aa (Aj An (pv 0) Ae (λ_ _=>rfl)) Ab))))))),?_⟩
  try dsimp only[cxK]
  refine xwi rfl rfl rfl (SqT.of ht) (Ai (j:=0) rfl) (xwb rfl rfl rfl (xwi rfl rfl rfl (SqT.of ht) (Ai (j:=1) rfl) (xwb rfl rfl rfl (xwi rfl rfl rfl (SqT.of ht) (Ai (j:=2) rfl) (xwi rfl rfl rfl (SqT.of ht) (Ai (j:=3) rfl) ⟨(by show 4<=sizeLine;decide),λt' n=>k t' n⟩)))))
inductive Vx(vs:List V)(H:Hp)(Q:VK):Prop
 |mk (L:Addr) (ts:List Addr) (bs:List Bx) (_:vs=[.ref L]) (_:H L=some (.lst (ts.map V.ref))) (_:Paired (MW H) ts bs) (_:bs≠[]) (_:ts.length<1000) (_:∀t' H',Ay H H'->MW H' t' (OL bs)->Q (.ref t') H'):Vx vs H Q
def NA:Sp:=λvs H Q _=>Vx vs H Q
theorem YB{f:Addr}{fd:FuncData}(F:Fun K "least_box" "least_box" CS f fd)(T:Top K mg a):AI P w K mg base CX0 1 f fd FX NA:=by
 refine F.ok DN (λvs H Q E h=>?_) (λcdv A outer s H vs Q E hr h=>?_)
 ·obtain⟨L,ts,bs,rfl,_⟩:=h;rfl
 ·obtain⟨L,ts,bs,rfl,hL,pr,ne,few,k⟩:=h;have nem:∀col:Bx->Int,bs.map col≠[]:=λcol z=>ne (R8.mp z);refine⟨_,(Ac (Aq (i:=1) DN.nd rfl (Or.inl rfl) (AU (Qg rfl) rfl T.b_min A3d (Aa (BU rfl (Bw.of (So:=Ah CS) (No:=EE) (N:=["box"]) (k:=1) (cs:=[]) rfl rfl A1) (BT (pv 0)) (λ_ _ _=>(Bc (i:=0) A1 rfl rfl)) (λ_ _ _=>BE) (λ_ _ _=>(Aj (JD (K:=K) rfl) (pv 0) Ae (λ_ _=>rfl)))) Ab))) (Ac (Aq (i:=2) DN.nd rfl (Or.inl rfl) (AU (Qg rfl) rfl T.b_min A3d (Aa (BU rfl (Bw.of (So:=Ah CS) (No:=EE) (N:=["box"]) (k:=1) (cs:=[]) rfl rfl A1) (BT (pv 0)) (λ_ _ _=>(Bc (i:=0) A1 rfl rfl)) (λ_ _ _=>BE) (λ_ _ _=>(Aj (JD (K:=K) rfl) (pv 0) Ae (λ_ _=>rfl)))) Ab))) (Ac (Aq (i:=3) DN.nd rfl (Or.inl rfl) (AU (Qh rfl) rfl T.b_max A3e (Aa (BU rfl (Bw.of (So:=Ah CS) (No:=EE) (N:=["box"]) (k:=1) (cs:=[]) rfl rfl A1) (BT (pv 0)) (λ_ _ _=>(Bc (i:=0) A1 rfl rfl)) (λ_ _ _=>BE) (λ_ _ _=>(AA AL (Aj (JD (K:=K) rfl) (pv 0) Ae (λ_ _=>rfl)) (Aj (JD (K:=K) rfl) (pv 0) Ae (λ_ _=>rfl))))) Ab))) (Ac (Aq (i:=4) DN.nd rfl (Or.inl rfl) (AU (Qh rfl) rfl T.b_max A3e (Aa (BU rfl (Bw.of (So:=Ah CS) (No:=EE) (N:=["box"]) (k:=1) (cs:=[]) rfl rfl A1) (BT (pv 0)) (λ_ _ _=>(Bc (i:=0) A1 rfl rfl)) (λ_ _ _=>BE) (λ_ _ _=>(AA AL (Aj (JD (K:=K) rfl) (pv 0) Ae (λ_ _=>rfl)) (Aj (JD (K:=K) rfl) (pv 0) Ae (λ_ _=>rfl))))) Ab))) (Ag (Av (DW (Aa (pv 1) (Aa (pv 2) (Bp Cw (pv 3) (pv 1) (Bp Cw (pv 4) (pv 2) Ab))))))))))),?_⟩
  try dsimp only[cxK]
  refine xq1 rfl ⟨L,rfl,⟨_,SqL.of hL⟩,NQ (·.l) hL pr few (λt b acc N d la nx=>⟨⟨[some (.ref t)],rfl,rfl⟩,la,Gb (xwi rfl rfl rfl (SqT.of d) (Ai (j:=0) rfl) nx)⟩) λq1 h1=>?_⟩;refine⟨q1,(xq1 rfl ⟨SqL.of Af,nem _,λm1 hm1 hn1=>?_⟩)⟩;obtain rfl:=YS hm1 hn1;have s1:=AK (o:=.lst ((bs.map (·.l)).map V.int)) h1;generalize upd H q1 (.lst ((bs.map (·.l)).map V.int))=H1 at s1⊢;have hL1:=s1 _ _ hL;have pr1:Paired (MW H1) ts bs:=PairedM.imp (λt b z=>s1 _ _ z) pr;refine xq1 rfl ⟨L,rfl,⟨_,SqL.of hL1⟩,NQ (·.t) hL1 pr1 few (λt b acc N d la nx=>⟨⟨[some (.ref t)],rfl,rfl⟩,la,Gb (xwi rfl rfl rfl (SqT.of d) (Ai (j:=1) rfl) nx)⟩) λq2 h2=>?_⟩;refine⟨q2,(xq1 rfl ⟨SqL.of Af,nem _,λm2 hm2 hn2=>?_⟩)⟩;obtain rfl:=YS hm2 hn2;have s2:=s1.trans (AK (o:=.lst ((bs.map (·.t)).map V.int)) h2);generalize upd H1 q2 (.lst ((bs.map (·.t)).map V.int))=H2 at s2⊢;have hL2:=s2 _ _ hL;have pr2:Paired (MW H2) ts bs:=PairedM.imp (λt b z=>s2 _ _ z) pr;refine xq1 rfl ⟨L,rfl,⟨_,SqL.of hL2⟩,NQ (λb=>b.l+b.w) hL2 pr2 few (λt b acc N d la nx=>⟨⟨[some (.ref t)],rfl,rfl⟩,la,Gb (xwi rfl rfl rfl (SqT.of d) (Ai (j:=0) rfl) (xwi rfl rfl rfl (SqT.of d) (Ai (j:=2) rfl) (xq2 rfl rfl nx)))⟩) λq3 h3=>?_⟩;refine⟨q3,(xq1 rfl ⟨SqL.of Af,nem _,λm3 hm3 hn3=>?_⟩)⟩;obtain rfl:=YQ hm3 hn3;have s3:=s2.trans (AK (o:=.lst ((bs.map λb=>b.l+b.w).map V.int)) h3);generalize upd H2 q3 (.lst ((bs.map λb=>b.l+b.w).map V.int))=H3 at s3⊢;have hL3:=s3 _ _ hL;have pr3:Paired (MW H3) ts bs:=PairedM.imp (λt b z=>s3 _ _ z) pr;refine xq1 rfl ⟨L,rfl,⟨_,SqL.of hL3⟩,NQ (λb=>b.t+b.h) hL3 pr3 few (λt b acc N d la nx=>⟨⟨[some (.ref t)],rfl,rfl⟩,la,Gb (xwi rfl rfl rfl (SqT.of d) (Ai (j:=1) rfl) (xwi rfl rfl rfl (SqT.of d) (Ai (j:=3) rfl) (xq2 rfl rfl nx)))⟩) λq4 h4=>?_⟩;refine⟨q4,(xq1 rfl ⟨SqL.of Af,nem _,λm4 hm4 hn4=>?_⟩)⟩;obtain rfl:=YQ hm4 hn4;have s4:=s3.trans (AK (o:=.lst ((bs.map λb=>b.t+b.h).map V.int)) h4);generalize upd H3 q4 (.lst ((bs.map λb=>b.t+b.h).map V.int))=H4 at s4⊢;exact xw3 rfl rfl rfl (xwb rfl rfl rfl (xw2 rfl rfl (xq2 rfl rfl ⟨(by show 4<=sizeLine;decide),λt5 h5=>k t5 _ (s4.trans (AK h5)) Af⟩)))
inductive SpBox(a:Ad)(n:Nat)(vs:List V)(H:Hp)(Q:VK):Prop
 |mk (g:GA) (G:Gv) (i l:Nat) (_:vs=[.ref g.p,.int i]) (_:AX a H g G) (_:Ak G i l) (_:l<n) (_:G.length<9000000) (_:(BQ G l i=none->∀H',FrQ g H H'->AX a H' g G->Q .non H')) (_:∀b,BQ G l i=some b->∀t H',FrQ g H H'->AX a H' g G->MW H' t b->Q (.ref t) H'):SpBox a n vs H Q
def RT(a:Ad)(n:Nat):Sp:=λvs H Q _=>SpBox a n vs H Q
inductive SpMea(a:Ad)(n:Nat)(vs:List V)(H:Hp)(Q:VK):Prop
 |mk (g:GA) (G:Gv) (i l:Nat) (b:Bx) (_:vs=[.ref g.p,.int i]) (_:AX a H g G) (_:Ak G i l) (_:l<n) (_:G.length<9000000) (_:BQ G l i=some b) (_:∀t H',FrQ g H H'->AX a H' g G->MW H' t b->Q (.ref t) H'):SpMea a n vs H Q
def spMea(a:Ad)(n:Nat):Sp:=λvs H Q _=>SpMea a n vs H Q
theorem Qt(m:Nat){l:Int}(e:l=(m:Int)+1):(1:Int)*2^(l-1).toNat=2^m:=by
 rw[e,Int.one_mul,show((m:Int)+1-1).toNat=m by lia]
theorem ok_mea{n d:Nat}{f:Addr}{fd:FuncData}(F:Fun K "measured" "Grove.measured" Dc f fd)(T:Top K mg a)(hd:1<=d)(aG:Cal P w K mg base CX0 1 "shifted_box" Dm Lz)(aY:Cal P w K mg base CX0 1 "least_box" FX NA)(aW:BO P w K mg base CX0 d a.c_Grove "boxed" CJ (RT a n)):AI P w K mg base CX0 (d+1) f fd Df (spMea a (n+1)):=by
 refine F.ok Bu (λvs H Q E h=>?_) (λcdv A outer s H vs Q E hr h=>?_)
 ·obtain⟨g,G,i,l,b,rfl,_⟩:=h;rfl
 ·obtain⟨g,G,i,l,b,rfl,fu,hl,ln,few,eb,k⟩:=h;obtain⟨q0,e0,l0⟩:=id hl;refine⟨_,(Ac (Aq (i:=2) Bu.nd rfl (Or.inl rfl) (Aj Ax (AB (pv 0) rfl) (pv 1) (λ_ _=>rfl))) (Ac (AM (Az Cb (pv 2) Ae (AG _)) (Ag (Av (DW (AO (AO (AO (AO Ab))))))) AC) (Ac (Aq (i:=3) Bu.nd rfl (Or.inl rfl) (AA Ow Ae (AA Cw (pv 2) Ae))) (Ac (Aq (i:=4) Bu.nd rfl (Or.inl rfl) (Cm Ab)) (Ac (CL Z6 rfl (NF true rfl T.b_enumerate (Aa (Aj Ax (AB (pv 0) rfl) (pv 1) (λ_ _=>rfl)) Ab)) (Oq rfl (Dl (Bv (i:=5) Bu.nd rfl (Or.inl rfl)) (Dl (Bv (i:=6) Bu.nd rfl (Or.inl rfl)) LK))) (Ac (Aq (i:=7) Bu.nd rfl (Or.inl rfl) (AF (pv 0) aW (rm hr) Am (Aa (pv 6) Ab))) (Ag (AM (Az UV (pv 7) Dh (AG _)) (Ag (BS (DB Z8 Z9 X4 BW (pv 4) (Aa (Ar aG (rm hr) rfl Am (Aa (pv 7) (Bp Et (pv 3) (AA Bd (pv 5) Ae) (Bp Et (pv 3) (AA Cy (pv 5) Ae) Ab)))) Ab)))) AC)))) (Ag (Av (Ar aY (rm hr) rfl Am (Aa (pv 4) Ab))))))))),?_⟩
  try dsimp only[cxK]
  refine⟨_,rfl,g.p,_,g.dx,_,_,rfl,fu.at'.hp,T.cl_Grove,T.na_Grove_levels,EQ g,_,rfl,g.lv,_,(i:Int),.int q0.lev,rfl,rfl,SqL.of fu.at'.lv,Ai (by rw[B8,e0];rfl),?_⟩;cases l with
  |zero =>
   rw[l0];refine xq1 rfl ⟨rfl,(xq1 rfl (Ce ⟨(by show 4<=sizeLine;decide),λt ht=>?_⟩))⟩;have e:b=⟨0,0,1,1⟩:=by
    have eb:(if i=0 then none else some (⟨0,0,1,1⟩:Bx))=some b:=eb;split at eb
    ·cases eb
    ·cases eb;rfl
   subst e;have sm:=AK (o:=.tup [.int 0,.int 0,.int 1,.int 1]) ht;exact k t _ (Ay.frq sm) (fu.same sm) Af
  |succ m =>
   have l0':q0.lev=(m:Int)+1:=by rw[l0];lia
   refine xq1 rfl ⟨rfl,(xq1 rfl ?_)⟩;rw[Z0 (by intro z;injection z with z;lia)];obtain⟨q,x,y,z,w,nd⟩:=Be fu.ok hl;obtain⟨ts,h3,h4⟩:=fu.at'.pt;obtain⟨t,et,ht⟩:=PairedM.get h4 nd.g;have ht:H t=some (.tup (q.parts.map V.int)):=ht;have nt:=fu.ne_am ht (by intro l z;cases z);refine Bo (xwb rfl rfl rfl (xq2 rfl rfl ⟨⟨by lia,by have:=(fu.ok.lev e0).2;lia,by decide⟩,?_⟩));rw[show(λ(i j:Int)=>V.int (i*2^j.toNat)) 1 (q0.lev-1)=V.int (2^m)from X9 V.int (Qt m l0')];refine⟨(by show 0<=sizeLine;decide),λL hL=>?_⟩;have m1:L≠g.lv:=Z3 (Aw fu.at'.lv hL);have m2:L≠g.pt:=Z3 (Aw h3 hL);have m3:L≠g.br:=Z3 (Aw fu.br hL);have s1:=AK (o:=.lst []) hL;have hL1:upd H L (.lst []) L=some (.lst []):=Af;generalize upd H L (.lst [])=H1 at s1 hL1⊢;have fu1:=fu.same s1;have h31:=s1 _ _ h3;have ht1:=s1 _ _ ht;generalize hobs:[BQ G m x,BQ G m y,BQ G m z,BQ G m w]=obs;have lobs:obs.length=4:=by rw[<-hobs];rfl
   have eobs:BQ G (m+1) i=Ph (2^m) obs:=by rw[Fj nd,hobs]
   have gobs:∀(j k:Nat),q.parts[j]?=some (k:Int)->obs[j]?=some (BQ G m k):=by
    intro j k e;rw[nd.ps]at e;rw[<-hobs]
    match j,e with
    |0,e=>have e:some (x:Int)=some (k:Int):=e;rw[show x=k from Z4 (Z5 e)];rfl
    |1,e=>have e:some (y:Int)=some (k:Int):=e;rw[show y=k from Z4 (Z5 e)];rfl
    |2,e=>have e:some (z:Int)=some (k:Int):=e;rw[show z=k from Z4 (Z5 e)];rfl
    |3,e=>have e:some (w:Int)=some (k:Int):=e;rw[show w=k from Z4 (Z5 e)];rfl
    |j+4,e=>simp at e
   refine xwf rfl rfl fu1.at'.hp T.cl_Grove T.na_Grove_parts (Cf g) (xwi rfl rfl rfl (SqL.of h31) (Ai (by rw[B8,et];rfl)) ⟨t,rfl,⟨_,SqT.of ht1⟩,?_⟩);refine Ma (b:=true) (xs:=q.parts.map V.int) (λj σ H2=>∃(us:List Addr)(u5 u6 u7:Option V),σ=[some (.ref g.p),some (.int i),some (.int q0.lev),some (.int (2^m)),some (.ref L),u5,u6,u7]/\FrQ g H H2/\AX a H2 g G/\H2 L=some (.lst (us.map V.ref))/\Paired (MW H2) us (DJ (2^m) 0 (obs.take j))) ⟨[],none,none,none,rfl,Ay.frq s1,fu1,hL1,.nil⟩ (λj σ H2 _ ⟨_,_,_,_,_,fr,_⟩=>SqT.of (fr _ _ ht nt.1 nt.2)) ?_ ?_
   ·rintro j v σ H2 T' ev ⟨us,u5,u6,u7,rfl,fr,fu2,hL2,pr⟩ nT;obtain⟨k',rfl,hk,ek⟩:=nd.mem ev;have eo:=gobs j k' ek;have hj:j<4:=by rw[<-lobs];exact(B7.mp eo).1
    have lu:us.length<=4:=by
     rw[Z7 pr];have:=LY (2^m) (obs.take j) 0;rw[J0]at this;lia
    have s2:=AK (o:=.tup [.int j,.int k']) nT;refine PV Af ?_;generalize upd H2 T' (.tup [.int j,.int k'])=H3 at s2⊢;have fu3:=fu2.same s2;have ge:DJ (2^m) 0 (obs.take (j+1))=DJ (2^m) 0 (obs.take j)++DJ (2^m) j [BQ G m k']:=by
     rw[F3,eo,Q4,ON,J0,lobs,N1,Nat.min_eq_left A0]
    have nL:∀{H4:Hp},FrQ g H3 H4->H4 L=some (.lst (us.map V.ref)):=λ{H4} f4=>by
     have:=s2 _ _ hL2;have n:=fu3.ne_am this (by intro l z;cases z);exact f4 _ _ this n.1 n.2
    have nP:∀{H4:Hp},FrQ g H3 H4->Paired (MW H4) us (DJ (2^m) 0 (obs.take j)):=λ{H4} f4=>PairedM.imp (λt b z=>by
     have:=s2 _ _ z;have n:=fu3.ne_am this (by intro l z;cases z);exact f4 _ _ this n.1 n.2) pr
    refine xq1 rfl ⟨g.p,g.dx,(xq1 rfl ⟨fu3.at'.hp,Sr g,(xq1 rfl ⟨g,G,k',m,rfl,fu3,hk,by lia,few,λen H4 f4 fu4=>?_,λb' eb' t4 H4 f4 fu4 ht4=>?_⟩)⟩)⟩
    ·refine xq1 rfl ⟨rfl,(xq1 rfl (Bo ⟨us,_,_,_,rfl,(fr.trans (Ay.frq s2)).trans f4,fu4,nL f4,?_⟩))⟩;rw[ge,en];show Paired _ us (_++[]);rw[V5];exact nP f4
    ·refine xq1 rfl ⟨rfl,(xq1 rfl (Ce ?_))⟩;refine xq1 rfl ⟨.inl ⟨rfl,_,SqL.of (nL f4)⟩,(xw3 rfl rfl rfl (xq2 rfl rfl ⟨B5,(xq2 rfl rfl ⟨.inr ⟨by lia,by lia⟩,(xw2 rfl rfl (xq2 rfl rfl ⟨⟨by decide,by decide⟩,(xq2 rfl rfl ⟨.inr ⟨by lia,by lia⟩,?_⟩)⟩))⟩)⟩))⟩;refine⟨t4,b',_,_,rfl,ht4,λt5 h5=>?_⟩;have s5:=AK (o:=.tup [.int (b'.l+2^m*((j:Int)%2)),.int (b'.t+2^m*((j:Int)/2)),.int b'.w,.int b'.h]) h5;have ht5:MW (upd H4 t5 (.tup [.int (b'.l+2^m*((j:Int)%2)),.int (b'.t+2^m*((j:Int)/2)),.int b'.w,.int b'.h])) t5 (shB (2^m) j b'):=Af;generalize upd H4 t5 (.tup [.int (b'.l+2^m*((j:Int)%2)),.int (b'.t+2^m*((j:Int)/2)),.int b'.w,.int b'.h])=H5 at s5 ht5⊢;have hL5:=s5 _ _ (nL f4);have fu5:=fu4.same s5;refine⟨L,(xq2 rfl rfl ⟨hL5,by rw[B6];exact FY A0,?_⟩)⟩;have other:∀{c:Addr}{l:List V},H5 c=some (.tup l)->upd H5 L (.lst (us.map V.ref++[.ref t5])) c=some (.tup l):=λ{c l} e=>by rw[Au (AE e hL5 A3)];exact e
     refine⟨us++[t5],_,_,_,rfl,?_,fu5.put hL5 m1 m2 m3,by rw[Af,C6];rfl,?_⟩
     ·intro c o e n1 n2;have e5:=s5 _ _ (((fr.trans (Ay.frq s2)).trans f4) _ _ e n1 n2);rw[Au (Aw e hL)];exact e5
     ·rw[ge,eb'];exact K9 (PairedM.imp (λc b z=>other (s5 _ _ z)) (nP f4)) (other ht5)
   ·rintro σ H2 ⟨us,u5,u6,u7,rfl,fr,fu2,hL2,pr⟩;rw[B6,show q.parts.length=obs.length by rw[nd.ps,lobs];rfl,F6]at pr;have eb2:Ph (2^m) obs=some b:=by rw[<-eobs];exact eb
    have lu:us.length<=4:=by
     rw[Z7 pr];have:=LY (2^m) obs 0;lia
    have e3:DJ (2^m) 0 obs≠[]/\OL (DJ (2^m) 0 obs)=b:=by
     unfold Ph at eb2;split at eb2
     ·cases eb2
     ·rename_i b1 r1 eg;rw[eg];exact⟨A3,Z5 eb2⟩
    refine xq1 rfl ⟨L,us,_,rfl,hL2,pr,e3.1,by lia,λt' H' s' ht'=>?_⟩;rw[e3.2]at ht';exact k t' H' (fr.trans (Ay.frq s')) (fu2.same s') ht'
theorem ZG{l:Nat}(h:l<=48):((Da 48).map V.int)[l]?=some (.int (bareN l:Int)):=by
 unfold Da;rw[B8,B8,P8 A0];rfl
theorem ok_boxS{n d:Nat}{f:Addr}{fd:FuncData}(F:Fun K "boxed" "Grove.boxed" Ex f fd)(T:Top K mg a)(cK:BO P w K mg base CX0 d a.c_Grove "measured" Df (spMea a n)):AI P w K mg base CX0 (d+1) f fd CJ (RT a n):=by
 refine F.ok DR (λvs H Q E h=>?_) (λcdv A outer s H vs Q E hr h=>?_)
 ·obtain⟨g,G,i,l,rfl,_⟩:=h;rfl
 ·obtain⟨g,G,i,l,rfl,fu,hl,ln,few,k1,k2⟩:=h;obtain⟨q0,e0,l0⟩:=id hl;have l48:l<=48:=by have:=(fu.ok.lev e0).2;lia
  obtain⟨ks,hbx,bok⟩:=fu.bx;have lk:=bok.keys.len;obtain⟨r,eg⟩:=fu.g0;have bb:=GL fu.ok eg l i l48 hl;refine⟨_,(Ac (AM (Az Cb (pv 1) (Aj Ax (AB (pv 0) rfl) (Aj Ax (AB (pv 0) rfl) (pv 1) (λ_ _=>rfl)) (λ_ _=>rfl)) (AG _)) (Ag (Av Dh)) AC) (Ac (Aq (i:=2) DR.nd rfl (Or.inl rfl) (Ja (EG hr) (AB (pv 0) rfl) (pv 1) ⟨rfl,rfl,rfl,rfl⟩)) (Ac (AM (Az Io (pv 2) Dh (AG _)) (Ac (Aq (i:=2) DR.nd rfl (Or.inl rfl) (AF (pv 0) cK (rm hr) Am (Aa (pv 1) Ab))) (Ag (FW (EG hr) (AB (pv 0) rfl) (pv 1) (pv 2) rfl))) AC) (Ag (Av (pv 2)))))),?_⟩
  try dsimp only[cxK]
  refine xw2 rfl rfl (xq5 fu.at'.hp T.cl_Grove T.na_Grove_bares (Iu g) (xwf rfl rfl fu.at'.hp T.cl_Grove T.na_Grove_levels (EQ g) (xwi rfl rfl rfl (SqL.of fu.at'.lv) (Ai (by rw[B8,e0];rfl)) (xq4 rfl rfl (SqL.of fu.br) (by rw[l0];exact Ai (ZG l48)) ⟨rfl,(xq1 rfl ?_)⟩))));refine Fb (λhc=>?_) (λhc=>?_)
  ·have ei:i=bareN l:=by
    have:=X6 hc;injection this with this
    exact Z4 this
   exact k1 (bb.mpr ei) H (FrQ.refl g H) fu
  ·have ne:¬i=bareN l:=λz=>hc (by rw[z];exact Y5 rfl);obtain⟨b,eb⟩:∃b,BQ G l i=some b:=by
    cases e:BQ G l i with
    |none=>exact absurd (bb.mp e) ne
    |some b=>exact⟨b,rfl⟩
   refine xwf rfl rfl fu.at'.hp T.cl_Grove T.na_Grove_boxes (Zt g) ⟨g.bx,rfl,.inl ⟨_,.inl hbx⟩,(xq1 rfl ⟨_,IB.k (k:=Sum.inl (i:Int)) hbx,?_⟩)⟩;cases e:Br ks (Sum.inl (i:Int))with
   |some v =>
    obtain⟨l',b',t,hl',eb',rfl,ht⟩:=bok.val i v e;have el:l'=l:=Z4 (hl'.uniq hl);subst el;rw[eb]at eb';cases eb';exact xq1 rfl ⟨rfl,(xq1 rfl (Bo (xq1 rfl (k2 b eb t H (FrQ.refl g H) fu ht))))⟩
   |none =>
    refine xq1 rfl ⟨rfl,(xq1 rfl (Ce (xq1 rfl ⟨g.p,g.dx,(xq1 rfl ⟨fu.at'.hp,Sm g,(xq1 rfl ⟨g,G,i,l,b,rfl,fu,hl,ln,few,eb,λt H2 f2 fu2 ht2=>?_⟩)⟩)⟩)))⟩;obtain⟨ks2,hbx2,bok2⟩:=fu2.bx;have lk2:=bok2.keys.len;obtain⟨fu3,f3⟩:=fu2.bx_put hbx2 (ks2:=DI ks2 (Sum.inl (i:Int)) (.ref t)) ⟨bok2.keys.put hl.lt _,λj v ev=>by
     rw[IP]at ev;split at ev
     ·rename_i z;injection z with z
      have:j=i:=Z4 z;subst this;cases ev;exact⟨l,b,t,hl,eb,rfl,ht2⟩
     ·exact bok2.val j v ev⟩
    have nt:=fu2.ne_am ht2 (by intro l z;cases z);exact xw2 rfl rfl (xq5 fu2.at'.hp T.cl_Grove T.na_Grove_boxes (Zt g) (xq1 rfl ⟨g.bx,(xq1 rfl ⟨Lx.k (k:=Sum.inl (i:Int)) hbx2 (FY A0),(xq1 rfl (k2 b eb t _ (f2.trans f3) fu3 (f3 _ _ ht2 nt.1 nt.2)))⟩)⟩))
theorem YH{f:Addr}{fd:FuncData}{f':Addr}{fd':FuncData}(F:Fun K "boxed" "Grove.boxed" Ex f fd)(F':Fun K "measured" "Grove.measured" Dc f' fd')(T:Top K mg a)(Me:Pt K a.c_Grove "boxed" f)(Bi:Cs K fd CJ [])(Me':Pt K a.c_Grove "measured" f')(Bi':Cs K fd' Df [])
  (aG:Cal P w K mg base CX0 1 "shifted_box" Dm Lz) (aY:Cal P w K mg base CX0 1 "least_box" FX NA):∀n,AI P w K mg base CX0 (2*n+2) f fd CJ (RT a n)
 |0=>by
  refine F.ok DR (λvs H Q E h=>?_) (λcdv A outer s H vs Q E hr h=>?_)
  ·obtain⟨g,G,i,l,rfl,_,_,h0,_⟩:=h;exact absurd h0 (M0 _)
  ·obtain⟨g,G,i,l,rfl,_,_,h0,_⟩:=h;exact absurd h0 (M0 _)
 |n+1=>ok_boxS F T ⟨⟨f',fd',ok_mea (d:=2*n+2) F' T A0 aG aY ⟨⟨f,fd,YH F F' T Me Bi Me' Bi' aG aY n,Me,Bi⟩,T.cl_Grove⟩,Me',Bi'⟩,T.cl_Grove⟩
inductive ZM(a:Ad)(vs:List V)(H:Hp)(Q:VK):Prop
 |mk (g:GA) (G:Gv) (i l:Nat) (_:vs=[.ref g.p,.int i]) (_:AX a H g G) (_:Ak G i l) (_:G.length<9000000) (_:(BQ G l i=none->∀H',FrQ g H H'->AX a H' g G->Q .non H')) (_:∀b,BQ G l i=some b->∀t H',FrQ g H H'->AX a H' g G->MW H' t b->Q (.ref t) H'):ZM a vs H Q
def Tj(a:Ad):Sp:=λvs H Q _=>ZM a vs H Q
theorem ok_span{f:Addr}{fd:FuncData}(F:Fun K "span" "Grove.span" GY f fd)(T:Top K mg a)(aC:BO P w K mg base CX0 2 a.c_Grove "check_square" Ca (UK a))(aW:BO P w K mg base CX0 100 a.c_Grove "boxed" CJ (RT a 49)):AI P w K mg base CX0 101 f fd Il (Tj a):=by
 refine F.ok Pf (λvs H Q E h=>?_) (λcdv A outer s H vs Q E hr h=>?_)
 ·obtain⟨g,G,i,l,rfl,_⟩:=h;rfl
 ·obtain⟨g,G,i,l,rfl,fu,hl,few,k0,k1⟩:=h;refine⟨_,(Ac (BS (AF (pv 0) aC (rm hr) Am (Aa (pv 1) Ab))) (Ag (Av (AF (pv 0) aW (rm hr) Am (Aa (pv 1) Ab))))),?_⟩
  try dsimp only[cxK]
  have l48:l<49:=by
   obtain⟨q,e,el⟩:=id hl;have:=(fu.ok.lev e).2;lia
  refine xq1 rfl ⟨g.p,g.dx,(xq1 rfl ⟨fu.at'.hp,Sn g,(xq1 rfl ⟨g,G,i,rfl,fu.at',hl.lt,?_⟩)⟩)⟩;exact xq1 rfl ⟨g.p,g.dx,(xq1 rfl ⟨fu.at'.hp,Sr g,(xq1 rfl ⟨g,G,i,l,rfl,fu,hl,l48,few,k0,k1⟩)⟩)⟩
end
def atN(ns:List Int)(k:Int):Int:=ns.getD k.toNat 0
theorem Zf(K:PySem.W.Frag):kitOne K (.type "int") (.type "int")=some true/\kitOne K (.type "int") (.type "bool")=some false:=⟨by kernel_rfl,by kernel_rfl⟩
section
variable{P:Program}{w:World}{K:PySem.W.Frag}{mg:Str->Option Value}{base:Heap}{a:Ad}
inductive SpAt(K:PySem.W.Frag)(vs:List V)(H:Hp)(Q:VK):Prop
 |mk (l:Addr) (ns:List Int) (k:Int) (_:vs=[.ref l,.int k]) (_:SqL K H l (ns.map V.int)) (_:0<=k) (_:Q (.int (atN ns k)) H):SpAt K vs H Q
def Yi(K:PySem.W.Frag):Sp:=λvs H Q _=>SpAt K vs H Q
theorem ok_at{f:Addr}{fd:FuncData}(F:Fun K "_law_at" "_law_at" Mx f fd)(T:Top K mg a):AI P w K mg base CX0 1 f fd GF (Yi K):=by
 refine F.ok Tq (λvs H Q E h=>?_) (λcdv A outer s H vs Q E hr h=>?_)
 ·obtain⟨l,ns,k,rfl,_⟩:=h;rfl
 ·obtain⟨l,ns,k,rfl,hS,h0,q⟩:=h;refine⟨_,(Ac (AM (Az IH (pv 1) (AU CA rfl T.b_len K4 (Aa (pv 0) Ab)) (AG _)) (Ag (Av (Aj Ax (pv 0) (pv 1) (λ_ _=>rfl)))) AC) (Ag (Av Ae))),?_⟩
  try dsimp only[cxK]
  refine⟨_,rfl,_,rfl,l,_,rfl,.inl hS,_,_,rfl,rfl,_,rfl,?_⟩;obtain⟨n,rfl⟩:=F7 h0;refine Fb (λhc=>?_) (λhc=>?_)
  ·have hc':n<ns.length:=by
    have:=X6 hc;rw[B6]at this;lia
   refine⟨_,rfl,_,rfl,l,_,n,.int ns[n],rfl,rfl,hS,Ai (by rw[B8,C5 hc'];rfl),?_⟩;have e:atN ns (n:Int)=ns[n]:=by
    unfold atN;rw[L6,D7,C5 hc'];rfl
   rw[e]at q;exact q
  ·have hc':ns.length<=n:=by
    have:¬(n:Int)<((ns.map V.int).length:Int):=λz=>hc (Y5 z);rw[B6]at this;lia
   have e:atN ns (n:Int)=0:=by
    unfold atN;rw[L6,D7,Q8 hc'];rfl
   rw[e]at q;exact q
end
inductive SpLaw(K:PySem.W.Frag)(vs:List V)(H:Hp)(Q:VK):Prop
 |mk (a:Addr) (ns:List Int) (_:vs=[.ref a]) (_:SqL K H a (ns.map V.int)) (_:ns.length<=63) (_:∀H',Q (.bl true) H'):SpLaw K vs H Q
def UJ(K:PySem.W.Frag):Sp:=λvs H Q _=>SpLaw K vs H Q
end J
namespace J
open PySem L2
def Ap(g:GA)(x:Addr):Prop:=x≠g.lv/\x≠g.pt/\x≠g.nm
theorem Ap.new{a:Ad}{H:Hp}{g:GA}{G:Gv}(h:AJ a H g G){x:Addr}(n:H x=none):Ap g x:=by
 obtain⟨ts,h3,_⟩:=h.pt;exact⟨Z3 (Aw h.lv n),Z3 (Aw h3 n),Z3 (Aw h.nm n)⟩
theorem Fr.get{g:GA}{H H':Hp}{x:Addr}{o:HO}(f:Fr g H H')(p:Ap g x)(e:H x=some o):H' x=some o:=f _ _ e p.1 p.2.1 p.2.2
theorem Fr.tup{a:Ad}{g:GA}{G:Gv}{H H':Hp}{x:Addr}{l:List V}(f:Fr g H H')(h:AJ a H g G)(e:H x=some (.tup l)):H' x=some (.tup l):=by
 obtain⟨us,h3,_⟩:=h.pt;exact f _ _ e (AE e h.lv A3) (AE e h3 A3) (AE e h.nm A3)
theorem AH.mono{G G':Gv}{n m:Nat}(h:AH G G' n)(e:n<=m):AH G G' m:=⟨h.ok,h.pre,C7 h.few A0⟩
theorem QJ(l:Nat):(0:Int)<2^l:=Int.pow_pos A4
theorem pow2_lt{l:Nat}(h:l<64):(2:Int)^l<2^64:=by
 have:(2:Nat)^l<2^64:=V9 A4 h
 exact_mod_cast this
section
variable{P:Program}{w:World}{K:PySem.W.Frag}{mg:Str->Option Value}{base:Heap}{a:Ad}
end
section
variable{P:Program}{w:World}{K:PySem.W.Frag}{mg:Str->Option Value}{base:Heap}{a:Ad}
end
theorem Mo{d:Int}(h0:0<=d)(h1:d<=9):d.natAbs.log2<1920:=by
 obtain⟨m,rfl⟩:=F7 h0;exact(show ∀m:Nat,m<10->(m:Int).natAbs.log2<1920 by decide +kernel) m B2
theorem Iq{n:Nat}(h:n<=100000):n<=sizeLine:=C7 h A4
abbrev RM:Str:=Str.ofString "01234567*"
theorem UE:∀m:Nat,m<9->RM.cps.toList[m]?=some (if m=8 then 42 else 48+m):=by decide +kernel
def JU(n:Int)(k:Nat):Bool:=decide (V.int (Builtin.bitAnd (n/2^k) 1)=V.int 1)
def Jl(n:Int):List Int:=((List.range 9).filter (JU n)).map λ(k:Nat)=>(k:Int)
theorem nums_ne:∀m:Nat,m<511->Jl ((m:Int)+1)≠[]:=by decide +kernel
theorem YJ(n:Int):(Jl n).Pairwise (· < ·):=by
 unfold Jl;rw[W6];have:((List.range 9).filter (JU n)).Pairwise (· < ·):=List.pairwise_lt_range.sublist List.filter_sublist;exact this.imp λh=>by omega
theorem nums_in(n:Int):∀m∈Jl n,0<=m/\m<=8:=λm hm=>by
 obtain⟨k,hk,rfl⟩:=D5.mp hm;have:=L7.mp (V3.mp hk).1;omega
seal L2.PA L2.PE L2.PS L2.PSs L2.PT L2.PW
abbrev amT:Str:=Str.ofString "amount"
abbrev plT:Str:=Str.ofString "places"
def unO:Option Int->Int
 |none=>8
 |some d=>d
inductive CC(H:Hp):Addr->Bh->Prop where
 |am {q l:Addr} {s:Int} {ns:List Int} (h:H q=some (.tup [.str amT,.int s,.ref l])) (hl:H l=some (.lst (ns.map V.int))):CC H q (.am s ns)
 |pl {q l:Addr} {ws:List (Option Int)} (h:H q=some (.tup [.str plT,.ref l])) (hl:H l=some (.lst (ws.map λw=>V.int (unO w)))):CC H q (.pl ws)
structure Qq(H:Hp)(q:Addr)(c:AV):Prop where
 ex:∃(l:Addr)(ds:List Addr),H q=some (.tup [.int (unO c.cell),.ref l,.int c.makes])/\H l=some (.lst (ds.map V.ref))/\Paired (CC H) ds c.conds
structure Ng(H:Hp)(q:Addr)(r:AD):Prop where
 ex:∃cs:List Addr,H q=some (.lst (cs.map V.ref))/\Paired (Qq H) cs r
theorem CC.same{H H':Hp}{q:Addr}{d:Bh}(s:Ay H H')(h:CC H q d):CC H' q d:=by
 cases h with
 |am h hl=>exact .am (s _ _ h) (s _ _ hl)
 |pl h hl=>exact .pl (s _ _ h) (s _ _ hl)
theorem Qq.same{H H':Hp}{q:Addr}{c:AV}(s:Ay H H')(h:Qq H q c):Qq H' q c:=by
 obtain⟨l,ds,h1,h2,h3⟩:=h.ex;exact⟨l,ds,s _ _ h1,s _ _ h2,Paired.imp (λ_ _ z=>z.same s) h3⟩
theorem Ng.same{H H':Hp}{q:Addr}{r:AD}(s:Ay H H')(h:Ng H q r):Ng H' q r:=by
 obtain⟨cs,h1,h2⟩:=h.ex;exact⟨cs,s _ _ h1,Paired.imp (λ_ _ z=>z.same s) h2⟩
theorem unO_le{x:Option Int}(h:wOk x):0<=unO x/\unO x<=8:=by
 cases x with
 |none=>exact⟨by decide,by decide⟩
 |some d=>exact⟨h.1,Int.le_of_lt h.2⟩
theorem WQ{x:Option Int}(h:wOk x):atI RM.cps.toList (unO x)=some (wC x):=by
 cases x with
 |none=>exact Ai (UE 8 A4)
 |some d =>
  obtain⟨n,hn⟩:=F7 h.1;have h2:=h.2;have hn8:n≠8:=by omega
  show atI RM.cps.toList d=some (48+d.toNat);rw[hn,L6];have:=UE n B2;rw[Y4 hn8]at this;exact Ai this
theorem RG{x:Option Int}(h:wOk x)(y:Int):CQ x y=(decide (unO x=8) || decide (unO x=y)):=by
 cases x with
 |none=>rfl
 |some d =>
  have:=h.2;show decide (d=y)=(decide (d=8) || decide (d=y))
  rw[Z0 (by omega:¬d=8),Bool.false_or]
theorem join_w(ws:List (Option Int)):Str.join (Str.ofString "") (ws.map λw=>(⟨#[wC w]⟩:Str))=AT (.pl ws):=by
 have e3:Str.ofString "" = (⟨#[]⟩:Str):=by decide +kernel
 rw[e3];refine Nu.ext ?_;rw[Tx.EH,Tx.Ub,M5];show(ws.map _).flatten=ws.map wC;induction ws with
 |nil=>rfl
 |cons x r ih=>rw[F5,R0,ih,F5];rfl
theorem Zh{ns:List Int}(h:∀m∈ns,0<=m/\m<=8):Str.join (Str.ofString "") (ns.map λn=>Str.ofString (toString n))=DF ns:=by
 have e3:Str.ofString "" = (⟨#[]⟩:Str):=by decide +kernel
 rw[e3];refine Nu.ext ?_;rw[Tx.EH,Tx.Ub,M5];show(ns.map _).flatten=ns.map λn=>48+n.toNat;induction ns with
 |nil=>rfl
 |cons n r ih =>
  have h1:=h n C3;rw[F5,R0,ih λm hm=>h m (C2 _ hm)];show(Str.ofString (toString n)).cps.toList++_=_;rw[Tx.Md h1.1 B2];rfl
theorem Rm{d:Int}(h0:0<=d)(h1:d<=9):(Str.ofString (toString d)).length=1:=by rw[Tx.Md h0 h1];rfl
section
variable{P:Program}{w:World}{K:PySem.W.Frag}{mg:Str->Option Value}{base:Heap}{a:Ad}
inductive SpMix(vs:List V)(H:Hp)(Q:VK):Prop
 |mk (c k:Int) (_:vs=[.int c,.int k]) (_:0<=k) (_:k<=1000000) (_:∀i:Int,0<=i->Q (.int i) H):SpMix vs H Q
def UH:Sp:=λvs H Q _=>SpMix vs H Q
theorem ok_mix{f:Addr}{fd:FuncData}(F:Fun K "_law_mix" "_law_mix" Lg f fd):AI P w K mg base CX0 1 f fd Ii UH:=by
 refine F.ok MY (λvs H Q E h=>?_) (λcdv A outer s H vs Q E hr h=>?_)
 ·obtain⟨c,k,rfl,_⟩:=h;rfl
 ·obtain⟨c,k,rfl,h0,h1,q⟩:=h;refine⟨_,(Ac (Aq (i:=2) MY.nd rfl (Or.inl rfl) (AA Bd (AA Et (AA AL (AA AL (AA Bd (pv 0) Ae) (AA Et Ae (pv 1))) Ae) (AA AL Ae (AA Et Ae (pv 1)))) Ae)) (Ag (Av (AA Cy (AA Bd (AA Et (AA AL (AA Cy (pv 2) Ae) (pv 1)) Ae) Ae) Ae)))),?_⟩
  try dsimp only[cxK]
  refine⟨_,rfl,_,_,rfl,rfl,(by show(0:Int)<998244353;decide),_,rfl,_,_,rfl,rfl,.inl ⟨by decide,by decide⟩,_,_,rfl,rfl,_,_,rfl,rfl,_,rfl,_,_,rfl,rfl,.inl ⟨by decide,by decide⟩,_,_,rfl,rfl,_,_,rfl,rfl,.inr ⟨by omega,by omega⟩,_,_,rfl,rfl,(by show(0:Int)<2147483647;decide),?_⟩;refine⟨_,rfl,_,_,rfl,rfl,⟨by decide,by decide⟩,_,rfl,_,_,rfl,rfl,_,_,rfl,rfl,.inr ⟨by decide,by decide⟩,_,_,rfl,rfl,(by show(0:Int)<2147483629;decide),_,_,rfl,rfl,⟨by decide,by decide⟩,?_⟩;exact q _ B2
inductive SpSt(vs:List V)(H:Hp)(Q:VK):Prop
 |mk (m:Addr) (x y v:Int) (_:vs=[.ref m,.int v]) (_:H m=some (.tup [.int x,.int y])) (_:IJ x) (_:IJ y) (_:∀d:Int,IJ d->Q (.int d) H):SpSt vs H Q
def spSt:Sp:=λvs H Q _=>SpSt vs H Q
theorem ok_st{f:Addr}{fd:FuncData}(F:Fun K "_law_state_by" "_law_state_by" EK f fd):AI P w K mg base CX0 1 f fd Ds spSt:=by
 refine F.ok Mr (λvs H Q E h=>?_) (λcdv A outer s H vs Q E hr h=>?_)
 ·obtain⟨m,x,y,v,rfl,_⟩:=h;rfl
 ·obtain⟨m,x,y,v,rfl,hm,hx,hy,q⟩:=h;refine⟨_,(Ac (AM (Az IH (AA Bd (pv 1) Ae) Ae (AG _)) (Ag (Av (Aj An (pv 0) (AA Bd (pv 1) Ae) (λ_ _=>rfl)))) AC) (Ag (Av (AA Bd (AA Cy (pv 1) Ae) Ae)))),?_⟩
  try dsimp only[cxK]
  refine⟨_,rfl,_,_,rfl,rfl,B1,_,_,rfl,rfl,_,rfl,?_⟩;refine Fb (λhc=>?_) (λ_=>?_)
  ·have hc':v%3<2:=X6 hc;rcases(show v%3=0\/v%3=1 by omega)with e|e
   ·exact⟨_,rfl,_,rfl,_,_,rfl,rfl,B1,m,_,_,.int x,rfl,rfl,SqT.of hm,(by rw[e];exact Ai (j:=0) rfl),q x hx⟩
   ·exact⟨_,rfl,_,rfl,_,_,rfl,rfl,B1,m,_,_,.int y,rfl,rfl,SqT.of hm,(by rw[e];exact Ai (j:=1) rfl),q y hy⟩
  ·exact⟨_,rfl,_,_,rfl,rfl,⟨by decide,by decide⟩,_,_,rfl,rfl,(by show(0:Int)<8;decide),q _ ⟨by omega,by omega⟩⟩
def WB(H:Hp)(m:Addr):Prop:=∃x y:Int,H m=some (.tup [.int x,.int y])/\IJ x/\IJ y
theorem WB.same{H H':Hp}{m:Addr}(s:Ay H H')(h:WB H m):WB H' m:=by
 obtain⟨x,y,h1,h2⟩:=h;exact⟨x,y,s _ _ h1,h2⟩
inductive SpCo(vs:List V)(H:Hp)(Q:VK):Prop
 |mk (m:Addr) (sd j:Int) (_:vs=[.ref m,.int sd,.int j]) (_:WB H m) (_:0<=j) (_:j<=900000) (_:∀(q:Addr)(d:Bh)(H':Hp),Ay H H'->CC H' q d->d.ok->Q (.ref q) H'):SpCo vs H Q
def spCo:Sp:=λvs H Q _=>SpCo vs H Q
theorem ok_co{f:Addr}{fd:FuncData}(F:Fun K "_law_condition_by" "_law_condition_by" Ch f fd)(T:Top K mg a)(aK:Cal P w K mg base CX0 1 "_law_mix" Ii UH)(aE:Cal P w K mg base CX0 1 "_law_state_by" Ds spSt) :
  AI P w K mg base CX0 2 f fd Di spCo:=by
 refine F.ok BG (λvs H Q E h=>?_) (λcdv A outer s H vs Q E hr h=>?_)
 ·obtain⟨m,sd,j,rfl,_⟩:=h;rfl
 ·obtain⟨m,sd,j,rfl,⟨mx,my,hm,hx,hy⟩,h0,h1,k⟩:=h;refine⟨_,(Ac (AM (Az Cb (AA Bd (Ar aK (rm hr) rfl Am (Aa (pv 1) (Aa (pv 2) Ab))) Ae) Ae (AG _)) (Ac (Aq (i:=3) BG.nd rfl (Or.inl rfl) (Cm Ab)) (Ac (CL Z6 rfl (De rfl T.b_range (AO Ab)) (Bv (i:=4) BG.nd rfl (Or.inl rfl)) (Ac (Aq (i:=5) BG.nd rfl (Or.inl rfl) (Ar aK (rm hr) rfl Am (Aa (pv 1) (Bp AL (AA AL (pv 2) Ae) (pv 4) Ab)))) (Ag (AM (Az Cb (AA Bd (AA Cy (pv 5) Ae) Ae) Ae (AG _)) (Ag (BS (DB Z8 Z9 X4 BW (pv 3) (Aa (Ar aE (rm hr) rfl Am (Aa (pv 0) (Aa (pv 5) Ab))) Ab)))) (Ag (BS (DB Z8 Z9 X4 BW (pv 3) (AO Ab)))))))) (Ag (Av (DW (Ou (Aa (pv 3) Ab))))))) AC) (Ac (Aq (i:=6) BG.nd rfl (Or.inr rfl) (AA AL (AA Bd (Ar aK (rm hr) rfl Am (Aa (pv 1) (Bp AL (pv 2) Ae Ab))) Ae) Ae)) (Ag (Av (DW (Ou (Aa (Ar aE (rm hr) rfl Am (Aa (pv 0) (Aa (Ar aK (rm hr) rfl Am (Aa (pv 1) (Bp AL (pv 2) Ae Ab))) Ab))) (Aa (BU rfl (Bw.of (So:=Ah Ch) (No:=ET) (N:=["_law_k","_law_mask"]) (k:=1) (cs:=[6]) rfl rfl A1) (De rfl T.b_range (AO Ab)) (λ_ _ _=>(Bc (i:=0) A1 rfl rfl)) (λ_ _ _=>(pts_one (Az Cb (AA op_and (AA op_shr (pv 1) (pv 0)) Ae) Ae (AG _)))) (λ_ _ _=>(pv 0))) Ab)))))))),?_⟩
  try dsimp only[cxK]
  refine⟨_,rfl,_,rfl,sd,j,rfl,h0,by omega,λv hv=>⟨_,_,rfl,rfl,B1,rfl,_,rfl,?_⟩⟩;refine Fb (λ_=>?_) (λ_=>?_)
  ·refine⟨(by show 0<=sizeLine;decide),λl hl=>?_⟩;refine⟨8,rfl,by decide,by decide,DD (n:=8) (λi σ H2=>∃(ws:List (Option Int))(u5 u6 u7:Option V),σ=[some (.ref m),some (.int sd),some (.int j),some (.ref l),u5,u6,u7]/\H2=upd H l (.lst (ws.map λw=>V.int (unO w)))/\ws.length=i/\∀x∈ws,wOk x) ⟨[],none,none,none,rfl,rfl,rfl,λx hx=>by simp at hx⟩ ?_ ?_⟩
   ·rintro i σ H2 hi ⟨ws,u5,u6,u7,rfl,rfl,hn,hw⟩;have lt:(ws.map λw=>V.int (unO w)).length<sizeLine:=by rw[B6,hn];exact F2 hi A4
    have hm2:upd H l (.lst (ws.map λw=>V.int (unO w))) m=some (.tup [.int mx,.int my]):=Ao hl _ _ hm;refine⟨_,rfl,_,rfl,_,_,rfl,rfl,_,rfl,_,_,rfl,rfl,sd,_,rfl,by omega,by omega,λv2 hv2=>?_⟩;have app:∀x:Option Int,wOk x->∀u6 u7,∃(ws':List (Option Int))(u5' u6' u7':Option V),([some (.ref m),some (.int sd),some (.int j),some (.ref l),some (.int (0+(i:Int))),u6,u7]:St)=[some (.ref m),some (.int sd),some (.int j),some (.ref l),u5',u6',u7'] /\
      upd (upd H l (.lst (ws.map λw=>V.int (unO w)))) l (.lst ((ws.map λw=>V.int (unO w))++[V.int (unO x)]))=upd H l (.lst (ws'.map λw=>V.int (unO w)))/\ws'.length=i+1/\∀x∈ws',wOk x:=λx hx u6 u7 =>
     ⟨ws++[x],_,_,_,rfl,by rw[FQ,C6];rfl,by rw[C4,hn];rfl,λy hy=>by
      rcases F0.mp hy with q|q
      ·exact hw y q
      ·rw[D4.mp q];exact hx⟩
    refine⟨_,rfl,_,_,rfl,rfl,⟨by decide,by decide⟩,_,_,rfl,rfl,B1,rfl,_,rfl,?_⟩;refine Fb (λ_=>?_) (λ_=>?_)
    ·exact⟨_,rfl,.inl ⟨rfl,_,SqL.of Af⟩,_,rfl,_,rfl,m,mx,my,v2,rfl,hm2,hx,hy,λd hd=>⟨l,_,_,rfl,rfl,Af,lt,app (some d) hd _ _⟩⟩
    ·exact⟨_,rfl,.inl ⟨rfl,_,SqL.of Af⟩,l,_,_,rfl,rfl,Af,lt,app none trivial _ _⟩
   ·rintro σ H2 ⟨ws,u5,u6,u7,rfl,rfl,hn,hw⟩;refine⟨_,rfl,(by show 2<=sizeLine;decide),λq hq=>?_⟩;have s2:=(Ao (o:=.lst (ws.map λw=>V.int (unO w))) hl).trans (Ao (o:=.tup [.str plT,.ref l]) hq);exact k q (.pl ws) _ s2 (.pl Af (Ao hq _ _ Af)) ⟨hn,hw⟩
  ·refine⟨_,rfl,_,rfl,_,_,rfl,rfl,sd,_,rfl,by omega,by omega,λv2 hv2=>⟨_,_,rfl,rfl,(by show(0:Int)<511;decide),_,_,rfl,rfl,?_⟩⟩;have hmask:∃n:Nat,n<511/\v2%511+1=(n:Int)+1:=by
    obtain⟨n,hn⟩:=F7 (show 0<=v2%511 by omega);exact⟨n,by omega,by omega⟩
   refine⟨_,rfl,_,rfl,_,rfl,_,_,rfl,rfl,sd,_,rfl,by omega,by omega,λv3 hv3=>⟨m,mx,my,v3,rfl,hm,hx,hy,λd hd=>?_⟩⟩;refine⟨9,rfl,by decide,by decide,?_⟩;refine Qi (n:=9) (λi acc H2=>H=H2/\acc=(((List.range i).filter (JU (v2%511+1))).map λ(k:Nat)=>V.int (k:Int))) ⟨rfl,rfl⟩ ?_ ?_
   ·rintro i acc H2 hi ⟨rfl,rfl⟩;have lt:(((List.range i).filter (JU (v2%511+1))).map λ(k:Nat)=>V.int (k:Int)).length<sizeLine:=by
     rw[B6];have:=List.length_filter_le (JU (v2%511+1)) (List.range i);rw[M6]at this;exact F4 (C7 this (T4 hi)) A4
    refine⟨⟨[some (.int (0+(i:Int)))],rfl,rfl⟩,lt,?_⟩;refine⟨_,rfl,_,rfl,_,_,rfl,rfl,(by show(0:Int)<=0+(i:Int);omega),_,_,rfl,rfl,rfl,_,rfl,?_⟩;have ei:(0+(i:Int)).toNat=i:=by omega
    have e:(List.range (i+1)).filter (JU (v2%511+1))=(List.range i).filter (JU (v2%511+1))++if JU (v2%511+1) i=true then [i]else []:=by
     rw[R9,List.filter_append,List.filter_cons,List.filter_nil]
    rw[ei];show if JU (v2%511+1) i=true then _ else _;refine Fb (λhb=>?_) (λhb=>?_)
    ·refine⟨_,rfl,rfl,?_⟩;rw[e,Y7 hb,C6];show _++[V.int (0+(i:Int))]=_++[V.int (i:Int)]
     rw[T5]
    ·refine⟨rfl,?_⟩;rw[e,Y4 hb,V5]
   ·rintro acc H2 ⟨rfl,rfl⟩ l hl;have enum:(((List.range 9).filter (JU (v2%511+1))).map λ(k:Nat)=>V.int (k:Int))=(Jl (v2%511+1)).map V.int:=by
     unfold Jl;rw[M5];rfl
    rw[enum];refine⟨(by show 3<=sizeLine;decide),λq hq=>?_⟩;have s2:=(Ao (o:=.lst ((Jl (v2%511+1)).map V.int)) hl).trans (Ao (o:=.tup [.str amT,.int d,.ref l]) hq);refine k q (.am d (Jl (v2%511+1))) _ s2 (.am Af (Ao hq _ _ Af)) ⟨hd,?_,nums_in _,YJ _⟩;obtain⟨n,hn,e⟩:=hmask;rw[e];exact nums_ne n hn
end
theorem pl_am:decide (V.str amT=V.str (Str.ofString "places"))=false:=by decide +kernel
theorem pl_pl:decide (V.str plT=V.str (Str.ofString "places"))=true:=by decide +kernel
section
variable{P:Program}{w:World}{K:PySem.W.Frag}{mg:Str->Option Value}{base:Heap}{a:Ad}
inductive SpWd(vs:List V)(H:Hp)(Q:VK):Prop
 |mk (q:Addr) (d:Bh) (_:vs=[.ref q]) (_:CC H q d) (_:d.ok) (_:∀H',Ay H H'->Q (.str (AT d)) H'):SpWd vs H Q
def spWd:Sp:=λvs H Q _=>SpWd vs H Q
theorem ok_wd{f:Addr}{fd:FuncData}(F:Fun K "_law_word" "_law_word" ED f fd)(T:Top K mg a):AI P w K mg base CX0 1 f fd Jg spWd:=by
 refine F.ok QE (λvs H Q E h=>?_) (λcdv A outer s H vs Q E hr h=>?_)
 ·obtain⟨q,d,rfl,_⟩:=h;rfl
 ·obtain⟨q,d,rfl,hd,ho,k⟩:=h;have l0:(Str.ofString "").length=0:=by decide +kernel
  refine⟨_,(Ac (AM (Az Cb (Aj An (pv 0) Ae (λ_ _=>rfl)) EM (AG _)) (Ag (Av (DB K3 A2b A2c NI EM (Aa (BU rfl (Bw.of (So:=Ah ED) (No:=Jm) (N:=["_law_state"]) (k:=1) (cs:=[]) rfl rfl A1) (BT (Aj An (pv 0) Ae (λ_ _=>rfl))) (λ_ _ _=>(Bc (i:=0) A1 rfl rfl)) (λ_ _ _=>BE) (λ_ _ _=>(Aj Zm EM (pv 0) (λ_ _=>rfl)))) Ab)))) AC) (Ag (Av (AA Ox (AA Ox (BC Ix rfl T.b_str A0d (Aa (Aj An (pv 0) Ae (λ_ _=>rfl)) Ab)) EM) (DB K3 A2b A2c NI EM (Aa (BU rfl (Bw.of (So:=Ah ED) (No:=Jm) (N:=["_law_k"]) (k:=1) (cs:=[]) rfl rfl A1) (BT (Aj An (pv 0) Ae (λ_ _=>rfl))) (λ_ _ _=>(Bc (i:=0) A1 rfl rfl)) (λ_ _ _=>BE) (λ_ _ _=>(BC Ix rfl T.b_str A0d (Aa (pv 0) Ab)))) Ab)))))),?_⟩
  try dsimp only[cxK]
  cases hd with
  |@pl l ws h hl =>
   refine⟨_,rfl,q,_,0,.str plT,rfl,rfl,SqT.of h,Ai (j:=0) rfl,rfl,_,rfl,?_⟩;rw[pl_pl];refine Ce ⟨rfl,_,rfl,q,_,1,.ref l,rfl,rfl,SqT.of h,Ai (j:=1) rfl,l,rfl,⟨_,SqL.of hl⟩,?_⟩;refine CY (xs:=ws.map λw=>V.int (unO w)) (λi acc H4=>H=H4/\acc=((ws.take i).map λx=>(⟨#[wC x]⟩:Str)).map V.str) ⟨rfl,rfl⟩ (λi acc H4 _ z=>z.1▸SqL.of hl) ?_ ?_
   ·rintro i x acc H4 hx ⟨rfl,rfl⟩;rw[B8]at hx;obtain⟨n,en,rfl⟩:=D0.mp hx;have hn:=ho.2 n (C9 en);refine⟨⟨[some (.int (unO n))],rfl,rfl⟩,?_,Gb ⟨_,rfl,RM,_,wC n,rfl,rfl,A1,WQ hn,rfl,?_⟩⟩
    ·rw[B6,B6,J0,ho.1];exact F4 (O5 _ _) A4
    ·rw[F3,en,C6,C6];rfl
   ·rintro acc H4 ⟨rfl,rfl⟩ p hp;rw[B6,F6];have hjok:JoinOk (Str.ofString "") (ws.map λx=>(⟨#[wC x]⟩:Str))=true:=by
     refine Tx.NL 1 (λt ht=>?_) ?_
     ·obtain⟨n,hn,rfl⟩:=D5.mp ht;exact C0 1
     ·rw[B6,l0,ho.1];decide
    refine⟨_,p,_,rfl,rfl,SqL.of Af,hjok,?_⟩;rw[join_w];exact k _ (Ao hp)
  |@am l st ns h hl =>
   obtain⟨hst,_,hn,hasc⟩:=ho;have hlen:=NR ns 0 A4 hn hasc;have hs9:st<=9:=by have:=hst.2;omega
   refine⟨_,rfl,q,_,0,.str amT,rfl,rfl,SqT.of h,Ai (j:=0) rfl,rfl,_,rfl,?_⟩;rw[pl_am];refine Bo ⟨_,rfl,q,_,1,.int st,rfl,rfl,SqT.of h,Ai (j:=1) rfl,st,rfl,Mo hst.1 hs9,_,_,rfl,rfl,Iq (by erw [Rm hst.1 hs9];decide),rfl,_,rfl,q,_,2,.ref l,rfl,rfl,SqT.of h,Ai (j:=2) rfl,l,rfl,⟨_,SqL.of hl⟩,?_⟩;refine CY (xs:=ns.map V.int) (λi acc H4=>H=H4/\acc=((ns.take i).map λn=>Str.ofString (toString n)).map V.str) ⟨rfl,rfl⟩ (λi acc H4 _ z=>z.1▸SqL.of hl) ?_ ?_
   ·rintro i x acc H4 hx ⟨rfl,rfl⟩;rw[B8]at hx;obtain⟨n,en,rfl⟩:=D0.mp hx;have hn':=hn n (C9 en);refine⟨⟨[some (.int n)],rfl,rfl⟩,?_,Gb ⟨_,rfl,n,rfl,Mo hn'.1 B2,rfl,?_⟩⟩
    ·rw[B6,B6,J0];exact F4 (O5 _ _) (F4 (show _<=9 by omega) A4)
    ·rw[F3,en,C6,C6];rfl
   ·rintro acc H4 ⟨rfl,rfl⟩ p hp;rw[B6,F6];have hjok:JoinOk (Str.ofString "") (ns.map λn=>Str.ofString (toString n))=true:=by
     refine Tx.NL 1 (λt ht=>?_) ?_
     ·obtain⟨n,hn2,rfl⟩:=D5.mp ht;have:=hn n hn2;rw[Rm this.1 B2];decide
     ·rw[B6,l0];omega
    refine⟨_,p,_,rfl,rfl,SqL.of Af,hjok,_,_,rfl,rfl,Iq ?_,?_⟩
    ·rw[Zh hn];have e1:(DF ns).length=ns.length:=by rw[Nu.len];show(ns.map _).length=_;rw[B6]
     have e2:(Str.ofString "=").length=1:=by decide +kernel
     rw[Tx.app_len,e1,e2]
     erw [Rm hst.1 hs9]
     omega
    ·have e:Str.ofString (toString st)++Str.ofString "=" ++ Str.join (Str.ofString "") (ns.map λn=>Str.ofString (toString n))=AT (.am st ns):=by
      rw[Zh hn,Tx.Md hst.1 hs9,show Str.ofString "=" = (⟨#[61]⟩:Str) by decide +kernel];rfl
     have:=k _ (Ao (o:=.lst ((ns.map λn=>Str.ofString (toString n)).map V.str)) hp);rw[<-e]at this;exact this
inductive SpTx(vs:List V)(H:Hp)(Q:VK):Prop
 |mk (q:Addr) (r:AD) (_:vs=[.ref q]) (_:Ng H q r) (_:IN r) (_:∀H',Ay H H'->Q (.str (DA r)) H'):SpTx vs H Q
def spTx:Sp:=λvs H Q _=>SpTx vs H Q
theorem ok_tx{f:Addr}{fd:FuncData}(F:Fun K "_law_text" "_law_text" FU f fd)(T:Top K mg a)(cE:Cal P w K mg base CX0 1 "_law_word" Jg spWd):AI P w K mg base CX0 2 f fd Jh spTx:=by
 refine F.ok EW (λvs H Q E h=>?_) (λcdv A outer s H vs Q E hr h=>?_)
 ·obtain⟨q,r,rfl,_⟩:=h;rfl
 ·obtain⟨q,r,rfl,hR,ho,k⟩:=h;obtain⟨cs,hq,hcs⟩:=hR.ex;have ln:cs.length=r.length:=Z7 hcs;have f50:=ho.few;refine⟨_,(Ac (Aq (i:=1) EW.nd rfl (Or.inl rfl) (Cm Ab)) (Ac (CL Z6 rfl (BT (pv 0)) (Bv (i:=2) EW.nd rfl (Or.inl rfl)) (Ac (Aq (i:=3) EW.nd rfl (Or.inl rfl) (AA TB (Cm (Aa (Aj Zm EM (Aj An (pv 2) Ae (λ_ _=>rfl)) (λ_ _=>rfl)) Ab)) (BU rfl (Bw.of (So:=Ah FU) (No:=Nd) (N:=["_law_condition"]) (k:=1) (cs:=[]) rfl rfl A1) (BT (Aj An (pv 2) Ae (λ_ _=>rfl))) (λ_ _ _=>(Bc (i:=0) A1 rfl rfl)) (λ_ _ _=>BE) (λ_ _ _=>(Ar cE (rm hr) rfl Am (Aa (pv 0) Ab)))))) (Ag (BS (DB Z8 Z9 X4 BW (pv 1) (Aa (DB K3 A2b A2c NI EM (Bp TB (pv 3) (Cm (Aa (BC Ix rfl T.b_str A0d (Aa (Aj An (pv 2) Ae (λ_ _=>rfl)) Ab)) Ab)) Ab)) Ab)))))) (Ag (Av (DB K3 A2b A2c NI EM (Aa (pv 1) Ab)))))),?_⟩
  try dsimp only[cxK]
  refine⟨(by show 0<=sizeLine;decide),λpt hpt=>?_⟩;have hq1:∀o,upd H pt o q=some (.lst (cs.map V.ref)):=λo=>Ao hpt _ _ hq;refine⟨_,rfl,q,rfl,⟨_,SqL.of (hq1 _)⟩,LZ (xs:=cs.map V.ref) (λi σ H2=>∃u2 u3:Option V,σ=[some (.ref q),some (.ref pt),u2,u3]/\Ay H H2/\H2 pt=some (.lst ((r.take i).map λc=>V.str (BL c)))) ⟨none,none,rfl,Ao hpt,Af⟩ (λi σ H2 _ ⟨_,_,_,sm,_⟩=>SqL.of (sm _ _ hq)) ?_ ?_⟩
  ·rintro i x σ H2 hx ⟨u2,u3,rfl,sm,hp2⟩;rw[B8]at hx;obtain⟨cq,ecq,rfl⟩:=D0.mp hx;obtain⟨c,ec,hc⟩:=Paired.get hcs ecq;have mc:=C9 ec;have oc:=ho.ok c mc;have c50:=oc.few;obtain⟨cl,ds,h1,h2,h3⟩:=(hc.same sm).ex;have md9:c.makes<=9:=by have:=oc.makes.2;omega
   have un:=unO_le oc.cell;refine⟨_,rfl,cq,_,0,.int (unO c.cell),rfl,rfl,SqT.of h1,Ai (j:=0) rfl,RM,_,wC c.cell,rfl,rfl,A1,WQ oc.cell,(by show 1<=sizeLine;decide),λw1 hw1=>?_⟩;have s1:=Ao (o:=.lst [.str ⟨#[wC c.cell]⟩]) hw1;refine⟨_,rfl,cq,_,1,.ref cl,rfl,rfl,SqT.of (s1 _ _ h1),Ai (j:=1) rfl,cl,rfl,⟨_,SqL.of (s1 _ _ h2)⟩,?_⟩;have hw1':upd H2 w1 (.lst [.str ⟨#[wC c.cell]⟩]) w1=some (.lst [.str ⟨#[wC c.cell]⟩]):=Af;generalize upd H2 w1 (.lst [.str ⟨#[wC c.cell]⟩])=H3 at s1 hw1'⊢;refine CY (xs:=ds.map V.ref) (λj acc H4=>Ay H3 H4/\acc=((c.conds.take j).map AT).map V.str) ⟨Ay.refl H3,rfl⟩ (λj acc H4 _ z=>SqL.of (z.1 _ _ (s1 _ _ h2))) ?_ ?_
   ·rintro j x acc H4 hx ⟨s4,rfl⟩;rw[B8]at hx;obtain⟨dq,edq,rfl⟩:=D0.mp hx;obtain⟨d,ed,hd⟩:=Paired.get h3 edq;refine⟨⟨[some (.ref dq)],rfl,rfl⟩,?_,Gb ⟨_,rfl,dq,d,rfl,(hd.same s1).same s4,oc.conds d (C9 ed),λH5 s5=>⟨s4.trans s5,?_⟩⟩⟩
    ·rw[B6,B6,J0];exact F4 (O5 _ _) (F4 c50 A4)
    ·rw[F3,ed,C6,C6];rfl
   ·rintro acc H4 ⟨s4,rfl⟩ w2 hw2;have ld:ds.length=c.conds.length:=Z7 h3;rw[B6,ld,F6];have s5:=s4.trans (Ao (o:=.lst ((c.conds.map AT).map V.str)) hw2);have hw25:upd H4 w2 (.lst ((c.conds.map AT).map V.str)) w2=some (.lst ((c.conds.map AT).map V.str)):=Af;generalize upd H4 w2 (.lst ((c.conds.map AT).map V.str))=H5 at s5 hw25⊢;refine⟨w1,w2,_,_,rfl,rfl,s5 _ _ hw1',hw25,Iq (by simp only[D8,P6,B6];omega),λw3 hw3=>?_⟩;have s6:=s5.trans (Ao (o:=.lst ([.str ⟨#[wC c.cell]⟩]++(c.conds.map AT).map V.str)) hw3);have hw36:upd H5 w3 (.lst ([.str ⟨#[wC c.cell]⟩]++(c.conds.map AT).map V.str)) w3=some (.lst ([.str ⟨#[wC c.cell]⟩]++(c.conds.map AT).map V.str)):=Af;generalize upd H5 w3 (.lst ([.str ⟨#[wC c.cell]⟩]++(c.conds.map AT).map V.str))=H6 at s6 hw36⊢;have s26:Ay H2 H6:=s1.trans s6;refine⟨_,rfl,.inl ⟨rfl,_,SqL.of (s26 _ _ hp2)⟩,rfl,_,rfl,_,rfl,cq,_,2,.int c.makes,rfl,rfl,SqT.of (s26 _ _ h1),Ai (j:=2) rfl,c.makes,rfl,Mo oc.makes.1 md9,(by show 1<=sizeLine;decide),λw4 hw4=>?_⟩;have s7:=s26.trans (Ao (o:=.lst [.str (Str.ofString (toString c.makes))]) hw4);have hw47:upd H6 w4 (.lst [.str (Str.ofString (toString c.makes))]) w4=some (.lst [.str (Str.ofString (toString c.makes))]):=Af;have hw37:=Ao (o:=.lst [.str (Str.ofString (toString c.makes))]) hw4 _ _ hw36;generalize upd H6 w4 (.lst [.str (Str.ofString (toString c.makes))])=H7 at s7 hw47 hw37⊢;refine⟨w3,w4,_,_,rfl,rfl,hw37,hw47,Iq (by simp only[C4,D8,P6,B6];omega),λw5 hw5=>?_⟩;have eL:([.str ⟨#[wC c.cell]⟩]++(c.conds.map AT).map V.str)++[.str (Str.ofString (toString c.makes))]=(wS c.cell::(c.conds.map AT++[sgD c.makes])).map V.str:=by
     rw[Tx.Md oc.makes.1 md9,F5,C6];rfl
    rw[eL];have s8:=s7.trans (Ao (o:=.lst ((wS c.cell::(c.conds.map AT++[sgD c.makes])).map V.str)) hw5);have hw58:upd H7 w5 (.lst ((wS c.cell::(c.conds.map AT++[sgD c.makes])).map V.str)) w5=some (.lst ((wS c.cell::(c.conds.map AT++[sgD c.makes])).map V.str)):=Af;generalize upd H7 w5 (.lst ((wS c.cell::(c.conds.map AT++[sgD c.makes])).map V.str))=H8 at s8 hw58⊢;have lb:(Str.ofString " ").length=1:=by decide +kernel
    have hjok:JoinOk (Str.ofString " ") (wS c.cell::(c.conds.map AT++[sgD c.makes]))=true:=by
     refine Tx.NL 11 (λt ht=>?_) ?_
     ·rcases C1.mp ht with rfl|ht
      ·show 1<=11;decide
      ·rcases F0.mp ht with ht|ht
       ·obtain⟨d,hd,rfl⟩:=D5.mp ht;exact Mg (oc.conds d hd)
       ·rw[D4.mp ht];show 1<=11;decide
     ·rw[lb,D8,C4,B6,D8,P6];omega
    refine⟨_,w5,_,rfl,rfl,SqL.of hw58,hjok,?_⟩;have eC:Str.join (Str.ofString " ") (wS c.cell::(c.conds.map AT++[sgD c.makes]))=BL c:=by
     rw[show Str.ofString " " = (⟨#[32]⟩:Str) by decide +kernel];rfl
    rw[eC];refine⟨pt,_,_,rfl,rfl,s8 _ _ hp2,?_,?_⟩
    ·rw[B6,J0];exact F4 (O5 _ _) (F4 f50 A4)
    ·refine⟨_,_,rfl,λb o e=>?_,?_⟩
     ·have ne:b≠pt:=Aw e hpt;rw[Au ne];exact s8 _ _ (sm _ _ e)
     ·rw[Af,F3,ec,C6];rfl
  ·rintro σ H2 ⟨u2,u3,rfl,sm,hp2⟩;rw[B6,ln,F6]at hp2;have hp2':H2 pt=some (.lst ((r.map BL).map V.str)):=by rw[hp2,M5];rfl
   have em:Str.ofString "; " = PN:=by decide +kernel
   have hjok:JoinOk (Str.ofString "; ") (r.map BL)=true:=by
    refine Tx.NL 1000 (λt ht=>?_) ?_
    ·obtain⟨c,hc,rfl⟩:=D5.mp ht;exact Lr (ho.ok c hc)
    ·rw[B6,em,show PN.length=2 from rfl];omega
   refine⟨rfl,_,rfl,_,pt,_,rfl,rfl,SqL.of hp2',hjok,?_⟩;rw[em];exact k H2 sm
end
section
variable{P:Program}{w:World}{K:PySem.W.Frag}{mg:Str->Option Value}{base:Heap}{a:Ad}
inductive SpHo(vs:List V)(H:Hp)(Q:VK):Prop
 |mk (q m:Addr) (d:Bh) (ar:List Int) (_:vs=[.ref q,.ref m]) (_:CC H q d) (_:d.ok) (_:H m=some (.lst (ar.map V.int))) (_:ar.length=8) (_:Q (.bl (d.holds ar)) H):SpHo vs H Q
def spHo:Sp:=λvs H Q _=>SpHo vs H Q
theorem ok_ho{f:Addr}{fd:FuncData}(F:Fun K "_law_holds" "_law_holds" GW f fd)(T:Top K mg a):AI P w K mg base CX0 1 f fd Ij spHo:=by
 refine F.ok Dk (λvs H Q E h=>?_) (λcdv A outer s H vs Q E hr h=>?_)
 ·obtain⟨q,m,d,ar,rfl,_⟩:=h;rfl
 ·obtain⟨q,m,d,ar,rfl,hd,ho,hm,a8,k⟩:=h;refine⟨_,(Ac (AM (Az Cb (Aj An (pv 0) Ae (λ_ _=>rfl)) EM (AG _)) (Ac (CL Z6 rfl (De rfl T.b_range (AO Ab)) (Bv (i:=2) Dk.nd rfl (Or.inl rfl)) (Ag (AM (PW.pt (MB (Az JP (Aj Ax (Aj An (pv 0) Ae (λ_ _=>rfl)) (pv 2) (λ_ _=>rfl)) Ae (AG _)) (Jy (Az JP (Aj Ax (Aj An (pv 0) Ae (λ_ _=>rfl)) (pv 2) (λ_ _=>rfl)) (Aj Ax (pv 1) (pv 2) (λ_ _=>rfl)) (AG _))))) (Ag (Av Sj)) AC))) (Ag (Av Sj))) AC) (Ac (Aq (i:=3) Dk.nd rfl (Or.inl rfl) Ae) (Ac (CL Z6 rfl (BT (pv 1)) (Bv (i:=4) Dk.nd rfl (Or.inl rfl)) (Ag (AM (Az Cb (pv 4) (Aj An (pv 0) Ae (λ_ _=>rfl)) (AG _)) (Ag (Aq (i:=3) Dk.nd rfl (Or.inl rfl) (AA AL (pv 3) Ae))) AC))) (Ag (Av (DX MG (pv 3) (Aj An (pv 0) Ae (λ_ _=>rfl)) rfl)))))),?_⟩
  try dsimp only[cxK]
  cases hd with
  |@pl l ws h hl =>
   obtain⟨w8,hw⟩:=ho;refine⟨_,rfl,q,_,0,.str plT,rfl,rfl,SqT.of h,Ai (j:=0) rfl,rfl,_,rfl,?_⟩;rw[pl_pl];refine Ce ⟨8,rfl,by decide,by decide,DD (n:=8) (λi σ H2=>H=H2/\(∃v,σ=[some (.ref q),some (.ref m),v,none,none])/\∀p∈(ws.zip ar).take i,CQ p.1 p.2=true) ⟨rfl,⟨none,rfl⟩,λp hp=>by simp at hp⟩ ?_ ?_⟩
   ·rintro i σ H2 hi ⟨rfl,⟨v,rfl⟩,no⟩;have iW:i<ws.length:=by omega
    have iA:i<ar.length:=by omega
    have eW:atI (ws.map λw=>V.int (unO w)) (0+(i:Int))=some (V.int (unO ws[i])):=by rw[T5];exact Ai (by rw[B8,C5 iW];rfl)
    have eA:atI (ar.map V.int) (0+(i:Int))=some (V.int ar[i]):=by rw[T5];exact Ai (by rw[B8,C5 iA];rfl)
    have ez:(ws.zip ar)[i]?=some (ws[i],ar[i]):=by rw[T7];exact⟨C5 iW,C5 iA⟩
    have tk:=RG (hw ws[i] (R6 iW)) ar[i];refine⟨_,rfl,q,_,1,.ref l,rfl,rfl,SqT.of h,Ai (j:=1) rfl,_,rfl,l,_,_,_,rfl,rfl,SqL.of hl,eW,rfl,_,rfl,?_⟩;rw[Iv];have nx:CQ ws[i] ar[i]=true->(∃v,([some (.ref q),some (.ref m),some (.int (0+(i:Int))),none,none]:St)=[some (.ref q),some (.ref m),v,none,none])/\∀p∈(ws.zip ar).take (i+1),CQ p.1 p.2=true:=λh=>⟨⟨_,rfl⟩,λp hp=>by
     rw[F3,ez]at hp;rcases F0.mp hp with z|z
     ·exact no p z
     ·have:p=(ws[i],ar[i]):=by simpa using z
      rw[this];exact h⟩
    by_cases h8:unO ws[i]=8
    ·rw[Y5 h8]at tk⊢;exact Bo (Bo ⟨rfl,nx (by rw[tk];rfl)⟩)
    ·rw[Z0 h8]at tk⊢;refine Ce ⟨_,rfl,q,_,1,.ref l,rfl,rfl,SqT.of h,Ai (j:=1) rfl,_,rfl,l,_,_,_,rfl,rfl,SqL.of hl,eW,_,rfl,_,rfl,m,_,_,_,rfl,rfl,SqL.of hm,eA,rfl,_,rfl,?_⟩;rw[Iv];by_cases he:unO ws[i]=ar[i]
     ·rw[Y5 he]at tk⊢;exact Bo ⟨rfl,nx (by rw[tk];rfl)⟩
     ·rw[Z0 he]at tk⊢;refine Ce ?_;have e:Bh.holds ar (.pl ws)=false:=by
       show(ws.zip ar).all _=false;rw[List.all_eq_false];exact⟨_,C9 ez,by rw[tk];exact C8⟩
      rw[e]at k;exact k
   ·rintro σ H2 ⟨rfl,⟨v,rfl⟩,no⟩;have e:Bh.holds ar (.pl ws)=true:=by
     show(ws.zip ar).all _=true;rw[S5];intro p hp;have l8:(ws.zip ar).length=8:=by rw[V4];omega
     rw[<-l8,F6]at no;exact no p hp
    rw[e]at k;exact k
  |@am l st ns h hl =>
   refine⟨_,rfl,q,_,0,.str amT,rfl,rfl,SqT.of h,Ai (j:=0) rfl,rfl,_,rfl,?_⟩;rw[pl_am];refine Bo ?_;refine⟨_,rfl,m,rfl,⟨_,SqL.of hm⟩,LZ (xs:=ar.map V.int) (λi σ H2=>H=H2/\∃v,σ=[some (.ref q),some (.ref m),none,some (.int (((ar.take i).countP (· == st):Nat):Int)),v]) ⟨rfl,none,rfl⟩ (λi σ H2 _ z=>z.1▸SqL.of hm) ?_ ?_⟩
   ·rintro i x σ H2 hx ⟨rfl,v,rfl⟩;rw[B8]at hx;obtain⟨n,en,rfl⟩:=D0.mp hx;have e:(((ar.take (i+1)).countP (· == st):Nat):Int)=(((ar.take i).countP (· == st):Nat):Int)+(if n=st then 1 else 0):=by
     rw[F3,en,List.countP_append];by_cases h:n=st<;>simp[h]
    refine⟨_,rfl,_,rfl,q,_,1,.int st,rfl,rfl,SqT.of h,Ai (j:=1) rfl,rfl,_,rfl,?_⟩;refine Fb (λhc=>?_) (λhc=>?_)
    ·have:n=st:=by
      have:=X6 hc;injection this
     refine⟨_,rfl,_,_,rfl,rfl,rfl,some (.int n),?_⟩;rw[e,Y7 this];rfl
    ·have:¬n=st:=λz=>hc (Y5 (by rw[z]));refine⟨rfl,some (.int n),?_⟩;rw[e,Y4 this,N2];rfl
   ·rintro σ H2 ⟨rfl,v,rfl⟩;rw[B6,F6];refine⟨_,rfl,_,rfl,q,_,2,.ref l,rfl,rfl,SqT.of h,Ai (j:=2) rfl,l,_,rfl,.inl (SqL.of hl),rfl,PY _,?_⟩;show Q (.bl (inV _ _)) H;rw[Rh];exact k
inductive SpDe(vs:List V)(H:Hp)(Q:VK):Prop
 |mk (q m:Addr) (r:AD) (cell:Int) (ar:List Int) (_:vs=[.ref q,.int cell,.ref m]) (_:Ng H q r) (_:IN r) (_:H m=some (.lst (ar.map V.int))) (_:ar.length=8) (_:∀H',Ay H H'->Q (decV (IL r cell ar)) H'):SpDe vs H Q
def spDe:Sp:=λvs H Q _=>SpDe vs H Q
theorem ok_de{f:Addr}{fd:FuncData}(F:Fun K "_law_decides" "_law_decides" Fq f fd)(T:Top K mg a)(bY:Cal P w K mg base CX0 1 "_law_holds" Ij spHo):AI P w K mg base CX0 2 f fd FF spDe:=by
 refine F.ok CF (λvs H Q E h=>?_) (λcdv A outer s H vs Q E hr h=>?_)
 ·obtain⟨q,m,r,cell,ar,rfl,_⟩:=h;rfl
 ·obtain⟨q,m,r,cell,ar,rfl,hR,ho,hm,a8,k⟩:=h;obtain⟨cs,hq,hcs⟩:=hR.ex;have ln:cs.length=r.length:=Z7 hcs;have f50:=ho.few;refine⟨_,(Ac (CL Z6 rfl (De rfl T.b_range (Aa (AU CA rfl T.b_len K4 (Aa (pv 0) Ab)) Ab)) (Bv (i:=3) CF.nd rfl (Or.inl rfl)) (Ac (Aq (i:=4) CF.nd rfl (Or.inl rfl) (DX MG (Aj An (Aj Ax (pv 0) (pv 3) (λ_ _=>rfl)) Ae (λ_ _=>rfl)) (Cm (Aa (pv 1) (AO Ab))) rfl)) (Ac (CL Z6 rfl (BT (Aj An (Aj Ax (pv 0) (pv 3) (λ_ _=>rfl)) Ae (λ_ _=>rfl))) (Bv (i:=5) CF.nd rfl (Or.inl rfl)) (Ag (Aq (i:=4) CF.nd rfl (Or.inl rfl) (Jb (pv 4) (Lk (Ar bY (rm hr) rfl Am (Aa (pv 5) (Aa (pv 2) Ab)))))))) (Ag (AM (Dw (pv 4)) (Ag (Av (pv 3))) AC))))) (Ag (Av Dh))),?_⟩
  try dsimp only[cxK]
  refine⟨_,rfl,q,_,rfl,.inl (SqL.of hq),_,rfl,by rw[B6];omega,by rw[B6];omega,?_⟩;rw[show(((cs.map V.ref).length:Nat):Int).toNat=cs.length by rw[B6,L6]];refine DD (n:=cs.length) (λi σ H2=>Ay H H2/\(∃u3 u4 u5:Option V,σ=[some (.ref q),some (.int cell),some (.ref m),u3,u4,u5])/\∀c∈r.take i,c.fits cell ar=false) ⟨Ay.refl H,⟨none,none,none,rfl⟩,λc hc=>by simp at hc⟩ ?_ ?_
  ·rintro i σ H2 hi ⟨sm,⟨u3,u4,u5,rfl⟩,no⟩;have ecq:cs[i]?=some cs[i]:=C5 hi;obtain⟨c,ec,hc⟩:=Paired.get hcs ecq;have oc:=ho.ok c (C9 ec);obtain⟨cl,ds,h1,h2,h3⟩:=(hc.same sm).ex;have eI:atI (cs.map V.ref) (0+(i:Int))=some (.ref cs[i]):=by rw[T5];exact Ai (by rw[B8,ecq];rfl)
   refine⟨_,rfl,_,rfl,q,_,_,_,rfl,rfl,SqL.of (sm _ _ hq),eI,cs[i],_,0,.int (unO c.cell),rfl,rfl,SqT.of h1,Ai (j:=0) rfl,_,rfl,(by show 2<=sizeLine;decide),λt ht=>⟨t,_,rfl,.inl (SqL.of Af),rfl,rfl,?_⟩⟩;have s3:=Ao (o:=.lst [.int cell,.int 8]) ht;have eb:inV (.int (unO c.cell)) [.int cell,.int 8]=CQ c.cell cell:=by
    have:=Rh (unO c.cell) [cell,8];rw[show([cell,8]:List Int).map V.int=[V.int cell,V.int 8]from rfl]at this;rw[this,RG oc.cell];simp only[S6,List.any_nil,Bool.or_false];rw[show decide (cell=unO c.cell)=decide (unO c.cell=cell)from decide_eq_decide.mpr eq_comm,show decide (8=unO c.cell)=decide (unO c.cell=8)from decide_eq_decide.mpr eq_comm,Bool.or_comm]
   show(tSeq _ _) _ _ _;rw[eb];generalize upd H2 t (.lst [.int cell,.int 8])=H3 at s3⊢;refine⟨_,rfl,_,rfl,q,_,_,_,rfl,rfl,SqL.of (s3 _ _ (sm _ _ hq)),eI,cs[i],_,1,.ref cl,rfl,rfl,SqT.of (s3 _ _ h1),Ai (j:=1) rfl,cl,rfl,⟨_,SqL.of (s3 _ _ h2)⟩,?_⟩;refine LZ (xs:=ds.map V.ref) (λj σ H4=>H3=H4/\∃v,σ=[some (.ref q),some (.int cell),some (.ref m),some (.int (0+(i:Int))),some (.bl (CQ c.cell cell && (c.conds.take j).all (Bh.holds ar))),v]) ⟨rfl,u5,by rw[List.take_zero,List.all_nil,Bool.and_true];rfl⟩ (λj σ H4 _ z=>z.1▸SqL.of (s3 _ _ h2)) ?_ ?_
   ·rintro j x σ H4 hx ⟨rfl,v,rfl⟩;rw[B8]at hx;obtain⟨dq,edq,rfl⟩:=D0.mp hx;obtain⟨d,ed,hd⟩:=Paired.get h3 edq;refine⟨_,rfl,?_⟩;refine NS (b2:=Bh.holds ar d) (λ_ Q' q'=>⟨_,rfl,_,rfl,dq,m,d,ar,rfl,hd.same s3,oc.conds d (C9 ed),s3 _ _ (sm _ _ hm),a8,q'⟩) ?_;refine⟨rfl,some (.ref dq),?_⟩;rw[F3,ed,List.all_append,Bool.and_assoc];show _=[_,_,_,_,some (V.bl (CQ c.cell cell && ((c.conds.take j).all (Bh.holds ar) && (Bh.holds ar d && true)))),_]
    rw[Bool.and_true];rfl
   ·rintro σ H4 ⟨rfl,v,rfl⟩;have ld:ds.length=c.conds.length:=Z7 h3;rw[B6,ld,F6];refine⟨_,rfl,_,rfl,?_⟩;show if c.fits cell ar=true then _ else _;cases ef:c.fits cell ar with
    |true =>
     refine Ce ⟨_,rfl,?_⟩;have e:IL r cell ar=some i:=by
      unfold IL;rw[S2];have hi:i<r.length:=(B7.mp ec).1;refine⟨hi,?_,λj hj=>?_⟩
      ·rw[(B7.mp ec).2];exact ef
      ·have:=no r[j] (List.mem_take_iff_getElem.mpr ⟨j,by omega,rfl⟩);rw[this];exact C8
     have:=k H3 (sm.trans s3);rw[e]at this;show Q (.int (0+(i:Int))) H3;rw[T5];exact this
    |false =>
     refine Bo ⟨sm.trans s3,⟨_,_,_,rfl⟩,λd hd=>?_⟩;rw[F3,ec]at hd;rcases F0.mp hd with z|z
     ·exact no d z
     ·have:d=c:=by simpa using z
      rw[this];exact ef
  ·rintro σ H2 ⟨sm,⟨u3,u4,u5,rfl⟩,no⟩;rw[ln,F6]at no;have e:IL r cell ar=none:=by
    unfold IL;rw[T8];exact no
   have:=k H2 sm;rw[e]at this;exact this
inductive SpBe(vs:List V)(H:Hp)(Q:VK):Prop
 |mk (q m:Addr) (r:AD) (cell:Int) (ar:List Int) (_:vs=[.ref q,.int cell,.ref m]) (_:Ng H q r) (_:IN r) (_:H m=some (.lst (ar.map V.int))) (_:ar.length=8) (_:∀H',Ay H H'->Q (.int (CZ r cell ar)) H'):SpBe vs H Q
def spBe:Sp:=λvs H Q _=>SpBe vs H Q
theorem ok_be{f:Addr}{fd:FuncData}(F:Fun K "_law_becomes" "_law_becomes" Ft f fd)(T:Top K mg a)(bL:Cal P w K mg base CX0 2 "_law_decides" FF spDe):AI P w K mg base CX0 3 f fd FH spBe:=by
 refine F.ok IE (λvs H Q E h=>?_) (λcdv A outer s H vs Q E hr h=>?_)
 ·obtain⟨q,m,r,cell,ar,rfl,_⟩:=h;rfl
 ·obtain⟨q,m,r,cell,ar,rfl,hR,ho,hm,a8,k⟩:=h;refine⟨_,(Ac (Aq (i:=3) IE.nd rfl (Or.inl rfl) (Ar bL (rm hr) rfl Am (Aa (pv 0) (Aa (pv 1) (Aa (pv 2) Ab))))) (Ac (AM (Az Io (pv 3) Dh (AG _)) (Ag (Av (pv 1))) AC) (Ag (Av (Aj An (Aj Ax (pv 0) (pv 3) (λ_ _=>rfl)) Ae (λ_ _=>rfl)))))),?_⟩
  try dsimp only[cxK]
  refine⟨_,rfl,_,rfl,_,rfl,q,m,r,cell,ar,rfl,hR,ho,hm,a8,λH2 s2=>?_⟩;refine⟨_,rfl,rfl,_,rfl,?_⟩;cases e:IL r cell ar with
  |none =>
   refine Ce ⟨_,rfl,?_⟩;have:=k H2 s2;rw[Mi e]at this;exact this
  |some i =>
   obtain⟨c,ec,em⟩:=Mh e;obtain⟨cs,hq,hcs⟩:=(hR.same s2).ex;obtain⟨cq,ecq⟩:∃cq,cs[i]?=some cq:=by
    have ln:cs.length=r.length:=Z7 hcs;have:i<cs.length:=by rw[ln];exact(B7.mp ec).1
    exact⟨_,C5 this⟩
   obtain⟨c',ec',hc⟩:=Paired.get hcs ecq;rw[ec]at ec';cases ec';obtain⟨cl,ds,h1,_⟩:=hc.ex;refine Bo ⟨_,rfl,_,rfl,q,_,_,.ref cq,rfl,rfl,SqL.of hq,Ai (by rw[B8,ecq];rfl),cq,_,2,.int c.makes,rfl,rfl,SqT.of h1,Ai (j:=2) rfl,?_⟩;have:=k H2 s2;rw[em]at this;exact this
end
theorem US{ds:List Addr}{vs:List Int}(h:vs≠[]):ds.map V.ref≠vs.map V.int:=λz=>by
 cases vs with
 |nil=>exact h rfl
 |cons v r =>
  cases ds with
  |nil=>simp at z
  |cons d q=>simp at z
theorem CC.put{H:Hp}{l q:Addr}{ds:List Addr}{o:HO}{d:Bh}(hl:H l=some (.lst (ds.map V.ref)))(h:CC H q d)(ok:d.ok):CC (upd H l o) q d:=by
 have other:∀{b v},H b=some v->v≠.lst (ds.map V.ref)->upd H l o b=some v:=λ{b v} e n=>by rw[Au (AE e hl n)];exact e
 cases h with
 |@am l' s ns h hl'=>exact .am (other h A3) (other hl' λz=>US ok.2.1 (HO.lst.inj z).symm)
 |@pl l' ws h hl' =>
  refine .pl (other h A3) (other hl' λz=>?_);have z2:=(HO.lst.inj z).symm;rw[show(ws.map λw=>V.int (unO w))=(ws.map unO).map V.int by rw[M5];rfl]at z2;refine US (ds:=ds) (λq=>?_) z2;have:=X9 List.length q;rw[B6,ok.1]at this;cases this
theorem Paired.impMem{α β:Type}{F G:α->β->Prop}:∀{l:List α}{m:List β},(∀x y,y∈m->F x y->G x y)->Paired F l m->Paired G l m
 |_,_,_,.nil=>.nil
 |_,_,h,.cons r t=>.cons (h _ _ C3 r) (Paired.impMem (λx y hy=>h x y (C2 _ hy)) t)
def Pu(l0:Addr)(H:Hp)(q:Addr)(c:AV):Prop:=∃(l:Addr)(ds:List Addr),l≠l0/\H q=some (.tup [.int (unO c.cell),.ref l,.int c.makes])/\H l=some (.lst (ds.map V.ref))/\Paired (CC H) ds c.conds
theorem Pu.at{l0:Addr}{H:Hp}{q:Addr}{c:AV}(h:Pu l0 H q c):Qq H q c:=by
 obtain⟨l,ds,_,r⟩:=h;exact⟨l,ds,r⟩
theorem Pu.same{l0:Addr}{H H':Hp}{q:Addr}{c:AV}(s:Ay H H')(h:Pu l0 H q c):Pu l0 H' q c:=by
 obtain⟨l,ds,n,h1,h2,h3⟩:=h;exact⟨l,ds,n,s _ _ h1,s _ _ h2,Paired.imp (λ_ _ z=>z.same s) h3⟩
theorem Pu.put{l0:Addr}{H:Hp}{q:Addr}{c:AV}{cs:List Addr}{o:HO}(hl:H l0=some (.lst (cs.map V.ref)))(h:Pu l0 H q c)(ok:c.ok):Pu l0 (upd H l0 o) q c:=by
 obtain⟨l,ds,n,h1,h2,h3⟩:=h;refine⟨l,ds,n,?_,?_,Paired.impMem (λx y hy z=>z.put hl (ok.conds y hy)) h3⟩
 ·rw[Au (AE h1 hl A3)];exact h1
 ·rw[Au n];exact h2
def c00:AV:=⟨some 0,[.am 0 [8]],0⟩
theorem c00_ok:c00.ok where
 cell:=⟨by decide,by decide⟩
 makes:=⟨by decide,by decide⟩
 few:=by show 1<=50;decide
 conds:=λd hd=>by
  rw[D4.mp hd];exact⟨⟨by decide,by decide⟩,by simp,λn hn=>by rw[D4.mp hn];exact⟨by decide,by decide⟩,List.pairwise_singleton _ _⟩
theorem ZD(r:AD):CZ (c00::r) 0 BV=0:=by
 unfold CZ;rw[Q6];have:c00.fits 0 BV=true:=by decide
 rw[this];rfl
section
variable{P:Program}{w:World}{K:PySem.W.Frag}{mg:Str->Option Value}{base:Heap}{a:Ad}
inductive SpCl(vs:List V)(H:Hp)(Q:VK):Prop
 |mk (m:Addr) (sd j:Int) (_:vs=[.ref m,.int sd,.int j]) (_:WB H m) (_:0<=j) (_:j<=800000) (_:∀(q l:Addr)(ds:List Addr)(c:AV)(H':Hp),Ay H H'->H l=none->H' q=some (.tup [.int (unO c.cell),.ref l,.int c.makes])->H' l=some (.lst (ds.map V.ref))->Paired (CC H') ds c.conds->c.ok->Q (.ref q) H'):SpCl vs H Q
def spCl:Sp:=λvs H Q _=>SpCl vs H Q
theorem ok_cl{f:Addr}{fd:FuncData}(F:Fun K "_law_clause_by" "_law_clause_by" Ei f fd)(T:Top K mg a)(aK:Cal P w K mg base CX0 1 "_law_mix" Ii UH)(aE:Cal P w K mg base CX0 1 "_law_state_by" Ds spSt)(aV:Cal P w K mg base CX0 2 "_law_condition_by" Di spCo) :
  AI P w K mg base CX0 3 f fd Er spCl:=by
 refine F.ok BX (λvs H Q E h=>?_) (λcdv A outer s H vs Q E hr h=>?_)
 ·obtain⟨m,sd,j,rfl,_⟩:=h;rfl
 ·obtain⟨m,sd,j,rfl,⟨mx,my,hm,hx,hy⟩,h0,h1,k⟩:=h;let J1:St->Hp->Prop:=fun σ H2=>∃x:Option Int,σ=[some (.ref m),some (.int sd),some (.int j),some (.int (unO x)),none,none]/\wOk x/\H=H2;refine⟨_,(Ac (Aq (i:=3) BX.nd rfl (Or.inl rfl) Ae) (Ac (ps_ifJ J1 (Az UW (AA Bd (Ar aK (rm hr) rfl Am (Aa (pv 1) (Aa (pv 2) Ab))) Ae) Ae (AG _)) (Ag (Aq (i:=3) BX.nd rfl (Or.inl rfl) (Ar aE (rm hr) rfl Am (Aa (pv 0) (Aa (Ar aK (rm hr) rfl Am (Aa (pv 1) (Bp AL (pv 2) Ae Ab))) Ab))))) AC) (Ac (Aq (i:=4) BX.nd rfl (Or.inl rfl) (Cm Ab)) (Ac (CL Z6 rfl (De rfl T.b_range (Bp Bd (Ar aK (rm hr) rfl Am (Aa (pv 1) (Bp AL (pv 2) Ae Ab))) Ae Ab)) (Bv (i:=5) BX.nd rfl (Or.inl rfl)) (Ag (BS (DB Z8 Z9 X4 BW (pv 4) (Aa (Ar aV (rm hr) rfl Am (Aa (pv 0) (Aa (pv 1) (Bp AL (pv 2) (AA Et Ae (AA AL (pv 5) Ae)) Ab)))) Ab))))) (Ag (Av (DW (Aa (pv 3) (Aa (pv 4) (Aa (Ar aE (rm hr) rfl Am (Aa (pv 0) (Aa (Ar aK (rm hr) rfl Am (Aa (pv 1) (Bp AL (pv 2) Ae Ab))) Ab))) Ab)))))))))),?_⟩
  try dsimp only[cxK]
  refine⟨⟨_,rfl,_,rfl,sd,j,rfl,h0,by omega,λv hv=>⟨_,_,rfl,rfl,(by show(0:Int)<4;decide),_,_,rfl,rfl,_,rfl,?_⟩⟩,?_⟩
  ·refine Fb (λ_=>?_) (λ_=>?_)
   ·exact⟨_,rfl,_,rfl,_,rfl,_,_,rfl,rfl,sd,_,rfl,by omega,by omega,λv2 hv2=>⟨m,mx,my,v2,rfl,hm,hx,hy,λd hd=>⟨some d,rfl,hd,rfl⟩⟩⟩
   ·exact⟨none,rfl,trivial,rfl⟩
  ·rintro σ H2 ⟨x,rfl,ox,rfl⟩;refine⟨(by show 0<=sizeLine;decide),λl hl=>?_⟩;refine⟨_,rfl,_,rfl,_,_,rfl,rfl,sd,_,rfl,by omega,by omega,λv hv=>?_⟩;obtain⟨n,hn0⟩:=F7 (show 0<=v%4 by omega);refine⟨_,_,rfl,rfl,(by show(0:Int)<4;decide),_,rfl,by omega,by omega,?_⟩;rw[show(v%4).toNat=n by omega];refine DD (n:=n) (λi σ H2=>∃(ds:List Addr)(cn:List Bh)(u7:Option V),σ=[some (.ref m),some (.int sd),some (.int j),some (.int (unO x)),some (.ref l),u7]/\Ay H H2/\H2 l=some (.lst (ds.map V.ref))/\Paired (CC H2) ds cn/\cn.length=i/\∀d∈cn,d.ok)
    ⟨[],[],none,rfl,Ao hl,Af,.nil,rfl,λd hd=>by simp at hd⟩ ?_ ?_
   ·rintro i σ H2 hi ⟨ds,cn,u7,rfl,sm,hl2,pr,hn,oks⟩;have ld:=Z7 pr;refine⟨_,rfl,.inl ⟨rfl,_,SqL.of hl2⟩,_,rfl,_,rfl,_,rfl,_,rfl,_,_,rfl,rfl,_,_,rfl,rfl,.inl ⟨by decide,by decide⟩,_,_,rfl,rfl,m,sd,_,rfl,⟨mx,my,sm _ _ hm,hx,hy⟩,by omega,by omega,λq d H3 s3 hd od=>?_⟩;refine⟨l,_,_,rfl,rfl,s3 _ _ hl2,by rw[B6,ld,hn];exact F2 hi (Iq B2),?_⟩;refine⟨ds++[q],cn++[d],_,rfl,λb o e=>?_,?_,?_,by rw[C4,hn];rfl,λe he=>?_⟩
    ·rw[Au (Aw e hl)];exact s3 _ _ (sm _ _ e)
    ·rw[Af,C6];rfl
    ·refine K9 (Paired.impMem (λx' y hy z=>(z.same s3).put (s3 _ _ hl2) (oks y hy)) pr) (hd.put (s3 _ _ hl2) od)
    ·rcases F0.mp he with z|z
     ·exact oks e z
     ·rw[D4.mp z];exact od
   ·rintro σ H2 ⟨ds,cn,u7,rfl,sm,hl2,pr,hn,oks⟩;refine⟨_,rfl,_,rfl,_,rfl,_,rfl,_,rfl,_,_,rfl,rfl,sd,_,rfl,by omega,by omega,λv2 hv2=>⟨m,mx,my,v2,rfl,sm _ _ hm,hx,hy,λd hd=>⟨(by show 3<=sizeLine;decide),λq hq=>?_⟩⟩⟩;have s3:=Ao (o:=.tup [.int (unO x),.ref l,.int d]) hq;exact k q l ds ⟨x,cn,d⟩ _ (sm.trans s3) hl Af (s3 _ _ hl2) (Paired.imp (λ_ _ z=>z.same s3) pr) ⟨ox,hd,(by show cn.length<=50;omega),oks⟩
inductive SpCs(K:PySem.W.Frag)(vs:List V)(H:Hp)(Q:VK):Prop
 |mk (l:Addr) (ns:List Int) (ft mn:Int) (_:vs=[.ref l,.int ft,.int mn]) (_:SqL K H l (ns.map V.int)) (_:0<=ft) (_:0<=mn) (_:mn<=40) (_:∀(q:Addr)(r:AD)(H':Hp),Ay H H'->Ng H' q r->IN r->CZ r 0 BV=0->mn<=r.length->r.length<=mn+1->Q (.ref q) H'):SpCs K vs H Q
def spCs(K:PySem.W.Frag):Sp:=λvs H Q _=>SpCs K vs H Q
theorem ok_cs{f:Addr}{fd:FuncData}(F:Fun K "_law_clauses_by" "_law_clauses_by" DS f fd)(T:Top K mg a)(a9:Cal P w K mg base CX0 1 "_law_at" GF (Yi K))(bB:Cal P w K mg base CX0 3 "_law_clause_by" Er spCl)(bN:Cal P w K mg base CX0 3 "_law_becomes" FH spBe) :
  AI P w K mg base CX0 4 f fd Ea (spCs K):=by
 refine F.ok BP (λvs H Q E h=>?_) (λcdv A outer s H vs Q E hr h=>?_)
 ·obtain⟨l,ns,ft,mn,rfl,_⟩:=h;rfl
 ·obtain⟨l,ns,ft,mn,rfl,hS,h0,m0,m40,k⟩:=h;refine⟨_,(Ac (Aq (i:=3) BP.nd rfl (Or.inl rfl) (DW (Bp Bd (Ar a9 (rm hr) rfl Am (Aa (pv 0) (Aa (pv 1) Ab))) Ae (Bp Bd (Ar a9 (rm hr) rfl Am (Aa (pv 0) (Bp AL (pv 1) Ae Ab))) Ae Ab)))) (Ac (Aq (i:=4) BP.nd rfl (Or.inl rfl) (Cm Ab)) (Ac (CL Z6 rfl (De rfl T.b_range (Aa (pv 2) Ab)) (Bv (i:=5) BP.nd rfl (Or.inl rfl)) (Ag (BS (DB Z8 Z9 X4 BW (pv 4) (Aa (Ar bB (rm hr) rfl Am (Aa (pv 3) (Aa (Ar a9 (rm hr) rfl Am (Aa (pv 0) (Bp AL (AA AL (pv 1) Ae) (pv 5) Ab))) (Bp Et Ae (pv 5) Ab)))) Ab))))) (Ac (AM (Az JP (Ar bN (rm hr) rfl Am (Aa (pv 4) (AO (Tv (AO (AO (AO (AO (AO (AO (AO (AO Ab)))))))) Ab)))) Ae (AG _)) (Ag (Aq (i:=4) BP.nd rfl (Or.inl rfl) (AA TB (Cm (BB (AO (Tv (BB (Ou (AO (Tv (AO Ab) Ab))) Ab) (AO Ab))) Ab)) (pv 4)))) AC) (Ag (Av (pv 4))))))),?_⟩
  try dsimp only[cxK]
  refine⟨_,rfl,_,rfl,l,ns,ft,rfl,hS,h0,?_⟩;refine⟨_,_,rfl,rfl,(by show(0:Int)<8;decide),_,rfl,?_⟩;refine⟨_,rfl,_,_,rfl,rfl,l,ns,_,rfl,hS,by omega,?_⟩;refine⟨_,_,rfl,rfl,(by show(0:Int)<8;decide),(by show 2<=sizeLine;decide),λm hm=>?_⟩;have s1:=Ao (o:=.tup [.int (atN ns ft%8),.int (atN ns (ft+1)%8)]) hm;have hM:WB (upd H m (.tup [.int (atN ns ft%8),.int (atN ns (ft+1)%8)])) m:=⟨_,_,Af,⟨by omega,by omega⟩,⟨by omega,by omega⟩⟩
  have s1':Ay H (upd H m (.tup [.int (atN ns ft%8),.int (atN ns (ft+1)%8)])):=s1;show(tSeq _ _) _ _ (upd H m (.tup [.int (atN ns ft%8),.int (atN ns (ft+1)%8)]));generalize upd H m (.tup [.int (atN ns ft%8),.int (atN ns (ft+1)%8)])=H1 at s1 s1' hM⊢;refine⟨(by show 0<=sizeLine;decide),λcl hcl=>?_⟩;obtain⟨n,rfl⟩:=F7 m0;refine⟨_,rfl,_,rfl,by omega,by omega,?_⟩;rw[L6];refine DD (n:=n) (λi σ H2=>∃(cs:List Addr)(r:AD)(u5:Option V),σ=[some (.ref l),some (.int ft),some (.int n),some (.ref m),some (.ref cl),u5]/\Ay H1 H2/\H2 cl=some (.lst (cs.map V.ref))/\Paired (Pu cl H2) cs r/\r.length=i/\∀c∈r,c.ok)
   ⟨[],[],none,rfl,Ao hcl,Af,.nil,rfl,λd hd=>by simp at hd⟩ ?_ ?_
  ·rintro i σ H2 hi ⟨cs,r,u5,rfl,sm,hl2,pr,hn,oks⟩;have ld:=Z7 pr;have hS2:SqL K H2 l (ns.map V.int):=(s1'.trans sm).seq hS;refine⟨_,rfl,.inl ⟨rfl,_,SqL.of hl2⟩,_,rfl,_,rfl,_,rfl,_,_,rfl,rfl,_,rfl,_,_,rfl,rfl,l,ns,_,rfl,hS2,by omega,_,rfl,_,_,rfl,rfl,.inl ⟨by decide,by decide⟩,m,_,_,rfl,hM.same sm,by omega,by omega,λq l' ds c H3 s3 nl e1 e2 e3 oc=>?_⟩;refine⟨cl,_,_,rfl,rfl,s3 _ _ hl2,by rw[B6,ld,hn];exact F2 hi (Iq B2),?_⟩;have nl':l'≠cl:=λz=>by rw[z,hl2]at nl;cases nl
   refine⟨cs++[q],r++[c],_,rfl,λb o e=>?_,?_,?_,by rw[C4,hn];rfl,λe he=>?_⟩
   ·rw[Au (Aw e hcl)];exact s3 _ _ (sm _ _ e)
   ·rw[Af,C6];rfl
   ·refine K9 (Paired.impMem (λx' y hy z=>(z.same s3).put (s3 _ _ hl2) (oks y hy)) pr) (Pu.put (s3 _ _ hl2) ⟨l',ds,nl',e1,e2,e3⟩ oc)
   ·rcases F0.mp he with z|z
    ·exact oks e z
    ·rw[D4.mp z];exact oc
  ·rintro σ H2 ⟨cs,r,u5,rfl,sm,hl2,pr,hn,oks⟩;have hR:Ng H2 cl r:=⟨cs,hl2,Paired.imp (λ_ _ z=>z.at) pr⟩
   have rk:IN r:=⟨by omega,oks⟩
   refine⟨_,rfl,(by show 8<=sizeLine;decide),λz8 hz8=>?_⟩;have s3:=Ao (o:=.lst (BV.map V.int)) hz8;refine⟨cl,z8,r,0,BV,rfl,hR.same s3,rk,Af,rfl,λH4 s4=>?_⟩;have s14:Ay H H4:=((s1'.trans sm).trans s3).trans s4;have hR4:=(hR.same s3).same s4;refine⟨rfl,_,rfl,?_⟩;rw[Iv];by_cases hz:CZ r 0 BV=0
   ·rw[Y5 hz];exact Bo ⟨_,rfl,k cl r H4 s14 hR4 rk hz B2 B2⟩
   ·rw[Z0 hz];refine Ce ?_;refine⟨(by show 1<=sizeLine;decide),λb1 hb1=>⟨(by show 3<=sizeLine;decide),λb2 hb2=>⟨(by show 1<=sizeLine;decide),λb3 hb3=>⟨(by show 3<=sizeLine;decide),λb4 hb4=>⟨(by show 1<=sizeLine;decide),λb5 hb5=>?_⟩⟩⟩⟩⟩;generalize hH5:upd (upd (upd (upd (upd H4 b1 (.lst [.int 8])) b2 (.tup [.str (Str.ofString "amount"),.int 0,.ref b1])) b3 (.lst [.ref b2])) b4 (.tup [.int 0,.ref b3,.int 0])) b5 (.lst [.ref b4])=H5;have s5:Ay H4 H5:=by rw[<-hH5];exact(((Ao hb1).trans (Ao hb2)).trans (Ao hb3)).trans ((Ao hb4).trans (Ao hb5))
    have e1:H5 b1=some (.lst [.int 8]):=by rw[<-hH5];exact Ao hb5 _ _ (Ao hb4 _ _ (Ao hb3 _ _ (Ao hb2 _ _ Af)))
    have e2:H5 b2=some (.tup [.str (Str.ofString "amount"),.int 0,.ref b1]):=by rw[<-hH5];exact Ao hb5 _ _ (Ao hb4 _ _ (Ao hb3 _ _ Af))
    have e3:H5 b3=some (.lst [.ref b2]):=by rw[<-hH5];exact Ao hb5 _ _ (Ao hb4 _ _ Af)
    have e4:H5 b4=some (.tup [.int 0,.ref b3,.int 0]):=by rw[<-hH5];exact Ao hb5 _ _ Af
    have e5:H5 b5=some (.lst [.ref b4]):=by rw[<-hH5];exact Af
    obtain⟨cs4,hcl4,pr4⟩:=(hR4.same s5).ex;have ld4:=Z7 pr4;refine⟨_,rfl,b5,cl,_,_,rfl,rfl,e5,hcl4,Iq (by simp only[D8,P6,B6];omega),λq hq=>?_⟩;have s6:=Ao (o:=.lst ([V.ref b4]++cs4.map V.ref)) hq;have c0:Qq H5 b4 c00:=⟨b3,[b2],e4,e3,.cons (.am (ns:=[8]) e2 e1) .nil⟩
    refine⟨_,rfl,k q (c00::r) _ ((s14.trans s5).trans s6) ⟨b4::cs4,Af,.cons (c0.same s6) (Paired.imp (λ_ _ z=>z.same s6) pr4)⟩ ⟨by rw[D8];omega,λc hc=>?_⟩ (ZD r) (by rw[D8];omega) (by rw[D8];omega)⟩;rcases C1.mp hc with z|z
    ·rw[z];exact c00_ok
    ·exact oks c z
end
theorem Ay.noneN{H H':Hp}(s:Ay H H'){x:Addr}(n:H' x=none):H x=none:=by
 cases e:H x with
 |none=>rfl
 |some o=>rw[s _ _ e]at n;cases n
theorem SF{T:St->Hp->Prop}{C:Prop}(P:St->Hp->Prop)(h:(∀σ H,P σ H->T σ H)->C)(k:∀σ H,P σ H->T σ H):C:=h k
structure MA where
 tp:Addr
 l:Addr
 kc:Addr
 ds:List Addr
def jf2(gp mem:Addr):List (Str×V):=AR "memories" (.ref mem) (AR "grove" (.ref gp) [])
def jf5(gp mem pr l kc:Addr):List (Str×V):=AR "known_cells" (.ref kc) (AR "known_squares" (.ref l) (AR "rule" (.ref pr) (jf2 gp mem)))
theorem jf2_mem(gp mem:Addr):(jf2 gp mem).lookup ("memories" : Str)=some (V.ref mem):=by
 unfold jf2;rw[Al,Y7 rfl]
theorem Zk(gp mem:Addr){m:Str}(h1:¬m=("memories" : Str))(h2:¬m=("grove" : Str)):(jf2 gp mem).lookup m=none:=by
 unfold jf2;rw[Al,Y4 h1,Al,Y4 h2];rfl
section
variable(gp mem pr l kc:Addr)
theorem Zj:(jf5 gp mem pr l kc).lookup ("known_cells" : Str)=some (V.ref kc):=by
 unfold jf5;rw[Al,Y7 rfl]
theorem Zi:(jf5 gp mem pr l kc).lookup ("known_squares" : Str)=some (V.ref l):=by
 unfold jf5;rw[Al,Y4 A1,Al,Y7 rfl]
theorem jf5_ru:(jf5 gp mem pr l kc).lookup ("rule" : Str)=some (V.ref pr):=by
 unfold jf5;rw[Al,Y4 A1,Al,Y4 A1,Al,Y7 rfl]
theorem Eb:(jf5 gp mem pr l kc).lookup ("grove" : Str)=some (V.ref gp):=by
 unfold jf5 jf2;rw[Al,Y4 A1,Al,Y4 A1,Al,Y4 A1,Al,Y4 A1,Al,Y7 rfl]
theorem Lq{m:Str}(h1:¬m=("known_cells" : Str))(h2:¬m=("known_squares" : Str))(h3:¬m=("rule" : Str))(h4:¬m=("memories" : Str))(h5:¬m=("grove" : Str)):(jf5 gp mem pr l kc).lookup m=none:=by
 unfold jf5;rw[Al,Y4 h1,Al,Y4 h2,Al,Y4 h3,Zk _ _ h4 h5]
theorem VY:(jf5 gp mem pr l kc).lookup ("after" : Str)=none:=Lq _ _ _ _ _ A1 A1 A1 A1 A1
theorem VX:(jf5 gp mem pr l kc).lookup ("check_jump" : Str)=none:=Lq _ _ _ _ _ A1 A1 A1 A1 A1
theorem LR:(jf5 gp mem pr l kc).lookup ("reckoned" : Str)=none:=Lq _ _ _ _ _ A1 A1 A1 A1 A1
theorem VW:(jf5 gp mem pr l kc).lookup ("fresh" : Str)=none:=Lq _ _ _ _ _ A1 A1 A1 A1 A1
theorem YL:(jf5 gp mem pr l kc).lookup ("four_halfway" : Str)=none:=Lq _ _ _ _ _ A1 A1 A1 A1 A1
theorem noJ_mid:(jf5 gp mem pr l kc).lookup ("middle_after" : Str)=none:=Lq _ _ _ _ _ A1 A1 A1 A1 A1
theorem YM:(jf5 gp mem pr l kc).lookup ("cell_after" : Str)=none:=Lq _ _ _ _ _ A1 A1 A1 A1 A1
end
inductive Nv:HO->Prop
 |tup {xs:List V}:Nv (.tup xs)
 |ins {C dx:Addr} {fs:List (Str×V)} (h1:1<=fs.length) (h2:fs.length<=3):Nv (.ins C dx fs)
theorem NE(f:Str)(v:V):∀fs:List (Str×V),1<=(AR f v fs).length
 |[]=>C0 1
 | (g,x)::r=>by
  unfold AR;split
  ·rw[D8];lia
  ·rw[D8];lia
theorem Dj.kp{a:Ad}{H H':Hp}{p:Addr}{c:Bh}(k:∀b o,H b=some o->Nv o->H' b=some o)(h:Dj a H p c):Dj a H' p c:=by
 cases h with
 |am h ht=>exact .am (k _ _ h (.ins (NE _ _ _) (C7 (Bz _ _ _) (P9 (C7 (Bz _ _ _) (by show 0+1<=2;decide)))))) (k _ _ ht .tup)
 |pl h ht=>exact .pl (k _ _ h (.ins (NE _ _ _) (C7 (Bz _ _ _) (by show 0+1<=3;decide)))) (k _ _ ht .tup)
theorem BR.kp{a:Ad}{H H':Hp}{p:Addr}{c:AV}(k:∀b o,H b=some o->Nv o->H' b=some o)(h:BR a H p c):BR a H' p c:=by
 obtain⟨dx,t,cs,h1,h2,h3⟩:=h.ex;exact⟨dx,t,cs,k _ _ h1 (.ins (NE _ _ _) (C7 (Bz _ _ _) (P9 (C7 (Bz _ _ _) (P9 (C7 (Bz _ _ _) (by show 0+1<=1;decide))))))),k _ _ h2 .tup,Paired.imp (λ_ _ z=>z.kp k) h3⟩
theorem CB.kp{a:Ad}{H H':Hp}{p:Addr}{x:Str}{r:AD}(k:∀b o,H b=some o->Nv o->H' b=some o)(h:CB a H p x r):CB a H' p x r:=by
 obtain⟨dx,t,cs,h1,h2,h3⟩:=h.ex;exact⟨dx,t,cs,k _ _ h1 (.ins (NE _ _ _) (C7 (Bz _ _ _) (P9 (C7 (Bz _ _ _) (by show 0+1<=2;decide))))),k _ _ h2 .tup,Paired.imp (λ_ _ z=>z.kp k) h3⟩
def mK(ms:List (Str×MA)):List (Key×V):=ms.map λe=>(Sum.inr e.1,V.ref e.2.tp)
theorem Vc(t:Str):∀ms:List (Str×MA),(∃m,(t,m)∈ms/\Br (mK ms) (Sum.inr t)=some (.ref m.tp))\/(Br (mK ms) (Sum.inr t)=none/\∀e∈ms,e.1≠t)
 |[]=>.inr ⟨rfl,λe he=>nomatch he⟩
 |e::r=>by
  by_cases h:e.1=t
  ·refine .inl ⟨e.2,?_,?_⟩
   ·rw[<-h];exact C3
   ·exact BF (p:=(Sum.inr e.1,V.ref e.2.tp)) (r:=mK r) (by rw[h])
  ·have n:Br (mK (e::r)) (Sum.inr t)=Br (mK r) (Sum.inr t):=Bq (p:=(Sum.inr e.1,V.ref e.2.tp)) (r:=mK r) λz=>h (Sum.inr.inj z);rcases Vc t r with ⟨m,h1,h2⟩|⟨h1,h2⟩
   ·exact .inl ⟨m,C2 _ h1,n.trans h2⟩
   ·refine .inr ⟨n.trans h1,λx hx=>?_⟩;rcases C1.mp hx with z|z
    ·rw[z];exact h
    ·exact h2 x z
inductive ChgR(H H':Hp)(t:Str)(ms ms':List (Str×MA))(m:MA):Prop
 |old (_:(t,m)∈ms) (_:ms'=ms):ChgR H H' t ms ms' m
 |new (_:ms'=ms++[(t,m)]) (_:∀e∈ms,e.1≠t) (_:H m.tp=none/\H m.l=none/\H m.kc=none/\∀d∈m.ds,H d=none) (_:H' m.tp=some (.tup [.ref m.l,.ref m.kc])) (_:H' m.l=some (.lst (m.ds.map V.ref))) (_:H' m.kc=some (.dT [])) (_:∀d∈m.ds,H' d=some (.dK [])) (_:m.ds.length=47) (_:m.ds.Nodup):ChgR H H' t ms ms' m
section
variable{P:Program}{w:World}{K:PySem.W.Frag}{mg:Str->Option Value}{base:Heap}{a:Ad}
inductive ZN(a:Ad)(vs:List V)(H:Hp)(Q:VK):Prop
 |mk (p:Addr) (t:Str) (r:AD) (_:vs=[.ref p]) (_:CB a H p t r) (_:Q (.str t) H):ZN a vs H Q
def Tk(a:Ad):Sp:=λvs H Q _=>ZN a vs H Q
theorem ok_show{f:Addr}{fd:FuncData}(F:Fun K "shown_rule" "shown_rule" GR f fd)(T:Top K mg a):AI P w K mg base CX0 1 f fd Ie (Tk a):=by
 refine F.ok Pb (λvs H Q E h=>?_) (λcdv A outer s H vs Q E hr h=>?_)
 ·obtain⟨p,t,r,rfl,_⟩:=h;rfl
 ·obtain⟨p,t,r,rfl,hR,k⟩:=h;obtain⟨dx,tt,cs,h1,h2,h3⟩:=hR.ex;refine⟨_,(Ag (Av (AB (pv 0) rfl))),?_⟩
  try dsimp only[cxK]
  exact xwf rfl rfl h1 T.cl_Rule T.na_Rule_text (Zv A1) k
inductive SpChg(a:Ad)(vs:List V)(H:Hp)(Q:VK):Prop
 |mk (p dx mem pr:Addr) (fs:List (Str×V)) (t:Str) (r:AD) (ms:List (Str×MA)) (_:vs=[.ref p,.ref pr]) (_:H p=some (.ins a.c_Jumps dx fs)) (_:fs.lookup ("memories" : Str)=some (.ref mem)) (_:fs.length<=10) (_:H mem=some (.dK (mK ms))) (_:ms.length<=1000) (_:∀e∈ms,H e.2.tp=some (.tup [.ref e.2.l,.ref e.2.kc])) (_:CB a H pr t r) (_:∀(H':Hp)(m:MA)(ms':List (Str×MA)),(∀b o,H b=some o->b≠p->b≠mem->H' b=some o)->H' p=some (.ins a.c_Jumps dx (AR "known_cells" (.ref m.kc) (AR "known_squares" (.ref m.l) (AR "rule" (.ref pr) fs))))->H' mem=some (.dK (mK ms'))->ChgR H H' t ms ms' m->Q .non H'):SpChg a vs H Q
def Yg(a:Ad):Sp:=λvs H Q _=>SpChg a vs H Q
theorem ok_chg{f:Addr}{fd:FuncData}(F:Fun K "change" "Jumps.change" DU f fd)(T:Top K mg a)(bV:Cal P w K mg base CX0 1 "shown_rule" Ie (Tk a)):AI P w K mg base CX0 2 f fd FJ (Yg a):=by
 refine F.ok IF (λvs H Q E h=>?_) (λcdv A outer s H vs Q E hr h=>?_)
 ·obtain⟨p,dx,mem,pr,fs,t,r,ms,rfl,_⟩:=h;rfl
 ·obtain⟨p,dx,mem,pr,fs,t,r,ms,rfl,hp,hmem,hfs,hm,few,tps,hR,k⟩:=h;refine⟨_,(Ac (Aq (i:=2) IF.nd rfl (Or.inl rfl) (Ar bV (rm hr) rfl Am (Aa (pv 1) Ab))) (Ac (AM (pt_cmp (VQ (EG hr) (pv 2) (AB (pv 0) rfl))) (Ag (FW (EG hr) (AB (pv 0) rfl) (pv 2) (DW (Aa (BU rfl (Bw.of (So:=Ah DU) (No:=Jp) (N:=["e"]) (k:=1) (cs:=[]) rfl rfl A1) (De rfl T.b_range (Bp Cw (BY rfl T.k_TOP_LEVEL) Ae Ab)) (λ_ _ _=>(Bc (i:=0) A1 rfl rfl)) (λ_ _ _=>BE) (λ_ _ _=>LN)) (Aa LM Ab))) rfl)) AC) (Ac (Cv (pv 0) (pv 1) rfl) (Ac (Cv (pv 0) (Aj An (QN (EG hr) (AB (pv 0) rfl) (pv 2) (λ_ _=>rfl)) Ae (λ_ _=>rfl)) rfl) (Ag (Cv (pv 0) (Aj An (QN (EG hr) (AB (pv 0) rfl) (pv 2) (λ_ _=>rfl)) Ae (λ_ _=>rfl)) rfl)))))),?_⟩
  try dsimp only[cxK]
  have npm:p≠mem:=AE hp hm A3;refine xq1 rfl ⟨pr,t,r,rfl,hR,?_⟩;apply SF (fun σ H1=>σ=[some (.ref p),some (.ref pr),some (.str t)]/\∃(m:MA)(ms':List (Str×MA)),(∀b o,H b=some o->b≠mem->H1 b=some o)/\H1 mem=some (.dK (mK ms'))/\Br (mK ms') (Sum.inr t)=some (.ref m.tp)/\H1 m.tp=some (.tup [.ref m.l,.ref m.kc])/\ChgR H H1 t ms ms' m/\m.tp≠p/\(H m.tp=none->m.l≠p/\m.kc≠p/\∀d∈m.ds,d≠p))
  ·intro rest;refine xw2 rfl rfl (xq5 hp T.cl_Jumps T.na_Jumps_memories hmem ⟨mem,(xq1 rfl ⟨IB.k (k:=Sum.inr t) hm,(xq1 rfl ?_)⟩)⟩);rcases Vc t ms with ⟨m,m1,m2⟩|⟨no,nk⟩
   ·rw[m2];refine Bo (rest _ _ ⟨rfl,m,ms,λb o e _=>e,hm,m2,tps _ m1,.old m1 rfl,AE (tps _ m1) hp A3,λz=>?_⟩);rw[tps _ m1]at z;cases z
   ·rw[no];refine Ce ?_;refine xq2 rfl rfl (xq1 rfl ⟨by decide,by decide,?_⟩);refine Qi (n:=47) (λi acc H2=>Ay H H2/\∃ds:List Addr,acc=ds.map V.ref/\ds.length=i/\(∀d∈ds,H2 d=some (.dK []))/\(∀d∈ds,H d=none)/\ds.Nodup) ⟨Ay.refl H,[],rfl,rfl,λd hd=>(nomatch hd),λd hd=>(nomatch hd),.nil⟩ ?_ ?_
    ·rintro i acc H2 hi ⟨sm,ds,rfl,ln,c1,c2,nd⟩;refine⟨⟨[some (.int (0+(i:Int)))],rfl,rfl⟩,?_,Gb λd hd=>⟨sm.trans (Ao hd),ds++[d],by rw[C6];rfl,by rw[C4,ln];rfl,λx hx=>?_,λx hx=>?_,?_⟩⟩
     ·rw[B6,ln];exact F2 hi A4
     ·rcases F0.mp hx with z|z
      ·exact Ao hd _ _ (c1 x z)
      ·rw[D4.mp z];exact Af
     ·rcases F0.mp hx with z|z
      ·exact c2 x z
      ·rw[D4.mp z];exact Ay.noneN sm hd
     ·rw[Q9];refine⟨nd,by simp,λx hx y hy z=>?_⟩;rw[D4.mp hy]at z;rw[<-z,c1 x hx]at hd;cases hd
    ·rintro acc H2 ⟨sm,ds,rfl,ln,c1,c2,nd⟩ l hl;generalize e_s3:upd H2 l _=H3;obtain⟨s3,hl3⟩:=alc hl e_s3;intro kc hkc;generalize e_s4:upd H3 kc _=H4;obtain⟨s4,hk4⟩:=alc hkc e_s4;refine⟨(by show 2<=sizeLine;decide),λtp htp=>?_⟩;show ∃_,_;generalize dF:upd H4 tp _=H5;obtain⟨s5,ht5⟩:=alc htp dF;have n1:H l=none:=Ay.noneN sm hl;have n2:H kc=none:=Ay.noneN (sm.trans s3) hkc;have n3:H tp=none:=Ay.noneN ((sm.trans s3).trans s4) htp;have s05:=((sm.trans s3).trans s4).trans s5;have hm5:=s05 _ _ hm;refine xwf rfl rfl (s05 _ _ hp) T.cl_Jumps T.na_Jumps_memories hmem (xq1 rfl ⟨mem,(xq1 rfl ⟨Lx.k (k:=Sum.inr t) hm5 ?_,?_⟩)⟩)
     ·unfold mK;rw[B6];exact F4 few A4
     ·rw[GD _ no];have e6:mK ms++[(Sum.inr t,V.ref tp)]=mK (ms++[(t,⟨tp,l,kc,ds⟩)]):=by unfold mK;rw[C6];rfl
      rw[e6];have k6:∀b o,H5 b=some o->b≠mem->upd H5 mem (.dK (mK (ms++[(t,⟨tp,l,kc,ds⟩)]))) b=some o:=λb o e n=>by rw[Au n];exact e
      have hm6:upd H5 mem (.dK (mK (ms++[(t,⟨tp,l,kc,ds⟩)]))) mem=some (.dK (mK (ms++[(t,⟨tp,l,kc,ds⟩)]))):=Af;generalize upd H5 mem (.dK (mK (ms++[(t,⟨tp,l,kc,ds⟩)])))=H6 at k6 hm6⊢;have nm:∀{x:Addr},H x=none->x≠mem:=λz y=>by rw[y,hm]at z;cases z
      have np:∀{x:Addr},H x=none->x≠p:=λz y=>by rw[y,hp]at z;cases z
      refine rest _ _ ⟨rfl,⟨tp,l,kc,ds⟩,ms++[(t,⟨tp,l,kc,ds⟩)],λb o e n=>k6 _ _ (s05 _ _ e) n,hm6,?_,k6 _ _ ht5 (nm n3),.new rfl nk ⟨n3,n1,n2,c2⟩ (k6 _ _ ht5 (nm n3)) (k6 _ _ (s5 _ _ (s4 _ _ hl3)) (nm n1)) (k6 _ _ (s5 _ _ hk4) (nm n2)) (λd hd=>k6 _ _ (s5 _ _ (s4 _ _ (s3 _ _ (c1 d hd)))) (nm (c2 d hd))) ln nd,np n3,λ_=>⟨np n1,np n2,λd hd=>np (c2 d hd)⟩⟩;rw[<-e6];rw[Qr no];exact BF rfl
  rintro σ H1 ⟨rfl,m,ms',k1,hm1,vv,ht1,chg,ntp,nnew⟩;have hp1:=k1 _ _ hp npm;have lf:fs.length<1000:=by lia
  have put:∀{Hk:Hp}{fs':List (Str×V)}(fs'':List (Str×V)),Hk p=some (.ins a.c_Jumps dx fs')->(∀b o,Hk b=some o->b≠p->upd Hk p (.ins a.c_Jumps dx fs'') b=some o)/\upd Hk p (.ins a.c_Jumps dx fs'') p=some (.ins a.c_Jumps dx fs''):=λ{Hk fs'} fs'' e=>⟨λb o e n=>by rw[Au n];exact e,Af⟩
  refine xw2 rfl rfl ⟨p,_,dx,fs,rfl,hp1,T.cl_Jumps,T.na_Jumps_rule,lf,?_⟩;obtain⟨k2,hp2⟩:=put (AR "rule" (.ref pr) fs) hp1;generalize upd H1 p (.ins a.c_Jumps dx (AR "rule" (.ref pr) fs))=H2 at k2 hp2⊢;have l2:=Bz ("rule" : Str) (.ref pr) fs;have look2:(AR "rule" (.ref pr) fs).lookup ("memories" : Str)=some (.ref mem):=by rw[Al,Y4 A1];exact hmem
  have hm2:=k2 _ _ hm1 (Z3 npm);have ht2:=k2 _ _ ht1 ntp;refine xwf rfl rfl hp2 T.cl_Jumps T.na_Jumps_memories look2 (xq1 rfl ⟨mem,.ref m.tp,rfl,vv▸IB.k (k:=Sum.inr t) hm2,(xq4 rfl rfl (SqT.of ht2) (Ai (j:=0) rfl) (xq1 rfl ⟨p,_,dx,(xq1 rfl ⟨hp2,T.cl_Jumps,T.na_Jumps_known_squares,by lia,?_⟩)⟩))⟩);obtain⟨k3,hp3⟩:=put (AR "known_squares" (.ref m.l) (AR "rule" (.ref pr) fs)) hp2;generalize upd H2 p (.ins a.c_Jumps dx (AR "known_squares" (.ref m.l) (AR "rule" (.ref pr) fs)))=H3 at k3 hp3⊢;have l3:=Bz ("known_squares" : Str) (.ref m.l) (AR "rule" (.ref pr) fs);have look3:(AR "known_squares" (.ref m.l) (AR "rule" (.ref pr) fs)).lookup ("memories" : Str)=some (.ref mem):=by rw[Al,Y4 A1];exact look2
  have hm3:=k3 _ _ hm2 (Z3 npm);have ht3:=k3 _ _ ht2 ntp;refine xwf rfl rfl hp3 T.cl_Jumps T.na_Jumps_memories look3 (xq1 rfl ⟨mem,.ref m.tp,rfl,vv▸IB.k (k:=Sum.inr t) hm3,(xq4 rfl rfl (SqT.of ht3) (Ai (j:=1) rfl) (xq1 rfl ⟨p,_,dx,(xq1 rfl ⟨hp3,T.cl_Jumps,T.na_Jumps_known_cells,by lia,?_⟩)⟩))⟩);obtain⟨k4,hp4⟩:=put (AR "known_cells" (.ref m.kc) (AR "known_squares" (.ref m.l) (AR "rule" (.ref pr) fs))) hp3;have k14:∀b o,H1 b=some o->b≠p->upd H3 p (.ins a.c_Jumps dx (AR "known_cells" (.ref m.kc) (AR "known_squares" (.ref m.l) (AR "rule" (.ref pr) fs)))) b=some o:=λb o e n=>k4 _ _ (k3 _ _ (k2 _ _ e n) n) n;refine k _ m ms' (λb o e n1 n2=>k14 _ _ (k1 _ _ e n2) n1) hp4 (k14 _ _ hm1 (Z3 npm)) ?_;cases chg with
  |old h1 h2=>exact .old h1 h2
  |new h1 h2 h3 h4 h5 h6 h7 h8 h9 =>
   obtain⟨y1,y2,y3⟩:=nnew h3.1;exact .new h1 h2 h3 (k14 _ _ h4 ntp) (k14 _ _ h5 y1) (k14 _ _ h6 y2) (λd hd=>k14 _ _ (h7 d hd) (y3 d hd)) h8 h9
inductive Rx(a:Ad)(vs:List V)(H:Hp)(Q:VK):Prop
 |mk (p dx gp pr:Addr) (t:Str) (r:AD) (_:vs=[.ref p,.ref gp,.ref pr]) (_:H p=some (.ins a.c_Jumps dx [])) (_:CB a H pr t r) (_:∀(H':Hp)(mem:Addr)(m:MA),(∀b o,H b=some o->b≠p->H' b=some o)->H mem=none->H' p=some (.ins a.c_Jumps dx (jf5 gp mem pr m.l m.kc))->H' mem=some (.dK (mK [(t,m)]))->(H m.tp=none/\H m.l=none/\H m.kc=none/\∀d∈m.ds,H d=none)->H' m.tp=some (.tup [.ref m.l,.ref m.kc])->H' m.l=some (.lst (m.ds.map V.ref))->H' m.kc=some (.dT [])->(∀d∈m.ds,H' d=some (.dK []))->m.ds.length=47->m.ds.Nodup->(∀d∈m.ds,d≠mem)->Q .non H'):Rx a vs H Q
def Qz(a:Ad):Sp:=λvs H Q _=>Rx a vs H Q
theorem YC{f:Addr}{fd:FuncData}(F:Fun K "__init__" "Jumps.__init__" GX f fd)(T:Top K mg a)(bF:BO P w K mg base CX0 2 a.c_Jumps "change" FJ (Yg a)):AI P w K mg base CX0 3 f fd Ik (Qz a):=by
 refine F.ok Pe (λvs H Q E h=>?_) (λcdv A outer s H vs Q E hr h=>?_)
 ·obtain⟨p,dx,gp,pr,t,r,rfl,_⟩:=h;rfl
 ·obtain⟨p,dx,gp,pr,t,r,rfl,hp,hR,k⟩:=h;refine⟨_,(Ac (Cv (pv 0) (pv 1) rfl) (Ac (Cv (pv 0) LN rfl) (Ag (BS (AF (pv 0) bF (rm hr) Am (Aa (pv 2) Ab)))))),?_⟩
  try dsimp only[cxK]
  refine xw2 rfl rfl ⟨p,_,dx,[],rfl,hp,T.cl_Jumps,T.na_Jumps_grove,B3,?_⟩;have k1:∀b o,H b=some o->b≠p->upd H p (.ins a.c_Jumps dx (AR "grove" (.ref gp) [])) b=some o:=λb o e n=>by rw[Au n];exact e
  have hp1:upd H p (.ins a.c_Jumps dx (AR "grove" (.ref gp) [])) p=some (.ins a.c_Jumps dx (AR "grove" (.ref gp) [])):=Af;have kn:∀b,upd H p (.ins a.c_Jumps dx (AR "grove" (.ref gp) [])) b=none->H b=none:=λb e=>by
   by_cases z:b=p
   ·rw[z,hp1]at e;cases e
   ·rw[Au z]at e;exact e
  generalize upd H p (.ins a.c_Jumps dx (AR "grove" (.ref gp) []))=H1 at k1 hp1 kn⊢;intro mem hmem;generalize dN:upd H1 mem _=H2;obtain⟨s2,hm2⟩:=alc hmem dN;have nmp:mem≠p:=λz=>by rw[z,hp1]at hmem;cases hmem
  refine xq1 rfl ⟨p,_,dx,(xq1 rfl ⟨s2 _ _ hp1,T.cl_Jumps,T.na_Jumps_memories,B4,?_⟩)⟩;have k3:∀b o,H2 b=some o->b≠p->upd H2 p (.ins a.c_Jumps dx (jf2 gp mem)) b=some o:=λb o e n=>by rw[Au n];exact e
  have hp3:upd H2 p (.ins a.c_Jumps dx (jf2 gp mem)) p=some (.ins a.c_Jumps dx (jf2 gp mem)):=Af;have kn3:∀b,upd H2 p (.ins a.c_Jumps dx (jf2 gp mem)) b=none->H b=none:=λb e=>by
   by_cases z:b=p
   ·rw[z,hp3]at e;cases e
   ·rw[Au z]at e;exact kn _ (Ay.noneN s2 e)
  rw[show AR ("memories" : Str) (V.ref mem) (AR ("grove" : Str) (V.ref gp) [])=jf2 gp mem from rfl];generalize upd H2 p (.ins a.c_Jumps dx (jf2 gp mem))=H3 at k3 hp3 kn3⊢;have k03:∀b o,H b=some o->b≠p->H3 b=some o:=λb o e n=>k3 _ _ (s2 _ _ (k1 _ _ e n)) n;have hm3:=k3 _ _ hm2 nmp;have hR3:CB a H3 pr t r:=by
   refine hR.kp λb o e n=>k03 _ _ e λz=>?_;rw[z,hp]at e;cases e;cases n with
   |ins h1 _=>cases h1
  refine xwn rfl rfl hp3 (Zk _ _ A1 A1) rfl ⟨p,dx,mem,pr,jf2 gp mem,t,r,[],rfl,hp3,jf2_mem _ _,by rw[show(jf2 gp mem).length=2 from rfl];decide,hm3,J8 _,λe he=>(nomatch he),hR3,λH' m ms' fr hp' hm' chg=>?_⟩;cases chg with
  |old h1 _=>cases h1
  |new h1 h2 h3 h4 h5 h6 h7 h8 h9 =>
   rw[h1]at hm';refine k H' mem m (λb o e n=>fr _ _ (k03 _ _ e n) n ?_) (kn _ hmem) hp' hm' ⟨kn3 _ h3.1,kn3 _ h3.2.1,kn3 _ h3.2.2.1,λd hd=>kn3 _ (h3.2.2.2 d hd)⟩ h4 h5 h6 h7 h8 h9 λd hd z=>?_
   ·intro z;rw[z]at e;rw[kn _ hmem]at e;cases e
   ·have:=h3.2.2.2 d hd;rw[z,hm3]at this;cases this
end
def qO(G:Gv)(n k:Nat):Nat:=match G[n]? with
 |some q=>(q.parts.getD k 0).toNat
 |none=>0
def cel(G:Gv):Nat->Nat->Nat->Nat->Nat
 |0,n,_,_=>n
 |l+1,n,x,y=>cel G l (qO G n ((x/2^l)%2+2*((y/2^l)%2))) x y
def stp(r:AD)(c:Nat->Nat->Int):Nat->Nat->Int:=λx y=>CZ r (c x y) [c (x-1) (y-1),c x (y-1),c (x+1) (y-1),c (x-1) y,c (x+1) y,c (x-1) (y+1),c x (y+1),c (x+1) (y+1)]
def Bk(r:AD):Nat->(Nat->Nat->Int)->Nat->Nat->Int
 |0,c=>c
 |n+1,c=>stp r (Bk r n c)
def Co(G:Gv)(l n:Nat):Nat->Nat->Int:=λx y=>(cel G l n x y:Int)
def JR(r:AD)(G:Gv)(e n m:Nat):Prop:=∃l:Nat,Ak G n ((l+2:Nat):Int)/\e<=l/\Ak G m ((l+1:Nat):Int)/\∀x y,x<2^(l+1)->y<2^(l+1)->Co G (l+1) m x y=Bk r (2^e) (Co G (l+2) n) (x+2^l) (y+2^l)
theorem GOk.four{G:Gv}(ok:GOk G){n l:Nat}(h:Ak G n ((l+1:Nat):Int)):∃x y z w:Nat,G[n]?=some ⟨[(x:Int),(y:Int),(z:Int),(w:Int)],((l+1:Nat):Int)⟩/\Ak G x (l:Int)/\Ak G y (l:Int)/\Ak G z (l:Int)/\Ak G w (l:Int):=by
 obtain⟨q,e,el⟩:=h;have h8:8<=n:=by
  refine O6 λz=>?_;rw[ok.leaf n z]at e;cases e;have:(0:Int)=((l+1:Nat):Int):=el;lia
 obtain⟨x,y,z,w,p,⟨l1,l2,l3,l4⟩,_⟩:=ok.node n q e h8;have e1:q.lev-1=(l:Int):=by lia
 rw[e1]at l1 l2 l3 l4;refine⟨x,y,z,w,?_,l1,l2,l3,l4⟩;rw[e];cases q with
 |mk pp ll=>cases p;cases el;rfl
theorem GOk.cell{G:Gv}(ok:GOk G){n:Nat}(h:Ak G n 0):n<8:=by
 obtain⟨q,e,el⟩:=h;refine Nat.lt_of_not_le λz=>?_;obtain⟨_,_,_,_,_,_,h1,_⟩:=ok.node n q e z;lia
theorem Ee{G:Gv}{n x y z w:Nat}{l:Int}(e:G[n]?=some ⟨[(x:Int),(y:Int),(z:Int),(w:Int)],l⟩):qO G n 0=x/\qO G n 1=y/\qO G n 2=z/\qO G n 3=w:=by
 unfold qO;rw[e];exact⟨rfl,rfl,rfl,rfl⟩
theorem Li{G:Gv}(ok:GOk G){n l:Nat}(h:Ak G n ((l+1:Nat):Int)){k:Nat}(hk:k<4):Ak G (qO G n k) (l:Int):=by
 obtain⟨x,y,z,w,e,h1,h2,h3,h4⟩:=ok.four h;obtain⟨q1,q2,q3,q4⟩:=Ee e
 match k,hk with
 |0,_=>rw[q1];exact h1
 |1,_=>rw[q2];exact h2
 |2,_=>rw[q3];exact h3
 |3,_=>rw[q4];exact h4
theorem SX{G G':Gv}{i:Nat}(ok:GOk G)(go:AH G G' i):∀(l n:Nat),Ak G n (l:Int)->∀x y,cel G' l n x y=cel G l n x y
 |0,n,_,x,y=>rfl
 |l+1,n,h,x,y=>by
  have e:∀k,qO G' n k=qO G n k:=λk=>by
   obtain⟨q,e,_⟩:=h;unfold qO;rw[go.get e,e]
  show cel G' l (qO G' n _) x y=cel G l (qO G n _) x y;rw[e];exact SX ok go l _ (Li ok h A0) x y
theorem CK{G G':Gv}{i:Nat}(ok:GOk G)(go:AH G G' i){l n:Nat}(h:Ak G n (l:Int)):Co G' l n=Co G l n:=by
 funext x y
 unfold Co;rw[SX ok go l n h]
theorem JR.goes{r:AD}{G G':Gv}{i e n m:Nat}(ok:GOk G)(go:AH G G' i)(h:JR r G e n m):JR r G' e n m:=by
 obtain⟨l,h1,h2,h3,h4⟩:=h;refine⟨l,go.lev h1,h2,go.lev h3,λx y hx hy=>?_⟩;rw[CK ok go h1,CK ok go h3];exact h4 x y hx hy
def Bs(G:Gv):Prop:=∀j:Nat,j<48->G[8+j]?=some ⟨[(bareN j:Int),(bareN j:Int),(bareN j:Int),(bareN j:Int)],(j:Int)+1⟩
theorem Bs.goes{G G':Gv}{i:Nat}(h:Bs G)(go:AH G G' i):Bs G':=λj hj=>go.get (h j hj)
theorem Bs.zero{G:Gv}(h:Bs G):∀(l:Nat),l<=48->∀x y,cel G l (bareN l) x y=0
 |0,_,x,y=>rfl
 |l+1,hl,x,y=>by
  obtain⟨q1,q2,q3,q4⟩:=Ee (h l A0);have e:∀k,k<4->qO G (8+l) k=bareN l:=λk hk=>by
   match k,hk with
   |0,_=>exact q1
   |1,_=>exact q2
   |2,_=>exact q3
   |3,_=>exact q4
  show cel G l (qO G (8+l) _) x y=0;rw[e _ A0];exact h.zero l A0 x y
theorem RI{r:AD}(h:CZ r 0 BV=0):∀k,Bk r k (λ_ _=>0)=λ_ _=>0
 |0=>rfl
 |k+1=>by
  show stp r (Bk r k _)=_;rw[RI h k]
  funext x y
  exact h
theorem Bs.lev{G:Gv}(ok:GOk G)(h:Bs G):∀l:Nat,l<=48->Ak G (bareN l) (l:Int)
 |0,_=>⟨_,ok.leaf 0 A4,rfl⟩
 |l+1,hl=>⟨_,h l A0,by show(l:Int)+1=((l+1:Nat):Int);lia⟩
theorem JR.bare{r:AD}{G:Gv}(ok:GOk G)(h:Bs G)(re:CZ r 0 BV=0){l e:Nat}(hl:l+2<=48)(he:e<=l):JR r G e (bareN (l+2)) (bareN (l+1)):=by
 refine⟨l,h.lev ok _ hl,he,h.lev ok _ A0,λx y _ _=>?_⟩;have z:∀k,k<=48->Co G k (bareN k)=λ_ _=>0:=λk hk=>by
  funext x y
  unfold Co;rw[h.zero k hk x y];rfl
 rw[z _ hl,z _ A0,RI re]
theorem ZF{r:AD}(h:IN r){cell:Int}(hc:IJ cell)(ar:List Int):IJ (CZ r cell ar):=by
 cases e:IL r cell ar with
 |none=>rw[Mi e];exact hc
 |some i =>
  obtain⟨c,h1,h2⟩:=Mh e;rw[h2];exact(h.ok c (C9 h1)).makes
theorem Zy:∀xs:List Int,xs.length=8->∃a b c d e f g h,xs=[a,b,c,d,e,f,g,h]
 |[a,b,c,d,e,f,g,h],_=>⟨a,b,c,d,e,f,g,h,rfl⟩
structure IO(H:Hp)(g:GA)(G:Gv)(N M:Nat)(r:AD)(m:MA):Prop where
 tp:H m.tp=some (.tup [.ref m.l,.ref m.kc])
 l:H m.l=some (.lst (m.ds.map V.ref))
 ap:m.l≠g.lv/\m.l≠g.pt/\m.kc≠g.nm
 len:m.ds.length=47
 nd:m.ds.Nodup
 sq:∀(e:Nat) d,m.ds[e]?=some d->∃kv,H d=some (.dK kv)/\kv.length<=N/\(∀p∈kv,∃i,p.1=Sum.inl i)/\∀(n:Nat) v,Br kv (Sum.inl (n:Int))=some v->∃k:Nat,v=.int (k:Int)/\JR r G e n k
 ce:∃kc,H m.kc=some (.dT kc)/\kc.length<=M/\∀(ks:List Int) v,Br kc (kOf ks)=some v->∃c ar,ks=c::ar/\v=.int (CZ r c ar)
theorem IO.mono{H:Hp}{g:GA}{G:Gv}{N M N' M':Nat}{r:AD}{m:MA}(h:IO H g G N M r m)(e1:N<=N')(e2:M<=M'):IO H g G N' M' r m:=by
 refine⟨h.tp,h.l,h.ap,h.len,h.nd,λe d ed=>?_,?_⟩
 ·obtain⟨kv,h1,h2,h3,h4⟩:=h.sq e d ed;exact⟨kv,h1,C7 h2 e1,h3,h4⟩
 ·obtain⟨kc,h1,h2,h3⟩:=h.ce;exact⟨kc,h1,C7 h2 e2,h3⟩
theorem IO.kp{H H':Hp}{g:GA}{G G':Gv}{N M i:Nat}{r:AD}{m:MA}(h:IO H g G N M r m)(ok:GOk G)(go:AH G G' i)(k:∀b o,H b=some o->b=m.tp\/b=m.l\/b∈m.ds\/b=m.kc->H' b=some o):IO H' g G' N M r m:=by
 refine⟨k _ _ h.tp (.inl rfl),k _ _ h.l (.inr (.inl rfl)),h.ap,h.len,h.nd,λe d ed=>?_,?_⟩
 ·obtain⟨kv,h1,h2,h3,h4⟩:=h.sq e d ed;refine⟨kv,k _ _ h1 (.inr (.inr (.inl (C9 ed)))),h2,h3,λn v hv=>?_⟩;obtain⟨x,e1,e2⟩:=h4 n v hv;exact⟨x,e1,e2.goes ok go⟩
 ·obtain⟨kc,h1,h2,h3⟩:=h.ce;exact⟨kc,k _ _ h1 (.inr (.inr (.inr rfl))),h2,h3⟩
structure JW(a:Ad)(H:Hp)(g:GA)(G:Gv)(N M:Nat)(p dx mem pr:Addr)(r:AD)(m:MA):Prop where
 gr:AJ a H g G
 ok:GOk G
 bs:Bs G
 br:H g.br=some (.lst ((Da 48).map V.int))
 nbr:g.br≠g.lv/\g.br≠g.pt
 hp:H p=some (.ins a.c_Jumps dx (jf5 g.p mem pr m.l m.kc))
 ru:CB a H pr (DA r) r
 rok:IN r
 rest:CZ r 0 BV=0
 me:IO H g G N M r m
theorem JW.same{a:Ad}{H H':Hp}{g:GA}{G:Gv}{N M:Nat}{p dx mem pr:Addr}{r:AD}{m:MA}(s:Ay H H')(h:JW a H g G N M p dx mem pr r m):JW a H' g G N M p dx mem pr r m :=
 ⟨h.gr.same s,h.ok,h.bs,s _ _ h.br,h.nbr,s _ _ h.hp,h.ru.same s,h.rok,h.rest,h.me.kp h.ok (AH.refl h.ok) λb o e _=>s _ _ e⟩
theorem JW.mono{a:Ad}{H:Hp}{g:GA}{G:Gv}{N M N' M':Nat}{p dx mem pr:Addr}{r:AD}{m:MA}(h:JW a H g G N M p dx mem pr r m)(e1:N<=N')(e2:M<=M'):JW a H g G N' M' p dx mem pr r m :=
 ⟨h.gr,h.ok,h.bs,h.br,h.nbr,h.hp,h.ru,h.rok,h.rest,h.me.mono e1 e2⟩
theorem IO.fr{a:Ad}{H H':Hp}{g:GA}{G G':Gv}{N M i:Nat}{r:AD}{m:MA}(h:IO H g G N M r m)(hg:AJ a H g G)(ok:GOk G)(f:Fr g H H')(go:AH G G' i):IO H' g G' N M r m:=by
 obtain⟨ts,h3,_⟩:=hg.pt;refine h.kp ok go λb o e w=>?_;rcases w with z|z|z|z
 ·have e2:=h.tp;rw[<-z,e]at e2;cases e2;exact f _ _ e (AE e hg.lv A3) (AE e h3 A3) (AE e hg.nm A3)
 ·have e2:=h.l;rw[z]at e⊢;rw[e]at e2;cases e2;exact f _ _ e h.ap.1 h.ap.2.1 (AE e hg.nm A3)
 ·obtain⟨j,hj⟩:=J9 z;obtain⟨kv,e2,_⟩:=h.sq j b hj;rw[e]at e2;cases e2;exact f _ _ e (AE e hg.lv A3) (AE e h3 A3) (AE e hg.nm A3)
 ·obtain⟨kc,e2,_⟩:=h.ce;rw[z]at e⊢;rw[e]at e2;cases e2;exact f _ _ e (AE e hg.lv A3) (AE e h3 A3) h.ap.2.2
theorem CB.fr{a:Ad}{H H':Hp}{g:GA}{G:Gv}{p:Addr}{x:Str}{r:AD}(h:CB a H p x r)(hg:AJ a H g G)(f:Fr g H H'):CB a H' p x r:=by
 obtain⟨ts,h3,_⟩:=hg.pt;exact h.kp λb o e n=>f _ _ e (AE e hg.lv (by intro z;rw[z]at n;cases n)) (AE e h3 (by intro z;rw[z]at n;cases n)) (AE e hg.nm (by intro z;rw[z]at n;cases n))
theorem JW.fr{a:Ad}{H H':Hp}{g:GA}{G G':Gv}{N M i:Nat}{p dx mem pr:Addr}{r:AD}{m:MA}(h:JW a H g G N M p dx mem pr r m)(f:Fr g H H')(hg':AJ a H' g G')(go:AH G G' i):JW a H' g G' N M p dx mem pr r m:=by
 obtain⟨ts,h3,_⟩:=h.gr.pt;refine⟨hg',go.ok,h.bs.goes go,f _ _ h.br h.nbr.1 h.nbr.2 (AE h.br h.gr.nm A3),h.nbr,f _ _ h.hp (AE h.hp h.gr.lv A3) (AE h.hp h3 A3) (AE h.hp h.gr.nm A3),h.ru.fr h.gr f,h.rok,h.rest,h.me.fr h.gr h.ok f go⟩
def FrJ(g:GA)(m:MA)(H H':Hp):Prop:=∀b o,H b=some o->b≠g.lv->b≠g.pt->b≠g.nm->b≠m.kc->b∉m.ds->H' b=some o
theorem FrJ.trans{g:GA}{m:MA}{H1 H2 H3:Hp}(h:FrJ g m H1 H2)(k:FrJ g m H2 H3):FrJ g m H1 H3:=λb o e n1 n2 n3 n4 n5=>k _ _ (h _ _ e n1 n2 n3 n4 n5) n1 n2 n3 n4 n5
theorem Fr.j{g:GA}{m:MA}{H1 H2:Hp}(h:Fr g H1 H2):FrJ g m H1 H2:=λb o e n1 n2 n3 _ _=>h _ _ e n1 n2 n3
theorem Ay.j{g:GA}{m:MA}{H1 H2:Hp}(h:Ay H1 H2):FrJ g m H1 H2:=λb o e _ _ _ _ _=>h _ _ e
theorem JW.putC{a:Ad}{H:Hp}{g:GA}{G:Gv}{N M:Nat}{p dx mem pr:Addr}{r:AD}{m:MA}{kc:List (List Key×V)}(h:JW a H g G N M p dx mem pr r m)(len:kc.length<=M+1)(sem:∀(ks:List Int) v,Br kc (kOf ks)=some v->∃c ar,ks=c::ar/\v=.int (CZ r c ar)):JW a (upd H m.kc (.dT kc)) g G N (M+1) p dx mem pr r m:=by
 obtain⟨kc0,hk,_⟩:=h.me.ce;have other:∀{b v},H b=some v->(∀kk,v≠.dT kk)->upd H m.kc (.dT kc) b=some v:=λ{b v} e n=>by rw[Au (AE e hk (n _))];exact e
 obtain⟨ts,h3,h4⟩:=h.gr.pt;refine⟨⟨other h.gr.hp B0,other h.gr.lv B0,⟨ts,other h3 B0,PairedM.imp (λt q z=>other z B0) h4⟩,by rw[Au (Z3 h.me.ap.2.2)];exact h.gr.nm,h.gr.ne⟩,h.ok,h.bs,other h.br B0,h.nbr,other h.hp B0,h.ru.kp λb o e n=>other e λkk z=>(by rw[z]at n;cases n),h.rok,h.rest,⟨other h.me.tp B0,other h.me.l B0,h.me.ap,h.me.len,h.me.nd,λe d ed=>?_,⟨kc,Af,len,sem⟩⟩⟩;obtain⟨kv,q1,q2,q3,q4⟩:=h.me.sq e d ed;exact⟨kv,other q1 B0,q2,q3,q4⟩
theorem JW.putS{a:Ad}{H:Hp}{g:GA}{G:Gv}{N M:Nat}{p dx mem pr:Addr}{r:AD}{m:MA}{e:Nat}{d:Addr}{kv:List (Key×V)}{n k:Nat}(h:JW a H g G N M p dx mem pr r m)(ed:m.ds[e]?=some d)(hd:H d=some (.dK kv))(jr:JR r G e n k):JW a (upd H d (.dK (DI kv (Sum.inl (n:Int)) (.int (k:Int))))) g G (N+1) M p dx mem pr r m:=by
 have other:∀{b v},H b=some v->(∀kk,v≠.dK kk)->upd H d (.dK (DI kv (Sum.inl (n:Int)) (.int (k:Int)))) b=some v:=λ{b v} e n=>by rw[Au (AE e hd (n _))];exact e
 obtain⟨ts,h3,h4⟩:=h.gr.pt;obtain⟨kc,c1,c2,c3⟩:=h.me.ce;refine⟨⟨other h.gr.hp B0,other h.gr.lv B0,⟨ts,other h3 B0,PairedM.imp (λt q z=>other z B0) h4⟩,other h.gr.nm B0,h.gr.ne⟩,h.ok,h.bs,other h.br B0,h.nbr,other h.hp B0,h.ru.kp λb o e n=>other e λkk z=>(by rw[z]at n;cases n),h.rok,h.rest,⟨other h.me.tp B0,other h.me.l B0,h.me.ap,h.me.len,h.me.nd,λe' d' ed'=>?_,⟨kc,other c1 B0,c2,c3⟩⟩⟩;obtain⟨kv',q1,q2,q3,q4⟩:=h.me.sq e' d' ed';by_cases z:e'=e
 ·rw[z,ed]at ed';cases ed';rw[hd]at q1;cases q1;subst z;refine⟨_,Af,C7 (FZ _ _ _) A0,λq hq=>?_,λn' v hv=>?_⟩
  ·unfold DI at hq;split at hq
   ·obtain⟨q0,h0,rfl⟩:=D5.mp hq;split
    ·exact q3 q0 h0
    ·exact q3 q0 h0
   ·rcases F0.mp hq with y|y
    ·exact q3 q y
    ·rw[D4.mp y];exact⟨_,rfl⟩
  ·rw[IP]at hv;split at hv
   ·rename_i y;have:n'=n:=by have:=Sum.inl.inj y;lia
    rw[this];cases hv;exact⟨k,rfl,jr⟩
   ·exact q4 n' v hv
 ·have nd:d'≠d:=λy=>z (by
   rw[y]at ed';exact(List.getElem?_inj (B7.mp ed').1 h.me.nd).mp (ed'.trans ed.symm))
  exact⟨kv',by rw[Au nd];exact q1,C7 q2 A0,q3,q4⟩
section
variable{P:Program}{w:World}{K:PySem.W.Frag}{mg:Str->Option Value}{base:Heap}{a:Ad}
inductive ZY(a:Ad)(vs:List V)(H:Hp)(Q:VK):Prop
 |mk (p dx mem pr t:Addr) (g:GA) (G:Gv) (N M:Nat) (r:AD) (m:MA) (c:Int) (ar:List Int) (_:vs=[.ref p,.ref t]) (_:JW a H g G N M p dx mem pr r m) (_:H t=some (.tup ((c::ar).map V.int))) (_:ar.length=8) (_:∀x∈c::ar,IJ x) (_:M<9000000) (_:∀H',(∀b o,H b=some o->b≠m.kc->H' b=some o)->JW a H' g G N (M+1) p dx mem pr r m->Q (.int (CZ r c ar)) H'):ZY a vs H Q
def UL(a:Ad):Sp:=λvs H Q _=>ZY a vs H Q
theorem ok_cel{f:Addr}{fd:FuncData}(F:Fun K "cell_after" "Jumps.cell_after" Cu f fd)(T:Top K mg a)(b7:BO P w K mg base CX0 4 a.c_Grove "state_of" Es (WT a))(aO:BO P w K mg base CX0 3 a.c_Grove "leaf" EZ (Qx a))(bE:Cal P w K mg base CX0 5 "becomes" JB (UM a)):AI P w K mg base CX0 6 f fd Dy (UL a):=by
 refine F.ok Cg (λvs H Q E h=>?_) (λcdv A outer s H vs Q E hr h=>?_)
 ·obtain⟨p,dx,mem,pr,t,g,G,N,M,r,m,c,ar,rfl,_⟩:=h;rfl
 ·obtain⟨p,dx,mem,pr,t,g,G,N,M,r,m,c,ar,rfl,hj,ht,h8,sts,few,k⟩:=h;obtain⟨kc,c1,c2,c3⟩:=hj.me.ce;have htk:H t=some (.tup ((kOf (c::ar)).map kV)):=by rw[Zg];exact ht
  refine⟨_,(Ac (Aq (i:=2) Cg.nd rfl (Or.inl rfl) (Ja (EG hr) (AB (pv 0) rfl) (pv 1) ⟨rfl,rfl,rfl,rfl⟩)) (Ac (AM (Az Io (pv 2) Dh (AG _)) (Ac (Ic (i:=3) rfl Cg.nd rfl rfl (Bw.of (So:=Ah Cu) (No:=FM) (N:=["one","self"]) (k:=1) (cs:=[0]) rfl rfl A1) (Tt (pv 1)) (λ_ _ _=>(Bc (i:=0) A1 rfl rfl)) (λ_ _ _=>BE) (λ_ _ _=>(AF (QM (K:=K) rfl (pv 1) rfl) b7 (rm hr) Am (Aa (pv 0) Ab)))) (Ac (Aq (i:=2) Cg.nd rfl (Or.inl rfl) (AF (AB (pv 0) rfl) aO (rm hr) Am (Aa (Ar bE (rm hr) rfl Am (Aa (AB (pv 0) rfl) (Aa (Aj Ax (pv 3) Ae (λ_ _=>rfl)) (Aa (Si UN (pv 3) (QK Ae) po_none) Ab)))) Ab))) (Ag (FW (EG hr) (AB (pv 0) rfl) (pv 1) (pv 2) rfl)))) AC) (Ag (Av (pv 2))))),?_⟩
  try dsimp only[cxK]
  refine xwf rfl rfl hj.hp T.cl_Jumps T.na_Jumps_known_cells (Zj _ _ _ _ _) ⟨m.kc,rfl,.inr ⟨_,.inl c1⟩,(xq1 rfl ⟨_,IB.t (k:=kOf (c::ar)) c1 htk,?_⟩)⟩;cases ev:Br kc (kOf (c::ar))with
  |some v =>
   obtain⟨c',ar',e1,e2⟩:=c3 _ v ev;cases e1;rw[e2];exact xq1 rfl ⟨rfl,(xq1 rfl (Bo (xq1 rfl (k H (λb o e _=>e) (hj.mono (C0 _) (R3 _))))))⟩
  |none =>
   refine xq1 rfl ⟨rfl,(xq1 rfl (Ce ?_))⟩;refine xq1 rfl ⟨t,rfl,⟨_,SqT.of ht⟩,?_⟩;refine Rs (xs:=(c::ar).map V.int) (λi acc H2=>H=H2/\acc=((c::ar).take i).map V.int) ⟨rfl,rfl⟩ (λi acc H2 _ z=>z.1▸SqT.of ht) ?_ ?_
   ·rintro i v acc H2 ev2 ⟨rfl,rfl⟩;rw[B8]at ev2;obtain⟨x,ex,rfl⟩:=D0.mp ev2;obtain⟨x0,x8⟩:=sts x (C9 ex);obtain⟨n,rfl⟩:=F7 x0;refine⟨⟨[some (.int (n:Int))],rfl,rfl⟩,?_,Gb (xq1 rfl (xq5 hj.hp T.cl_Jumps T.na_Jumps_grove (Eb _ _ _ _ _) (xq3 rfl hj.gr.hp (TF g) (xq1 rfl ⟨g,G,n,_,rfl,hj.gr,hj.ok.leaf n A0,rfl,rfl,?_⟩))))⟩
    ·rw[B6,J0];exact F4 (O5 _ _) (by rw[D8,h8];decide)
    ·rw[F3,ex,Q4,C6];rfl
   ·rintro acc H2 ⟨rfl,rfl⟩ L hL;rw[B6,F6];generalize e_s1:upd H L _=H1;obtain⟨s1,hL1⟩:=alc hL e_s1;have hj1:=hj.same s1;refine xwf rfl rfl hj1.hp T.cl_Jumps T.na_Jumps_grove (Eb _ _ _ _ _) (xq3 rfl hj1.gr.hp (UY g) (xwf rfl rfl hj1.hp T.cl_Jumps T.na_Jumps_rule (jf5_ru _ _ _ _ _) (xwi rfl rfl rfl (SqL.of hL1) (Ai (j:=0) rfl) ?_)));refine xq1 rfl ⟨1,rfl,L,(xq1 rfl ⟨SqL.of hL1,λSL hSL=>?_⟩)⟩;have ecut:Uk ((c::ar).map V.int) (some 1) none=ar.map V.int:=by
     obtain⟨x1,x2,x3,x4,x5,x6,x7,x8,rfl⟩:=Zy ar h8;rfl
    rw[ecut];generalize dN:upd H1 SL _=H2;obtain⟨s2,hS2⟩:=alc hSL dN;have hj2:=hj1.same s2;refine⟨pr,SL,_,r,c,ar,rfl,hj2.ru,hj2.rok.rok,hS2,λH3 s3=>?_⟩;have hj3:=hj2.same s3;have s03:=(s1.trans s2).trans s3;have bst:=ZF hj.rok (sts c C3) ar;refine⟨g.p,_,rfl,bst.1,bst.2,?_⟩;refine xq1 rfl (xq1 rfl (xq5 hj3.hp T.cl_Jumps T.na_Jumps_known_cells (Zj _ _ _ _ _) (xq1 rfl ⟨m.kc,(xq1 rfl ⟨Lx.t (k:=kOf (c::ar)) (s03 _ _ c1) (s03 _ _ htk) (F4 (show kc.length<=9000000 by lia) A4),?_⟩)⟩)));refine xq1 rfl (k _ (λb o e n=>by rw[Au n];exact s03 _ _ e) (hj3.putC (C7 (FZ _ _ _) A0) λks v hv=>?_));rw[IP]at hv;split at hv
    ·rename_i y;rw[JC y];cases hv;exact⟨c,ar,rfl,rfl⟩
    ·exact c3 ks v hv
end
def FrC(g:GA)(m:MA)(H H':Hp):Prop:=∀b o,H b=some o->b≠g.lv->b≠g.pt->b≠g.nm->b≠m.kc->H' b=some o
theorem FrC.trans{g:GA}{m:MA}{H1 H2 H3:Hp}(h:FrC g m H1 H2)(k:FrC g m H2 H3):FrC g m H1 H3:=λb o e n1 n2 n3 n4=>k _ _ (h _ _ e n1 n2 n3 n4) n1 n2 n3 n4
theorem FrC.j{g:GA}{m:MA}{H1 H2:Hp}(h:FrC g m H1 H2):FrJ g m H1 H2:=λb o e n1 n2 n3 n4 _=>h _ _ e n1 n2 n3 n4
theorem Fr.c{g:GA}{m:MA}{H1 H2:Hp}(h:Fr g H1 H2):FrC g m H1 H2:=λb o e n1 n2 n3 _=>h _ _ e n1 n2 n3
def spNo:Sp:=λ_ _ _ _=>False
theorem AI.no{P:Program}{w:World}{K:PySem.W.Frag}{mg:Str->Option Value}{base:Heap}{CX:CXT}{k:Nat}{f:Addr}{fd:FuncData}{ps:List Str}:AI P w K mg base CX k f fd ps spNo :=
 ⟨λ_ _ _ _ h=>h.elim,λ_ _ _ _ _ _ _ _ _ _ _ _ _ h=>h.elim⟩
theorem bareJ{l:Nat}(h:l<=48):((Da 48).map V.int)[l]?=some (.int (bareN l:Int)):=by
 unfold Da;rw[B8,B8,P8 A0];rfl
section
variable{P:Program}{w:World}{K:PySem.W.Frag}{mg:Str->Option Value}{base:Heap}{a:Ad}
theorem tretl {ts:TA} {D:Ml} {σ:St} {H:Hp} (h:ts σ H λxs H1=>xs.length<=sizeLine/\∀p,H1 p=none->D.rt (.ref p) (upd H1 p (.lst xs))):tRet (tLst ts) D σ H:=h
theorem FR {ta:TE} {tr:TA} {σ:St} {H:Hp} {Q:List V->Hp->Prop} (h:ta σ H λx H1=>tr σ H1 λxs H2=>Q (x::xs) H2):CD ta tr σ H Q:=h
theorem ixt{K:PySem.W.Frag}{σ:St}{i:Nat}{H:Hp}{t:Addr}{xs:List V}{j:Int}{v:V}{Q:VK}(r:σ[i]?=some (some (.ref t)))(h:H t=some (.tup xs))(e:atI xs j=some v)(k:Q v H):tOp (JK K) (GC i) (tC (V.int j)) σ H Q:=⟨_,r,t,xs,j,v,rfl,rfl,SqT.of h,e,k⟩
theorem ixp{K:PySem.W.Frag}{H:Hp}{p t:Addr}{ts:List Addr}{n:Nat}{Q:VK}(h:H p=some (.lst (ts.map V.ref)))(e:ts[n]?=some t)(k:Q (.ref t) H):rIxL K (.ref p) (.int n) H Q:=⟨p,_,n,_,rfl,rfl,SqL.of h,Ai (by rw[B8,e];rfl),k⟩
structure Ln(a:Ad)(g:GA)(H0:Hp)(G0:Gv)(j:Nat)(H:Hp)(G:Gv):Prop where
 fr:Fr g H0 H
 kt:∀{b:Addr}{xs:List V},H0 b=some (.tup xs)->H b=some (.tup xs)
 gr:AJ a H g G
 go:AH G0 G j
theorem lnk{a:Ad}{H0 H:Hp}{g:GA}{G0 G:Gv}{j:Nat}{u:Addr}{x y z w:Nat}{l:Int}{Q:VK}(s:Ln a g H0 G0 j H G)(hu:H u=none)(lv:Ak G0 x l/\Ak G0 y l/\Ak G0 z l/\Ak G0 w l)(h47:l<=47)(few:G0.length+j<9000000)
  (k:∀(n:Nat)(G':Gv)(H':Hp),Ln a g H0 G0 (j+1) H' G'->AH G G' 1->G'[n]?=some ⟨[(x:Int),(y:Int),(z:Int),(w:Int)],l+1⟩->Q (.int n) H'):Ur a [.ref g.p,.ref u] (upd H u (.tup [.int x,.int y,.int z,.int w])) Q:=by
 generalize e_1:upd H u _=H1;obtain⟨s1,h1⟩:=alc hu e_1;have i1:=s.gr.same s1;have lf:=s.go.few;refine⟨g,G,u,x,y,z,w,l,rfl,i1,s.go.ok,h1,⟨s.go.lev lv.1,s.go.lev lv.2.1,s.go.lev lv.2.2.1,s.go.lev lv.2.2.2⟩,h47,by lia,λn G' H' fr hg go e=>k n G' H' ⟨s.fr.trans ((Ay.fr s1).trans fr),λ{b xs} e=>?_,hg,s.go.trans go⟩ go e⟩;obtain⟨us,q3,_⟩:=i1.pt;have e':=s1 _ _ (s.kt e);exact fr _ _ e' (AE e' i1.lv A3) (AE e' q3 A3) (AE e' i1.nm A3)
theorem ttup {ts:TA} {σ:St} {H:Hp} {Q:VK} (h:ts σ H λxs H1=>xs.length<=sizeLine/\∀p,H1 p=none->Q (.ref p) (upd H1 p (.tup xs))):WN ts σ H Q:=h
theorem al9{P:Int->Prop}{a b c d e f g h i:Int}(ha:P a)(hb:P b)(hc:P c)(hd:P d)(he:P e)(hf:P f)(hg:P g)(hh:P h)(hi:P i):∀x∈[a,b,c,d,e,f,g,h,i],P x:=by
 intro x hx;simp only[C1,D9,X7]at hx;rcases hx with rfl|rfl|rfl|rfl|rfl|rfl|rfl|rfl|rfl<;>assumption
structure Lc(g:GA)(m:MA)(H0 H:Hp):Prop where
 fr:FrC g m H0 H
 kt:∀{b:Addr}{xs:List V},H0 b=some (.tup xs)->H b=some (.tup xs)
theorem celT{a:Ad}{H0 H:Hp}{g:GA}{G:Gv}{N M:Nat}{p dx mem pr u:Addr}{r:AD}{m:MA}{c:Int}{ar:List Int}{Q:VK}(hj:JW a H g G N M p dx mem pr r m)(lc:Lc g m H0 H)(hu:H u=none)(sts:∀x∈c::ar,IJ x)(hl:ar.length=8)(hM:M<9000000)
  (h:∀(k:Nat)(Y:Hp),CZ r c ar=k->k<8->Lc g m H0 Y->JW a Y g G N (M+1) p dx mem pr r m->Q (.int k) Y):ZY a [.ref p,.ref u] (upd H u (.tup ((c::ar).map V.int))) Q:=by
 generalize e_1:upd H u _=X;obtain⟨s,hv⟩:=alc hu e_1;have i:=hj.same s;refine⟨p,dx,mem,pr,u,g,G,N,M,r,m,c,ar,rfl,i,hv,hl,sts,hM,λY fr hj'=>?_⟩;obtain⟨z1,z2⟩:=ZF hj.rok (sts c (.head ..)) ar;obtain⟨k,e⟩:=F7 z1;rw[e];refine h k Y e A0 ⟨lc.fr.trans λb o e _ _ _ n4=>fr _ _ (s _ _ e) n4,λ{b xs} e=>?_⟩ hj';obtain⟨kc,c1,_⟩:=i.me.ce;have e:=s _ _ (lc.kt e);exact fr _ _ e (AE e c1 A3)
theorem cel9{K:PySem.W.Frag}{a:Ad}{H0 H:Hp}{g:GA}{G:Gv}{N M:Nat}{p dx mem pr:Addr}{r:AD}{m:MA}{σ:St}{Q:VK}{i1 i2 i3 i4 i5 i6 i7 i8 i9:Nat}{t1 t2 t3 t4 t5 t6 t7 t8 t9:Addr}{xs1 xs2 xs3 xs4 xs5 xs6 xs7 xs8 xs9:List V}{j1 j2 j3 j4 j5 j6 j7 j8 j9 c1 c2 c3 c4 c5 c6 c7 c8 c9:Int}(hj:JW a H g G N M p dx mem pr r m)(lc:Lc g m H0 H)(h1:H0 t1=some (.tup xs1))(h2:H0 t2=some (.tup xs2))(h3:H0 t3=some (.tup xs3))(h4:H0 t4=some (.tup xs4))(h5:H0 t5=some (.tup xs5))(h6:H0 t6=some (.tup xs6))(h7:H0 t7=some (.tup xs7))(h8:H0 t8=some (.tup xs8))(h9:H0 t9=some (.tup xs9))(sts:∀x∈[c1,c2,c3,c4,c5,c6,c7,c8,c9],IJ x)(hM:M<9000000)
  (k:∀(k:Nat)(Y:Hp),CZ r c1 [c2,c3,c4,c5,c6,c7,c8,c9]=k->k<8->Lc g m H0 Y->JW a Y g G N (M+1) p dx mem pr r m->Q (.int k) Y) (e:σ[0]?=some (some (.ref p))/\(σ[i1]?=some (some (.ref t1))/\atI xs1 j1=some (.int c1))/\(σ[i2]?=some (some (.ref t2))/\atI xs2 j2=some (.int c2))/\(σ[i3]?=some (some (.ref t3))/\atI xs3 j3=some (.int c3))/\(σ[i4]?=some (some (.ref t4))/\atI xs4 j4=some (.int c4))/\(σ[i5]?=some (some (.ref t5))/\atI xs5 j5=some (.int c5))/\(σ[i6]?=some (some (.ref t6))/\atI xs6 j6=some (.int c6))/\(σ[i7]?=some (some (.ref t7))/\atI xs7 j7=some (.int c7))/\(σ[i8]?=some (some (.ref t8))/\atI xs8 j8=some (.int c8))/\(σ[i9]?=some (some (.ref t9))/\atI xs9 j9=some (.int c9)):=by exact⟨rfl,⟨rfl,rfl⟩,⟨rfl,rfl⟩,⟨rfl,rfl⟩,⟨rfl,rfl⟩,⟨rfl,rfl⟩,⟨rfl,rfl⟩,⟨rfl,rfl⟩,⟨rfl,rfl⟩,⟨rfl,rfl⟩⟩) :
  Uz a.c_Jumps "cell_after" (UL a) [] E0 (GC 0) (CD (WN (CD (tOp (JK K) (GC i1) (tC (V.int j1))) (CD (tOp (JK K) (GC i2) (tC (V.int j2))) (CD (tOp (JK K) (GC i3) (tC (V.int j3))) (CD (tOp (JK K) (GC i4) (tC (V.int j4))) (CD (tOp (JK K) (GC i5) (tC (V.int j5))) (CD (tOp (JK K) (GC i6) (tC (V.int j6))) (CD (tOp (JK K) (GC i7) (tC (V.int j7))) (CD (tOp (JK K) (GC i8) (tC (V.int j8))) (CD (tOp (JK K) (GC i9) (tC (V.int j9))) OZ)))))))))) OZ) σ H Q:=by
 apply AZ;intro G_ hG_;obtain⟨r0,⟨r1,e1⟩,⟨r2,e2⟩,⟨r3,e3⟩,⟨r4,e4⟩,⟨r5,e5⟩,⟨r6,e6⟩,⟨r7,e7⟩,⟨r8,e8⟩,⟨r9,e9⟩⟩:=e;apply hG_;clear hG_ G_;exact⟨_,r0,(xq3 rfl hj.hp (YM _ _ _ _ _) (ixt r1 (lc.kt h1) e1 (ixt r2 (lc.kt h2) e2 (ixt r3 (lc.kt h3) e3 (ixt r4 (lc.kt h4) e4 (ixt r5 (lc.kt h5) e5 (ixt r6 (lc.kt h6) e6 (ixt r7 (lc.kt h7) e7 (ixt r8 (lc.kt h8) e8 (ixt r9 (lc.kt h9) e9 ⟨(by show 9<=sizeLine;decide),λ_ hu=>celT hj lc hu sts rfl hM k⟩))))))))))⟩
inductive ZQ(a:Ad)(vs:List V)(H:Hp)(Q:VK):Prop
 |mk (p dx mem pr:Addr) (g:GA) (G:Gv) (N M:Nat) (r:AD) (m:MA) (n:Nat) (_:vs=[.ref p,.int n]) (_:JW a H g G N M p dx mem pr r m) (_:Ak G n ((1+1:Nat):Int)) (_:M<8500000) (_:G.length<8000000) (_:∀(k:Nat)(G':Gv)(H':Hp),FrC g m H H'->JW a H' g G' N (M+4) p dx mem pr r m->AH G G' 1->JR r G' 0 n k->Q (.int k) H'):ZQ a vs H Q
def Qw(a:Ad):Sp:=λvs H Q _=>ZQ a vs H Q
theorem ok_mid2{f:Addr}{fd:FuncData}(F:Fun K "middle_after" "Jumps.middle_after" CT f fd)(T:Top K mg a)(a6:BO P w K mg base CX0 2 a.c_Grove "linked" AQ (DK a))(aF:BO P w K mg base CX0 6 a.c_Jumps "cell_after" Dy (UL a)):AI P w K mg base CX0 7 f fd BZ (Qw a):=by
 refine F.ok Bg (λvs H Q E h=>?_) (λcdv A outer s H vs Q E hr h=>?_)
 ·apply AZ;intro G_ hG_;obtain⟨p,dx,mem,pr,g,G,N,M,r,m,n,rfl,_⟩:=h;apply hG_;clear hG_ G_;rfl
 ·apply AZ;intro G_ hG_;obtain⟨p,dx,mem,pr,g,G,N,M,r,m,n,rfl,hj,hl,fewM,few,k⟩:=h;obtain⟨qa,qb,qc,qd,en,la,lb,lc,ld⟩:=hj.ok.four hl;obtain⟨a0,a1,a2,a3,ea,la0,la1,la2,la3⟩:=hj.ok.four (l:=0) la;obtain⟨b0,b1,b2,b3,eb,lb0,lb1,lb2,lb3⟩:=hj.ok.four (l:=0) lb;obtain⟨c0,c1,c2,c3,ec,lc0,lc1,lc2,lc3⟩:=hj.ok.four (l:=0) lc;obtain⟨d0,d1,d2,d3,ed,ld0,ld1,ld2,ld3⟩:=hj.ok.four (l:=0) ld;obtain⟨ts,h3,h4⟩:=hj.gr.pt;obtain⟨t,et,ht⟩:=PairedM.get h4 en;obtain⟨ta,eta,hta⟩:=PairedM.get h4 ea;obtain⟨tb,etb,htb⟩:=PairedM.get h4 eb;obtain⟨tc,etc,htc⟩:=PairedM.get h4 ec;obtain⟨td,etd,htd⟩:=PairedM.get h4 ed;apply hG_;clear hG_ G_;refine⟨_,(Ac (Aq (i:=2) Bg.nd rfl (Or.inl rfl) (Aj Ax (AB (AB (pv 0) rfl) rfl) (pv 1) (λ_ _=>rfl))) (Ac (Aq (i:=3) Bg.nd rfl (Or.inl rfl) (Aj Ax (AB (AB (pv 0) rfl) rfl) (Aj An (pv 2) Ae (λ_ _=>rfl)) (λ_ _=>rfl))) (Ac (Aq (i:=4) Bg.nd rfl (Or.inl rfl) (Aj Ax (AB (AB (pv 0) rfl) rfl) (Aj An (pv 2) Ae (λ_ _=>rfl)) (λ_ _=>rfl))) (Ac (Aq (i:=5) Bg.nd rfl (Or.inl rfl) (Aj Ax (AB (AB (pv 0) rfl) rfl) (Aj An (pv 2) Ae (λ_ _=>rfl)) (λ_ _=>rfl))) (Ac (Aq (i:=6) Bg.nd rfl (Or.inl rfl) (Aj Ax (AB (AB (pv 0) rfl) rfl) (Aj An (pv 2) Ae (λ_ _=>rfl)) (λ_ _=>rfl))) (Ag (Av (AF (AB (pv 0) rfl) a6 (rm hr) Am (BB (Aa (AF (pv 0) aF (rm hr) Am (BB (Aa (Aj An (pv 3) Ae (λ_ _=>rfl)) (Aa (Aj An (pv 3) Ae (λ_ _=>rfl)) (Aa (Aj An (pv 3) Ae (λ_ _=>rfl)) (Aa (Aj An (pv 4) Ae (λ_ _=>rfl)) (Aa (Aj An (pv 3) Ae (λ_ _=>rfl)) (Aa (Aj An (pv 4) Ae (λ_ _=>rfl)) (Aa (Aj An (pv 5) Ae (λ_ _=>rfl)) (Aa (Aj An (pv 5) Ae (λ_ _=>rfl)) (Aa (Aj An (pv 6) Ae (λ_ _=>rfl)) Ab))))))))) Ab)) (Aa (AF (pv 0) aF (rm hr) Am (BB (Aa (Aj An (pv 4) Ae (λ_ _=>rfl)) (Aa (Aj An (pv 3) Ae (λ_ _=>rfl)) (Aa (Aj An (pv 4) Ae (λ_ _=>rfl)) (Aa (Aj An (pv 4) Ae (λ_ _=>rfl)) (Aa (Aj An (pv 3) Ae (λ_ _=>rfl)) (Aa (Aj An (pv 4) Ae (λ_ _=>rfl)) (Aa (Aj An (pv 5) Ae (λ_ _=>rfl)) (Aa (Aj An (pv 6) Ae (λ_ _=>rfl)) (Aa (Aj An (pv 6) Ae (λ_ _=>rfl)) Ab))))))))) Ab)) (Aa (AF (pv 0) aF (rm hr) Am (BB (Aa (Aj An (pv 5) Ae (λ_ _=>rfl)) (Aa (Aj An (pv 3) Ae (λ_ _=>rfl)) (Aa (Aj An (pv 3) Ae (λ_ _=>rfl)) (Aa (Aj An (pv 4) Ae (λ_ _=>rfl)) (Aa (Aj An (pv 5) Ae (λ_ _=>rfl)) (Aa (Aj An (pv 6) Ae (λ_ _=>rfl)) (Aa (Aj An (pv 5) Ae (λ_ _=>rfl)) (Aa (Aj An (pv 5) Ae (λ_ _=>rfl)) (Aa (Aj An (pv 6) Ae (λ_ _=>rfl)) Ab))))))))) Ab)) (Aa (AF (pv 0) aF (rm hr) Am (BB (Aa (Aj An (pv 6) Ae (λ_ _=>rfl)) (Aa (Aj An (pv 3) Ae (λ_ _=>rfl)) (Aa (Aj An (pv 4) Ae (λ_ _=>rfl)) (Aa (Aj An (pv 4) Ae (λ_ _=>rfl)) (Aa (Aj An (pv 5) Ae (λ_ _=>rfl)) (Aa (Aj An (pv 6) Ae (λ_ _=>rfl)) (Aa (Aj An (pv 5) Ae (λ_ _=>rfl)) (Aa (Aj An (pv 6) Ae (λ_ _=>rfl)) (Aa (Aj An (pv 6) Ae (λ_ _=>rfl)) Ab))))))))) Ab)) Ab)))) Ab))))))))),?_⟩
  try dsimp only[cxK]
  refine BM ?_;intro r_k0 s_k0 k0 hk E_k0;refine xwf rfl rfl hj.hp T.cl_Jumps T.na_Jumps_grove (Eb _ _ _ _ _) (xq5 hj.gr.hp T.cl_Grove T.na_Grove_parts (Cf g) (xq1 rfl (ixp h3 et ?_)));refine hk ?_;refine BM ?_;intro r_k1 s_k1 k1 hk E_k1;refine xwf rfl rfl hj.hp T.cl_Jumps T.na_Jumps_grove (Eb _ _ _ _ _) (xq5 hj.gr.hp T.cl_Grove T.na_Grove_parts (Cf g) (ixt rfl ht rfl (ixp h3 eta ?_)));refine hk ?_;refine BM ?_;intro r_k2 s_k2 k2 hk E_k2;refine xwf rfl rfl hj.hp T.cl_Jumps T.na_Jumps_grove (Eb _ _ _ _ _) (xq5 hj.gr.hp T.cl_Grove T.na_Grove_parts (Cf g) (ixt rfl ht rfl (ixp h3 etb ?_)));refine hk ?_;refine BM ?_;intro r_k3 s_k3 k3 hk E_k3;refine xwf rfl rfl hj.hp T.cl_Jumps T.na_Jumps_grove (Eb _ _ _ _ _) (xq5 hj.gr.hp T.cl_Grove T.na_Grove_parts (Cf g) (ixt rfl ht rfl (ixp h3 etc ?_)));refine hk ?_;refine BM ?_;intro r_k4 s_k4 k4 hk E_k4;refine xwf rfl rfl hj.hp T.cl_Jumps T.na_Jumps_grove (Eb _ _ _ _ _) (xq5 hj.gr.hp T.cl_Grove T.na_Grove_parts (Cf g) (ixt rfl ht rfl (ixp h3 etd ?_)));refine hk ?_;have st:∀{x:Nat},Ak G x ((0:Nat):Int)->IJ (x:Int):=λ{x} h=>by
   have:=hj.ok.cell h;exact⟨by lia,by lia⟩
  have c_:Lc g m H H:=⟨λ_ _ e _ _ _ _=>e,λe=>e⟩
  refine xwf rfl rfl hj.hp T.cl_Jumps T.na_Jumps_grove (Eb _ _ _ _ _) (xq3 rfl hj.gr.hp (BK g) ?_);refine FR (ttup (FR (cel9 hj c_ hta hta hta htb hta htb htc htc htd (al9 (st la3) (st la0) (st la1) (st lb0) (st la2) (st lb2) (st lc0) (st lc1) (st ld0)) A0 λk0 Y0 ek0 kl0 x0 j0=>?_)));refine FR (cel9 j0 x0 htb hta htb htb hta htb htc htd htd (al9 (st lb2) (st la1) (st lb0) (st lb1) (st la3) (st lb3) (st lc1) (st ld0) (st ld1)) A0 λk1 Y1 ek1 kl1 x1 j1=>?_);refine FR (cel9 j1 x1 htc hta hta htb htc htd htc htc htd (al9 (st lc1) (st la2) (st la3) (st lb2) (st lc0) (st ld0) (st lc2) (st lc3) (st ld2)) A0 λk2 Y2 ek2 kl2 x2 j2=>?_);refine FR (cel9 j2 x2 htd hta htb htb htc htd htc htd htd (al9 (st ld0) (st la3) (st lb2) (st lb3) (st lc1) (st ld1) (st lc3) (st ld2) (st ld3)) A0 λk3 Y3 ek3 kl3 x3 j3=>?_);have lf:∀{k:Nat},k<8->Ak G k ((0:Nat):Int):=λ{k} h=>⟨_,hj.ok.leaf k h,rfl⟩
  refine⟨(by show 4<=sizeLine;decide),λu hu=>lnk (⟨.refl _ _,λe=>e,j3.gr,.refl hj.ok⟩:Ln a g Y3 G 0 Y3 G) hu ⟨lf kl0,lf kl1,lf kl2,lf kl3⟩ A4 A0 λx G' H' s go e=>?_⟩;refine k x G' H' (x3.fr.trans (Fr.c s.fr)) (j3.fr s.fr s.gr go) go ⟨0,go.lev hl,C0 0,⟨_,e,rfl⟩,?_⟩;apply AZ;intro G_ hG_;obtain⟨rfl,rfl,rfl,rfl⟩:=Ee (go.get ea);obtain⟨rfl,rfl,rfl,rfl⟩:=Ee (go.get eb);obtain⟨rfl,rfl,rfl,rfl⟩:=Ee (go.get ec);obtain⟨rfl,rfl,rfl,rfl⟩:=Ee (go.get ed);obtain⟨rfl,rfl,rfl,rfl⟩:=Ee (go.get en);obtain⟨rfl,rfl,rfl,rfl⟩:=Ee e;apply hG_;clear hG_ G_;intro x' y' hx hy
  match x',hx,y',hy with
  |0,_,0,_=>exact ek0.symm
  |1,_,0,_=>exact ek1.symm
  |0,_,1,_=>exact ek2.symm
  |1,_,1,_=>exact ek3.symm
inductive SpCj(a:Ad)(vs:List V)(H:Hp)(Q:VK):Prop
 |mk (p dx gp mem pr l kc:Addr) (g:GA) (G:Gv) (n e:Nat) (q:Sq) (_:vs=[.ref p,.int n,.int e]) (_:H p=some (.ins a.c_Jumps dx (jf5 g.p mem pr l kc))) (_:AJ a H g G) (_:G[n]?=some q) (_:2+(e:Int)<=q.lev) (_:Q .non H):SpCj a vs H Q
def spCj(a:Ad):Sp:=λvs H Q _=>SpCj a vs H Q
theorem ok_cj{f:Addr}{fd:FuncData}(F:Fun K "check_jump" "Jumps.check_jump" Dv f fd)(T:Top K mg a)(a7:BO P w K mg base CX0 3 a.c_Grove "level_of" AY (LA a))(aJ:Cal P w K mg base CX0 1 "is_whole" Eo VM):AI P w K mg base CX0 4 f fd Dx (spCj a):=by
 refine F.ok ER (λvs H Q E h=>?_) (λcdv A outer s H vs Q E hr h=>?_)
 ·apply AZ;intro G_ hG_;obtain⟨p,dx,gp,mem,pr,l,kc,g,G,n,e,q,rfl,_⟩:=h;apply hG_;clear hG_ G_;rfl
 ·apply AZ;intro G_ hG_;obtain⟨p,dx,gp,mem,pr,l,kc,g,G,n,e,q,rfl,hp,hg,eq,hl,k⟩:=h;apply hG_;clear hG_ G_;refine⟨_,(Ac (Aq (i:=3) ER.nd rfl (Or.inl rfl) (AF (AB (pv 0) rfl) a7 (rm hr) Am (Aa (pv 1) Ab))) (Ac (AM (Az IH (pv 3) (BY rfl T.k_LEAST_JUMPED) (AG _)) (Ag Bm) AC) (Ag (AM (PW.pt (MZ (El (Dw (Ar aJ (rm hr) rfl Am (Aa (pv 2) Ab)))) (Lj (El (Sf LQ LQ Ae (pv 2) (AA Cw (pv 3) (BY rfl T.k_LEAST_JUMPED))))))) (Ag Bm) AC)))),?_⟩
  try dsimp only[cxK]
  refine xwf rfl rfl hp T.cl_Jumps T.na_Jumps_grove (Eb _ _ _ _ _) (xq3 rfl hg.hp (CV g) (xq1 rfl ⟨g,G,n,q,rfl,hg,eq,?_⟩));refine xwb rfl rfl rfl (xq1 rfl ?_);rw[Z0 (by lia:¬q.lev<2)];refine Bo ?_;refine⟨_,rfl,_,rfl,true,rfl,Bo ⟨_,rfl,_,_,rfl,rfl,_,rfl,?_⟩⟩;rw[Y5 (by lia:(0:Int)<=(e:Int))];refine Ce (xwb rfl rfl rfl (xq2 rfl rfl (xq1 rfl ?_)));rw[Y5 (by lia:(e:Int)<=q.lev-2)];exact Bo k
end
end J
namespace J
open PySem L2
theorem Rp(G:Gv):∀(l n x y i j:Nat),cel G l n (x+2^l*i) (y+2^l*j)=cel G l n x y
 |0,n,x,y,i,j=>rfl
 |l+1,n,x,y,i,j=>by
  show cel G l (qO G n (((x+2^(l+1)*i)/2^l)%2+2*(((y+2^(l+1)*j)/2^l)%2))) (x+2^(l+1)*i) (y+2^(l+1)*j)=cel G l (qO G n ((x/2^l)%2+2*((y/2^l)%2))) x y;have p:0<2^l:=T9 A4;have e:∀i:Nat,2^(l+1)*i=2^l*(2*i):=λi=>by rw[J3,Nat.mul_assoc]
  rw[e i,e j,N8 _ _ p,N8 _ _ p,P5,P5];exact Rp G l _ x y (2*i) (2*j)
theorem OV(G:Gv)(l n:Nat){x y i j:Nat}(hx:x<2^l)(hy:y<2^l)(hi:i<2)(hj:j<2):Co G (l+1) n (x+2^l*i) (y+2^l*j)=Co G l (qO G n (i+2*j)) x y:=by
 unfold Co;show((cel G l (qO G n (((x+2^l*i)/2^l)%2+2*(((y+2^l*j)/2^l)%2))) (x+2^l*i) (y+2^l*j):Nat):Int)=_;have p:0<2^l:=T9 A4;rw[N8 _ _ p,N8 _ _ p,N5 hx,N5 hy,N1,N1,O4 hi,O4 hj,Rp]
theorem RK(r:AD)(c:Nat->Nat->Int)(n:Nat):∀m,Bk r (m+n) c=Bk r m (Bk r n c)
 |0=>by rw[N1];rfl
 |m+1=>by
  rw[show m+1+n=(m+n)+1 by lia];show stp r (Bk r (m+n) c)=stp r (Bk r m (Bk r n c));rw[RK r c n m]
theorem RJ(r:AD){c d:Nat->Nat->Int}{X Y:Nat}:∀(k x y:Nat),k<=x->k<=y->(∀u v,x-k<=u->u<=x+k->y-k<=v->v<=y+k->c u v=d (u+X) (v+Y))->Bk r k c x y=Bk r k d (x+X) (y+Y)
 |0,x,y,_,_,h=>h x y A0 A0 A0 A0
 |k+1,x,y,hx,hy,h=>by
  have ih:∀u v,x-1<=u->u<=x+1->y-1<=v->v<=y+1->Bk r k c u v=Bk r k d (u+X) (v+Y):=λu v h1 h2 h3 h4=>RJ r k u v A0 A0 λa b q1 q2 q3 q4=>h a b A0 A0 A0 A0;show CZ r (Bk r k c x y) [Bk r k c (x-1) (y-1),Bk r k c x (y-1),Bk r k c (x+1) (y-1),Bk r k c (x-1) y,Bk r k c (x+1) y,Bk r k c (x-1) (y+1),Bk r k c x (y+1),Bk r k c (x+1) (y+1)]=CZ r (Bk r k d (x+X) (y+Y)) [Bk r k d (x+X-1) (y+Y-1),Bk r k d (x+X) (y+Y-1),Bk r k d (x+X+1) (y+Y-1),Bk r k d (x+X-1) (y+Y),Bk r k d (x+X+1) (y+Y),Bk r k d (x+X-1) (y+Y+1),Bk r k d (x+X) (y+Y+1),Bk r k d (x+X+1) (y+Y+1)];rw[ih x y A0 A0 A0 A0,ih (x-1) (y-1) A0 A0 A0 A0,ih x (y-1) A0 A0 A0 A0,ih (x+1) (y-1) A0 A0 A0 A0,ih (x-1) y A0 A0 A0 A0,ih (x+1) y A0 A0 A0 A0,ih (x-1) (y+1) A0 A0 A0 A0,ih x (y+1) A0 A0 A0 A0,ih (x+1) (y+1) A0 A0 A0 A0];rw[show x-1+X=x+X-1 by lia,show y-1+Y=y+Y-1 by lia,show x+1+X=x+X+1 by lia,show y+1+Y=y+Y+1 by lia]
def Vw(G:Gv)(c:Nat->Nat->Int)(l m X Y:Nat):Prop:=∀x y,x<2^l->y<2^l->Co G l m x y=c (x+X) (y+Y)
theorem Vw.q{G:Gv}{c:Nat->Nat->Int}{l m X Y i j:Nat}(h:Vw G c (l+1) m X Y)(hi:i<2)(hj:j<2):Vw G c l (qO G m (i+2*j)) (X+2^l*i) (Y+2^l*j):=λx y hx hy=>by
 rw[<-OV G l m hx hy hi hj,h _ _ ?_ ?_]
 ·rw[show x+2^l*i+X=x+(X+2^l*i) by lia,show y+2^l*j+Y=y+(Y+2^l*j) by lia]
 ·rw[J3];have:2^l*i<=2^l*1:=L9 _ A0;lia
 ·rw[J3];have:2^l*j<=2^l*1:=L9 _ A0;lia
theorem Vw.of{G:Gv}{c:Nat->Nat->Int}{l m X Y:Nat}(h0:Vw G c l (qO G m 0) X Y)(h1:Vw G c l (qO G m 1) (X+2^l) Y)(h2:Vw G c l (qO G m 2) X (Y+2^l))(h3:Vw G c l (qO G m 3) (X+2^l) (Y+2^l)):Vw G c (l+1) m X Y:=λx y hx hy=>by
 rw[J3]at hx hy;by_cases zx:x<2^l
 ·by_cases zy:y<2^l
  ·have:=OV G l m zx zy (i:=0) (j:=0) A4 A4;rw[show x+2^l*0=x by lia,show y+2^l*0=y by lia]at this;rw[this];exact h0 x y zx zy
  ·have:=OV G l m zx (y:=y-2^l) A0 (i:=0) (j:=1) A4 A4;rw[show x+2^l*0=x by lia,show y-2^l+2^l*1=y by lia]at this;rw[this,h2 x (y-2^l) zx A0,show y-2^l+(Y+2^l)=y+Y by lia]
 ·by_cases zy:y<2^l
  ·have:=OV G l m (x:=x-2^l) A0 zy (i:=1) (j:=0) A4 A4;rw[show y+2^l*0=y by lia,show x-2^l+2^l*1=x by lia]at this;rw[this,h1 (x-2^l) y A0 zy,show x-2^l+(X+2^l)=x+X by lia]
  ·have:=OV G l m (x:=x-2^l) (y:=y-2^l) A0 A0 (i:=1) (j:=1) A4 A4;rw[show x-2^l+2^l*1=x by lia,show y-2^l+2^l*1=y by lia]at this;rw[this,h3 (x-2^l) (y-2^l) A0 A0,show x-2^l+(X+2^l)=x+X by lia,show y-2^l+(Y+2^l)=y+Y by lia]
theorem Vw.jump{G:Gv}{r:AD}{c:Nat->Nat->Int}{l e m k X Y:Nat}(h:Vw G c (l+2) m X Y)(he:e<=l)(j:∀x y,x<2^(l+1)->y<2^(l+1)->Co G (l+1) k x y=Bk r (2^e) (Co G (l+2) m) (x+2^l) (y+2^l)):Vw G (Bk r (2^e) c) (l+1) k (X+2^l) (Y+2^l):=λx y hx hy=>by
 have p:2^e<=2^l:=N7 A4 he;have p1:2^(l+1)=2^l*2:=J3 ..;have p2:2^(l+2)=2^l*2*2:=by rw[J3,J3]
 rw[j x y hx hy,RJ r (X:=X) (Y:=Y) (2^e) (x+2^l) (y+2^l) A0 A0 λu v h1 h2 h3 h4=>h u v A0 A0];rw[show x+2^l+X=x+(X+2^l) by lia,show y+2^l+Y=y+(Y+2^l) by lia]
seal L2.PA L2.PE L2.PS L2.PSs L2.PT L2.PW
theorem Vw.at'{G:Gv}{c:Nat->Nat->Int}{l m X Y X' Y':Nat}(h:Vw G c l m X Y)(e1:X=X')(e2:Y=Y'):Vw G c l m X' Y':=by
 subst e1;subst e2;exact h
theorem Vw.goes{G G':Gv}{c:Nat->Nat->Int}{l m X Y i:Nat}(h:Vw G c l m X Y)(ok:GOk G)(go:AH G G' i)(lv:Ak G m (l:Int)):Vw G' c l m X Y:=λx y hx hy=>by
 rw[CK ok go lv];exact h x y hx hy
section
variable{P:Program}{w:World}{K:PySem.W.Frag}{mg:Str->Option Value}{base:Heap}{a:Ad}
inductive ZP(a:Ad)(vs:List V)(H:Hp)(Q:VK):Prop
 |mk (g:GA) (G:Gv) (n l:Nat) (_:vs=[.ref g.p,.int n]) (_:AJ a H g G) (_:GOk G) (_:Ak G n ((l+1+1:Nat):Int)) (_:l<=46) (_:G.length<8000000) (_:∀(L:Addr)(ks:List Nat)(G':Gv)(H':Hp),Fr g H H'->AJ a H' g G'->AH G G' 5->H' L=some (.lst (ks.map λ(k:Nat)=>V.int (k:Int)))->ks.length=9->(∀i j,i<3->j<3->∃k,ks[i+3*j]?=some k/\Ak G' k ((l+1:Nat):Int)/\Vw G' (Co G (l+2) n) (l+1) k (2^l*i) (2^l*j))->Q (.ref L) H'):ZP a vs H Q
def NX(a:Ad):Sp:=λvs H Q _=>ZP a vs H Q
theorem YX{K:PySem.W.Frag}{a:Ad}{H0 H:Hp}{g:GA}{G0 G:Gv}{j:Nat}{σ:St}{i1 i2 i3 i4:Nat}{t1 t2 t3 t4:Addr}{xs1 xs2 xs3 xs4:List V}{j1 j2 j3 j4:Int}{x y z w:Nat}{l:Int}{Q:VK}(s:Ln a g H0 G0 j H G)(h1:H0 t1=some (.tup xs1))(h2:H0 t2=some (.tup xs2))(h3:H0 t3=some (.tup xs3))(h4:H0 t4=some (.tup xs4))(lv:Ak G0 x l/\Ak G0 y l/\Ak G0 z l/\Ak G0 w l)(few:l<=47/\G0.length+j<9000000)
  (k:∀(n:Nat)(G':Gv)(H':Hp),Ln a g H0 G0 (j+1) H' G'->AH G G' 1->G'[n]?=some ⟨[(x:Int),(y:Int),(z:Int),(w:Int)],l+1⟩->Q (.int n) H') (e:(σ[0]?=some (some (.ref g.p))/\σ[i1]?=some (some (.ref t1))/\σ[i2]?=some (some (.ref t2))/\σ[i3]?=some (some (.ref t3))/\σ[i4]?=some (some (.ref t4)))/\atI xs1 j1=some (.int x)/\atI xs2 j2=some (.int y)/\atI xs3 j3=some (.int z)/\atI xs4 j4=some (.int w):=by exact⟨⟨rfl,rfl,rfl,rfl,rfl⟩,rfl,rfl,rfl,rfl⟩):Uz a.c_Grove "linked" (DK a) [] E0 (GC 0) (CD (WN (CD (tOp (JK K) (GC i1) (tC (V.int j1))) (CD (tOp (JK K) (GC i2) (tC (V.int j2))) (CD (tOp (JK K) (GC i3) (tC (V.int j3))) (CD (tOp (JK K) (GC i4) (tC (V.int j4))) OZ))))) OZ) σ H Q:=by
 apply AZ;intro G_ hG_;obtain⟨⟨r,r1,r2,r3,r4⟩,e1,e2,e3,e4⟩:=e;apply hG_;clear hG_ G_;exact⟨_,r,(xq3 rfl s.gr.hp (BK g) (ixt r1 (s.kt h1) e1 (ixt r2 (s.kt h2) e2 (ixt r3 (s.kt h3) e3 (ixt r4 (s.kt h4) e4 ⟨(by show 4<=sizeLine;decide),λ_ hu=>lnk s hu lv few.1 few.2 k⟩)))))⟩
theorem vw4{G:Gv}{c:Nat->Nat->Int}{l m x y z w X Y:Nat}{lv:Int}(e:G[m]?=some ⟨[(x:Int),(y:Int),(z:Int),(w:Int)],lv⟩)(h0:Vw G c l x (2^l*X) (2^l*Y))(h1:Vw G c l y (2^l*(X+1)) (2^l*Y))(h2:Vw G c l z (2^l*X) (2^l*(Y+1)))(h3:Vw G c l w (2^l*(X+1)) (2^l*(Y+1))):Vw G c (l+1) m (2^l*X) (2^l*Y):=by
 apply AZ;intro G_ hG_;obtain⟨rfl,rfl,rfl,rfl⟩:=Ee e;apply hG_;clear hG_ G_;exact .of h0 h1 h2 h3
theorem vwQ{G:Gv}{c:Nat->Nat->Int}{l m x y z w X Y:Nat}{lv:Int}(e:G[m]?=some ⟨[(x:Int),(y:Int),(z:Int),(w:Int)],lv⟩)(v:Vw G c (l+1) m (2^l*X) (2^l*Y)):Vw G c l x (2^l*X) (2^l*Y)/\Vw G c l y (2^l*(X+1)) (2^l*Y)/\Vw G c l z (2^l*X) (2^l*(Y+1))/\Vw G c l w (2^l*(X+1)) (2^l*(Y+1)):=by
 apply AZ;intro G_ hG_;obtain⟨rfl,rfl,rfl,rfl⟩:=Ee e;apply hG_;clear hG_ G_;exact⟨v.q (i:=0) (j:=0) A4 A4,(v.q (i:=1) (j:=0) A4 A4).at' A0 rfl,(v.q (i:=0) (j:=1) A4 A4).at' rfl A0,(v.q (i:=1) (j:=1) A4 A4).at' A0 A0⟩
theorem ok_nine{f:Addr}{fd:FuncData}(F:Fun K "nine_parts" "nine_parts" GT f fd)(T:Top K mg a)(a6:BO P w K mg base CX0 2 a.c_Grove "linked" AQ (DK a)):AI P w K mg base CX0 3 f fd DZ (NX a):=by
 refine F.ok CH (λvs H Q E h=>?_) (λcdv A outer s H vs Q E hr h=>?_)
 ·apply AZ;intro G_ hG_;obtain⟨g,G,n,l,rfl,_⟩:=h;apply hG_;clear hG_ G_;rfl
 ·apply AZ;intro G_ hG_;obtain⟨g,G,n,l,rfl,hg,ok,hl,l46,few,k⟩:=h;obtain⟨qa,qb,qc,qd,en,la,lb,lc,ld⟩:=ok.four hl;obtain⟨a0,a1,a2,a3,ea,la0,la1,la2,la3⟩:=ok.four la;obtain⟨b0,b1,b2,b3,eb,lb0,lb1,lb2,lb3⟩:=ok.four lb;obtain⟨c0,c1,c2,c3,ec,lc0,lc1,lc2,lc3⟩:=ok.four lc;obtain⟨d0,d1,d2,d3,ed,ld0,ld1,ld2,ld3⟩:=ok.four ld;obtain⟨ts,h3,h4⟩:=hg.pt;obtain⟨t,et,ht⟩:=PairedM.get h4 en;obtain⟨ta,eta,hta⟩:=PairedM.get h4 ea;obtain⟨tb,etb,htb⟩:=PairedM.get h4 eb;obtain⟨tc,etc,htc⟩:=PairedM.get h4 ec;obtain⟨td,etd,htd⟩:=PairedM.get h4 ed;apply hG_;clear hG_ G_;have s0:Ln a g H G 0 H G:=⟨.refl _ _,λe=>e,hg,.refl ok⟩
  refine⟨_,(Ac (Aq (i:=2) CH.nd rfl (Or.inl rfl) (Aj Ax (AB (pv 0) rfl) (pv 1) (λ_ _=>rfl))) (Ac (Aq (i:=3) CH.nd rfl (Or.inl rfl) (Aj Ax (AB (pv 0) rfl) (Aj An (pv 2) Ae (λ_ _=>rfl)) (λ_ _=>rfl))) (Ac (Aq (i:=4) CH.nd rfl (Or.inl rfl) (Aj Ax (AB (pv 0) rfl) (Aj An (pv 2) Ae (λ_ _=>rfl)) (λ_ _=>rfl))) (Ac (Aq (i:=5) CH.nd rfl (Or.inl rfl) (Aj Ax (AB (pv 0) rfl) (Aj An (pv 2) Ae (λ_ _=>rfl)) (λ_ _=>rfl))) (Ac (Aq (i:=6) CH.nd rfl (Or.inl rfl) (Aj Ax (AB (pv 0) rfl) (Aj An (pv 2) Ae (λ_ _=>rfl)) (λ_ _=>rfl))) (Ag (Av (Cm (Aa (Aj An (pv 2) Ae (λ_ _=>rfl)) (Aa (AF (pv 0) a6 (rm hr) Am (BB (Aa (Aj An (pv 3) Ae (λ_ _=>rfl)) (Aa (Aj An (pv 4) Ae (λ_ _=>rfl)) (Aa (Aj An (pv 3) Ae (λ_ _=>rfl)) (Aa (Aj An (pv 4) Ae (λ_ _=>rfl)) Ab)))) Ab)) (Aa (Aj An (pv 2) Ae (λ_ _=>rfl)) (Aa (AF (pv 0) a6 (rm hr) Am (BB (Aa (Aj An (pv 3) Ae (λ_ _=>rfl)) (Aa (Aj An (pv 3) Ae (λ_ _=>rfl)) (Aa (Aj An (pv 5) Ae (λ_ _=>rfl)) (Aa (Aj An (pv 5) Ae (λ_ _=>rfl)) Ab)))) Ab)) (Aa (AF (pv 0) a6 (rm hr) Am (BB (Aa (Aj An (pv 3) Ae (λ_ _=>rfl)) (Aa (Aj An (pv 4) Ae (λ_ _=>rfl)) (Aa (Aj An (pv 5) Ae (λ_ _=>rfl)) (Aa (Aj An (pv 6) Ae (λ_ _=>rfl)) Ab)))) Ab)) (Aa (AF (pv 0) a6 (rm hr) Am (BB (Aa (Aj An (pv 4) Ae (λ_ _=>rfl)) (Aa (Aj An (pv 4) Ae (λ_ _=>rfl)) (Aa (Aj An (pv 6) Ae (λ_ _=>rfl)) (Aa (Aj An (pv 6) Ae (λ_ _=>rfl)) Ab)))) Ab)) (Aa (Aj An (pv 2) Ae (λ_ _=>rfl)) (Aa (AF (pv 0) a6 (rm hr) Am (BB (Aa (Aj An (pv 5) Ae (λ_ _=>rfl)) (Aa (Aj An (pv 6) Ae (λ_ _=>rfl)) (Aa (Aj An (pv 5) Ae (λ_ _=>rfl)) (Aa (Aj An (pv 6) Ae (λ_ _=>rfl)) Ab)))) Ab)) (Aa (Aj An (pv 2) Ae (λ_ _=>rfl)) Ab))))))))))))))))),?_⟩
  try dsimp only[cxK]
  refine BM ?_;intro r_k0 s_k0 k0 hk E_k0;refine xwf rfl rfl hg.hp T.cl_Grove T.na_Grove_parts (Cf g) (xq1 rfl (ixp h3 et ?_));refine hk ?_;refine BM ?_;intro r_k1 s_k1 k1 hk E_k1;refine xwf rfl rfl hg.hp T.cl_Grove T.na_Grove_parts (Cf g) (ixt rfl ht rfl (ixp h3 eta ?_));refine hk ?_;refine BM ?_;intro r_k2 s_k2 k2 hk E_k2;refine xwf rfl rfl hg.hp T.cl_Grove T.na_Grove_parts (Cf g) (ixt rfl ht rfl (ixp h3 etb ?_));refine hk ?_;refine BM ?_;intro r_k3 s_k3 k3 hk E_k3;refine xwf rfl rfl hg.hp T.cl_Grove T.na_Grove_parts (Cf g) (ixt rfl ht rfl (ixp h3 etc ?_));refine hk ?_;refine BM ?_;intro r_k4 s_k4 k4 hk E_k4;refine xwf rfl rfl hg.hp T.cl_Grove T.na_Grove_parts (Cf g) (ixt rfl ht rfl (ixp h3 etd ?_));refine hk ?_;refine tretl (FR (ixt rfl (s0.kt ht) rfl (FR (YX s0 hta htb hta htb ⟨la1,lb0,la3,lb2⟩ ⟨by lia,by lia⟩ λm1 G1 H1 s1 go1 e1=>?_))));refine FR (ixt rfl (s1.kt ht) rfl (FR (YX s1 hta hta htc htc ⟨la2,la3,lc0,lc1⟩ ⟨by lia,by lia⟩ λm3 G3 H3 s3 go3 e3=>?_)));refine FR (YX s3 hta htb htc htd ⟨la3,lb2,lc1,ld0⟩ ⟨by lia,by lia⟩ λm4 G4 H4 s4 go4 e4=>?_);refine FR (YX s4 htb htb htd htd ⟨lb2,lb3,ld0,ld1⟩ ⟨by lia,by lia⟩ λm5 G5 H5 s5 go5 e5=>?_);refine FR (ixt rfl (s5.kt ht) rfl (FR (YX s5 htc htd htc htd ⟨lc1,ld0,lc3,ld2⟩ ⟨by lia,by lia⟩ λm7 G7 H7 s7 go7 e7=>?_)));refine FR (ixt rfl (s7.kt ht) rfl ⟨(by show 9<=sizeLine;decide),λL hL=>?_⟩);have gz:=s7.go;have sL:=Ao (o:=.lst (([qa,m1,qb,m3,m4,m5,qc,m7,qd]:List Nat).map λ(k:Nat)=>V.int (k:Int))) hL;refine k L [qa,m1,qb,m3,m4,m5,qc,m7,qd] G7 _ (s7.fr.trans (Ay.fr sL)) (s7.gr.same sL) gz Af rfl ?_;have v0:Vw G (Co G (l+2) n) (l+1+1) n (2^(l+1)*0) (2^(l+1)*0):=λx y _ _=>rfl;have p1:2^(l+1)=2^l*2:=J3 ..;apply AZ;intro G_ hG_;obtain⟨va,vb,vc,vd⟩:=vwQ (gz.get en) (v0.goes ok gz hl);apply hG_;clear hG_ G_;have va:=va.at' (X':=2^l*0) (Y':=2^l*0) A0 A0;have vb:=vb.at' (X':=2^l*2) (Y':=2^l*0) A0 A0;have vc:=vc.at' (X':=2^l*0) (Y':=2^l*2) A0 A0;have vd:=vd.at' (X':=2^l*2) (Y':=2^l*2) A0 A0;apply AZ;intro G_ hG_;obtain⟨va0,va1,va2,va3⟩:=vwQ (gz.get ea) va;obtain⟨vb0,vb1,vb2,vb3⟩:=vwQ (gz.get eb) vb;obtain⟨vc0,vc1,vc2,vc3⟩:=vwQ (gz.get ec) vc;obtain⟨vd0,vd1,vd2,vd3⟩:=vwQ (gz.get ed) vd;apply hG_;clear hG_ G_;have g5:=go7.get e5;have g4:=go7.get (go5.get e4);have g3:=go7.get (go5.get (go4.get e3));have g1:=go7.get (go5.get (go4.get (go3.get e1)));intro i j hi hj
  match i,hi,j,hj with
  |0,_,0,_=>exact⟨qa,rfl,gz.lev la,va⟩
  |1,_,0,_=>exact⟨m1,rfl,⟨_,g1,rfl⟩,vw4 g1 va1 vb0 va3 vb2⟩
  |2,_,0,_=>exact⟨qb,rfl,gz.lev lb,vb⟩
  |0,_,1,_=>exact⟨m3,rfl,⟨_,g3,rfl⟩,vw4 g3 va2 va3 vc0 vc1⟩
  |1,_,1,_=>exact⟨m4,rfl,⟨_,g4,rfl⟩,vw4 g4 va3 vb2 vc1 vd0⟩
  |2,_,1,_=>exact⟨m5,rfl,⟨_,g5,rfl⟩,vw4 g5 vb2 vb3 vd0 vd1⟩
  |0,_,2,_=>exact⟨qc,rfl,gz.lev lc,vc⟩
  |1,_,2,_=>exact⟨m7,rfl,⟨_,e7,rfl⟩,vw4 e7 vc1 vd0 vc3 vd2⟩
  |2,_,2,_=>exact⟨qd,rfl,gz.lev ld,vd⟩
inductive VA(vs:List V)(H:Hp)(Q:VK):Prop
 |mk (L:Addr) (k0 k1 k2 k3 k4 k5 k6 k7 k8:Nat) (_:vs=[.ref L]) (_:H L=some (.lst [.int k0,.int k1,.int k2,.int k3,.int k4,.int k5,.int k6,.int k7,.int k8])) (_:∀(M t0 t1 t2 t3:Addr)(H':Hp),Ay H H'->H' M=some (.lst [.ref t0,.ref t1,.ref t2,.ref t3])->H' t0=some (.tup [.int k0,.int k1,.int k3,.int k4])->H' t1=some (.tup [.int k1,.int k2,.int k4,.int k5])->H' t2=some (.tup [.int k3,.int k4,.int k6,.int k7])->H' t3=some (.tup [.int k4,.int k5,.int k7,.int k8])->Q (.ref M) H'):VA vs H Q
def LB:Sp:=λvs H Q _=>VA vs H Q
theorem YF{f:Addr}{fd:FuncData}(F:Fun K "fours_of" "fours_of" Ld f fd)(T:Top K mg a):AI P w K mg base CX0 1 f fd FD LB:=by
 refine F.ok RX (λvs H Q E h=>?_) (λcdv A outer s H vs Q E hr h=>?_)
 ·apply AZ;intro G_ hG_;obtain⟨L,k0,k1,k2,k3,k4,k5,k6,k7,k8,rfl,_⟩:=h;apply hG_;clear hG_ G_;rfl
 ·apply AZ;intro G_ hG_;obtain⟨L,k0,k1,k2,k3,k4,k5,k6,k7,k8,rfl,hL,k⟩:=h;apply hG_;clear hG_ G_;refine⟨_,(Ag (Av (Cm (BB (Aa (Aj Ax (pv 0) Ae (λ_ _=>rfl)) (Aa (Aj Ax (pv 0) Ae (λ_ _=>rfl)) (Aa (Aj Ax (pv 0) Ae (λ_ _=>rfl)) (Aa (Aj Ax (pv 0) Ae (λ_ _=>rfl)) Ab)))) (BB (Aa (Aj Ax (pv 0) Ae (λ_ _=>rfl)) (Aa (Aj Ax (pv 0) Ae (λ_ _=>rfl)) (Aa (Aj Ax (pv 0) Ae (λ_ _=>rfl)) (Aa (Aj Ax (pv 0) Ae (λ_ _=>rfl)) Ab)))) (BB (Aa (Aj Ax (pv 0) Ae (λ_ _=>rfl)) (Aa (Aj Ax (pv 0) Ae (λ_ _=>rfl)) (Aa (Aj Ax (pv 0) Ae (λ_ _=>rfl)) (Aa (Aj Ax (pv 0) Ae (λ_ _=>rfl)) Ab)))) (BB (Aa (Aj Ax (pv 0) Ae (λ_ _=>rfl)) (Aa (Aj Ax (pv 0) Ae (λ_ _=>rfl)) (Aa (Aj Ax (pv 0) Ae (λ_ _=>rfl)) (Aa (Aj Ax (pv 0) Ae (λ_ _=>rfl)) Ab)))) Ab))))))),?_⟩
  try dsimp only[cxK]
  refine xwi rfl rfl rfl (SqL.of hL) (Ai (j:=0) rfl) (xwi rfl rfl rfl (SqL.of hL) (Ai (j:=1) rfl) (xwi rfl rfl rfl (SqL.of hL) (Ai (j:=3) rfl) (xwi rfl rfl rfl (SqL.of hL) (Ai (j:=4) rfl) ⟨(by show 4<=sizeLine;decide),λt0 ht0=>?_⟩)));have s0:=Ao (o:=.tup [.int (k0:Int),.int (k1:Int),.int (k3:Int),.int (k4:Int)]) ht0;have h0:upd H t0 (.tup [.int (k0:Int),.int (k1:Int),.int (k3:Int),.int (k4:Int)]) t0=some (.tup [.int (k0:Int),.int (k1:Int),.int (k3:Int),.int (k4:Int)]):=Af;generalize hX0:upd H t0 (.tup [.int (k0:Int),.int (k1:Int),.int (k3:Int),.int (k4:Int)])=X0 at s0 h0;have hL0:=s0 _ _ hL
  first|rw[hX0]|(show ∃_,_;rw[hX0])|skip
  refine xwi rfl rfl rfl (SqL.of hL0) (Ai (j:=1) rfl) (xwi rfl rfl rfl (SqL.of hL0) (Ai (j:=2) rfl) (xwi rfl rfl rfl (SqL.of hL0) (Ai (j:=4) rfl) (xwi rfl rfl rfl (SqL.of hL0) (Ai (j:=5) rfl) ⟨(by show 4<=sizeLine;decide),λt1 ht1=>?_⟩)));have s1:=Ao (o:=.tup [.int (k1:Int),.int (k2:Int),.int (k4:Int),.int (k5:Int)]) ht1;have h1:upd X0 t1 (.tup [.int (k1:Int),.int (k2:Int),.int (k4:Int),.int (k5:Int)]) t1=some (.tup [.int (k1:Int),.int (k2:Int),.int (k4:Int),.int (k5:Int)]):=Af;generalize hX1:upd X0 t1 (.tup [.int (k1:Int),.int (k2:Int),.int (k4:Int),.int (k5:Int)])=X1 at s1 h1;have hL1:=s1 _ _ hL0
  first|rw[hX1]|(show ∃_,_;rw[hX1])|skip
  refine xwi rfl rfl rfl (SqL.of hL1) (Ai (j:=3) rfl) (xwi rfl rfl rfl (SqL.of hL1) (Ai (j:=4) rfl) (xwi rfl rfl rfl (SqL.of hL1) (Ai (j:=6) rfl) (xwi rfl rfl rfl (SqL.of hL1) (Ai (j:=7) rfl) ⟨(by show 4<=sizeLine;decide),λt2 ht2=>?_⟩)));have s2:=Ao (o:=.tup [.int (k3:Int),.int (k4:Int),.int (k6:Int),.int (k7:Int)]) ht2;have h2:upd X1 t2 (.tup [.int (k3:Int),.int (k4:Int),.int (k6:Int),.int (k7:Int)]) t2=some (.tup [.int (k3:Int),.int (k4:Int),.int (k6:Int),.int (k7:Int)]):=Af;generalize hX2:upd X1 t2 (.tup [.int (k3:Int),.int (k4:Int),.int (k6:Int),.int (k7:Int)])=X2 at s2 h2;have hL2:=s2 _ _ hL1
  first|rw[hX2]|(show ∃_,_;rw[hX2])|skip
  refine xwi rfl rfl rfl (SqL.of hL2) (Ai (j:=4) rfl) (xwi rfl rfl rfl (SqL.of hL2) (Ai (j:=5) rfl) (xwi rfl rfl rfl (SqL.of hL2) (Ai (j:=7) rfl) (xwi rfl rfl rfl (SqL.of hL2) (Ai (j:=8) rfl) ⟨(by show 4<=sizeLine;decide),λt3 ht3=>?_⟩)));have s3:=Ao (o:=.tup [.int (k4:Int),.int (k5:Int),.int (k7:Int),.int (k8:Int)]) ht3;have h3:upd X2 t3 (.tup [.int (k4:Int),.int (k5:Int),.int (k7:Int),.int (k8:Int)]) t3=some (.tup [.int (k4:Int),.int (k5:Int),.int (k7:Int),.int (k8:Int)]):=Af;generalize hX3:upd X2 t3 (.tup [.int (k4:Int),.int (k5:Int),.int (k7:Int),.int (k8:Int)])=X3 at s3 h3;have hL3:=s3 _ _ hL2
  first|rw[hX3]|(show ∃_,_;rw[hX3])|skip
  refine⟨(by show 4<=sizeLine;decide),λM hM=>?_⟩;have s4:=Ao (o:=.lst [.ref t0,.ref t1,.ref t2,.ref t3]) hM;exact k M t0 t1 t2 t3 _ ((((s0.trans s1).trans s2).trans s3).trans s4) Af (s4 _ _ (s3 _ _ (s2 _ _ (s1 _ _ h0)))) (s4 _ _ (s3 _ _ (s2 _ _ h1))) (s4 _ _ (s3 _ _ h2)) (s4 _ _ h3)
inductive SpMet(a:Ad)(vs:List V)(H:Hp)(Q:VK):Prop
 |mk (g:GA) (G:Gv) (t:Addr) (f0 f1 f2 f3 l:Nat) (_:vs=[.ref g.p,.ref t]) (_:AJ a H g G) (_:GOk G) (_:H t=some (.tup [.int f0,.int f1,.int f2,.int f3])) (_:Ak G f0 ((l+1:Nat):Int)/\Ak G f1 ((l+1:Nat):Int)/\Ak G f2 ((l+1:Nat):Int)/\Ak G f3 ((l+1:Nat):Int)) (_:l<=47) (_:G.length<9000000) (_:∀(k:Nat)(G':Gv)(H':Hp),Fr g H H'->AJ a H' g G'->AH G G' 1->G'[k]?=some ⟨[((qO G f0 3:Nat):Int),((qO G f1 2:Nat):Int),((qO G f2 1:Nat):Int),((qO G f3 0:Nat):Int)],(l:Int)+1⟩->Q (.int k) H'):SpMet a vs H Q
def UI(a:Ad):Sp:=λvs H Q _=>SpMet a vs H Q
theorem ok_met{f:Addr}{fd:FuncData}(F:Fun K "met_in_the_middle" "met_in_the_middle" Dg f fd)(T:Top K mg a)(a6:BO P w K mg base CX0 2 a.c_Grove "linked" AQ (DK a)):AI P w K mg base CX0 3 f fd Cj (UI a):=by
 refine F.ok EC (λvs H Q E h=>?_) (λcdv A outer s H vs Q E hr h=>?_)
 ·apply AZ;intro G_ hG_;obtain⟨g,G,t,f0,f1,f2,f3,l,rfl,_⟩:=h;apply hG_;clear hG_ G_;rfl
 ·apply AZ;intro G_ hG_;obtain⟨g,G,t,f0,f1,f2,f3,l,rfl,hg,ok,ht,⟨l0,l1,l2,l3⟩,h47,few,k⟩:=h;obtain⟨ts,h3,h4⟩:=hg.pt;obtain⟨x00,x01,x02,x03,e0,m00,m01,m02,m03⟩:=ok.four l0;obtain⟨u0,eu0,hu0⟩:=PairedM.get h4 e0;obtain⟨y00,y01,y02,y03⟩:=Ee e0;obtain⟨x10,x11,x12,x13,e1,m10,m11,m12,m13⟩:=ok.four l1;obtain⟨u1,eu1,hu1⟩:=PairedM.get h4 e1;obtain⟨y10,y11,y12,y13⟩:=Ee e1;obtain⟨x20,x21,x22,x23,e2,m20,m21,m22,m23⟩:=ok.four l2;obtain⟨u2,eu2,hu2⟩:=PairedM.get h4 e2;obtain⟨y20,y21,y22,y23⟩:=Ee e2;obtain⟨x30,x31,x32,x33,e3,m30,m31,m32,m33⟩:=ok.four l3;obtain⟨u3,eu3,hu3⟩:=PairedM.get h4 e3;obtain⟨y30,y31,y32,y33⟩:=Ee e3;apply hG_;clear hG_ G_;rw[y03,y12,y21,y30]at k;refine⟨_,(Ac (Aq (i:=2) EC.nd rfl (Or.inl rfl) (AB (pv 0) rfl)) (Ag (Av (AF (pv 0) a6 (rm hr) Am (BB (Aa (Aj An (Aj Ax (pv 2) (Aj An (pv 1) Ae (λ_ _=>rfl)) (λ_ _=>rfl)) Ae (λ_ _=>rfl)) (Aa (Aj An (Aj Ax (pv 2) (Aj An (pv 1) Ae (λ_ _=>rfl)) (λ_ _=>rfl)) Ae (λ_ _=>rfl)) (Aa (Aj An (Aj Ax (pv 2) (Aj An (pv 1) Ae (λ_ _=>rfl)) (λ_ _=>rfl)) Ae (λ_ _=>rfl)) (Aa (Aj An (Aj Ax (pv 2) (Aj An (pv 1) Ae (λ_ _=>rfl)) (λ_ _=>rfl)) Ae (λ_ _=>rfl)) Ab)))) Ab))))),?_⟩
  try dsimp only[cxK]
  refine xwf rfl rfl hg.hp T.cl_Grove T.na_Grove_parts (Cf g) ?_;refine xwn rfl rfl hg.hp (BK g) rfl (xwi rfl rfl rfl (SqT.of ht) (Ai (j:=0) rfl) (xq4 rfl rfl (SqL.of h3) (Ai (by rw[B8,eu0];rfl)) (xq4 rfl rfl (SqT.of hu0) (Ai (j:=3) rfl) (xwj rfl rfl rfl rfl (SqT.of ht) (Ai (j:=1) rfl) (xq4 rfl rfl (SqL.of h3) (Ai (by rw[B8,eu1];rfl)) (xq4 rfl rfl (SqT.of hu1) (Ai (j:=2) rfl) (xwj rfl rfl rfl rfl (SqT.of ht) (Ai (j:=2) rfl) (xq4 rfl rfl (SqL.of h3) (Ai (by rw[B8,eu2];rfl)) (xq4 rfl rfl (SqT.of hu2) (Ai (j:=1) rfl) (xwj rfl rfl rfl rfl (SqT.of ht) (Ai (j:=3) rfl) (xq4 rfl rfl (SqL.of h3) (Ai (by rw[B8,eu3];rfl)) (xq4 rfl rfl (SqT.of hu3) (Ai (j:=0) rfl) ⟨(by show 4<=sizeLine;decide),λu hu=>?_⟩))))))))))));have s1:=Ao (o:=.tup [.int (x03:Int),.int (x12:Int),.int (x21:Int),.int (x30:Int)]) hu;exact⟨g,G,u,x03,x12,x21,x30,(l:Int),rfl,hg.same s1,ok,Af,⟨m03,m12,m21,m30⟩,by lia,few,λn G' H' fr hg' go e=>k n G' H' ((Ay.fr s1).trans fr) hg' go e⟩
end
end J
namespace J
open PySem L2
def Sv(o:HO):Prop:=Nv o\/∃xs:List V,o=.lst xs/\xs.length<=50
def KpS(H H':Hp):Prop:=∀b o,H b=some o->Sv o->H' b=some o
theorem Sv.lst{xs:List V}(h:xs.length<=50):Sv (.lst xs):=.inr ⟨xs,rfl,h⟩
theorem Bs.long{G:Gv}(h:Bs G):56<=G.length:=(B7.mp (h 47 A4)).1
theorem Sv.nl{b x:Addr}{H:Hp}{o:HO}{xs:List V}(s:Sv o)(e:H b=some o)(ex:H x=some (.lst xs))(lx:50<xs.length):b≠x:=λz=>by
 rw[z,ex]at e;cases e;rcases s with s|⟨ys,ey,ly⟩
 ·cases s
 ·cases ey;lia
theorem Sv.nt{b x:Addr}{H:Hp}{o:HO}{k:List (List Key×V)}(s:Sv o)(e:H b=some o)(ex:H x=some (.dT k)):b≠x:=λz=>by
 rw[z,ex]at e;cases e;rcases s with s|⟨ys,ey,ly⟩
 ·cases s
 ·cases ey
theorem Sv.nk{b x:Addr}{H:Hp}{o:HO}{k:List (Key×V)}(s:Sv o)(e:H b=some o)(ex:H x=some (.dK k)):b≠x:=λz=>by
 rw[z,ex]at e;cases e;rcases s with s|⟨ys,ey,ly⟩
 ·cases s
 ·cases ey
theorem Fr.kps{a:Ad}{H H':Hp}{g:GA}{G:Gv}(f:Fr g H H')(hg:AJ a H g G)(l56:56<=G.length):KpS H H':=by
 intro b o e s;obtain⟨ts,h3,h4⟩:=hg.pt;have lt:ts.length=G.length:=Z7 h4;exact f _ _ e (s.nl e hg.lv (by rw[B6];lia)) (s.nl e h3 (by rw[B6];lia)) (s.nt e hg.nm)
theorem FrJ.kps{a:Ad}{H H':Hp}{g:GA}{G:Gv}{N M:Nat}{r:AD}{m:MA}(f:FrJ g m H H')(hg:AJ a H g G)(l56:56<=G.length)(hm:IO H g G N M r m):KpS H H':=by
 intro b o e s;obtain⟨ts,h3,h4⟩:=hg.pt;obtain⟨kc,c1,_⟩:=hm.ce;have lt:ts.length=G.length:=Z7 h4;refine f _ _ e (s.nl e hg.lv (by rw[B6];lia)) (s.nl e h3 (by rw[B6];lia)) (s.nt e hg.nm) (s.nt e c1) λz=>?_;obtain⟨j,hj⟩:=J9 z;obtain⟨kv,e2,_⟩:=hm.sq j b hj;exact s.nk e e2 rfl
theorem Vp{G:Gv}(ok:GOk G):∀(l:Nat){n m:Nat},Ak G n (l:Int)->Ak G m (l:Int)->(∀x y,x<2^l->y<2^l->Co G l n x y=Co G l m x y)->n=m
 |0,n,m,_,_,h=>Z4 (h 0 0 A4 A4)
 |l+1,n,m,hn,hm,h=>by
  have part:∀i j,i<2->j<2->qO G n (i+2*j)=qO G m (i+2*j):=λi j hi hj=>by
   refine Vp ok l (Li ok hn A0) (Li ok hm A0) λx y hx hy=>?_;rw[<-OV G l n hx hy hi hj,<-OV G l m hx hy hi hj];have bi:2^l*i<=2^l*1:=L9 _ A0;have bj:2^l*j<=2^l*1:=L9 _ A0;exact h _ _ (by rw[J3];lia) (by rw[J3];lia)
  obtain⟨x,y,z,w,e,_⟩:=ok.four hn;obtain⟨x',y',z',w',e',_⟩:=ok.four hm;obtain⟨a0,a1,a2,a3⟩:=Ee e;obtain⟨b0,b1,b2,b3⟩:=Ee e';have p0:=part 0 0 A4 A4;have p1:=part 1 0 A4 A4;have p2:=part 0 1 A4 A4;have p3:=part 1 1 A4 A4;have p0:x=x':=a0.symm.trans (p0.trans b0);have p1:y=y':=a1.symm.trans (p1.trans b1);have p2:z=z':=a2.symm.trans (p2.trans b2);have p3:w=w':=a3.symm.trans (p3.trans b3);refine ok.one e e' ?_;rw[p0,p1,p2,p3]
abbrev Sht:=Nat->Nat->Int
abbrev KTy:=Nat->Nat->Sht->Prop
def WC(l:Nat)(φ ψ:Sht):Prop:=∀x y,x<2^(l+2)->y<2^(l+2)->φ x y=ψ x y
def s47(f:Nat->Nat):Nat:=((List.range 47).map f).sum
theorem UB(f:Nat->Nat)(e:Nat):∀l:List Nat,l.Nodup->(l.map λi=>if i=e then f i+1 else f i).sum=(l.map f).sum+if e∈l then 1 else 0
 |[],_=>by simp
 |a::l,h=>by
  rw[M4]at h;rw[F5,F5,O3,O3,UB f e l h.2];by_cases z:a=e
  ·subst z;rw[Y7 rfl,Y4 h.1,Y7 C3];lia
  ·rw[Y4 z];by_cases y:e∈l
   ·rw[Y7 y,Y7 (C2 _ y)];lia
   ·rw[Y4 y,Y4 (λq=>by rcases C1.mp q with rfl|q;exact z rfl;exact y q)];lia
theorem UQ(f:Nat->Nat){e:Nat}(h:e<47):s47 (λi=>if i=e then f i+1 else f i)=s47 f+1:=by
 unfold s47;rw[UB f e _ List.nodup_range,Y7 (L7.mpr h)]
theorem Rg{α β:Type}(R:α->β->Prop)(inj:∀x x' y,R x y->R x' y->x=x'):∀(l:List β)(ks:List α),ks.Nodup->(∀k∈ks,∃y∈l,R k y)->ks.length<=l.length
 |[],ks,_,h=>by
  cases ks with
  |nil=>exact C0 _
  |cons k ks=>obtain⟨y,hy,_⟩:=h k C3;cases hy
 |y::l,ks,nd,h=>by
  classical
  have ih:=Rg R inj l (ks.filter λk=>decide (¬R k y)) (nd.sublist List.filter_sublist) λk hk=>by
   rw[V3,decide_eq_true_iff]at hk;obtain⟨z,hz,rz⟩:=h k hk.1;rcases C1.mp hz with rfl|hz
   ·exact absurd rz hk.2
   ·exact⟨z,hz,rz⟩
  have few:∀ks:List α,ks.Nodup->ks.length<=(ks.filter λk=>decide (¬R k y)).length+1:=by
   intro ks;induction ks with
   |nil=>intro _;exact J8 _
   |cons k ks ih2 =>
    intro nd2;rw[M4]at nd2;by_cases z:R k y
    ·have:ks.filter (λk=>decide (¬R k y))=ks:=List.filter_eq_self.mpr λx hx=>Y5 λq=>nd2.1 (by rw[inj k x y z q];exact hx);rw[List.filter_cons_of_neg (by simp[z]),this,D8];exact C0 _
    ·rw[List.filter_cons_of_pos (by simp[z]),D8,D8];have:=ih2 nd2.2;lia
  have:=few ks nd;rw[D8];lia
structure Jv(Κ:KTy)(N:Nat):Prop where
 ls:∃M:Nat->Nat,s47 M<=N/\∀e,∃Ls:List (Nat×Sht),Ls.length<=M e/\∀l φ,Κ l e φ->∃ψ,(l,ψ)∈Ls/\WC l φ ψ
 ext:∀{l e φ ψ},Κ l e φ->WC l φ ψ->Κ l e ψ
theorem UC(f:Nat->Nat):∀(l:List Nat){e:Nat},e∈l->f e<=(l.map f).sum
 |a::l,e,h=>by
  rw[F5,O3];rcases C1.mp h with rfl|h
  ·exact U3 _ _
  ·exact C7 (UC f l h) (Nat.le_add_left _ _)
theorem RH{f g:Nat->Nat}:∀{l:List Nat},(∀e∈l,f e<=g e)->(l.map f).sum<=(l.map g).sum
 |[],_=>C0 _
 |a::l,h=>by
  have:=RH (l:=l) λe he=>h e (C2 _ he);have:=h a C3;rw[F5,O3,F5,O3];lia
structure Cn(H:Hp)(G:Gv)(m:MA)(Κ:KTy)(b:Nat)(f:Nat->Nat):Prop where
 sq:∀(e:Nat) d,m.ds[e]?=some d->∃kv,H d=some (.dK kv)/\kv.length=f e/\(kv.map (·.1)).Nodup/\∀k∈kv.map (·.1),∃n l:Nat,k=Sum.inl (n:Int)/\Ak G n ((l+2:Nat):Int)/\Κ l e (Co G (l+2) n)
 gl:G.length<=b+10*s47 f
 ce:∃kc,H m.kc=some (.dT kc)/\kc.length<=b+10*s47 f
theorem Cn.few'{H:Hp}{G:Gv}{m:MA}{Κ:KTy}{b:Nat}{f M:Nat->Nat}(h:Cn H G m Κ b f)(ok:GOk G)(fin:∀e,∃Ls:List (Nat×Sht),Ls.length<=M e/\∀l φ,Κ l e φ->∃ψ,(l,ψ)∈Ls/\WC l φ ψ)(len:m.ds.length=47){e:Nat}(he:e<47):f e<=M e:=by
 have e47:e<m.ds.length:=by rw[len];exact he
 obtain⟨kv,_,h2,h3,h4⟩:=h.sq e (m.ds[e]'e47) (C5 _);obtain⟨Ls,l1,l2⟩:=fin e;refine C7 ?_ l1;rw[<-h2,<-B6 (f:=(·.1)) (as:=kv)];refine Rg (λ(k:Key)(q:Nat×Sht)=>∃n:Nat,k=Sum.inl (n:Int)/\Ak G n ((q.1+2:Nat):Int)/\WC q.1 (Co G (q.1+2) n) q.2) ?_ Ls _ h3 λk hk=>?_
 ·rintro x x' ⟨l,ψ⟩ ⟨n,rfl,a1,a2⟩ ⟨n',rfl,b1,b2⟩;rw[Vp ok _ a1 b1 λx y hx hy=>(a2 x y hx hy).trans (b2 x y hx hy).symm]
 ·obtain⟨n,l,rfl,a1,a2⟩:=h4 k hk;obtain⟨ψ,m1,m2⟩:=l2 l _ a2;exact⟨_,m1,n,rfl,a1,m2⟩
theorem Cn.sum{H:Hp}{G:Gv}{m:MA}{Κ:KTy}{b N:Nat}{f:Nat->Nat}(h:Cn H G m Κ b f)(ok:GOk G)(fin:Jv Κ N)(len:m.ds.length=47):s47 f<=N:=by
 obtain⟨M,h1,h2⟩:=fin.ls;exact C7 (RH λe he=>h.few' ok h2 len (L7.mp he)) h1
theorem Cn.few{H:Hp}{G:Gv}{m:MA}{Κ:KTy}{b N:Nat}{f:Nat->Nat}(h:Cn H G m Κ b f)(ok:GOk G)(fin:Jv Κ N)(len:m.ds.length=47){e:Nat}(he:e<47):f e<=N:=C7 (UC f _ (L7.mpr he)) (h.sum ok fin len)
theorem Cn.mono{H:Hp}{G:Gv}{m:MA}{Κ:KTy}{b b':Nat}{f:Nat->Nat}(h:Cn H G m Κ b f)(e:b<=b'):Cn H G m Κ b' f:=by
 obtain⟨kc,h1,h2⟩:=h.ce;have:=h.gl;exact⟨h.sq,by lia,kc,h1,by lia⟩
theorem Cn.kp{H H':Hp}{G G':Gv}{m:MA}{Κ:KTy}{b i:Nat}{f:Nat->Nat}(h:Cn H G m Κ b f)(ok:GOk G)(go:AH G G' i)(k1:∀d∈m.ds,∀o,H d=some o->H' d=some o)(k2:∀kc,H m.kc=some (.dT kc)->∃kc',H' m.kc=some (.dT kc')/\kc'.length<=kc.length+i):Cn H' G' m Κ (b+i) f:=by
 refine⟨λe d ed=>?_,?_,?_⟩
 ·obtain⟨kv,h1,h2,h3,h4⟩:=h.sq e d ed;refine⟨kv,k1 d (C9 ed) _ h1,h2,h3,λk hk=>?_⟩;obtain⟨n,l,e1,e2,e3⟩:=h4 k hk;exact⟨n,l,e1,go.lev e2,by rw[CK ok go e2];exact e3⟩
 ·have:=h.gl;have:=go.few;lia
 ·obtain⟨kc,h1,h2⟩:=h.ce;obtain⟨kc',h3,h4⟩:=k2 kc h1;exact⟨kc',h3,by lia⟩
structure JZ(a:Ad)(H:Hp)(g:GA)(G:Gv)(Κ:KTy)(N b:Nat)(p dx mem pr:Addr)(r:AD)(m:MA):Prop where
 jw:JW a H g G N (b+10*N) p dx mem pr r m
 cn:∃f,Cn H G m Κ b f
section
variable{a:Ad}{H H':Hp}{g:GA}{G G':Gv}{Κ:KTy}{N b i:Nat}{p dx mem pr:Addr}{r:AD}{m:MA}
theorem JZ.sz(h:JZ a H g G Κ N b p dx mem pr r m)(fin:Jv Κ N):G.length<=b+10*N:=by
 obtain⟨f,c⟩:=h.cn;have:=c.gl;have:=c.sum h.jw.ok fin h.jw.me.len;lia
theorem JZ.mono{b':Nat}(h:JZ a H g G Κ N b p dx mem pr r m)(e:b<=b'):JZ a H g G Κ N b' p dx mem pr r m:=by
 obtain⟨f,c⟩:=h.cn;exact⟨h.jw.mono (C0 _) A0,f,c.mono e⟩
theorem JZ.same(h:JZ a H g G Κ N b p dx mem pr r m)(s:Ay H H'):JZ a H' g G Κ N b p dx mem pr r m:=by
 obtain⟨f,c⟩:=h.cn;exact⟨JW.same s h.jw,f,c.kp (i:=0) h.jw.ok (AH.refl h.jw.ok) (λd _ o e=>s _ _ e) λkc e=>⟨kc,s _ _ e,C0 _⟩⟩
theorem JZ.fr(h:JZ a H g G Κ N b p dx mem pr r m)(f:Fr g H H')(hg':AJ a H' g G')(go:AH G G' i):JZ a H' g G' Κ N (b+i) p dx mem pr r m:=by
 obtain⟨f',c⟩:=h.cn;obtain⟨ts,h3,_⟩:=h.jw.gr.pt;refine⟨(h.jw.fr f hg' go).mono (C0 _) A0,f',c.kp h.jw.ok go (λd hd o e=>?_) λkc e=>⟨kc,?_,by lia⟩⟩
 ·obtain⟨j,hj⟩:=J9 hd;obtain⟨kv,e2,_⟩:=c.sq j d hj;rw[e]at e2;cases e2;exact f _ _ e (AE e h.jw.gr.lv A3) (AE e h3 A3) (AE e h.jw.gr.nm A3)
 ·exact f _ _ e (AE e h.jw.gr.lv A3) (AE e h3 A3) h.jw.me.ap.2.2
def No(H:Hp)(m:MA)(e n:Nat):Prop:=∀d kv,m.ds[e]?=some d->H d=some (.dK kv)->Br kv (Sum.inl (n:Int))=none
def Up(l:Nat)(G:Gv)(H H':Hp)(m:MA):Prop:=∀e n l':Nat,Ak G n ((l'+2:Nat):Int)->l<=l'->No H m e n->No H' m e n
theorem Up.refl(l:Nat)(G:Gv)(H:Hp)(m:MA):Up l G H H m:=λ_ _ _ _ _ h=>h
theorem Up.trans{l:Nat}{H1 H2 H3:Hp}(h:Up l G H1 H2 m)(k:Up l G' H2 H3 m)(go:AH G G' i):Up l G H1 H3 m:=λe n l' a1 a2 a3=>k e n l' (go.lev a1) a2 (h e n l' a1 a2 a3)
theorem Up.mono{l l2:Nat}(h:Up l G H H' m)(e:l<=l2):Up l2 G H H' m:=λe' n l' a1 a2 a3=>h e' n l' a1 (C7 e a2) a3
theorem Up.of(l:Nat){N M:Nat}(hm:IO H g G N M r m)(k:∀d∈m.ds,∀o,H d=some o->H' d=some o):Up l G H H' m:=λe n l' _ _ h d kv ed hd=>by
 obtain⟨kv',e2,_⟩:=hm.sq e d ed;have:=k d (C9 ed) _ e2;rw[hd]at this;cases this;exact h d _ ed e2
theorem JZ.upS(l:Nat)(h:JZ a H g G Κ N b p dx mem pr r m)(s:Ay H H'):Up l G H H' m:=Up.of l h.jw.me λd _ o e=>s _ _ e
theorem JZ.upF(l:Nat)(h:JZ a H g G Κ N b p dx mem pr r m)(f:Fr g H H'):Up l G H H' m:=Up.of l h.jw.me λd hd o e=>by
 obtain⟨ts,h3,_⟩:=h.jw.gr.pt;obtain⟨j,hj⟩:=J9 hd;obtain⟨kv,e2,_⟩:=h.jw.me.sq j d hj;rw[e]at e2;cases e2;exact f _ _ e (AE e h.jw.gr.lv A3) (AE e h3 A3) (AE e h.jw.gr.nm A3)
theorem JW.tc{M:Nat}{kc:List (List Key×V)}(h:JW a H g G N M p dx mem pr r m)(hk:H m.kc=some (.dT kc)):JW a H g G N kc.length p dx mem pr r m:=by
 obtain⟨kc',c1,_,c3⟩:=h.me.ce;rw[hk]at c1;cases c1;exact⟨h.gr,h.ok,h.bs,h.br,h.nbr,h.hp,h.ru,h.rok,h.rest,⟨h.me.tp,h.me.l,h.me.ap,h.me.len,h.me.nd,h.me.sq,_,hk,C0 _,c3⟩⟩
theorem JZ.mid{f:Nat->Nat}{kc:List (List Key×V)}(h:JZ a H g G Κ N b p dx mem pr r m)(c:Cn H G m Κ b f)(hk:H m.kc=some (.dT kc))(fr:FrC g m H H')(hj:JW a H' g G' N (kc.length+4) p dx mem pr r m)(go:AH G G' 1):JZ a H' g G' Κ N (b+4) p dx mem pr r m/\∀l,Up l G H H' m:=by
 obtain⟨ts,h3,_⟩:=h.jw.gr.pt;have kd:∀d∈m.ds,∀o,H d=some o->H' d=some o:=λd hd o e=>by
  obtain⟨j,hj⟩:=J9 hd;obtain⟨kv,e2,_⟩:=h.jw.me.sq j d hj;rw[e]at e2;cases e2;exact fr _ _ e (AE e h.jw.gr.lv A3) (AE e h3 A3) (AE e h.jw.gr.nm A3) (AE e hk A3)
 obtain⟨kc',c1,c2,c3⟩:=hj.me.ce;obtain⟨kc2,d1,d2,_⟩:=h.jw.me.ce;rw[hk]at d1;cases d1;have me:=hj.me;refine⟨⟨⟨hj.gr,hj.ok,hj.bs,hj.br,hj.nbr,hj.hp,hj.ru,hj.rok,hj.rest,⟨me.tp,me.l,me.ap,me.len,me.nd,me.sq,kc',c1,by lia,c3⟩⟩,f,c.kp (i:=4) h.jw.ok (go.mono A4) kd λkc2 e=>⟨kc',c1,by rw[hk]at e;cases e;exact c2⟩⟩,λl=>Up.of l h.jw.me kd⟩
theorem JZ.put{e n k l:Nat}{d:Addr}{kv:List (Key×V)}(h:JZ a H g G Κ N (b+10) p dx mem pr r m)(fin:Jv Κ N)(ed:m.ds[e]?=some d)(hd:H d=some (.dK kv))(no:Br kv (Sum.inl (n:Int))=none)(lv:Ak G n ((l+2:Nat):Int))(hk:Κ l e (Co G (l+2) n))(jr:JR r G e n k):JZ a (upd H d (.dK (DI kv (Sum.inl (n:Int)) (.int (k:Int))))) g G Κ N b p dx mem pr r m/\Up (l+1) G H (upd H d (.dK (DI kv (Sum.inl (n:Int)) (.int (k:Int))))) m:=by
 obtain⟨f,c⟩:=h.cn;have e47:e<47:=by rw[<-h.jw.me.len];exact(B7.mp ed).1
 have jw':=h.jw.putS ed hd jr;obtain⟨kv0,q1,q2,q3,q4⟩:=c.sq e d ed;rw[hd]at q1;cases q1;have pe:=GD (.int (k:Int)) no;rw[pe]at jw'⊢;have nn:(Sum.inl (n:Int):Key)∉kv.map (·.1):=λz=>by
  obtain⟨q,hq,eq⟩:=D5.mp z;have:(kv.find? λkv=>decide (kv.1=(Sum.inl (n:Int):Key)))=none:=by
   unfold Br at no;cases y:kv.find? λkv=>decide (kv.1=(Sum.inl (n:Int):Key))with
   |none=>rfl
   |some w=>rw[y]at no;cases no
  have:=List.find?_eq_none.mp this q hq;exact this (Y5 eq)
 obtain⟨kc,c1,c2⟩:=c.ce;have gl:=c.gl;have oth:∀{d':Addr}{e':Nat},m.ds[e']?=some d'->e'≠e->d'≠d:=λ{d' e'} ed' z y=>z (by
  rw[y]at ed';exact(List.getElem?_inj (B7.mp ed').1 h.jw.me.nd).mp (ed'.trans ed.symm))
 have cn':Cn (upd H d (.dK (kv++[(Sum.inl (n:Int),.int (k:Int))]))) G m Κ b (λi=>if i=e then f i+1 else f i):=by
  refine⟨λe' d' ed'=>?_,by rw[UQ f e47];lia,kc,?_,by rw[UQ f e47];lia⟩
  ·by_cases z:e'=e
   ·subst z;rw[ed]at ed';cases ed';refine⟨_,Af,by rw[Y7 rfl,C4,q2];rfl,?_,λk' hk'=>?_⟩
    ·rw[C6,Q9];refine⟨q3,by simp,λx hx y hy=>?_⟩;rw[D4.mp hy];exact λz=>nn ((show x=Sum.inl (n:Int)from z)▸hx)
    ·rw[C6]at hk';rcases F0.mp hk' with y|y
     ·exact q4 k' y
     ·rw[D4.mp y];exact⟨n,l,rfl,lv,hk⟩
   ·obtain⟨kv',w1,w2,w3,w4⟩:=c.sq e' d' ed';exact⟨kv',by rw[Au (oth ed' z)];exact w1,by rw[Y4 z];exact w2,w3,w4⟩
  ·rw[Au (AE c1 hd A3)];exact c1
 refine⟨⟨?_,_,cn'⟩,λe' n' l' a1 a2 a3 d' kv' ed' hd'=>?_⟩
 ·have fw:∀{e':Nat},e'<47->(if e'=e then f e'+1 else f e')<=N:=λ{e'} he=>cn'.few h.jw.ok fin h.jw.me.len he;have sm:=cn'.sum h.jw.ok fin h.jw.me.len;obtain⟨kc',d1,d2⟩:=cn'.ce;have me:=jw'.me;obtain⟨kc2,r1,r2,r3⟩:=me.ce;rw[d1]at r1;cases r1;refine⟨jw'.gr,jw'.ok,jw'.bs,jw'.br,jw'.nbr,jw'.hp,jw'.ru,jw'.rok,jw'.rest,⟨me.tp,me.l,me.ap,me.len,me.nd,λe' d' ed'=>?_,kc',d1,by lia,r3⟩⟩;obtain⟨kw,u1,u2,u3,u4⟩:=me.sq e' d' ed';obtain⟨kw',v1,v2,_⟩:=cn'.sq e' d' ed';rw[u1]at v1;cases v1;exact⟨kw,u1,by rw[v2];exact fw (by rw[<-h.jw.me.len];exact(B7.mp ed').1),u3,u4⟩
 ·by_cases z:e'=e
  ·subst z;rw[ed]at ed';cases ed';rw[Af]at hd';cases hd';rw[<-pe,IP];have ne:n'≠n:=λy=>by
    subst y;have:((l'+2:Nat):Int)=((l+2:Nat):Int):=by
     obtain⟨q,w1,w2⟩:=a1;obtain⟨q',w3,w4⟩:=lv;rw[w1]at w3;cases w3;exact w2.symm.trans w4
    lia
   rw[Y4 (λy=>ne (by have:=Sum.inl.inj y;lia))];exact a3 d kv ed hd
  ·rw[Au (oth ed' z)]at hd';exact a3 d' kv' ed' hd'
end
seal L2.PA L2.PE L2.PS L2.PSs L2.PT L2.PW
structure ClK(r:AD)(Κ:KTy):Prop where
 nine1:∀{l e φ},Κ (l+1) e φ->e<=l->∀i j,i<3->j<3->Κ l e λx y=>φ (x+2^(l+1)*i) (y+2^(l+1)*j)
 nine2:∀{l φ},Κ (l+1) (l+1) φ->∀i j,i<3->j<3->Κ l l λx y=>φ (x+2^(l+1)*i) (y+2^(l+1)*j)
 four:∀{l φ},Κ (l+1) (l+1) φ->∀i j,i<2->j<2->Κ l l λx y=>Bk r (2^l) φ (x+(2^(l+1)*i+2^l)) (y+(2^(l+1)*j+2^l))
theorem Ak.one{G:Gv}{n:Nat}{i j:Int}(h:Ak G n i)(k:Ak G n j):i=j:=by
 obtain⟨q,e1,e2⟩:=h;obtain⟨p,f1,f2⟩:=k;rw[e1]at f1;cases f1;exact e2.symm.trans f2
theorem JR.view{r:AD}{G:Gv}{c:Nat->Nat->Int}{e n m l X Y:Nat}(h:JR r G e n m)(lv:Ak G n ((l+2:Nat):Int))(v:Vw G c (l+2) n X Y):Ak G m ((l+1:Nat):Int)/\e<=l/\Vw G (Bk r (2^e) c) (l+1) m (X+2^l) (Y+2^l):=by
 apply AZ;intro G_ hG_;obtain⟨l',h1,h2,h3,h4⟩:=h;apply hG_;clear hG_ G_;have e':l'=l:=by
  have:=h1.one lv;lia
 subst e';exact⟨h3,h2,v.jump h2 h4⟩
theorem Vw.jr{r:AD}{G:Gv}{e n m l:Nat}(lv:Ak G n ((l+1+2:Nat):Int))(he:e<=l+1)(lm:Ak G m ((l+1+1:Nat):Int))(v:Vw G (Bk r (2^e) (Co G (l+1+2) n)) (l+1+1) m (2^(l+1)) (2^(l+1))):JR r G e n m:=⟨l+1,lv,he,lm,v⟩
theorem YU{G G':Gv}{c:Nat->Nat->Int}{l f0 f1 f2 f3 z X Y i:Nat}(ok:GOk G)(go:AH G G' i)(l0:Ak G f0 ((l+1:Nat):Int))(l1:Ak G f1 ((l+1:Nat):Int))(l2:Ak G f2 ((l+1:Nat):Int))(l3:Ak G f3 ((l+1:Nat):Int))(v0:Vw G c (l+1) f0 X Y)(v1:Vw G c (l+1) f1 (X+2^(l+1)) Y)(v2:Vw G c (l+1) f2 X (Y+2^(l+1)))(v3:Vw G c (l+1) f3 (X+2^(l+1)) (Y+2^(l+1)))(e:G'[z]?=some ⟨[((qO G f0 3:Nat):Int),((qO G f1 2:Nat):Int),((qO G f2 1:Nat):Int),((qO G f3 0:Nat):Int)],(l:Int)+1⟩):Vw G' c (l+1) z (X+2^l) (Y+2^l):=by
 have p1:2^(l+1)=2^l*2:=J3 ..;apply AZ;intro G_ hG_;obtain⟨w0,w1,w2,w3⟩:=Ee e;apply hG_;clear hG_ G_;have u0:=(v0.q (i:=1) (j:=1) A4 A4).goes ok go (Li ok l0 A4);have u1:=(v1.q (i:=0) (j:=1) A4 A4).goes ok go (Li ok l1 A4);have u2:=(v2.q (i:=1) (j:=0) A4 A4).goes ok go (Li ok l2 A4);have u3:=(v3.q (i:=0) (j:=0) A4 A4).goes ok go (Li ok l3 A4);refine Vw.of ?_ ?_ ?_ ?_
 ·rw[w0];exact u0.at' A0 A0
 ·rw[w1];exact u1.at' A0 A0
 ·rw[w2];exact u2.at' A0 A0
 ·rw[w3];exact u3.at' A0 A0
theorem MS{G G':Gv}{c:Nat->Nat->Int}{l f0 f1 f2 f3 z X Y i:Nat}{L:Int}(ok:GOk G)(go:AH G G' i)(l0:Ak G f0 (l:Int))(l1:Ak G f1 (l:Int))(l2:Ak G f2 (l:Int))(l3:Ak G f3 (l:Int))(v0:Vw G c l f0 X Y)(v1:Vw G c l f1 (X+2^l) Y)(v2:Vw G c l f2 X (Y+2^l))(v3:Vw G c l f3 (X+2^l) (Y+2^l))(e:G'[z]?=some ⟨[(f0:Int),(f1:Int),(f2:Int),(f3:Int)],L⟩):Vw G' c (l+1) z X Y:=by
 apply AZ;intro G_ hG_;obtain⟨w0,w1,w2,w3⟩:=Ee e;apply hG_;clear hG_ G_;refine Vw.of ?_ ?_ ?_ ?_
 ·rw[w0];exact v0.goes ok go l0
 ·rw[w1];exact v1.goes ok go l1
 ·rw[w2];exact v2.goes ok go l2
 ·rw[w3];exact v3.goes ok go l3
theorem UZ:∀xs:List Nat,xs.length=9->∃a b c d e f g h i,xs=[a,b,c,d,e,f,g,h,i]
 |[a,b,c,d,e,f,g,h,i],_=>⟨a,b,c,d,e,f,g,h,i,rfl⟩
theorem OP:∀xs:List Nat,xs.length=4->∃a b c d,xs=[a,b,c,d]
 |[a,b,c,d],_=>⟨a,b,c,d,rfl⟩
def toV(k:Nat):V:=.int (k:Int)
def Nine(G:Gv)(c:Nat->Nat->Int)(l X:Nat)(ys:List Nat):Prop:=∀i j,i<3->j<3->∃y,ys[i+3*j]?=some y/\Ak G y (l:Int)/\Vw G c l y (2^l*i+X) (2^l*j+X)
theorem PL {r:AD} {G3 G5:Gv} {c:Nat->Nat->Int} {l e x:Nat} {ks ys:List Nat} (ok:GOk G3) (go:AH G3 G5 x) (h:∀i j,i<3->j<3->∃k,ks[i+3*j]?=some k/\Ak G3 k ((l+1+1:Nat):Int)/\Vw G3 c (l+1+1) k (2^(l+1)*i) (2^(l+1)*j)) (pr:Paired (λk y=>JR r G5 e k y) ks ys):Nine G5 (Bk r (2^e) c) (l+1) (2^l) ys:=λi j hi hj=>by
 apply AZ;intro G_ hG_;obtain⟨k,h1,h2,h3⟩:=h i j hi hj;obtain⟨y,h4,h5⟩:=Paired.get pr h1;obtain⟨q1,_,q3⟩:=h5.view (go.lev h2) (h3.goes ok go h2);apply hG_;clear hG_ G_;exact⟨y,h4,q1,q3⟩
theorem Oy{G:Gv}{c:Nat->Nat->Int}{l X:Nat}{H:Hp}{y0 y1 y2 y3 y4 y5 y6 y7 y8:Nat}{t0 t1 t2 t3:Addr}(nj:Nine G c l X [y0,y1,y2,y3,y4,y5,y6,y7,y8])(h0:H t0=some (.tup [.int y0,.int y1,.int y3,.int y4]))(h1:H t1=some (.tup [.int y1,.int y2,.int y4,.int y5]))(h2:H t2=some (.tup [.int y3,.int y4,.int y6,.int y7]))(h3:H t3=some (.tup [.int y4,.int y5,.int y7,.int y8]))(t:Nat)(tt:Addr)(et:[t0,t1,t2,t3][t]?=some tt) :
  ∃f0 f1 f2 f3:Nat,H tt=some (.tup [.int f0,.int f1,.int f2,.int f3])/\(Ak G f0 (l:Int)/\Ak G f1 (l:Int)/\Ak G f2 (l:Int)/\Ak G f3 (l:Int))/\Vw G c l f0 (2^l*(t%2)+X) (2^l*(t/2)+X)/\Vw G c l f1 (2^l*(t%2)+X+2^l) (2^l*(t/2)+X)/\Vw G c l f2 (2^l*(t%2)+X) (2^l*(t/2)+X+2^l)/\Vw G c l f3 (2^l*(t%2)+X+2^l) (2^l*(t/2)+X+2^l):=by
 have t4:t<4:=(B7.mp et).1;have mx:=Nat.mul_succ (2^l) (t%2);have my:=Nat.mul_succ (2^l) (t/2);obtain⟨f0,e0,l0,v0⟩:=nj (t%2) (t/2) A0 A0;obtain⟨f1,e1,l1,v1⟩:=nj (t%2+1) (t/2) A0 A0;obtain⟨f2,e2,l2,v2⟩:=nj (t%2) (t/2+1) A0 A0;obtain⟨f3,e3,l3,v3⟩:=nj (t%2+1) (t/2+1) A0 A0;refine⟨f0,f1,f2,f3,?_,⟨l0,l1,l2,l3⟩,v0,v1.at' A0 rfl,v2.at' rfl A0,v3.at' A0 A0⟩
 match t,t4,et with
 |0,_,et=>cases e0;cases e1;cases e2;cases e3;cases et;exact h0
 |1,_,et=>cases e0;cases e1;cases e2;cases e3;cases et;exact h1
 |2,_,et=>cases e0;cases e1;cases e2;cases e3;cases et;exact h2
 |3,_,et=>cases e0;cases e1;cases e2;cases e3;cases et;exact h3
theorem Rv{α:Type}{P:Nat->α->Prop}{zs:List α}{z:α}{i:Nat}(lz:zs.length=i)(h:∀t z',zs[t]?=some z'->P t z')(hz:P i z):∀t z',(zs++[z])[t]?=some z'->P t z':=λt z' e=>by
 by_cases ti:t<i
 ·rw[L8 A0]at e;exact h t z' e
 ·have:t=i:=by
   have:=(B7.mp e).1;rw[C4,lz]at this;have:t<i+1:=this;lia
  subst this;rw[F9 A0,lz,U8]at e;cases e;exact hz
section
variable{P:Program}{w:World}{K:PySem.W.Frag}{mg:Str->Option Value}{base:Heap}{a:Ad}
inductive ZO(a:Ad)(L:Nat)(vs:List V)(H:Hp)(Q:VK):Prop
 |mk (p dx mem pr:Addr) (g:GA) (G:Gv) (Κ:KTy) (N b:Nat) (r:AD) (m:MA) (n l e:Nat) (_:vs=[.ref p,.int n,.int e]) (_:JZ a H g G Κ N b p dx mem pr r m) (_:Jv Κ N) (_:ClK r Κ) (_:Ak G n ((l+2:Nat):Int)) (_:l<L) (_:e<=l) (_:Κ l e (Co G (l+2) n)) (_:b+10*N+10*(l+1)<8000000) (_:∀(k:Nat)(G':Gv)(H':Hp)(i:Nat),FrJ g m H H'->JZ a H' g G' Κ N b p dx mem pr r m->AH G G' i->JR r G' e n k->Up (l+1) G H H' m->Q (.int k) H'):ZO a L vs H Q
def Gd(a:Ad)(L:Nat):Sp:=λvs H Q _=>ZO a L vs H Q
inductive ZW(a:Ad)(L:Nat)(vs:List V)(H:Hp)(Q:VK):Prop
 |mk (p dx mem pr:Addr) (g:GA) (G:Gv) (Κ:KTy) (N b:Nat) (r:AD) (m:MA) (n l e:Nat) (_:vs=[.ref p,.int n,.int e]) (_:JZ a H g G Κ N b p dx mem pr r m) (_:Jv Κ N) (_:ClK r Κ) (_:Ak G n ((l+2:Nat):Int)) (_:l<L) (_:e<=l) (_:Κ l e (Co G (l+2) n)) (_:b+10*N+10*(l+1)<8000000) (_:∀(k:Nat)(G':Gv)(H':Hp)(i:Nat),FrJ g m H H'->JZ a H' g G' Κ N (b+10) p dx mem pr r m->AH G G' i->JR r G' e n k->Up l G H H' m->Q (.int k) H'):ZW a L vs H Q
def Tm(a:Ad)(L:Nat):Sp:=λvs H Q _=>ZW a L vs H Q
inductive Vy(a:Ad)(L:Nat)(vs:List V)(H:Hp)(Q:VK):Prop
 |mk (p dx mem pr:Addr) (g:GA) (G:Gv) (Κ:KTy) (N b:Nat) (r:AD) (m:MA) (n l:Nat) (_:vs=[.ref p,.int n,.int ((l+1:Nat):Int)]) (_:JZ a H g G Κ N b p dx mem pr r m) (_:Jv Κ N) (_:ClK r Κ) (_:Ak G n ((l+1+2:Nat):Int)) (_:l<L) (_:Κ (l+1) (l+1) (Co G (l+1+2) n)) (_:b+10*N+10*(l+2)<8000000) (_:∀(A:Addr)(f0 f1 f2 f3:Nat)(G':Gv)(H':Hp)(i:Nat),FrJ g m H H'->JZ a H' g G' Κ N (b+9) p dx mem pr r m->AH G G' i->Up (l+1) G H H' m->H' A=some (.lst [toV f0,toV f1,toV f2,toV f3])->(Ak G' f0 ((l+2:Nat):Int)/\Ak G' f1 ((l+2:Nat):Int)/\Ak G' f2 ((l+2:Nat):Int)/\Ak G' f3 ((l+2:Nat):Int))->(Vw G' (Bk r (2^l) (Co G (l+1+2) n)) (l+2) f0 (2^l) (2^l)/\Vw G' (Bk r (2^l) (Co G (l+1+2) n)) (l+2) f1 (2^l+2^(l+1)) (2^l)/\Vw G' (Bk r (2^l) (Co G (l+1+2) n)) (l+2) f2 (2^l) (2^l+2^(l+1))/\Vw G' (Bk r (2^l) (Co G (l+1+2) n)) (l+2) f3 (2^l+2^(l+1)) (2^l+2^(l+1)))->Q (.ref A) H'):Vy a L vs H Q
def QA(a:Ad)(L:Nat):Sp:=λvs H Q _=>Vy a L vs H Q
theorem YD{L d:Nat}{f:Addr}{fd:FuncData}(F:Fun K "four_halfway" "Jumps.four_halfway" Bl f fd)(T:Top K mg a)(d3:3<=d)(aN:Cal P w K mg base CX0 3 "nine_parts" DZ (NX a))(aR:Cal P w K mg base CX0 1 "fours_of" FD LB)(a6:BO P w K mg base CX0 2 a.c_Grove "linked" AQ (DK a))(aA:BO P w K mg base CX0 d a.c_Jumps "reckoned" Bn (Gd a L)):AI P w K mg base CX0 (d+1) f fd BH (QA a L):=by
 refine F.ok Ed (λvs H Q E h=>?_) (λcdv A outer s H vs Q E hr h=>?_)
 ·apply AZ;intro G_ hG_;obtain⟨p,dx,mem,pr,g,G,Κ,N,b,r,m,n,l,rfl,_⟩:=h;apply hG_;clear hG_ G_;rfl
 ·apply AZ;intro G_ hG_;obtain⟨p,dx,mem,pr,g,G,Κ,N,b,r,m,n,l,rfl,hz,fin,cl,hl,hL,hκ,few,k⟩:=h;have hj:=hz.jw;have sz:=hz.sz fin;apply hG_;clear hG_ G_;refine⟨_,(Ac (Ic (i:=3) rfl Ed.nd rfl rfl (Bw.of (So:=Ah Bl) (No:=CW) (N:=["part","self","e"]) (k:=1) (cs:=[0,2]) rfl rfl A1) (BT (Ar aN (rm hr) rfl Am (Aa (AB (pv 0) rfl) (Aa (pv 1) Ab)))) (λ_ _ _=>(Bc (i:=0) A1 rfl rfl)) (λ_ _ _=>BE) (λ_ _ _=>(AF (pv 1) aA (rm hr) Am (Aa (pv 0) (Bp Cw (pv 2) Ae Ab))))) (Ag (Av (BU rfl (Bw.of (So:=Ah Bl) (No:=CW) (N:=["four","self"]) (k:=1) (cs:=[0]) rfl rfl A1) (BT (Ar aR (rm hr) rfl Am (Aa (pv 3) Ab))) (λ_ _ _=>(Bc (i:=0) A1 rfl rfl)) (λ_ _ _=>BE) (λ_ _ _=>(AF (QM (K:=K) rfl (pv 1) rfl) a6 (rm hr) Am (Aa (pv 0) Ab))))))),?_⟩
  try dsimp only[cxK]
  obtain⟨q9,eq9,el9⟩:=id hl;have l46:l<=45:=by have:=(hj.ok.lev eq9).2;lia
  refine xwf rfl rfl hj.hp T.cl_Jumps T.na_Jumps_grove (Eb _ _ _ _ _) (xq1 rfl ⟨g,G,n,l+1,rfl,hj.gr,hj.ok,hl,by lia,by lia,λA9 ks G3 H3 fr3 hg3 go3 hA3 l9 nine=>?_⟩);have hz3:=hz.fr fr3 hg3 go3;have hj3:=hz3.jw;have sz3:=hz3.sz fin
  skip
  have lv9:∀(t k:Nat),ks[t]?=some k->Ak G3 k ((l+2:Nat):Int):=λt k e=>by
   have ht:=(B7.mp e).1;obtain⟨k',e1,e2,_⟩:=nine (t%3) (t/3) A0 A0;rw[show t%3+3*(t/3)=t by lia,e]at e1;cases e1;exact e2
  have kk9:∀(t k:Nat),ks[t]?=some k->Κ l l (Co G3 (l+2) k):=λt k e=>by
   have ht:=(B7.mp e).1;obtain⟨k',e1,_,v⟩:=nine (t%3) (t/3) A0 A0;rw[show t%3+3*(t/3)=t by lia,e]at e1;cases e1;exact fin.ext (cl.nine2 hκ (t%3) (t/3) A0 A0) λx y hx hy=>(v x y hx hy).symm
  refine⟨A9,rfl,⟨_,SqL.of hA3⟩,?_⟩;refine CY (xs:=ks.map λ(k:Nat)=>V.int (k:Int)) (λi acc H5=>∃(G5:Gv)(ys:List Nat)(c5:Nat),acc=ys.map toV/\ys.length=i/\FrJ g m H3 H5/\JZ a H5 g G5 Κ N (b+5) p dx mem pr r m/\AH G3 G5 c5/\Up (l+1) G3 H3 H5 m/\Paired (λk y=>JR r G5 l k y) (ks.take i) ys) ⟨G3,[],0,rfl,rfl,λb o e _ _ _ _ _=>e,hz3,AH.refl hj3.ok,Up.refl _ _ _ _,.nil⟩ (λi acc H5 _ z=>by obtain⟨_,_,_,_,_,fr,_⟩:=z;exact SqL.of ((fr.kps hj3.gr hj3.bs.long hj3.me) _ _ hA3 (.lst (by rw[B6];lia)))) ?_ ?_
  ·rintro i v acc H5 ev z5_;apply AZ;intro G_ hG_;obtain⟨G5,ys,c5,rfl,ly,fr5,hz5,go5,up5,pr5⟩:=z5_;apply hG_;clear hG_ G_;rw[B8]at ev;obtain⟨k5,ek,rfl⟩:=D0.mp ev;have i9:i<9:=by have:=(B7.mp ek).1;lia
   have hj5:=hz5.jw
   skip
   refine⟨⟨[some (.int (k5:Int))],rfl,rfl⟩,by rw[B6,ly];exact T3 i9 A4,Gb (xwn rfl rfl hj5.hp (LR _ _ _ _ _) rfl (xwb rfl rfl rfl ⟨p,dx,mem,pr,g,G5,Κ,N,b+5,r,m,k5,l,l,(show [V.ref p,V.int (k5:Int),V.int (((l+1:Nat):Int)-1)]=[V.ref p,V.int (k5:Int),V.int (l:Int)] by rw[show((l+1:Nat):Int)-1=(l:Int) by lia]),hz5,fin,cl,go5.lev (lv9 i k5 ek),hL,C0 l,(by rw[CK hj3.ok go5 (lv9 i k5 ek)];exact kk9 i k5 ek),by lia,λy G6 H6 c6 fr6 hz6 go6 jr6 up6=>⟨G6,ys++[y],_,by rw[C6];rfl,by rw[C4,ly];rfl,fr5.trans fr6,hz6,go5.trans go6,up5.trans up6 go5,?_⟩⟩))⟩;rw[F3,ek,Q4];exact K9 (Paired.imp (λk y z=>z.goes hj5.ok go6) pr5) jr6
  rintro acc H5 z2_ A5 hA5;apply AZ;intro G_ hG_;obtain⟨G5,ys,c5,rfl,ly,fr5,hz5,go5,up5,pr5⟩:=z2_;have hj5:=hz5.jw;apply hG_;clear hG_ G_;rw[B6,l9]at ly;rw[B6,F6]at pr5;have nj:=PL hj3.ok go5 nine pr5;apply AZ;intro G_ hG_;obtain⟨y0,y1,y2,y3,y4,y5,y6,y7,y8,rfl⟩:=UZ ys ly;apply hG_;clear hG_ G_
  skip
  generalize dF:upd H5 A5 _=H6;obtain⟨s5,hA5'⟩:=alc hA5 dF;have hz6:=hz5.same s5;have hj6:=hz6.jw;have f06:FrJ g m H H6:=(Fr.j fr3).trans (fr5.trans (Ay.j s5));refine xq1 rfl ⟨A5,y0,y1,y2,y3,y4,y5,y6,y7,y8,rfl,hA5',λMM t0 t1 t2 t3 H7 s7 hM ht0 ht1 ht2 ht3=>?_⟩;have hz7:=hz6.same s7;have hj7:=hz7.jw;refine⟨MM,rfl,⟨_,SqL.of hM⟩,?_⟩;have p1:2^(l+1)=2^l*2:=J3 ..;have four:=Oy nj ht0 ht1 ht2 ht3;have okG5:=hj7.ok;refine CY (xs:=[t0,t1,t2,t3].map V.ref) (λi acc H8=>∃(G8:Gv)(zs:List Nat),acc=zs.map toV/\zs.length=i/\Fr g H7 H8/\JZ a H8 g G8 Κ N (b+5+i) p dx mem pr r m/\AH G5 G8 i/\∀(t z:Nat),zs[t]?=some z->Ak G8 z ((l+2:Nat):Int)/\Vw G8 (Bk r (2^l) (Co G (l+1+2) n)) (l+1+1) z (2^(l+1)*(t%2)+2^l) (2^(l+1)*(t/2)+2^l)) ⟨G5,[],rfl,rfl,Fr.refl g H7,hz7,AH.refl okG5,λt z e=>(nomatch e)⟩ (λi acc H8 _ z=>by obtain⟨_,_,_,_,fr,_⟩:=z;exact SqL.of ((fr.kps hj7.gr hj7.bs.long) _ _ hM (.lst (by show 4<=50;decide)))) ?_ ?_
  ·rintro i v acc H8 ev z5_;apply AZ;intro G_ hG_;obtain⟨G8,zs,rfl,lz,fr8,hz8,go8,vz⟩:=z5_;have hj8:=hz8.jw;have sz8:=hz8.sz fin;apply hG_;clear hG_ G_;rw[B8]at ev;obtain⟨tt,et,rfl⟩:=D0.mp ev;have i4:i<4:=(B7.mp et).1;apply AZ;intro G_ hG_;obtain⟨f0,f1,f2,f3,htt,⟨m0,m1,m2,m3⟩,w0,w1,w2,w3⟩:=four i tt et;apply hG_;clear hG_ G_
   skip
   refine⟨⟨[some (.ref tt)],rfl,rfl⟩,by rw[B6,lz];exact T3 i4 A4,Gb (xwf rfl rfl hj8.hp T.cl_Jumps T.na_Jumps_grove (Eb _ _ _ _ _) (xq3 rfl hj8.gr.hp (BK g) (xq1 rfl ⟨g,G8,tt,f0,f1,f2,f3,((l+1:Nat):Int),rfl,hj8.gr,hj8.ok,(fr8.kps hj7.gr hj7.bs.long) _ _ htt (.inl .tup),⟨go8.lev m0,go8.lev m1,go8.lev m2,go8.lev m3⟩,by lia,by lia,λz G9 H9 fr9 hg9 go9 e9=>⟨G9,zs++[z],by rw[C6];rfl,by rw[C4,lz];rfl,fr8.trans fr9,hz8.fr fr9 hg9 go9,go8.trans go9,?_⟩⟩)))⟩;refine Rv lz (λt z' e=>?_) ?_
   ·obtain⟨q1,q2⟩:=vz t z' e;exact⟨go9.lev q1,q2.goes hj8.ok go9 q1⟩
   ·exact⟨⟨_,e9,by show((l+1:Nat):Int)+1=((l+2:Nat):Int);lia⟩,MS okG5 (go8.trans go9) m0 m1 m2 m3 w0 w1 w2 w3 e9⟩
  rintro acc H8 z2_ A8 hA8;apply AZ;intro G_ hG_;obtain⟨G8,zs,rfl,lz,fr8,hz8,go8,vz⟩:=z2_;have hj8:=hz8.jw;have sz8:=hz8.sz fin;apply hG_;clear hG_ G_;apply AZ;intro G_ hG_;obtain⟨z0,z1,z2,z3,rfl⟩:=OP zs lz;apply hG_;clear hG_ G_;have s8:Ay H8 (upd H8 A8 (.lst ([z0,z1,z2,z3].map toV))):=Ao hA8;have go4:AH G5 G8 4:=go8;obtain⟨q0,x0⟩:=vz 0 z0 rfl;obtain⟨q1,x1⟩:=vz 1 z1 rfl;obtain⟨q2,x2⟩:=vz 2 z2 rfl;obtain⟨q3,x3⟩:=vz 3 z3 rfl;refine k A8 z0 z1 z2 z3 G8 _ _ (f06.trans ((Ay.j s7).trans ((Fr.j fr8).trans (Ay.j s8)))) (hz8.same s8) ((go3.trans go5).trans go4) (((((hz.upF (l+1) fr3).trans up5 go3).trans (hz5.upS _ s5) (go3.trans go5)).trans (hz6.upS _ s7) (go3.trans go5)).trans ((hz7.upF _ fr8).trans (hz8.upS _ s8) go8) (go3.trans go5)) Af ⟨q0,q1,q2,q3⟩ ⟨x0.at' A0 A0,x1.at' A0 A0,x2.at' A0 A0,x3.at' A0 A0⟩
theorem ok_freA{L d:Nat}{f:Addr}{fd:FuncData}(F:Fun K "fresh" "Jumps.fresh" Cd f fd)(T:Top K mg a)(d7:7<=d)(aB:BO P w K mg base CX0 7 a.c_Jumps "middle_after" BZ (Qw a))(a6:BO P w K mg base CX0 2 a.c_Grove "linked" AQ (DK a))(aN:Cal P w K mg base CX0 3 "nine_parts" DZ (NX a))(aR:Cal P w K mg base CX0 1 "fours_of" FD LB)(aD:Cal P w K mg base CX0 3 "met_in_the_middle" Cj (UI a))(aA:BO P w K mg base CX0 d a.c_Jumps "reckoned" Bn (Gd a L))(bZ:BO P w K mg base CX0 (d+1) a.c_Jumps "four_halfway" BH (QA a L)):AI P w K mg base CX0 (d+2) f fd Dp (Tm a (L+1)):=by
 refine F.ok DQ (λvs H Q E h=>?_) (λcdv A outer s H vs Q E hr h=>?_)
 ·apply AZ;intro G_ hG_;obtain⟨p,dx,mem,pr,g,G,Κ,N,b,r,m,n,l,e,rfl,_⟩:=h;apply hG_;clear hG_ G_;rfl
 ·apply AZ;intro G_ hG_;obtain⟨p,dx,mem,pr,g,G,Κ,N,b,r,m,n,l,e,rfl,hz,fin,cl,hl,hL,he,hκ,few,k⟩:=h;have hj:=hz.jw;have sz:=hz.sz fin;obtain⟨q,eq,el⟩:=id hl;apply hG_;clear hG_ G_;have l48:=(hj.ok.lev eq).2;have l46:l<=46:=by lia
  refine⟨_,(Ac (Aq (i:=3) DQ.nd rfl (Or.inr rfl) (AB (pv 0) rfl)) (Ac (Aq (i:=4) DQ.nd rfl (Or.inl rfl) (Aj Ax (AB (pv 3) rfl) (pv 1) (λ_ _=>rfl))) (Ac (AM (Az Cb (pv 1) (Aj Ax (AB (pv 3) rfl) (pv 4) (λ_ _=>rfl)) (AG _)) (Ag (Av (Aj Ax (AB (pv 3) rfl) (AA Cw (pv 4) Ae) (λ_ _=>rfl)))) AC) (Ac (AM (Az Cb (pv 4) (BY rfl T.k_LEAST_JUMPED) (AG _)) (Ag (Av (AF (pv 0) aB (rm hr) Am (Aa (pv 1) Ab)))) AC) (Ac (AM (Az IH (pv 2) (AA Cw (pv 4) (BY rfl T.k_LEAST_JUMPED)) (AG _)) (Ac (Ic (i:=5) rfl DQ.nd rfl rfl (Bw.of (So:=Ah Cd) (No:=EA) (N:=["part","self","e"]) (k:=1) (cs:=[0,2]) rfl rfl A1) (BT (Ar aN (rm hr) rfl Am (Aa (pv 3) (Aa (pv 1) Ab)))) (λ_ _ _=>(Bc (i:=0) A1 rfl rfl)) (λ_ _ _=>BE) (λ_ _ _=>(AF (pv 1) aA (rm hr) Am (Aa (pv 0) (Aa (pv 2) Ab))))) (Ag (Av (AF (pv 3) a6 (rm hr) Am (Aa (BC BN rfl T.b_tuple X8 (Aa (BU rfl (Bw.of (So:=Ah Cd) (No:=EA) (N:=["four","grove"]) (k:=1) (cs:=[3]) rfl rfl A1) (BT (Ar aR (rm hr) rfl Am (Aa (pv 5) Ab))) (λ_ _ _=>(Bc (i:=0) A1 rfl rfl)) (λ_ _ _=>BE) (λ_ _ _=>(Ar aD (rm hr) rfl Am (Aa (pv 1) (Aa (pv 0) Ab))))) Ab)) Ab))))) AC) (Ag (Av (AF (pv 3) a6 (rm hr) Am (Aa (BC BN rfl T.b_tuple X8 (Aa (BU rfl (Bw.of (So:=Ah Cd) (No:=EA) (N:=["four","self","e"]) (k:=1) (cs:=[0,2]) rfl rfl A1) (BT (AF (pv 0) bZ (rm hr) Am (Aa (pv 1) (Aa (pv 2) Ab)))) (λ_ _ _=>(Bc (i:=0) A1 rfl rfl)) (λ_ _ _=>BE) (λ_ _ _=>(AF (pv 1) aA (rm hr) Am (Aa (pv 0) (Bp Cw (pv 2) Ae Ab))))) Ab)) Ab))))))))),?_⟩
  try dsimp only[cxK]
  refine xwf rfl rfl hj.hp T.cl_Jumps T.na_Jumps_grove (Eb _ _ _ _ _) ?_;refine xq1 rfl ⟨g.p,_,g.dx,_,_,rfl,hj.gr.hp,T.cl_Grove,T.na_Grove_levels,EQ g,_,rfl,g.lv,_,(n:Int),.int ((l+2:Nat):Int),rfl,rfl,SqL.of hj.gr.lv,Ai (by rw[B8,eq,<-el];rfl),?_⟩;refine xq1 rfl (xq1 rfl ⟨g.p,_,g.dx,_,_,rfl,hj.gr.hp,T.cl_Grove,T.na_Grove_bares,Iu g,_,rfl,g.br,_,((l+2:Nat):Int),.int (bareN (l+2):Int),rfl,rfl,SqL.of hj.br,Ai (bareJ A0),rfl,_,rfl,?_⟩);refine Fb (λhc=>?_) (λhc=>?_)
  ·have ei:n=bareN (l+2):=by
    have:=X6 hc;injection this with this
    exact Z4 this
   refine xwf rfl rfl hj.gr.hp T.cl_Grove T.na_Grove_bares (Iu g) (xwb rfl rfl rfl (xq4 rfl rfl (SqL.of hj.br) (by rw[show((l+2:Nat):Int)-1=((l+1:Nat):Int) by lia];exact Ai (bareJ A0)) ?_));refine k (bareN (l+1)) G H 0 (λb o e _ _ _ _ _=>e) (hz.mono A0) (AH.refl hj.ok) ?_ (Up.refl _ _ _ _);rw[ei];exact JR.bare hj.ok hj.bs hj.rest A0 he
  refine xq1 rfl ⟨rfl,(xq1 rfl ?_)⟩;cases l with
  |zero =>
   refine(show ∀{b:Bool}{A B:Prop},b=true->A->(if b=true then A else B)from λh x=>by rw[h];exact Ce x) (Y5 rfl) ?_;have e0:e=0:=by lia
   subst e0;obtain⟨ff,cn⟩:=hz.cn;obtain⟨kc,c1,c2⟩:=cn.ce;have sm:=cn.sum hj.ok fin hj.me.len;refine xwn rfl rfl hj.hp (noJ_mid _ _ _ _ _) rfl ⟨p,dx,mem,pr,g,G,N,kc.length,r,m,n,rfl,hj.tc c1,hl,by lia,by lia,λk' G' H' fr hj' go jr=>?_⟩;obtain⟨z1,z2⟩:=hz.mid cn c1 fr hj' go;exact k k' G' H' 1 fr.j (z1.mono A0) go jr (z2 _)
  |succ l =>
   refine(show ∀{b:Bool}{A B:Prop},b=false->B->(if b=true then A else B)from λh x=>by rw[h];exact Bo x) (Z0 (by intro z;injection z with z;have z:((l+1+2:Nat):Int)=2:=z;lia)) ?_;have hL:l<L:=by lia
   have p1:2^(l+1)=2^l*2:=J3 ..;refine xw2 rfl rfl (xq2 rfl rfl (xq2 rfl rfl (xq1 rfl ?_)));refine Fb (λhc=>?_) (λhc=>?_)
   ·have el':e<=l:=by
     have hc:=X6 hc;have hc:(e:Int)<((l+1+2:Nat):Int)-2:=hc;lia
    obtain⟨q9,eq9,el9⟩:=id hl;have l46:l<=45:=by have:=(hj.ok.lev eq9).2;lia
    refine xw2 rfl rfl ⟨g,G,n,l+1,rfl,hj.gr,hj.ok,hl,by lia,by lia,λA9 ks G3 H3 fr3 hg3 go3 hA3 l9 nine=>?_⟩;have hz3:=hz.fr fr3 hg3 go3;have hj3:=hz3.jw;have sz3:=hz3.sz fin
    skip
    have lv9:∀(t k:Nat),ks[t]?=some k->Ak G3 k ((l+2:Nat):Int):=λt k e=>by
     have ht:=(B7.mp e).1;obtain⟨k',e1,e2,_⟩:=nine (t%3) (t/3) A0 A0;rw[show t%3+3*(t/3)=t by lia,e]at e1;cases e1;exact e2
    have kk9:∀(t k:Nat),ks[t]?=some k->Κ l e (Co G3 (l+2) k):=λt k e=>by
     have ht:=(B7.mp e).1;obtain⟨k',e1,_,v⟩:=nine (t%3) (t/3) A0 A0;rw[show t%3+3*(t/3)=t by lia,e]at e1;cases e1;exact fin.ext (cl.nine1 hκ el' (t%3) (t/3) A0 A0) λx y hx hy=>(v x y hx hy).symm
    refine⟨A9,rfl,⟨_,SqL.of hA3⟩,?_⟩;refine CY (xs:=ks.map λ(k:Nat)=>V.int (k:Int)) (λi acc H5=>∃(G5:Gv)(ys:List Nat)(c5:Nat),acc=ys.map toV/\ys.length=i/\FrJ g m H3 H5/\JZ a H5 g G5 Κ N (b+5) p dx mem pr r m/\AH G3 G5 c5/\Up (l+1) G3 H3 H5 m/\Paired (λk y=>JR r G5 e k y) (ks.take i) ys) ⟨G3,[],0,rfl,rfl,λb o e _ _ _ _ _=>e,hz3,AH.refl hj3.ok,Up.refl _ _ _ _,.nil⟩ (λi acc H5 _ z=>by obtain⟨_,_,_,_,_,fr,_⟩:=z;exact SqL.of ((fr.kps hj3.gr hj3.bs.long hj3.me) _ _ hA3 (.lst (by rw[B6];lia)))) ?_ ?_
    ·rintro i v acc H5 ev z5_;apply AZ;intro G_ hG_;obtain⟨G5,ys,c5,rfl,ly,fr5,hz5,go5,up5,pr5⟩:=z5_;apply hG_;clear hG_ G_;rw[B8]at ev;obtain⟨k5,ek,rfl⟩:=D0.mp ev;have i9:i<9:=by have:=(B7.mp ek).1;lia
     have hj5:=hz5.jw
     skip
     refine⟨⟨[some (.int (k5:Int))],rfl,rfl⟩,by rw[B6,ly];exact T3 i9 A4,Gb (xwn rfl rfl hj5.hp (LR _ _ _ _ _) rfl (xq1 rfl ⟨p,dx,mem,pr,g,G5,Κ,N,b+5,r,m,k5,l,e,rfl,hz5,fin,cl,go5.lev (lv9 i k5 ek),hL,el',(by rw[CK hj3.ok go5 (lv9 i k5 ek)];exact kk9 i k5 ek),by lia,λy G6 H6 c6 fr6 hz6 go6 jr6 up6=>⟨G6,ys++[y],_,by rw[C6];rfl,by rw[C4,ly];rfl,fr5.trans fr6,hz6,go5.trans go6,up5.trans up6 go5,?_⟩⟩))⟩;rw[F3,ek,Q4];exact K9 (Paired.imp (λk y z=>z.goes hj5.ok go6) pr5) jr6
    rintro acc H5 z2_ A5 hA5;apply AZ;intro G_ hG_;obtain⟨G5,ys,c5,rfl,ly,fr5,hz5,go5,up5,pr5⟩:=z2_;have hj5:=hz5.jw;apply hG_;clear hG_ G_;rw[B6,l9]at ly;rw[B6,F6]at pr5;have nj:=PL hj3.ok go5 nine pr5;apply AZ;intro G_ hG_;obtain⟨y0,y1,y2,y3,y4,y5,y6,y7,y8,rfl⟩:=UZ ys ly;apply hG_;clear hG_ G_
    skip
    generalize dF:upd H5 A5 _=H6;obtain⟨s5,hA5'⟩:=alc hA5 dF;have hz6:=hz5.same s5;have hj6:=hz6.jw;have f06:FrJ g m H H6:=(Fr.j fr3).trans (fr5.trans (Ay.j s5));refine xwm rfl rfl hj6.gr.hp (BK g) ?_;refine xq1 rfl ⟨A5,y0,y1,y2,y3,y4,y5,y6,y7,y8,rfl,hA5',λMM t0 t1 t2 t3 H7 s7 hM ht0 ht1 ht2 ht3=>?_⟩;have hz7:=hz6.same s7;have hj7:=hz7.jw;refine⟨MM,rfl,⟨_,SqL.of hM⟩,?_⟩;have four:=Oy nj ht0 ht1 ht2 ht3;have okG5:=hj7.ok;refine CY (xs:=[t0,t1,t2,t3].map V.ref) (λi acc H8=>∃(G8:Gv)(zs:List Nat),acc=zs.map toV/\zs.length=i/\Fr g H7 H8/\JZ a H8 g G8 Κ N (b+5+i) p dx mem pr r m/\AH G5 G8 i/\∀(t z:Nat),zs[t]?=some z->Ak G8 z ((l+1:Nat):Int)/\Vw G8 (Bk r (2^e) (Co G (l+1+2) n)) (l+1) z (2^(l+1)*(t%2)+2^(l+1)) (2^(l+1)*(t/2)+2^(l+1))) ⟨G5,[],rfl,rfl,Fr.refl g H7,hz7,AH.refl okG5,λt z e=>(nomatch e)⟩ (λi acc H8 _ z=>by obtain⟨_,_,_,_,fr,_⟩:=z;exact SqL.of ((fr.kps hj7.gr hj7.bs.long) _ _ hM (.lst (by show 4<=50;decide)))) ?_ ?_
    ·rintro i v acc H8 ev z5_;apply AZ;intro G_ hG_;obtain⟨G8,zs,rfl,lz,fr8,hz8,go8,vz⟩:=z5_;have hj8:=hz8.jw;have sz8:=hz8.sz fin;apply hG_;clear hG_ G_;rw[B8]at ev;obtain⟨tt,et,rfl⟩:=D0.mp ev;have i4:i<4:=(B7.mp et).1;apply AZ;intro G_ hG_;obtain⟨f0,f1,f2,f3,htt,⟨m0,m1,m2,m3⟩,w0,w1,w2,w3⟩:=four i tt et;apply hG_;clear hG_ G_
     skip
     have qg:∀{f:Nat}(j:Nat),Ak G5 f ((l+1:Nat):Int)->qO G8 f j=qO G5 f j:=λ{f} j h=>by
      obtain⟨q,e,_⟩:=h;unfold qO;rw[go8.get e,e]
     refine⟨⟨[some (.ref tt)],rfl,rfl⟩,by rw[B6,lz];exact T3 i4 A4,Gb (xw2 rfl rfl ⟨g,G8,tt,f0,f1,f2,f3,l,rfl,hj8.gr,hj8.ok,(fr8.kps hj7.gr hj7.bs.long) _ _ htt (.inl .tup),⟨go8.lev m0,go8.lev m1,go8.lev m2,go8.lev m3⟩,by lia,by lia,λz G9 H9 fr9 hg9 go9 e9=>⟨G9,zs++[z],by rw[C6];rfl,by rw[C4,lz];rfl,fr8.trans fr9,hz8.fr fr9 hg9 go9,go8.trans go9,?_⟩⟩)⟩;rw[qg 3 m0,qg 2 m1,qg 1 m2,qg 0 m3]at e9;refine Rv lz (λt z' e=>?_) ?_
     ·obtain⟨q1,q2⟩:=vz t z' e;exact⟨go9.lev q1,q2.goes hj8.ok go9 q1⟩
     ·exact⟨⟨_,e9,by show(l:Int)+1=((l+1:Nat):Int);lia⟩,(YU okG5 (go8.trans go9) m0 m1 m2 m3 w0 w1 w2 w3 e9).at' A0 A0⟩
    rintro acc H8 z2_ A8 hA8;apply AZ;intro G_ hG_;obtain⟨G8,zs,rfl,lz,fr8,hz8,go8,vz⟩:=z2_;have hj8:=hz8.jw;have sz8:=hz8.sz fin;apply hG_;clear hG_ G_;apply AZ;intro G_ hG_;obtain⟨z0,z1,z2,z3,rfl⟩:=OP zs lz;apply hG_;clear hG_ G_;have go4:AH G5 G8 4:=go8;have hz8:JZ a H8 g G8 Κ N (b+5+4) p dx mem pr r m:=hz8;have sz8:=hz8.sz fin;have go08:=(go3.trans go5).trans go4;have f08:FrJ g m H H8:=f06.trans ((Ay.j s7).trans (Fr.j fr8));generalize dM:upd H8 A8 _=H9;obtain⟨s8,hA8'⟩:=alc hA8 dM;refine⟨A8,(xq1 rfl (.inl ⟨SqL.of hA8',λu hu=>?_⟩))⟩;have hz9:=hz8.same s8;have hj9:=hz9.jw;obtain⟨q0,x0⟩:=vz 0 z0 rfl;obtain⟨q1,x1⟩:=vz 1 z1 rfl;obtain⟨q2,x2⟩:=vz 2 z2 rfl;obtain⟨q3,x3⟩:=vz 3 z3 rfl
    skip
    refine lnk (⟨.refl _ _,λe=>e,hj9.gr,.refl hj9.ok⟩:Ln a g H9 G8 0 H9 G8) hu ⟨q0,q1,q2,q3⟩ A0 A0 λz G11 H11 l11 go11 e11=>?_;refine k z G11 H11 _ (f08.trans ((Ay.j s8).trans (Fr.j l11.fr))) ((hz9.fr l11.fr l11.gr go11).mono A0) (go08.trans go11) ?_ (((((hz.upF (l+1) fr3).trans up5 go3).trans (hz5.upS _ s5) (go3.trans go5)).trans (hz6.upS _ s7) (go3.trans go5)).trans (((hz7.upF _ fr8).trans (hz8.upS _ s8) go8).trans (hz9.upF _ l11.fr) go8) (go3.trans go5));have goz:=go08.trans go11;refine Vw.jr (goz.lev hl) he ⟨_,e11,by show((l+1:Nat):Int)+1=((l+1+1:Nat):Int);lia⟩ ?_;rw[CK hj.ok goz hl];exact MS hj9.ok go11 q0 q1 q2 q3 (x0.at' A0 A0) (x1.at' A0 A0) (x2.at' A0 A0) (x3.at' A0 A0) e11
   ·have el':e=l+1:=by
     have hc:¬(e:Int)<((l+1+2:Nat):Int)-2:=λz=>hc (Y5 z);lia
    subst el';refine xwm rfl rfl hj.gr.hp (BK g) ?_;refine xwn rfl rfl hj.hp (YL _ _ _ _ _) rfl (xq1 rfl ⟨p,dx,mem,pr,g,G,Κ,N,b,r,m,n,l,rfl,hz,fin,cl,hl,hL,hκ,by lia,λA7 f0 f1 f2 f3 G5 H7 i5 f07 hz7 go5 up7 hA7 lvs vws=>?_⟩);apply AZ;intro G_ hG_;obtain⟨m0,m1,m2,m3⟩:=lvs;obtain⟨w0,w1,w2,w3⟩:=vws;apply hG_;clear hG_ G_
    skip
    refine⟨A7,rfl,⟨_,SqL.of hA7⟩,?_⟩;have hj7:=hz7.jw;have okG5:=hj7.ok;have four:∀(t f:Nat),[f0,f1,f2,f3][t]?=some f->Ak G5 f ((l+2:Nat):Int)/\Vw G5 (Bk r (2^l) (Co G (l+1+2) n)) (l+2) f (2^(l+1)*(t%2)+2^l) (2^(l+1)*(t/2)+2^l):=λt f et=>by
     match t,et with
     |0,et=>cases et;exact⟨m0,w0.at' A0 A0⟩
     |1,et=>cases et;exact⟨m1,w1.at' A0 A0⟩
     |2,et=>cases et;exact⟨m2,w2.at' A0 A0⟩
     |3,et=>cases et;exact⟨m3,w3.at' A0 A0⟩
     |j+4,et=>cases et
    have dbl:Bk r (2^l) (Bk r (2^l) (Co G (l+1+2) n))=Bk r (2^(l+1)) (Co G (l+1+2) n):=by
     rw[<-RK,p1,Nat.mul_two]
    refine CY (xs:=[f0,f1,f2,f3].map toV) (λi acc H8=>∃(G8:Gv)(zs:List Nat)(c8:Nat),acc=zs.map toV/\zs.length=i/\FrJ g m H7 H8/\JZ a H8 g G8 Κ N (b+9) p dx mem pr r m/\AH G5 G8 c8/\Up (l+1) G5 H7 H8 m/\∀(t z:Nat),zs[t]?=some z->Ak G8 z ((l+1:Nat):Int)/\Vw G8 (Bk r (2^(l+1)) (Co G (l+1+2) n)) (l+1) z (2^(l+1)*(t%2)+2^(l+1)) (2^(l+1)*(t/2)+2^(l+1))) ⟨G5,[],0,rfl,rfl,λb o e _ _ _ _ _=>e,hz7,AH.refl okG5,Up.refl _ _ _ _,λt z e=>(nomatch e)⟩ (λi acc H8 _ z=>by obtain⟨_,_,_,_,_,fr,_⟩:=z;exact SqL.of ((fr.kps hj7.gr hj7.bs.long hj7.me) _ _ hA7 (.lst (by show 4<=50;decide)))) ?_ ?_
    ·rintro i v acc H8 ev z5_;apply AZ;intro G_ hG_;obtain⟨G8,zs,c8,rfl,lz,fr8,hz8,go8,up8,vz⟩:=z5_;have hj8:=hz8.jw;have sz8:=hz8.sz fin;apply hG_;clear hG_ G_;rw[B8]at ev;obtain⟨ff,et,rfl⟩:=D0.mp ev;have i4:i<4:=(B7.mp et).1;obtain⟨mf,wf⟩:=four i ff et
     skip
     refine⟨⟨[some (toV ff)],rfl,rfl⟩,by rw[B6,lz];exact T3 i4 A4,Gb (xwn rfl rfl hj8.hp (LR _ _ _ _ _) rfl (xwb rfl rfl rfl ⟨p,dx,mem,pr,g,G8,Κ,N,b+9,r,m,ff,l,l,(show [V.ref p,V.int (ff:Int),V.int (((l+1:Nat):Int)-1)]=[V.ref p,V.int (ff:Int),V.int (l:Int)] by rw[show((l+1:Nat):Int)-1=(l:Int) by lia]),hz8,fin,cl,go8.lev mf,hL,C0 l,(by rw[CK okG5 go8 mf];exact fin.ext (cl.four hκ (i%2) (i/2) A0 A0) λx y hx hy=>(wf x y hx hy).symm),by lia,λz G9 H9 c9 fr9 hz9 go9 jr9 up9=>⟨G9,zs++[z],_,by rw[C6];rfl,by rw[C4,lz];rfl,fr8.trans fr9,hz9,go8.trans go9,up8.trans up9 go8,?_⟩⟩))⟩;refine Rv lz (λt z' e=>?_) ?_
     ·obtain⟨q1,q2⟩:=vz t z' e;exact⟨go9.lev q1,q2.goes hj8.ok go9 q1⟩
     ·obtain⟨r1,_,r3⟩:=jr9.view ((go8.trans go9).lev mf) (wf.goes okG5 (go8.trans go9) mf);rw[dbl]at r3;exact⟨r1,r3.at' A0 A0⟩
    rintro acc H8 z2_ A8 hA8;apply AZ;intro G_ hG_;obtain⟨G8,zs,c8,rfl,lz,fr8,hz8,go8,up8,vz⟩:=z2_;have hj8:=hz8.jw;have sz8:=hz8.sz fin;apply hG_;clear hG_ G_;apply AZ;intro G_ hG_;obtain⟨z0,z1,z2,z3,rfl⟩:=OP zs lz;apply hG_;clear hG_ G_;have go08:=go5.trans go8;have f08:FrJ g m H H8:=f07.trans fr8;generalize dM:upd H8 A8 _=H9;obtain⟨s8,hA8'⟩:=alc hA8 dM;refine⟨A8,(xq1 rfl (.inl ⟨SqL.of hA8',λu hu=>?_⟩))⟩;have hz9:=hz8.same s8;have hj9:=hz9.jw;obtain⟨q0,x0⟩:=vz 0 z0 rfl;obtain⟨q1,x1⟩:=vz 1 z1 rfl;obtain⟨q2,x2⟩:=vz 2 z2 rfl;obtain⟨q3,x3⟩:=vz 3 z3 rfl
    skip
    refine lnk (⟨.refl _ _,λe=>e,hj9.gr,.refl hj9.ok⟩:Ln a g H9 G8 0 H9 G8) hu ⟨q0,q1,q2,q3⟩ A0 A0 λz G11 H11 l11 go11 e11=>?_;refine k z G11 H11 _ (f08.trans ((Ay.j s8).trans (Fr.j l11.fr))) ((hz9.fr l11.fr l11.gr go11).mono A0) (go08.trans go11) ?_ ((up7.trans up8 go5).trans ((hz8.upS _ s8).trans (hz9.upF _ l11.fr) (AH.refl hj8.ok)) go08);have goz:=go08.trans go11;refine Vw.jr (goz.lev hl) he ⟨_,e11,by show((l+1:Nat):Int)+1=((l+1+1:Nat):Int);lia⟩ ?_;rw[CK hj.ok goz hl];exact MS hj9.ok go11 q0 q1 q2 q3 (x0.at' A0 A0) (x1.at' A0 A0) (x2.at' A0 A0) (x3.at' A0 A0) e11
theorem ok_recB{L d:Nat}{f:Addr}{fd:FuncData}(F:Fun K "reckoned" "Jumps.reckoned" Db f fd)(T:Top K mg a)(cU:BO P w K mg base CX0 d a.c_Jumps "fresh" Dp (Tm a L)):AI P w K mg base CX0 (d+1) f fd Bn (Gd a L):=by
 refine F.ok DP (λvs H Q E h=>?_) (λcdv A outer s H vs Q E hr h=>?_)
 ·apply AZ;intro G_ hG_;obtain⟨p,dx,mem,pr,g,G,Κ,N,b,r,m,n,l,e,rfl,_⟩:=h;apply hG_;clear hG_ G_;rfl
 ·apply AZ;intro G_ hG_;obtain⟨p,dx,mem,pr,g,G,Κ,N,b,r,m,n,l,e,rfl,hz,fin,cl,hl,hL,he,hκ,few,k⟩:=h;have hj:=hz.jw;have sz:=hz.sz fin;apply hG_;clear hG_ G_;obtain⟨q,eq,el⟩:=id hl;have l48:=(hj.ok.lev eq).2;have e47:e<m.ds.length:=by rw[hj.me.len];lia
  obtain⟨d,ed⟩:∃d,m.ds[e]?=some d:=⟨m.ds[e]'e47,C5 _⟩
  apply AZ;intro G_ hG_;obtain⟨kv,hd,dl,dk,dv⟩:=hj.me.sq e d ed;apply hG_;clear hG_ G_;refine⟨_,(Ac (Aq (i:=3) DP.nd rfl (Or.inl rfl) (Ja (EG hr) (Aj Ax (AB (pv 0) rfl) (pv 2) (λ_ _=>rfl)) (pv 1) ⟨rfl,rfl,rfl,rfl⟩)) (Ac (AM (Az Io (pv 3) Dh (AG _)) (Ac (Aq (i:=3) DP.nd rfl (Or.inl rfl) (AF (pv 0) cU (rm hr) Am (Aa (pv 1) (Aa (pv 2) Ab)))) (Ag (FW (EG hr) (Aj Ax (AB (pv 0) rfl) (pv 2) (λ_ _=>rfl)) (pv 1) (pv 3) rfl))) AC) (Ag (Av (pv 3))))),?_⟩
  try dsimp only[cxK]
  have ed':atI (m.ds.map V.ref) (e:Int)=some (.ref d):=Ai (by rw[B8,ed];rfl);refine xwf rfl rfl hj.hp T.cl_Jumps T.na_Jumps_known_squares (Zi _ _ _ _ _) (xwi rfl rfl rfl (SqL.of hj.me.l) ed' ⟨d,rfl,.inl ⟨_,.inl hd⟩,(xq1 rfl ⟨_,IB.k (k:=Sum.inl (n:Int)) hd,?_⟩)⟩);apply SF (fun σ H1=>∃(x:Nat)(G':Gv),σ=[some (.ref p),some (.int (n:Int)),some (.int (e:Int)),some (.int (x:Int))]/\FrJ g m H H1/\JZ a H1 g G' Κ N b p dx mem pr r m/\(∃i,AH G G' i)/\JR r G' e n x/\Up (l+1) G H H1 m)
  ·intro rest;refine xq1 rfl ⟨rfl,(xq1 rfl ?_)⟩;cases ev:Br kv (Sum.inl (n:Int))with
   |some v =>
    obtain⟨x,rfl,jr⟩:=dv n v ev;exact Bo (rest _ _ ⟨x,G,rfl,λb o e _ _ _ _ _=>e,hz,⟨0,AH.refl hj.ok⟩,jr,Up.refl _ _ _ _⟩)
   |none =>
    refine Ce ?_;refine xwn rfl rfl hj.hp (VW _ _ _ _ _) rfl (xq1 rfl ⟨p,dx,mem,pr,g,G,Κ,N,b,r,m,n,l,e,rfl,hz,fin,cl,hl,hL,he,hκ,few,λx G' H' i' fr hz' go jr up=>?_⟩);apply AZ;intro G_ hG_;have hj':=hz'.jw;obtain⟨kv',hd',dl',dk',dv'⟩:=hj'.me.sq e d ed;apply hG_;clear hG_ G_;refine xw2 rfl rfl (xq5 hj'.hp T.cl_Jumps T.na_Jumps_known_squares (Zi _ _ _ _ _) (xwi rfl rfl rfl (SqL.of hj'.me.l) ed' (xq1 rfl ⟨d,(xq1 rfl ⟨Lx.k (k:=Sum.inl (n:Int)) hd' (F4 (show kv'.length<=9000000 by lia) A4),?_⟩)⟩)));have no':=up e n l hl (C0 l) (λd2 kv2 ed2 hd2=>by rw[ed]at ed2;cases ed2;rw[hd]at hd2;cases hd2;exact ev) d kv' ed hd';obtain⟨z1,z2⟩:=hz'.put fin ed hd' no' (go.lev hl) (by rw[CK hj.ok go hl];exact hκ) jr;exact rest _ _ ⟨x,G',rfl,λb o e n1 n2 n3 n4 n5=>by rw[Au (λz=>n5 (by rw[z];exact C9 ed))];exact fr _ _ e n1 n2 n3 n4 n5,z1,⟨i',go⟩,jr,(up.mono (R3 l)).trans z2 go⟩
  rintro σ H1 z2_;apply AZ;intro G_ hG_;obtain⟨x,G',rfl,fr,hz',⟨i',go⟩,jr,up⟩:=z2_;apply hG_;clear hG_ G_;exact xq1 rfl (k x G' H1 i' fr hz' go jr up)
theorem UX{f fh ff:Addr}{fd fdh fdf:FuncData}(F:Fun K "reckoned" "Jumps.reckoned" Db f fd)(Fh:Fun K "four_halfway" "Jumps.four_halfway" Bl fh fdh)(Ff:Fun K "fresh" "Jumps.fresh" Cd ff fdf)(T:Top K mg a)(Me:Pt K a.c_Jumps "reckoned" f)(Bi:Cs K fd Bn [])(Meh:Pt K a.c_Jumps "four_halfway" fh)(Bih:Cs K fdh BH [])(Mef:Pt K a.c_Jumps "fresh" ff)(Bif:Cs K fdf Dp [])(aB:BO P w K mg base CX0 7 a.c_Jumps "middle_after" BZ (Qw a))(a6:BO P w K mg base CX0 2 a.c_Grove "linked" AQ (DK a))(aN:Cal P w K mg base CX0 3 "nine_parts" DZ (NX a))(aR:Cal P w K mg base CX0 1 "fours_of" FD LB)(aD:Cal P w K mg base CX0 3 "met_in_the_middle" Cj (UI a)):∀L,AI P w K mg base CX0 (10+3*L) f fd Bn (Gd a L)
 |0=>(AI.no (k:=10)).imp λvs H Q E h=>by
  apply AZ;intro G_ hG_;obtain⟨p,dx,mem,pr,g,G,Κ,N,b,r,m,n,l,e,_,_,_,_,_,hL,_⟩:=h;apply hG_;clear hG_ G_;exact absurd hL (M0 l)
 |L+1=>by
  have ih:=UX F Fh Ff T Me Bi Meh Bih Mef Bif aB a6 aN aR aD L;have M1:BO P w K mg base CX0 (10+3*L) a.c_Jumps "reckoned" Bn (Gd a L):=⟨⟨_,_,ih,Me,Bi⟩,T.cl_Jumps⟩
  have h2:=YD Fh T A0 aN aR a6 M1;have M2:BO P w K mg base CX0 (10+3*L+1) a.c_Jumps "four_halfway" BH (QA a L):=⟨⟨_,_,h2,Meh,Bih⟩,T.cl_Jumps⟩
  have h3:=ok_freA Ff T A0 aB a6 aN aR aD M1 M2;have M3:BO P w K mg base CX0 (10+3*L+2) a.c_Jumps "fresh" Dp (Tm a (L+1)):=⟨⟨_,_,h3,Mef,Bif⟩,T.cl_Jumps⟩
  exact ok_recB F T M3
theorem VS{L d:Nat}{f:Addr}{fd:FuncData}(F:Fun K "after" "Jumps.after" Gk f fd)(T:Top K mg a)(d4:4<=d)(aX:BO P w K mg base CX0 4 a.c_Jumps "check_jump" Dx (spCj a))(aA:BO P w K mg base CX0 d a.c_Jumps "reckoned" Bn (Gd a L)):AI P w K mg base CX0 (d+1) f fd Gr (Gd a L):=by
 refine F.ok Og (λvs H Q E h=>?_) (λcdv A outer s H vs Q E hr h=>?_)
 ·apply AZ;intro G_ hG_;obtain⟨p,dx,mem,pr,g,G,Κ,N,b,r,m,n,l,e,rfl,_⟩:=h;apply hG_;clear hG_ G_;rfl
 ·apply AZ;intro G_ hG_;obtain⟨p,dx,mem,pr,g,G,Κ,N,b,r,m,n,l,e,rfl,hz,fin,cl,hl,hL,he,hκ,few,k⟩:=h;have hj:=hz.jw;have sz:=hz.sz fin;obtain⟨q,eq,el⟩:=id hl;apply hG_;clear hG_ G_;refine⟨_,(Ac (BS (AF (pv 0) aX (rm hr) Am (Aa (pv 1) (Aa (pv 2) Ab)))) (Ag (Av (AF (pv 0) aA (rm hr) Am (Aa (pv 1) (Aa (pv 2) Ab)))))),?_⟩
  try dsimp only[cxK]
  refine xwn rfl rfl hj.hp (VX _ _ _ _ _) rfl (xq1 rfl ⟨p,dx,g.p,mem,pr,m.l,m.kc,g,G,n,e,q,rfl,hj.hp,hj.gr,eq,by rw[el];lia,?_⟩);exact xwn rfl rfl hj.hp (LR _ _ _ _ _) rfl (xq1 rfl ⟨p,dx,mem,pr,g,G,Κ,N,b,r,m,n,l,e,rfl,hz,fin,cl,hl,hL,he,hκ,few,k⟩)
end
theorem CI(l:Nat):(2:Int)^(l+1)=2^l+2^l:=by rw[V0];lia
def IA(x y w h r:Int):Prop:=-r<=x/\-r<=y/\x+w<=r/\y+h<=r
instance(x y w h r:Int):Decidable (IA x y w h r):=by unfold IA;infer_instance
theorem lies_b(x y w h r:Int):(decide (-r<=x) && (decide (-r<=y) && (decide (x+w<=r) && decide (y+h<=r))))=decide (IA x y w h r):=by
 rw[S0];simp only[Q0,A4f];exact Iff.rfl
structure Wid(G:Gv)(n f w:Nat):Prop where
 ex:∃(q:Sq)(x y z v a b c d:Nat),CP G n f q x y z v/\G[a]?=some ⟨[(bareN n:Int),(bareN n:Int),(bareN n:Int),(x:Int)],(n:Int)+1⟩/\G[b]?=some ⟨[(bareN n:Int),(bareN n:Int),(y:Int),(bareN n:Int)],(n:Int)+1⟩ /\
  G[c]?=some ⟨[(bareN n:Int),(z:Int),(bareN n:Int),(bareN n:Int)],(n:Int)+1⟩/\G[d]?=some ⟨[(v:Int),(bareN n:Int),(bareN n:Int),(bareN n:Int)],(n:Int)+1⟩/\G[w]?=some ⟨[(a:Int),(b:Int),(c:Int),(d:Int)],(n:Int)+2⟩
theorem Wid.lev{G:Gv}{n f w:Nat}(h:Wid G n f w):Ak G w ((n+2:Nat):Int):=by
 obtain⟨q,x,y,z,v,a,b,c,d,nd,ea,eb,ec,ed,ew⟩:=h.ex;exact⟨_,ew,by show(n:Int)+2=_;lia⟩
theorem Wid.app{G G':Gv}{k n f w:Nat}(go:AH G G' k)(h:Wid G n f w):Wid G' n f w:=by
 obtain⟨q,x,y,z,v,a,b,c,d,nd,ea,eb,ec,ed,ew⟩:=h.ex;exact⟨q,x,y,z,v,a,b,c,d,nd.app go,go.get ea,go.get eb,go.get ec,go.get ed,go.get ew⟩
theorem GK{G r:Gv}(e:G=G0++r){n:Nat}(h:n<=48):Ak G (bareN n) (n:Int):=by
 rw[e];exact(Zq n h).app
theorem bareL_at'{l:Nat}(h:l<=48):((Da 48).map V.int)[l]?=some (.int (bareN l:Int)):=by
 unfold Da;rw[B8,B8,P8 A0];rfl
section
variable{P:Program}{w:World}{K:PySem.W.Frag}{mg:Str->Option Value}{base:Heap}{a:Ad}
inductive SpLie(vs:List V)(H:Hp)(Q:VK):Prop
 |mk (t:Addr) (x y w h r:Int) (_:vs=[.ref t,.int r]) (_:H t=some (.tup [.int x,.int y,.int w,.int h])) (_:Q (.bl (decide (IA x y w h r))) H):SpLie vs H Q
def RS:Sp:=λvs H Q _=>SpLie vs H Q
theorem ok_lie{f:Addr}{fd:FuncData}(F:Fun K "lies_within" "lies_within" Gh f fd)(T:Top K mg a):AI P w K mg base CX0 1 f fd Do RS:=by
 refine F.ok Od (λvs H Q E h=>?_) (λcdv A outer s H vs Q E hr h=>?_)
 ·obtain⟨t,x,y,w,h,r,rfl,_⟩:=h;rfl
 ·obtain⟨t,x,y,wd,hh,r,rfl,ht,k⟩:=h;rw[<-lies_b]at k;refine⟨_,(Ag (Av (Jb (DX LQ (LL GM (pv 1)) (Aj An (pv 0) Ae (λ_ _=>rfl)) (AG _)) (Jb (DX LQ (LL GM (pv 1)) (Aj An (pv 0) Ae (λ_ _=>rfl)) (AG _)) (Jb (DX LQ (AA AL (Aj An (pv 0) Ae (λ_ _=>rfl)) (Aj An (pv 0) Ae (λ_ _=>rfl))) (pv 1) (AG _)) (Lk (DX LQ (AA AL (Aj An (pv 0) Ae (λ_ _=>rfl)) (Aj An (pv 0) Ae (λ_ _=>rfl))) (pv 1) (AG _)))))))),?_⟩
  try dsimp only[cxK]
  refine xw3 rfl rfl rfl (xq4 rfl rfl (SqT.of ht) (Ai (j:=0) rfl) (xq2 rfl rfl (NS (λ_ Q1 q1=>?_) k)));refine xw3 rfl rfl rfl (xq4 rfl rfl (SqT.of ht) (Ai (j:=1) rfl) (xq2 rfl rfl (NS (λ_ Q2 q2=>?_) q1)));refine xwi rfl rfl rfl (SqT.of ht) (Ai (j:=0) rfl) (xwi rfl rfl rfl (SqT.of ht) (Ai (j:=2) rfl) (xq2 rfl rfl (xwb rfl rfl rfl (NS (λ_ Q3 q3=>?_) q2))));exact xwi rfl rfl rfl (SqT.of ht) (Ai (j:=1) rfl) (xwi rfl rfl rfl (SqT.of ht) (Ai (j:=3) rfl) (xq2 rfl rfl (xwb rfl rfl rfl q3)))
inductive Vt(a:Ad)(vs:List V)(H:Hp)(Q:VK):Prop
 |mk (g:GA) (G:Gv) (i n:Nat) (_:vs=[.ref g.p,.int i]) (_:AJ a H g G) (_:Ak G i ((n+1:Nat):Int)) (_:n<48) (_:Q (.int (2^n)) H):Vt a vs H Q
def Jw(a:Ad):Sp:=λvs H Q _=>Vt a vs H Q
theorem Yy{f:Addr}{fd:FuncData}(F:Fun K "reach_of" "reach_of" JY f fd)(T:Top K mg a)(a7:BO P w K mg base CX0 3 a.c_Grove "level_of" AY (LA a)):AI P w K mg base CX0 4 f fd En (Jw a):=by
 refine F.ok RU (λvs H Q E h=>?_) (λcdv A outer s H vs Q E hr h=>?_)
 ·obtain⟨g,G,i,n,rfl,_⟩:=h;rfl
 ·obtain⟨g,G,i,n,rfl,hg,⟨q,e,el⟩,n48,k⟩:=h;refine⟨_,(Ag (Av (AA Ow Ae (AA Cw (AF (pv 0) a7 (rm hr) Am (Aa (pv 1) Ab)) Ae)))),?_⟩
  try dsimp only[cxK]
  have en:q.lev=(n:Int)+1:=by rw[el];lia
  refine xwn rfl rfl hg.hp (CV g) rfl ⟨g,G,i,q,rfl,hg,e,(xq2 rfl rfl (xq2 rfl rfl ⟨⟨by lia,by lia,by decide⟩,?_⟩))⟩;show Q (.int (1*2^(q.lev-1).toNat)) H;rw[Qt n en];exact k
inductive VD(a:Ad)(vs:List V)(H:Hp)(Q:VK):Prop
 |mk (g:GA) (G:Gv) (_:vs=[.ref g.p]) (_:AX a H g G) (_:Q (.int (bareN 1:Int)) H):VD a vs H Q
def NB(a:Ad):Sp:=λvs H Q _=>VD a vs H Q
theorem YI{f:Addr}{fd:FuncData}(F:Fun K "bare_field" "bare_field" GV f fd)(T:Top K mg a):AI P w K mg base CX0 1 f fd EY (NB a):=by
 refine F.ok Pd (λvs H Q E h=>?_) (λcdv A outer s H vs Q E hr h=>?_)
 ·obtain⟨g,G,rfl,_⟩:=h;rfl
 ·obtain⟨g,G,rfl,fu,k⟩:=h;exact⟨_,(Ag (Av (Aj Ax (AB (pv 0) rfl) (BY rfl T.k_LEAST_LEVEL) (λ_ _=>rfl)))),(xwf rfl rfl fu.at'.hp T.cl_Grove T.na_Grove_bares (Iu g) (xq4 rfl rfl (SqL.of fu.br) (Ai (j:=1) (bareL_at' A0)) k))⟩
inductive SpWid(a:Ad)(vs:List V)(H:Hp)(Q:VK):Prop
 |mk (g:GA) (G:Gv) (f n:Nat) (_:vs=[.ref g.p,.int f]) (_:AX a H g G) (_:Ak G f ((n+1:Nat):Int)) (_:n<47) (_:G.length<8900000) (_:∀(w:Nat)(G':Gv)(H':Hp),Fr g H H'->AJ a H' g G'->AH G G' 5->Wid G' n f w->Q (.int w) H'):SpWid a vs H Q
def UF(a:Ad):Sp:=λvs H Q _=>SpWid a vs H Q
theorem ok_wid{f:Addr}{fd:FuncData}(F:Fun K "widened" "widened" Mt f fd)(T:Top K mg a)(a7:BO P w K mg base CX0 3 a.c_Grove "level_of" AY (LA a))(a6:BO P w K mg base CX0 2 a.c_Grove "linked" AQ (DK a)):AI P w K mg base CX0 4 f fd JA (UF a):=by
 refine F.ok GO (λvs H Q E h=>?_) (λcdv A outer s H vs Q E hr h=>?_)
 ·obtain⟨g,G,f',n,rfl,_⟩:=h;rfl
 ·obtain⟨g,G,f',n,rfl,fu,hl,n47,few,k⟩:=h;obtain⟨q,x,y,z,v,nd⟩:=Be fu.ok hl;have lq:=nd.lev;obtain⟨ts,h3,h4⟩:=fu.at'.pt;obtain⟨t,et,ht⟩:=PairedM.get h4 nd.g;have ht:H t=some (.tup [.int x,.int y,.int z,.int v]):=by
   have ht:H t=some (.tup (q.parts.map V.int)):=ht;rw[nd.ps]at ht;exact ht
  obtain⟨r,e0⟩:=fu.g0;have lb:=GK e0 (n:=n) A0;refine⟨_,(Ac (Aq (i:=2) GO.nd rfl (Or.inl rfl) (AF (pv 0) a7 (rm hr) Am (Aa (pv 1) Ab))) (Ac (AM (PW.pt (MZ (Az IH (pv 2) (BY rfl T.k_LEAST_LEVEL) (AG _)) (Lj (Az Cb (pv 2) (BY rfl T.k_TOP_LEVEL) (AG _))))) (Ag Bm) AC) (Ac (Aq (i:=3) GO.nd rfl (Or.inl rfl) (Aj Ax (AB (pv 0) rfl) (pv 1) (λ_ _=>rfl))) (Ac (Aq (i:=4) GO.nd rfl (Or.inl rfl) (Aj Ax (AB (pv 0) rfl) (AA Cw (pv 2) Ae) (λ_ _=>rfl))) (Ag (Av (AF (pv 0) a6 (rm hr) Am (BB (Aa (AF (pv 0) a6 (rm hr) Am (BB (Aa (pv 4) (Aa (pv 4) (Aa (pv 4) (Aa (Aj An (pv 3) Ae (λ_ _=>rfl)) Ab)))) Ab)) (Aa (AF (pv 0) a6 (rm hr) Am (BB (Aa (pv 4) (Aa (pv 4) (Aa (Aj An (pv 3) Ae (λ_ _=>rfl)) (Aa (pv 4) Ab)))) Ab)) (Aa (AF (pv 0) a6 (rm hr) Am (BB (Aa (pv 4) (Aa (Aj An (pv 3) Ae (λ_ _=>rfl)) (Aa (pv 4) (Aa (pv 4) Ab)))) Ab)) (Aa (AF (pv 0) a6 (rm hr) Am (BB (Aa (Aj An (pv 3) Ae (λ_ _=>rfl)) (Aa (pv 4) (Aa (pv 4) (Aa (pv 4) Ab)))) Ab)) Ab)))) Ab)))))))),?_⟩
  try dsimp only[cxK]
  refine xq1 rfl ⟨g.p,g.dx,(xq1 rfl ⟨fu.at'.hp,CV g,(xq1 rfl ⟨g,G,f',q,rfl,fu.at',nd.g,?_⟩)⟩)⟩;refine xwb rfl rfl rfl (xq1 rfl ?_);rw[Z0 (by lia:¬q.lev<1)];refine Bo (xq1 rfl ⟨rfl,(xq1 rfl ?_)⟩);rw[Z0 (by intro z;injection z with z;lia)];refine Bo (xwf rfl rfl fu.at'.hp T.cl_Grove T.na_Grove_parts (Cf g) (xwi rfl rfl rfl (SqL.of h3) (Ai (by rw[B8,et];rfl)) ?_));refine xwf rfl rfl fu.at'.hp T.cl_Grove T.na_Grove_bares (Iu g) (xwb rfl rfl rfl (xq4 rfl rfl (SqL.of fu.br) (by rw[show q.lev-1=(n:Int) by lia];exact Ai (bareL_at' A0)) ?_));refine xq1 rfl ⟨g.p,g.dx,(xq1 rfl ⟨fu.at'.hp,BK g,?_⟩)⟩;refine xq1 rfl ⟨g.p,g.dx,(xq1 rfl ⟨fu.at'.hp,BK g,(xw3 rfl rfl rfl (xwi rfl rfl rfl (SqT.of ht) (Ai (j:=0) rfl) ⟨(by show 4<=sizeLine;decide),λt1 ht1=>?_⟩))⟩)⟩;have s1:=AK (o:=.tup [.int (bareN n:Int),.int (bareN n:Int),.int (bareN n:Int),.int x]) ht1;refine⟨g,G,t1,bareN n,bareN n,bareN n,x,(n:Int),rfl,fu.at'.same s1,fu.ok,Af,⟨lb,lb,lb,nd.hx⟩,by lia,by lia,λa1 G1 H1 fr1 hg1 go1 e1=>?_⟩;have f1:=(Ay.fr s1).trans fr1;have htA:=f1.tup fu.at' ht;have n1:=go1.few;refine xwn rfl rfl hg1.hp (BK g) rfl (xwj rfl rfl rfl rfl (SqT.of htA) (Ai (j:=1) rfl) (xq1 rfl ⟨(by show 4<=sizeLine;decide),λt2 ht2=>?_⟩));have s2:=AK (o:=.tup [.int (bareN n:Int),.int (bareN n:Int),.int y,.int (bareN n:Int)]) ht2;refine⟨g,G1,t2,bareN n,bareN n,y,bareN n,(n:Int),rfl,hg1.same s2,go1.ok,Af,⟨go1.lev lb,go1.lev lb,go1.lev nd.hy,go1.lev lb⟩,by lia,by lia,λa2 G2 H2 fr2 hg2 go2 e2=>?_⟩;have f2:=f1.trans ((Ay.fr s2).trans fr2);have htB:=f2.tup fu.at' ht;have n2:=go2.few;have go12:=go1.trans go2;refine xwn rfl rfl hg2.hp (BK g) rfl (xwi rfl rfl rfl (SqT.of htB) (Ai (j:=2) rfl) (xw2 rfl rfl ⟨(by show 4<=sizeLine;decide),λt3 ht3=>?_⟩));have s3:=AK (o:=.tup [.int (bareN n:Int),.int z,.int (bareN n:Int),.int (bareN n:Int)]) ht3;refine⟨g,G2,t3,bareN n,z,bareN n,bareN n,(n:Int),rfl,hg2.same s3,go2.ok,Af,⟨go12.lev lb,go12.lev nd.hz,go12.lev lb,go12.lev lb⟩,by lia,by lia,λa3 G3 H3 fr3 hg3 go3 e3=>?_⟩;have f3:=f2.trans ((Ay.fr s3).trans fr3);have htC:=f3.tup fu.at' ht;have n3:=go3.few;have go13:=go12.trans go3;refine xwn rfl rfl hg3.hp (BK g) rfl (xq4 rfl rfl (SqT.of htC) (Ai (j:=3) rfl) (xw3 rfl rfl rfl ⟨(by show 4<=sizeLine;decide),λt4 ht4=>?_⟩));have s4:=AK (o:=.tup [.int v,.int (bareN n:Int),.int (bareN n:Int),.int (bareN n:Int)]) ht4;refine⟨g,G3,t4,v,bareN n,bareN n,bareN n,(n:Int),rfl,hg3.same s4,go3.ok,Af,⟨go13.lev nd.hw,go13.lev lb,go13.lev lb,go13.lev lb⟩,by lia,by lia,λa4 G4 H4 fr4 hg4 go4 e4=>?_⟩;have f4:=f3.trans ((Ay.fr s4).trans fr4);have n4:=go4.few;have go14:=go13.trans go4;refine⟨(by show 4<=sizeLine;decide),λt5 ht5=>?_⟩;have s5:=AK (o:=.tup [.int a1,.int a2,.int a3,.int a4]) ht5;have E1:=(go2.trans (go3.trans go4)).get e1;have E2:=(go3.trans go4).get e2;have E3:=go4.get e3;refine⟨g,G4,t5,a1,a2,a3,a4,(n:Int)+1,rfl,hg4.same s5,go4.ok,Af,⟨⟨_,E1,rfl⟩,⟨_,E2,rfl⟩,⟨_,E3,rfl⟩,⟨_,e4,rfl⟩⟩,by lia,by lia,λw' G5 H5 fr5 hg5 go5 e5=>?_⟩;have go15:=go14.trans go5;exact k w' G5 H5 (f4.trans ((Ay.fr s5).trans fr5)) hg5 go15 ⟨q,x,y,z,v,a1,a2,a3,a4,nd.app go15,go5.get E1,go5.get E2,go5.get E3,go5.get e4,by rw[e5,show(n:Int)+1+1=(n:Int)+2 by lia]⟩
end
structure Nt(G:Gv)(n i:Nat)(qs:Nat->Nat)(ps:Nat->Nat->Nat):Prop where
 node:∃q,CP G (n+1) i q (qs 0) (qs 1) (qs 2) (qs 3)
 sub:∀k,k<4->∃q,CP G n (qs k) q (ps k 0) (ps k 1) (ps k 2) (ps k 3)
theorem Nt.app{G G':Gv}{k n i:Nat}{qs:Nat->Nat}{ps:Nat->Nat->Nat}(go:AH G G' k)(h:Nt G n i qs ps):Nt G' n i qs ps:=by
 obtain⟨q,nd⟩:=h.node;exact⟨⟨q,nd.app go⟩,λk hk=>by obtain⟨q,nd⟩:=h.sub k hk;exact⟨q,nd.app go⟩⟩
def f4(x y z w:Nat)(k:Nat):Nat:=match k with|0=>x|1=>y|2=>z|_=>w
theorem Vm{G:Gv}(ok:GOk G){n i:Nat}(h:Ak G i ((n+2:Nat):Int)):∃qs ps,Nt G n i qs ps:=by
 obtain⟨q,x,y,z,w,nd⟩:=Be ok (n:=n+1) h;obtain⟨_,x0,x1,x2,x3,nx⟩:=Be ok nd.hx;obtain⟨_,y0,y1,y2,y3,ny⟩:=Be ok nd.hy;obtain⟨_,z0,z1,z2,z3,nz⟩:=Be ok nd.hz;obtain⟨_,w0,w1,w2,w3,nw⟩:=Be ok nd.hw;refine⟨f4 x y z w,λk=>match k with|0=>f4 x0 x1 x2 x3|1=>f4 y0 y1 y2 y3|2=>f4 z0 z1 z2 z3|_=>f4 w0 w1 w2 w3,⟨q,nd⟩,λk hk=>?_⟩
 match k,hk with
 |0,_=>exact⟨_,nx⟩
 |1,_=>exact⟨_,ny⟩
 |2,_=>exact⟨_,nz⟩
 |3,_=>exact⟨_,nw⟩
theorem CP.nat{G:Gv}{n i:Nat}{q:Sq}{x y z w:Nat}(h:CP G n i q x y z w){j:Nat}(hj:j<4):q.parts[j]?=some ((f4 x y z w j:Nat):Int)/\Ak G (f4 x y z w j) n:=by
 rw[h.ps]
 match j,hj with
 |0,_=>exact⟨rfl,h.hx⟩
 |1,_=>exact⟨rfl,h.hy⟩
 |2,_=>exact⟨rfl,h.hz⟩
 |3,_=>exact⟨rfl,h.hw⟩
theorem OS(p:Nat->Nat){j:Nat}(hj:j<4):f4 (p 0) (p 1) (p 2) (p 3) j=p j:=by
 match j,hj with
 |0,_=>rfl
 |1,_=>rfl
 |2,_=>rfl
 |3,_=>rfl
def BA(n:Nat)(ps:Nat->Nat->Nat):Prop:=∀k j,k<4->j<4->j+k≠3->ps k j=bareN n
def EU(G:Gv):Nat->Nat->Nat->Prop
 |0,_,_=>False
 |1,f,r=>r=f
 |n+2,f,r=>∃qs ps,Nt G n f qs ps/\((¬BA n ps/\r=f)\/(BA n ps/\∃m,G[m]?=some ⟨[(ps 0 3:Int),(ps 1 2:Int),(ps 2 1:Int),(ps 3 0:Int)],(n:Int)+1⟩/\EU G (n+1) m r))
theorem EU.app{G G':Gv}{k:Nat}(go:AH G G' k):∀{n f r:Nat},EU G n f r->EU G' n f r
 |0,_,_,h=>h
 |1,_,_,h=>h
 |n+2,f,r,h=>by
  obtain⟨qs,ps,d,h⟩:=h;refine⟨qs,ps,d.app go,?_⟩;rcases h with h|⟨h1,m,h2,h3⟩
  ·exact .inl h
  ·exact .inr ⟨h1,m,go.get h2,EU.app go h3⟩
section
variable{P:Program}{w:World}{K:PySem.W.Frag}{mg:Str->Option Value}{base:Heap}{a:Ad}
theorem Id{H:Hp}{g:GA}{G:Gv}(h:AJ a H g G){n i:Nat}{q:Sq}{x y z w:Nat}(nd:CP G n i q x y z w):∃(ts:List Addr)(t:Addr),H g.pt=some (.lst (ts.map V.ref))/\(ts.map V.ref)[i]?=some (.ref t)/\H t=some (.tup [.int x,.int y,.int z,.int w]):=by
 obtain⟨ts,h3,h4⟩:=h.pt;obtain⟨t,et,ht⟩:=PairedM.get h4 nd.g;refine⟨ts,t,h3,by rw[B8,et];rfl,?_⟩;have ht:H t=some (.tup (q.parts.map V.int)):=ht;rw[nd.ps]at ht;exact ht
inductive SpMid(a:Ad)(vs:List V)(H:Hp)(Q:VK):Prop
 |mk (g:GA) (G:Gv) (i n:Nat) (qs:Nat->Nat) (ps:Nat->Nat->Nat) (_:vs=[.ref g.p,.int i]) (_:AJ a H g G) (_:GOk G) (_:Nt G n i qs ps) (_:n<47) (_:G.length<8900000) (_:∀(m:Nat)(G':Gv)(H':Hp),Fr g H H'->AJ a H' g G'->AH G G' 1->G'[m]?=some ⟨[(ps 0 3:Int),(ps 1 2:Int),(ps 2 1:Int),(ps 3 0:Int)],(n:Int)+1⟩->Q (.int m) H'):SpMid a vs H Q
def WY(a:Ad):Sp:=λvs H Q _=>SpMid a vs H Q
theorem ok_mid{f:Addr}{fd:FuncData}(F:Fun K "middle_of" "middle_of" FT f fd)(T:Top K mg a)(a6:BO P w K mg base CX0 2 a.c_Grove "linked" AQ (DK a)):AI P w K mg base CX0 3 f fd Jd (WY a):=by
 refine F.ok LE (λvs H Q E h=>?_) (λcdv A outer s H vs Q E hr h=>?_)
 ·obtain⟨g,G,i,n,qs,ps,rfl,_⟩:=h;rfl
 ·obtain⟨g,G,i,n,qs,ps,rfl,hg,ok,dp,n47,few,k⟩:=h;obtain⟨q,nd⟩:=dp.node;obtain⟨ts,t,h3,et,ht⟩:=Id hg nd;refine⟨_,(Ac (Ic (i:=2) rfl LE.nd rfl rfl (Bw.of (So:=Ah FT) (No:=Nc) (N:=["quarter","grove"]) (k:=1) (cs:=[0]) rfl rfl A1) (Tt (Aj Ax (AB (pv 0) rfl) (pv 1) (λ_ _=>rfl))) (λ_ _ _=>(Bc (i:=0) A1 rfl rfl)) (λ_ _ _=>BE) (λ_ _ _=>(Aj (Zl (K:=K) rfl) (QM (K:=K) rfl (pv 1) rfl) (pv 0) (λ_ _=>rfl)))) (Ag (Av (AF (pv 0) a6 (rm hr) Am (BB (Aa (Aj An (Aj Ax (pv 2) Ae (λ_ _=>rfl)) Ae (λ_ _=>rfl)) (Aa (Aj An (Aj Ax (pv 2) Ae (λ_ _=>rfl)) Ae (λ_ _=>rfl)) (Aa (Aj An (Aj Ax (pv 2) Ae (λ_ _=>rfl)) Ae (λ_ _=>rfl)) (Aa (Aj An (Aj Ax (pv 2) Ae (λ_ _=>rfl)) Ae (λ_ _=>rfl)) Ab)))) Ab))))),?_⟩
  try dsimp only[cxK]
  refine xwf rfl rfl hg.hp T.cl_Grove T.na_Grove_parts (Cf g) (xwi rfl rfl rfl (SqL.of h3) (Ai et) ⟨t,rfl,⟨_,SqT.of ht⟩,?_⟩);have sub:∀k,k<4->∃tk,(ts.map V.ref)[qs k]?=some (.ref tk)/\H tk=some (.tup [.int (ps k 0),.int (ps k 1),.int (ps k 2),.int (ps k 3)]):=λk hk=>by
   obtain⟨qk,ndk⟩:=dp.sub k hk;obtain⟨ts',tk,h3',et',ht'⟩:=Id hg ndk;rw[h3]at h3';have h3':=HO.lst.inj (Z5 h3');exact⟨tk,by rw[h3'];exact et',ht'⟩
  obtain⟨t0,e0,p0⟩:=sub 0 A4;obtain⟨t1,e1,p1⟩:=sub 1 A4;obtain⟨t2,e2,p2⟩:=sub 2 A4;obtain⟨t3,e3,p3⟩:=sub 3 A4;have all:∀(j:Nat)(v:V),[V.int (qs 0:Int),V.int (qs 1:Int),V.int (qs 2:Int),V.int (qs 3:Int)][j]?=some v->∃(k:Nat)(tk:Addr),v=.int (k:Int)/\(ts.map V.ref)[k]?=some (.ref tk)/\[V.ref t0,V.ref t1,V.ref t2,V.ref t3][j]?=some (.ref tk):=λj v ev=>by
   match j,ev with
   |0,ev=>cases ev;exact⟨qs 0,t0,rfl,e0,rfl⟩
   |1,ev=>cases ev;exact⟨qs 1,t1,rfl,e1,rfl⟩
   |2,ev=>cases ev;exact⟨qs 2,t2,rfl,e2,rfl⟩
   |3,ev=>cases ev;exact⟨qs 3,t3,rfl,e3,rfl⟩
   |j+4,ev=>simp at ev
  refine Rs (xs:=[.int (qs 0:Int),.int (qs 1:Int),.int (qs 2:Int),.int (qs 3:Int)]) (λj acc H2=>H=H2/\acc=[V.ref t0,V.ref t1,V.ref t2,V.ref t3].take j) ⟨rfl,rfl⟩ (λj acc H2 _ z=>z.1▸SqT.of ht) ?_ ?_
  ·rintro j v acc H2 ev ⟨rfl,rfl⟩;obtain⟨k',tk,rfl,ek,el⟩:=all j v ev;refine⟨⟨[some (.int k')],rfl,rfl⟩,by rw[J0];exact FY (by show min j 4<10000000;lia),Gb (xwf rfl rfl hg.hp T.cl_Grove T.na_Grove_parts (Cf g) (xwi rfl rfl rfl (SqL.of h3) (Ai ek) ⟨rfl,?_⟩))⟩;rw[F3,el];rfl
  ·rintro acc H2 ⟨rfl,rfl⟩ L hL;have s1:=AK (o:=.lst [V.ref t0,V.ref t1,V.ref t2,V.ref t3]) hL;have hL1:upd H L (.lst [V.ref t0,V.ref t1,V.ref t2,V.ref t3]) L=some (.lst [V.ref t0,V.ref t1,V.ref t2,V.ref t3]):=Af;rw[show(List.take [V.int (qs 0:Int),V.int (qs 1:Int),V.int (qs 2:Int),V.int (qs 3:Int)].length [V.ref t0,V.ref t1,V.ref t2,V.ref t3])=[V.ref t0,V.ref t1,V.ref t2,V.ref t3]from rfl];generalize upd H L (.lst [V.ref t0,V.ref t1,V.ref t2,V.ref t3])=H1 at s1 hL1⊢;have hg1:=hg.same s1;refine xwn rfl rfl hg1.hp (BK g) rfl (xq4 rfl rfl (SqL.of hL1) (Ai (j:=0) rfl) (xq4 rfl rfl (SqT.of (s1 _ _ p0)) (Ai (j:=3) rfl) (xwi rfl rfl rfl (SqL.of hL1) (Ai (j:=1) rfl) (xq4 rfl rfl (SqT.of (s1 _ _ p1)) (Ai (j:=2) rfl) ?_))));refine xwi rfl rfl rfl (SqL.of hL1) (Ai (j:=2) rfl) (xq4 rfl rfl (SqT.of (s1 _ _ p2)) (Ai (j:=1) rfl) (xwi rfl rfl rfl (SqL.of hL1) (Ai (j:=3) rfl) (xq4 rfl rfl (SqT.of (s1 _ _ p3)) (Ai (j:=0) rfl) ⟨(by show 4<=sizeLine;decide),λt4 ht4=>?_⟩)));have s2:=AK (o:=.tup [.int (ps 0 3),.int (ps 1 2),.int (ps 2 1),.int (ps 3 0)]) ht4;obtain⟨_,n0⟩:=dp.sub 0 A4;obtain⟨_,n1⟩:=dp.sub 1 A4;obtain⟨_,n2⟩:=dp.sub 2 A4;obtain⟨_,n3⟩:=dp.sub 3 A4;exact⟨g,G,t4,ps 0 3,ps 1 2,ps 2 1,ps 3 0,(n:Int),rfl,hg1.same s2,ok,Af,⟨n0.hw,n1.hz,n2.hy,n3.hx⟩,by lia,by lia,λm G' H' fr hg' go e=>k m G' H' ((Ay.fr s1).trans ((Ay.fr s2).trans fr)) hg' go e⟩
inductive SpBA(a:Ad)(vs:List V)(H:Hp)(Q:VK):Prop
 |mk (g:GA) (G:Gv) (i n:Nat) (qs:Nat->Nat) (ps:Nat->Nat->Nat) (_:vs=[.ref g.p,.int i]) (_:AX a H g G) (_:Nt G n i qs ps) (_:n<47) (_:(BA n ps->∀H',Ay H H'->Q (.bl true) H')) (_:(¬BA n ps->∀H',Ay H H'->Q (.bl false) H')):SpBA a vs H Q
def spBA(a:Ad):Sp:=λvs H Q _=>SpBA a vs H Q
theorem ok_ba{f:Addr}{fd:FuncData}(F:Fun K "is_bare_around" "is_bare_around" Eh f fd)(T:Top K mg a):AI P w K mg base CX0 1 f fd Ep (spBA a):=by
 refine F.ok BJ (λvs H Q E h=>?_) (λcdv A outer s H vs Q E hr h=>?_)
 ·obtain⟨g,G,i,n,qs,ps,rfl,_⟩:=h;rfl
 ·obtain⟨g,G,i,n,qs,ps,rfl,fu,dp,n47,k1,k2⟩:=h;obtain⟨q,nd⟩:=dp.node;have lq:=nd.lev;obtain⟨ts,t,h3,et,ht⟩:=Id fu.at' nd;refine⟨_,(Ac (Aq (i:=2) BJ.nd rfl (Or.inl rfl) (Aj Ax (AB (pv 0) rfl) (AA Cw (Aj Ax (AB (pv 0) rfl) (pv 1) (λ_ _=>rfl)) Ae) (λ_ _=>rfl))) (Ac (CL Z6 rfl (NF true rfl T.b_enumerate (Aa (Aj Ax (AB (pv 0) rfl) (pv 1) (λ_ _=>rfl)) Ab)) (Oq rfl (Dl (Bv (i:=3) BJ.nd rfl (Or.inl rfl)) (Dl (Bv (i:=4) BJ.nd rfl (Or.inl rfl)) LK))) (Ag (CL Z6 rfl (NF true rfl T.b_enumerate (Aa (Aj Ax (AB (pv 0) rfl) (pv 4) (λ_ _=>rfl)) Ab)) (Oq rfl (Dl (Bv (i:=5) BJ.nd rfl (Or.inl rfl)) (Dl (Bv (i:=6) BJ.nd rfl (Or.inl rfl)) LK))) (Ag (AM (PW.pt (MB (Az JP (pv 6) (pv 2) (AG _)) (Jy (Az JP (pv 5) (AA Cw Ae (pv 3)) (AG _))))) (Ag (Av Sj)) AC))))) (Ag (Av Sj)))),?_⟩
  try dsimp only[cxK]
  refine xwf rfl rfl fu.at'.hp T.cl_Grove T.na_Grove_bares (Iu g) (xwf rfl rfl fu.at'.hp T.cl_Grove T.na_Grove_levels (EQ g) (xwi rfl rfl rfl (SqL.of fu.at'.lv) (Ai (by rw[B8,nd.g];rfl)) (xq2 rfl rfl (xq4 rfl rfl (SqL.of fu.br) (by rw[show q.lev-2=(n:Int) by lia];exact Ai (bareL_at' A0)) ?_))));refine xwf rfl rfl fu.at'.hp T.cl_Grove T.na_Grove_parts (Cf g) (xwi rfl rfl rfl (SqL.of h3) (Ai et) ⟨t,rfl,⟨_,SqT.of ht⟩,?_⟩);refine Ma (b:=true) (xs:=[.int (qs 0:Int),.int (qs 1:Int),.int (qs 2:Int),.int (qs 3:Int)]) (λj σ H2=>Ay H H2/\(∃u3 u4 u5 u6:Option V,σ=[some (.ref g.p),some (.int i),some (.int (bareN n:Int)),u3,u4,u5,u6])/\∀k' j',k'<j->k'<4->j'<4->j'+k'≠3->ps k' j'=bareN n) ⟨Ay.refl H,⟨none,none,none,none,rfl⟩,λk' j' h=>absurd h (M0 _)⟩ (λj σ H2 _ z=>SqT.of (z.1 _ _ ht)) ?_ ?_
  ·rintro j v σ H2 T' ev ⟨sm,⟨u3,u4,u5,u6,rfl⟩,al⟩ nT;have hj:j<4:=(B7.mp ev).1;have ev':v=.int (qs j:Int):=by
    match j,hj,ev with
    |0,_,ev=>cases ev;rfl
    |1,_,ev=>cases ev;rfl
    |2,_,ev=>cases ev;rfl
    |3,_,ev=>cases ev;rfl
   subst ev';obtain⟨qk,ndk⟩:=dp.sub j hj;have s2:=sm.trans (AK (o:=.tup [.int j,.int (qs j)]) nT);refine PV Af ?_;generalize upd H2 T' (.tup [.int j,.int (qs j)])=H3 at s2⊢;obtain⟨ts3,t3,h33,et3,ht3⟩:=Id (fu.at'.same s2) ndk;refine xwf rfl rfl ((fu.at'.same s2).hp) T.cl_Grove T.na_Grove_parts (Cf g) (xwi rfl rfl rfl (SqL.of h33) (Ai et3) ⟨t3,rfl,⟨_,SqT.of ht3⟩,?_⟩);refine Ma (b:=true) (xs:=[.int (ps j 0:Int),.int (ps j 1:Int),.int (ps j 2:Int),.int (ps j 3:Int)]) (λj2 σ H4=>Ay H3 H4/\(∃u5 u6:Option V,σ=[some (.ref g.p),some (.int i),some (.int (bareN n:Int)),some (.int j),some (.int (qs j)),u5,u6])/\∀j',j'<j2->j'<4->j'+j≠3->ps j j'=bareN n) ⟨Ay.refl H3,⟨_,_,rfl⟩,λj' h=>absurd h (M0 _)⟩ (λj2 σ H4 _ z=>SqT.of (z.1 _ _ ht3)) ?_ ?_
   ·rintro j2 v σ H4 T2 ev ⟨sm2,⟨u5,u6,rfl⟩,al2⟩ nT2;have hj2:j2<4:=(B7.mp ev).1;have ev':v=.int (ps j j2:Int):=by
     match j2,hj2,ev with
     |0,_,ev=>cases ev;rfl
     |1,_,ev=>cases ev;rfl
     |2,_,ev=>cases ev;rfl
     |3,_,ev=>cases ev;rfl
    subst ev';have s4:=sm2.trans (AK (o:=.tup [.int j2,.int (ps j j2)]) nT2);refine PV Af ?_;generalize upd H4 T2 (.tup [.int j2,.int (ps j j2)])=H5 at s4⊢;refine xw2 rfl rfl ⟨rfl,(xq1 rfl ?_)⟩;refine WM (b2:=!decide (V.int (j2:Int)=V.int (3-(j:Int)))) (λ_ Q' q=>(xw2 rfl rfl (xq2 rfl rfl ⟨rfl,(xq1 rfl q)⟩))) ?_;refine Fb (λhc=>?_) (λhc=>?_)
    ·refine k2 (λba=>?_) H5 (s2.trans s4);rw[Q0]at hc;have c2:¬j2+j=3:=λz=>by
      have:=hc.2;rw[Y5 (show V.int (j2:Int)=V.int (3-(j:Int)) by congr 1;lia)]at this;cases this
     have c1:=hc.1;rw[ba j j2 hj hj2 c2,Y5 rfl]at c1;cases c1
    ·refine⟨s4,⟨_,_,rfl⟩,λj' h1 h2 h3'=>?_⟩;rcases P7.mp h1 with h|h
     ·exact al2 j' h h2 h3'
     ·subst h;refine Z2 λz=>hc ?_;rw[Z0 (show ¬V.int (ps j j':Int)=V.int (bareN n:Int) by intro q;injection q with q;exact z (Z4 q)),Z0 (show ¬V.int (j':Int)=V.int (3-(j:Int)) by intro q;injection q with q;lia)];rfl
   ·rintro σ H4 ⟨sm2,⟨u5,u6,rfl⟩,al2⟩;refine⟨s2.trans sm2,⟨_,_,_,_,rfl⟩,λk' j' h1 h2 h3' h4=>?_⟩;rcases P7.mp h1 with h|h
    ·exact al k' j' h h2 h3' h4
    ·subst h;exact al2 j' h3' h3' h4
  ·rintro σ H2 ⟨sm,⟨u3,u4,u5,u6,rfl⟩,al⟩;exact k1 (λk' j' h1 h2 h3'=>al k' j' h1 h1 h2 h3') H2 sm
end
theorem EU.lev{G:Gv}:∀{l f r:Nat},Ak G f (l:Int)->EU G l f r->∃n,n+1<=l/\Ak G r ((n+1:Nat):Int)
 |0,_,_,_,h=>h.elim
 |1,f,r,hl,h=>by
  have h:r=f:=h;subst h;exact⟨0,C0 _,hl⟩
 |n+2,f,r,hl,h=>by
  apply AZ;intro G_ hG_;obtain⟨qs,ps,d,h⟩:=h;apply hG_;clear hG_ G_;rcases h with ⟨_,rfl⟩|⟨_,m,e,h⟩
  ·exact⟨n+1,C0 _,hl⟩
  ·obtain⟨k,hk,lk⟩:=EU.lev (l:=n+1) ⟨_,e,by show(n:Int)+1=_;lia⟩ h;exact⟨k,by lia,lk⟩
section
variable{P:Program}{w:World}{K:PySem.W.Frag}{mg:Str->Option Value}{base:Heap}{a:Ad}
inductive ZL(a:Ad)(vs:List V)(H:Hp)(Q:VK):Prop
 |mk (g:GA) (G:Gv) (f n:Nat) (_:vs=[.ref g.p,.int f]) (_:AX a H g G) (_:Ak G f ((n+1:Nat):Int)) (_:G.length<8800000) (_:∀(r:Nat)(G':Gv)(H':Hp),Fr g H H'->AX a H' g G'->AH G G' 48->EU G' (n+1) f r->Q (.int r) H'):ZL a vs H Q
def NU(a:Ad):Sp:=λvs H Q _=>ZL a vs H Q
theorem ok_trim{f:Addr}{fd:FuncData}(F:Fun K "trimmed" "trimmed" Mu f fd)(T:Top K mg a)(a7:BO P w K mg base CX0 3 a.c_Grove "level_of" AY (LA a))(bA:Cal P w K mg base CX0 1 "is_bare_around" Ep (spBA a))(cB:Cal P w K mg base CX0 3 "middle_of" Jd (WY a)):AI P w K mg base CX0 4 f fd GE (NU a):=by
 refine F.ok JV (λvs H Q E h=>?_) (λcdv A outer s H vs Q E hr h=>?_)
 ·apply AZ;intro G_ hG_;obtain⟨g,G,f',n,rfl,_⟩:=h;apply hG_;clear hG_ G_;rfl
 ·apply AZ;intro G_ hG_;obtain⟨g,G,f',n,rfl,fu,hl,few,k⟩:=h;obtain⟨q,eq,lq⟩:=id hl;apply hG_;clear hG_ G_;have n48:n+1<=48:=by have:=(fu.ok.lev eq).2;lia
  refine⟨_,(Ac (AM (Az IH (AF (pv 0) a7 (rm hr) Am (Aa (pv 1) Ab)) (BY rfl T.k_LEAST_LEVEL) (AG _)) (Ag Bm) AC) (Ac (Aq (i:=2) JV.nd rfl (Or.inl rfl) (pv 1)) (Ac (IZ Z6 (PW.pt (MB (Az UW (Aj Ax (AB (pv 0) rfl) (pv 2) (λ_ _=>rfl)) (BY rfl T.k_LEAST_LEVEL) (AG _)) (Jy (Dw (Ar bA (rm hr) rfl Am (Aa (pv 0) (Aa (pv 2) Ab))))))) (Ag (Aq (i:=2) JV.nd rfl (Or.inl rfl) (Ar cB (rm hr) rfl Am (Aa (pv 0) (Aa (pv 2) Ab)))))) (Ag (Av (pv 2)))))),?_⟩
  try dsimp only[cxK]
  refine xq1 rfl ⟨g.p,g.dx,(xq1 rfl ⟨fu.at'.hp,CV g,(xq1 rfl ⟨g,G,f',q,rfl,fu.at',eq,(xq2 rfl rfl (xq1 rfl ?_))⟩)⟩)⟩;rw[Z0 (by lia:¬q.lev<1)];refine Bo (xq1 rfl ?_);refine⟨λm σ H2=>∃(G':Gv)(c:Nat),σ=[some (.ref g.p),some (.int f'),some (.int c)]/\Fr g H H2/\AX a H2 g G'/\AH G G' (n-m)/\m<=n/\Ak G' c ((m+1:Nat):Int)/\∀(r:Nat)(G'':Gv)(k:Nat),AH G' G'' k->EU G'' (m+1) c r->EU G'' (n+1) f' r,⟨n,G,f',rfl,Fr.refl g H,fu,(AH.refl fu.ok).mono A0,C0 _,hl,λ_ _ _ _ h=>h⟩,?_⟩;rintro m σ H2 z3_;apply AZ;intro G_ hG_;obtain⟨G',c,rfl,fr,fu2,go,mn,lc,tr⟩:=z3_;apply hG_;clear hG_ G_;have gf:=go.few;obtain⟨qc,ec,lqc⟩:=id lc;refine xwf rfl rfl fu2.at'.hp T.cl_Grove T.na_Grove_levels (EQ g) (xwi rfl rfl rfl (SqL.of fu2.at'.lv) (Ai (by rw[B8,ec];rfl)) (xq2 rfl rfl (xq1 rfl ?_)));cases m with
  |zero =>
   rw[Z0 (by lia:¬(1:Int)<qc.lev)];exact Bo (Bo (xq1 rfl (k c G' H2 fr fu2 (go.mono A0) (tr c G' 0 (AH.refl fu2.ok) rfl))))
  |succ m =>
   rw[Y5 (by lia:(1:Int)<qc.lev)];obtain⟨qs,ps,dp⟩:=Vm fu2.ok lc;refine Ce (xw2 rfl rfl ⟨g,G',c,m,qs,ps,rfl,fu2,dp,by lia,λba H3 s3=>⟨true,rfl,Ce ?_⟩,λnba H3 s3=>⟨false,rfl,Bo ?_⟩⟩)
   ·refine⟨fun σ' H'=>∃(G2:Gv)(c2:Nat),σ'=[some (.ref g.p),some (.int f'),some (.int c2)]/\Fr g H H'/\AX a H' g G2/\AH G G2 (n-m)/\m<=n/\Ak G2 c2 ((m+1:Nat):Int)/\∀(r:Nat)(G'':Gv)(k:Nat),AH G2 G'' k->EU G'' (m+1) c2 r->EU G'' (n+1) f' r,fun σ' H' z=>⟨m,by lia,z⟩,?_⟩;refine xw2 rfl rfl ⟨g,G',c,m,qs,ps,rfl,fu2.at'.same s3,fu2.ok,dp,by lia,by lia,λc2 G2 H4 fr4 hg4 go4 e4=>?_⟩;have fu4:=(fu2.same s3).fr fr4 hg4 go4;refine⟨G2,c2,rfl,fr.trans ((Ay.fr s3).trans fr4),fu4,(go.trans go4).mono A0,by lia,⟨_,e4,by show(m:Int)+1=_;lia⟩,λr G'' k' go5 t5=>?_⟩;exact tr r G'' _ (go4.trans go5) ⟨qs,ps,dp.app (go4.trans go5),.inr ⟨ba,c2,go5.get e4,t5⟩⟩
   ·exact xq1 rfl (k c G' H3 (fr.trans (Ay.fr s3)) (fu2.same s3) (go.mono A0) (tr c G' 0 (AH.refl fu2.ok) ⟨qs,ps,dp,.inl ⟨nba,rfl⟩⟩))
def Lw(G:Gv)(n f:Nat):Nat->Nat->Prop
 |0,w=>w=f
 |k+1,w=>∃u,Lw G n f k u/\Wid G (n+k) u w
theorem Lw.app{G G':Gv}{m n f:Nat}(go:AH G G' m):∀{k w:Nat},Lw G n f k w->Lw G' n f k w
 |0,_,h=>h
 |k+1,w,h=>by
  obtain⟨u,h1,h2⟩:=h;exact⟨u,Lw.app go h1,h2.app go⟩
inductive SpWO(a:Ad)(vs:List V)(H:Hp)(Q:VK):Prop
 |mk (g:GA) (G:Gv) (f n:Nat) (t:Addr) (x y wd ht:Int) (_:vs=[.ref g.p,.int f,.ref t]) (_:AX a H g G) (_:Ak G f ((n+1:Nat):Int)) (_:n<=40) (_:H t=some (.tup [.int x,.int y,.int wd,.int ht])) (_:IA x y wd ht (2^40)) (_:G.length<8700000) (_:∀(k w:Nat)(G':Gv)(H':Hp),Fr g H H'->AX a H' g G'->AH G G' (5*k)->n+k<=40->Lw G' n f k w->Ak G' w ((n+k+1:Nat):Int)->IA x y wd ht (2^(n+k))->(∀j,j<k->¬IA x y wd ht (2^(n+j)))->Q (.int w) H'):SpWO a vs H Q
def spWO(a:Ad):Sp:=λvs H Q _=>SpWO a vs H Q
theorem ok_wo{f:Addr}{fd:FuncData}(F:Fun K "widened_over" "widened_over" Fl f fd)(T:Top K mg a)(aH:Cal P w K mg base CX0 1 "lies_within" Do RS)(aI:Cal P w K mg base CX0 4 "reach_of" En (Jw a))(bD:Cal P w K mg base CX0 4 "widened" JA (UF a)):AI P w K mg base CX0 5 f fd Fz (spWO a):=by
 refine F.ok EI (λvs H Q E h=>?_) (λcdv A outer s H vs Q E hr h=>?_)
 ·apply AZ;intro G_ hG_;obtain⟨g,G,f',n,t,x,y,wd,ht,rfl,_⟩:=h;apply hG_;clear hG_ G_;rfl
 ·apply AZ;intro G_ hG_;obtain⟨g,G,f',n,t,x,y,wd,hh,rfl,fu,hl,n40,ht,li,few,k⟩:=h;apply hG_;clear hG_ G_;refine⟨_,(Ac (Aq (i:=3) EI.nd rfl (Or.inl rfl) (pv 1)) (Ac (IZ Z6 (El (Dw (Ar aH (rm hr) rfl Am (Aa (pv 2) (Aa (Ar aI (rm hr) rfl Am (Aa (pv 0) (Aa (pv 3) Ab))) Ab))))) (Ag (Aq (i:=3) EI.nd rfl (Or.inl rfl) (Ar bD (rm hr) rfl Am (Aa (pv 0) (Aa (pv 3) Ab)))))) (Ag (Av (pv 3))))),?_⟩
  try dsimp only[cxK]
  refine xq1 rfl ?_;refine⟨λm σ H2=>∃(G':Gv)(c j:Nat),σ=[some (.ref g.p),some (.int f'),some (.ref t),some (.int c)]/\Fr g H H2/\AX a H2 g G'/\AH G G' (5*j)/\n+j+m=40/\Ak G' c ((n+j+1:Nat):Int)/\Lw G' n f' j c/\∀i,i<j->¬IA x y wd hh (2^(n+i)),⟨40-n,G,f',0,rfl,Fr.refl g H,fu,AH.refl fu.ok,by lia,hl,rfl,λi hi=>absurd hi (M0 _)⟩,?_⟩;rintro m σ H2 z3_;apply AZ;intro G_ hG_;obtain⟨G',c,j,rfl,fr,fu2,go,e40,lc,wn,no⟩:=z3_;apply hG_;clear hG_ G_;have gf:=go.few;have ht2:=fr.tup fu.at' ht;refine xq1 rfl (xq1 rfl (xq1 rfl ⟨g,G',c,n+j,rfl,fu2.at',lc,by lia,t,x,y,wd,hh,_,rfl,ht2,_,rfl,?_⟩));by_cases hL:IA x y wd hh (2^(n+j))
  ·rw[Y5 hL];exact Bo (xq1 rfl (k j c G' H2 fr fu2 go A0 wn lc hL no))
  ·rw[Z0 hL];have m0:m≠0:=λz=>by
    subst z;have:n+j=40:=by lia
    rw[this]at hL;exact hL li
   refine Ce ⟨fun σ' H'=>∃(G2:Gv)(c2 j2:Nat),σ'=[some (.ref g.p),some (.int f'),some (.ref t),some (.int c2)]/\Fr g H H'/\AX a H' g G2/\AH G G2 (5*j2)/\n+j2+(m-1)=40/\Ak G2 c2 ((n+j2+1:Nat):Int)/\Lw G2 n f' j2 c2/\∀i,i<j2->¬IA x y wd hh (2^(n+i)),fun σ' H' z=>⟨m-1,by lia,z⟩,?_⟩;refine xw2 rfl rfl ⟨g,G',c,n+j,rfl,fu2,lc,by lia,by lia,λc2 G2 H3 fr3 hg3 go3 wi=>?_⟩;refine⟨G2,c2,j+1,rfl,fr.trans fr3,fu2.fr fr3 hg3 go3,(go.trans go3).mono A0,by lia,?_,⟨c,wn.app go3,wi⟩,λi hi=>?_⟩
   ·have:=wi.lev;rw[show n+(j+1)+1=n+j+2 by lia];exact this
   ·rcases P7.mp hi with h|h
    ·exact no i h
    ·rw[h];exact hL
end
def st4(x y z w k j:Nat)(i:Nat):Nat:=if i=k then j else f4 x y z w i
def quad(l x y:Nat):Nat:=x/2^l+2*(y/2^l)
theorem EB{l x:Nat}(h:x<2^(l+1)):x/2^l<2:=by
 rw[V7 (T9 A4),U9,<-J3];exact h
theorem Ci{l x y:Nat}(hx:x<2^(l+1))(hy:y<2^(l+1)):quad l x y<4:=by
 have h1:=EB hx;have h2:=EB hy;unfold quad;lia
theorem ES(l:Nat):((2^l:Nat):Int)=(2:Int)^l:=L5 2 l
theorem quad_c(l x y:Nat):(x:Int)/2^l+2*((y:Int)/2^l)=((quad l x y:Nat):Int):=by
 unfold quad;rw[<-ES,M9,N4,Int.natCast_ediv,Int.natCast_ediv];rfl
theorem mod_c(l x:Nat):(x:Int)%2^l=((x%2^l:Nat):Int):=by rw[<-ES,Int.natCast_emod]
theorem set4(x y z w j:Nat){k:Nat}(hk:k<4):([V.int (x:Int),V.int (y:Int),V.int (z:Int),V.int (w:Int)].set k (.int j))=[V.int (st4 x y z w k j 0:Int),V.int (st4 x y z w k j 1:Int),V.int (st4 x y z w k j 2:Int),V.int (st4 x y z w k j 3:Int)]:=by
 match k,hk with
 |0,_=>rfl
 |1,_=>rfl
 |2,_=>rfl
 |3,_=>rfl
def Rep(G:Gv)(s:Nat):Nat->Nat->Nat->Nat->Nat->Prop
 |0,_,_,_,r=>r=s
 |l+1,i,x,y,r=>∃(q:Sq)(a b c d j:Nat),CP G l i q a b c d/\Rep G s l (f4 a b c d (quad l x y)) (x%2^l) (y%2^l) j/\G[r]?=some ⟨[(st4 a b c d (quad l x y) j 0:Int),(st4 a b c d (quad l x y) j 1:Int),(st4 a b c d (quad l x y) j 2:Int),(st4 a b c d (quad l x y) j 3:Int)],(l:Int)+1⟩
theorem Rep.app{G G':Gv}{m s:Nat}(go:AH G G' m):∀{l i x y r:Nat},Rep G s l i x y r->Rep G' s l i x y r
 |0,_,_,_,_,h=>h
 |l+1,i,x,y,r,h=>by
  obtain⟨q,a,b,c,d,j,nd,h1,e⟩:=h;exact⟨q,a,b,c,d,j,nd.app go,Rep.app go h1,go.get e⟩
theorem Rep.lev{G:Gv}(ok:GOk G){s:Nat}(hs:s<8):∀{l i x y r:Nat},Rep G s l i x y r->Ak G r (l:Int)
 |0,_,_,_,r,h=>by
  have h:r=s:=h;subst h;exact⟨_,ok.leaf r hs,rfl⟩
 |l+1,_,_,_,_,h=>by
  obtain⟨q,a,b,c,d,j,nd,h1,e⟩:=h;exact⟨_,e,by show(l:Int)+1=_;lia⟩
section
variable{P:Program}{w:World}{K:PySem.W.Frag}{mg:Str->Option Value}{base:Heap}{a:Ad}
inductive SpRep(a:Ad)(n:Nat)(vs:List V)(H:Hp)(Q:VK):Prop
 |mk (g:GA) (G:Gv) (i l x y s:Nat) (_:vs=[.ref g.p,.int i,.int x,.int y,.int s]) (_:AJ a H g G) (_:GOk G) (_:Ak G i (l:Int)) (_:l<n) (_:x<2^l) (_:y<2^l) (_:s<8) (_:G.length+l<8900000) (_:∀(r:Nat)(G':Gv)(H':Hp),Fr g H H'->AJ a H' g G'->AH G G' l->Rep G' s l i x y r->Q (.int r) H'):SpRep a n vs H Q
def UG(a:Ad)(n:Nat):Sp:=λvs H Q _=>SpRep a n vs H Q
theorem Yx{f:Addr}{fd:FuncData}(F:Fun K "replaced" "replaced" JX f fd)(T:Top K mg a)(hm:mg "replaced" = some (.ref f))(Bi:Cs K fd FA [])(aO:BO P w K mg base CX0 3 a.c_Grove "leaf" EZ (Qx a))(a6:BO P w K mg base CX0 2 a.c_Grove "linked" AQ (DK a)):∀n,AI P w K mg base CX0 (n+4) f fd FA (UG a n)
 |0=>by
  refine F.ok Dz (λvs H Q E h=>?_) (λcdv A outer s H vs Q E hr h=>?_)
  ·obtain⟨g,G,i,l,x,y,s,rfl,_,_,_,h0,_⟩:=h;exact absurd h0 (M0 _)
  ·obtain⟨g,G,i,l,x,y,s,rfl,_,_,_,h0,_⟩:=h;exact absurd h0 (M0 _)
 |n+1=>by
  have bH:Cal P w K mg base CX0 (n+4) "replaced" FA (UG a n):=⟨f,fd,Yx F T hm Bi aO a6 n,hm,F.kp,Bi⟩
  refine F.ok Dz (λvs H Q E h=>?_) (λcdv A outer s H vs Q E hr h=>?_)
  ·obtain⟨g,G,i,l,x,y,s,rfl,_⟩:=h;rfl
  ·obtain⟨g,G,i,l,x,y,st,rfl,hg,ok,hl,ln,hx,hy,s8,few,k⟩:=h;obtain⟨q0,e0,l0⟩:=id hl;refine⟨_,(Ac (Aq (i:=5) Dz.nd rfl (Or.inl rfl) (Aj Ax (AB (pv 0) rfl) (pv 1) (λ_ _=>rfl))) (Ac (AM (Az Cb (pv 5) Ae (AG _)) (Ag (Av (AF (pv 0) aO (rm hr) Am (Aa (pv 4) Ab)))) AC) (Ac (Aq (i:=6) Dz.nd rfl (Or.inl rfl) (AA Ow Ae (AA Cw (pv 5) Ae))) (Ac (Aq (i:=7) Dz.nd rfl (Or.inl rfl) (BC Rq rfl T.b_list PyProof.Rows.boot_list (Aa (Aj Ax (AB (pv 0) rfl) (pv 1) (λ_ _=>rfl)) Ab))) (Ac (Aq (i:=8) Dz.nd rfl (Or.inl rfl) (AA AL (AA Sk (pv 2) (pv 6)) (AA Et Ae (AA Sk (pv 3) (pv 6))))) (Ac (ps_asg (Ar bH (rm hr) rfl Am (Aa (pv 0) (Aa (Aj Ax (pv 7) (pv 8) (λ_ _=>rfl)) (Bp Bd (pv 2) (pv 6) (Bp Bd (pv 3) (pv 6) (Aa (pv 4) Ab)))))) (pg_sub (pv 7) (pv 8) Yj)) (Ag (Av (AF (pv 0) a6 (rm hr) Am (Aa (BC BN rfl T.b_tuple X8 (Aa (pv 7) Ab)) Ab)))))))))),?_⟩
   try dsimp only[cxK]
   refine⟨_,rfl,g.p,_,g.dx,_,_,rfl,hg.hp,T.cl_Grove,T.na_Grove_levels,EQ g,_,rfl,g.lv,_,(i:Int),.int q0.lev,rfl,rfl,SqL.of hg.lv,Ai (by rw[B8,e0];rfl),?_⟩;cases l with
   |zero =>
    rw[l0];exact xq1 rfl ⟨rfl,(xq1 rfl (Ce (xwn rfl rfl hg.hp (UY g) rfl ⟨g.p,(st:Int),rfl,by lia,by lia,k st G H (Fr.refl g H) hg (AH.refl ok) rfl⟩)))⟩
   |succ l =>
    have l0':q0.lev=(l:Int)+1:=by rw[l0];lia
    have l48:=(ok.lev e0).2;have lt64:=pow2_lt (l:=l) A0;have lpos:=QJ l;obtain⟨q,p0,p1,p2,p3,nd⟩:=Be ok hl;obtain⟨ts,t,h3,et,ht⟩:=Id hg nd;refine xq1 rfl ⟨rfl,(xq1 rfl ?_)⟩;rw[Z0 (by intro z;injection z with z;lia)];refine Bo (xwb rfl rfl rfl (xq2 rfl rfl ⟨⟨by lia,by lia,by decide⟩,?_⟩));rw[show(λ(i j:Int)=>V.int (i*2^j.toNat)) 1 (q0.lev-1)=V.int (2^l)from X9 V.int (Qt l l0')];refine xwf rfl rfl hg.hp T.cl_Grove T.na_Grove_parts (Cf g) (xwi rfl rfl rfl (SqL.of h3) (Ai et) ⟨t,(xq1 rfl ⟨.inr (SqT.of ht),λL hL=>?_⟩)⟩);have aL:Ap g L:=Ap.new hg hL;have s1:=AK (o:=.lst [.int p0,.int p1,.int p2,.int p3]) hL;have hL1:upd H L (.lst [.int p0,.int p1,.int p2,.int p3]) L=some (.lst [.int p0,.int p1,.int p2,.int p3]):=Af;generalize upd H L (.lst [.int p0,.int p1,.int p2,.int p3])=H1 at s1 hL1⊢;have hg1:=hg.same s1;have qk:=Ci hx hy;refine xw2 rfl rfl (xq2 rfl rfl ⟨⟨lpos,lt64⟩,(xw2 rfl rfl (xq2 rfl rfl ⟨⟨lpos,lt64⟩,(xq2 rfl rfl ⟨.inl ⟨by decide,by decide⟩,(xq2 rfl rfl ?_)⟩)⟩))⟩);rw[show(λ(i j:Int)=>V.int (i+j)) ((x:Int)/2^l) (2*((y:Int)/2^l))=V.int ((quad l x y:Nat):Int)from X9 V.int (quad_c l x y)];have atq:[V.int (p0:Int),V.int (p1:Int),V.int (p2:Int),V.int (p3:Int)][quad l x y]?=some (.int (f4 p0 p1 p2 p3 (quad l x y):Int)):=by
     generalize quad l x y=kk at qk⊢
     match kk,qk with
     |0,_=>rfl
     |1,_=>rfl
     |2,_=>rfl
     |3,_=>rfl
    have lvq:Ak G (f4 p0 p1 p2 p3 (quad l x y)) (l:Int):=(nd.nat qk).2;refine xw3 rfl rfl rfl (xq4 rfl rfl (SqL.of hL1) (Ai atq) (xw2 rfl rfl (xq2 rfl rfl ⟨lpos,(xw2 rfl rfl (xq2 rfl rfl ⟨lpos,(xq1 rfl ?_)⟩))⟩)));refine⟨g,G,f4 p0 p1 p2 p3 (quad l x y),l,x%2^l,y%2^l,st,by rw[<-mod_c,<-mod_c];rfl,hg1,ok,lvq,by lia,J6 _ (T9 A4),J6 _ (T9 A4),s8,by lia,λj G1 H2 fr hg2 go rp=>?_⟩;have gf:=go.few;have hL2:=fr.get aL hL1;refine xw2 rfl rfl ⟨L,_,((quad l x y:Nat):Int),quad l x y,rfl,rfl,hL2,by unfold ixN;rw[Y7 A0,Y7 (by show((quad l x y:Nat):Int)<((4:Nat):Int);lia),L6],?_⟩;rw[set4 p0 p1 p2 p3 j qk];have hg3:=hg2.put (o:=.lst [V.int (st4 p0 p1 p2 p3 (quad l x y) j 0:Int),V.int (st4 p0 p1 p2 p3 (quad l x y) j 1:Int),V.int (st4 p0 p1 p2 p3 (quad l x y) j 2:Int),V.int (st4 p0 p1 p2 p3 (quad l x y) j 3:Int)]) hL2 aL.1 aL.2.1;have hL3:upd H2 L (.lst [V.int (st4 p0 p1 p2 p3 (quad l x y) j 0:Int),V.int (st4 p0 p1 p2 p3 (quad l x y) j 1:Int),V.int (st4 p0 p1 p2 p3 (quad l x y) j 2:Int),V.int (st4 p0 p1 p2 p3 (quad l x y) j 3:Int)]) L=some (.lst [V.int (st4 p0 p1 p2 p3 (quad l x y) j 0:Int),V.int (st4 p0 p1 p2 p3 (quad l x y) j 1:Int),V.int (st4 p0 p1 p2 p3 (quad l x y) j 2:Int),V.int (st4 p0 p1 p2 p3 (quad l x y) j 3:Int)]):=Af;have fr3:Fr g H (upd H2 L (.lst [V.int (st4 p0 p1 p2 p3 (quad l x y) j 0:Int),V.int (st4 p0 p1 p2 p3 (quad l x y) j 1:Int),V.int (st4 p0 p1 p2 p3 (quad l x y) j 2:Int),V.int (st4 p0 p1 p2 p3 (quad l x y) j 3:Int)])):=λb o e m1 m2 m3=>by
     rw[Au (Aw e hL)];exact fr _ _ (s1 _ _ e) m1 m2 m3
    generalize upd H2 L (.lst [V.int (st4 p0 p1 p2 p3 (quad l x y) j 0:Int),V.int (st4 p0 p1 p2 p3 (quad l x y) j 1:Int),V.int (st4 p0 p1 p2 p3 (quad l x y) j 2:Int),V.int (st4 p0 p1 p2 p3 (quad l x y) j 3:Int)])=H3 at hg3 hL3 fr3⊢;refine xwn rfl rfl hg3.hp (BK g) rfl ⟨L,(xq1 rfl (.inl ⟨SqL.of hL3,λt4 ht4=>?_⟩))⟩;have s4:=AK (o:=.tup [V.int (st4 p0 p1 p2 p3 (quad l x y) j 0:Int),V.int (st4 p0 p1 p2 p3 (quad l x y) j 1:Int),V.int (st4 p0 p1 p2 p3 (quad l x y) j 2:Int),V.int (st4 p0 p1 p2 p3 (quad l x y) j 3:Int)]) ht4;have ndG:=nd.app go;have lj:=rp.lev go.ok s8;have lst:∀ii,ii<4->Ak G1 (st4 p0 p1 p2 p3 (quad l x y) j ii) (l:Int):=λii hi=>by
     unfold st4;split
     ·exact lj
     ·exact(ndG.nat hi).2
    refine⟨g,G1,t4,_,_,_,_,(l:Int),rfl,hg3.same s4,go.ok,Af,⟨lst 0 A4,lst 1 A4,lst 2 A4,lst 3 A4⟩,by lia,by lia,λr G2 H4 fr4 hg4 go4 e4=>?_⟩;exact k r G2 H4 (fr3.trans ((Ay.fr s4).trans fr4)) hg4 (go.trans go4) ⟨q,p0,p1,p2,p3,j,nd.app (go.trans go4),rp.app go4,e4⟩
structure JJ(G:Gv)(n f:Nat)(x y:Int)(s r:Nat)(k w i:Nat):Prop where
 le:n+k<=40
 wid:Lw G n f k w
 lw:Ak G w ((n+k+1:Nat):Int)
 li:IA x y 1 1 (2^(n+k))
 no:∀j,j<k->¬IA x y 1 1 (2^(n+j))
 rep:Rep G s (n+k+1) w (x+2^(n+k)).toNat (y+2^(n+k)).toNat i
 tr:EU G (n+k+1) i r
theorem Vf{x y:Int}{m:Nat}(h:IA x y 1 1 (2^m)):(x+2^m).toNat<2^(m+1)/\(y+2^m).toNat<2^(m+1)/\0<=x+2^m/\0<=y+2^m:=by
 obtain⟨h1,h2,h3,h4⟩:=h;have e:=ES (m+1);rw[CI]at e;have p:=QJ m;refine⟨?_,?_,by lia,by lia⟩<;>lia
inductive Vv(a:Ad)(vs:List V)(H:Hp)(Q:VK):Prop
 |mk (g:GA) (G:Gv) (f n:Nat) (x y:Int) (s:Nat) (_:vs=[.ref g.p,.int f,.int x,.int y,.int s]) (_:AX a H g G) (_:Ak G f ((n+1:Nat):Int)) (_:n<=40) (_:IA x y 1 1 (2^40)) (_:s<8) (_:G.length<8000000) (_:∀(r k w i:Nat)(G':Gv)(H':Hp),Fr g H H'->AX a H' g G'->AH G G' 400->JJ G' n f x y s r k w i->Q (.int r) H'):Vv a vs H Q
def Qv(a:Ad):Sp:=λvs H Q _=>Vv a vs H Q
theorem YA{f:Addr}{fd:FuncData}(F:Fun K "planted" "planted" Mv f fd)(T:Top K mg a)(aH:Cal P w K mg base CX0 1 "lies_within" Do RS)(b9:Cal P w K mg base CX0 2 "is_state" Ig spIS)(aI:Cal P w K mg base CX0 4 "reach_of" En (Jw a))(bG:Cal P w K mg base CX0 5 "widened_over" Fz (spWO a))
  (bH:Cal P w K mg base CX0 54 "replaced" FA (UG a 50)) (aT:Cal P w K mg base CX0 4 "trimmed" GE (NU a)):AI P w K mg base CX0 55 f fd ME (Qv a):=by
 refine F.ok GP (λvs H Q E h=>?_) (λcdv A outer s H vs Q E hr h=>?_)
 ·obtain⟨g,G,f',n,x,y,st,rfl,_⟩:=h;rfl
 ·obtain⟨g,G,f',n,x,y,st,rfl,fu,hl,n40,li,s8,few,k⟩:=h;refine⟨_,(Ac (Aq (i:=5) GP.nd rfl (Or.inl rfl) (DW (Aa (pv 2) (Aa (pv 3) (AO (AO Ab)))))) (Ac (AM (El (Dw (Ar aH (rm hr) rfl Am (Aa (pv 5) (Aa (BY rfl T.k_LIMIT) Ab))))) (Ag Bm) AC) (Ac (AM (El (Dw (Ar b9 (rm hr) rfl Am (Aa (pv 4) Ab)))) (Ag Bm) AC) (Ac (Aq (i:=6) GP.nd rfl (Or.inl rfl) (Ar bG (rm hr) rfl Am (Aa (pv 0) (Aa (pv 1) (Aa (pv 5) Ab))))) (Ac (Aq (i:=7) GP.nd rfl (Or.inl rfl) (Ar aI (rm hr) rfl Am (Aa (pv 0) (Aa (pv 6) Ab)))) (Ag (Av (Ar aT (rm hr) rfl Am (Aa (pv 0) (Aa (Ar bH (rm hr) rfl Am (Aa (pv 0) (Aa (pv 6) (Bp AL (pv 2) (pv 7) (Bp AL (pv 3) (pv 7) (Aa (pv 4) Ab)))))) Ab)))))))))),?_⟩
  try dsimp only[cxK]
  refine xw2 rfl rfl ⟨(by show 4<=sizeLine;decide),λt ht=>?_⟩;have s1:=AK (o:=.tup [.int x,.int y,.int 1,.int 1]) ht;have ht1:upd H t (.tup [.int x,.int y,.int 1,.int 1]) t=some (.tup [.int x,.int y,.int 1,.int 1]):=Af;generalize upd H t (.tup [.int x,.int y,.int 1,.int 1])=H1 at s1 ht1⊢;have fu1:=fu.same s1;refine xq1 rfl ⟨t,x,y,1,1,_,rfl,ht1,_,rfl,?_⟩;rw[Y5 (show IA x y 1 1 1099511627776 from li)];refine Bo (xq1 rfl ⟨(st:Int),rfl,by lia,by lia,true,rfl,Bo ?_⟩);refine xw3 rfl rfl rfl ⟨g,G,f',n,t,x,y,1,1,rfl,fu1,hl,n40,ht1,li,by lia,λkk w' G1 H2 fr2 fu2 go2 le wn lw lf no=>?_⟩;have gf2:=go2.few;refine xw2 rfl rfl ⟨g,G1,w',n+kk,rfl,fu2.at',lw,by lia,?_⟩;obtain⟨b1,b2,b3,b4⟩:=Vf lf;refine xw3 rfl rfl rfl (xw2 rfl rfl (xq2 rfl rfl (xw2 rfl rfl (xq2 rfl rfl (xq1 rfl ?_)))));refine⟨g,G1,w',n+kk+1,(x+2^(n+kk)).toNat,(y+2^(n+kk)).toNat,st,by rw[N3 b3,N3 b4];rfl,fu2.at',fu2.ok,lw,by lia,b1,b2,s8,by lia,λi' G2 H3 fr3 hg3 go3 rp=>?_⟩;have gf3:=go3.few;have fu3:=fu2.fr fr3 hg3 go3;have li':=rp.lev go3.ok s8;refine⟨g,G2,i',n+kk,rfl,fu3,li',by lia,λr G3 H4 fr4 fu4 go4 tr=>?_⟩;have go34:=go3.trans go4;exact k r kk w' i' G3 H4 ((Ay.fr s1).trans (fr2.trans (fr3.trans fr4))) fu4 ((go2.trans go34).mono A0) ⟨le,wn.app go34,go34.lev lw,lf,no,rp.app go4,tr⟩
end
structure Cl where
 x:Int
 y:Int
 s:Nat
def Pw(H:Hp)(t:Addr)(c:Cl):Prop:=H t=some (.tup [.int c.x,.int c.y,.int c.s])
structure ClOk(c:Cl):Prop where
 li:IA c.x c.y 1 1 (2^40)
 s:c.s<8
theorem JJ.app{G G':Gv}{m n f:Nat}{x y:Int}{s r k w i:Nat}(go:AH G G' m)(h:JJ G n f x y s r k w i):JJ G' n f x y s r k w i:=⟨h.le,h.wid.app go,go.lev h.lw,h.li,h.no,h.rep.app go,h.tr.app go⟩
inductive Ry(G:Gv):List Cl->Nat->Nat->Prop
 |nil:Ry G [] 0 (bareN 1)
 |cons {cs:List Cl} {c:Cl} {n f r k w i m:Nat} (h:Ry G cs n f) (l:Ak G f ((n+1:Nat):Int)) (p:JJ G n f c.x c.y c.s r k w i) (l':Ak G r ((m+1:Nat):Int)):Ry G (c::cs) m r
theorem Ry.app{G G':Gv}{m:Nat}(go:AH G G' m){cs:List Cl}{n f:Nat}(h:Ry G cs n f):Ry G' cs n f:=by
 induction h with
 |nil=>exact .nil
 |cons _ l p l' ih=>exact .cons ih (go.lev l) (p.app go) (go.lev l')
section
variable{P:Program}{w:World}{K:PySem.W.Frag}{mg:Str->Option Value}{base:Heap}{a:Ad}
inductive VB(a:Ad)(vs:List V)(H:Hp)(Q:VK):Prop
 |mk (g:GA) (G:Gv) (L:Addr) (ts:List Addr) (cs:List Cl) (_:vs=[.ref g.p,.ref L]) (_:AX a H g G) (_:H L=some (.lst (ts.map V.ref))) (_:L≠g.lv) (_:L≠g.pt) (_:Paired (Pw H) ts cs) (_:(∀c∈cs,ClOk c)) (_:G.length+400*cs.length<8000000) (_:∀(f n:Nat)(G':Gv)(H':Hp),Fr g H H'->AX a H' g G'->AH G G' (400*cs.length)->n<=40->Ak G' f ((n+1:Nat):Int)->Ry G' cs.reverse n f->Q (.int f) H'):VB a vs H Q
def Ye(a:Ad):Sp:=λvs H Q _=>VB a vs H Q
theorem ok_fld{f:Addr}{fd:FuncData}(F:Fun K "field_of" "field_of" Le f fd)(T:Top K mg a)(aU:Cal P w K mg base CX0 1 "bare_field" EY (NB a))(cL:Cal P w K mg base CX0 55 "planted" ME (Qv a)):AI P w K mg base CX0 56 f fd Ll (Ye a):=by
 refine F.ok FS (λvs H Q E h=>?_) (λcdv A outer s H vs Q E hr h=>?_)
 ·obtain⟨g,G,L,ts,cs,rfl,_⟩:=h;rfl
 ·obtain⟨g,G,L,ts,cs,rfl,fu,hL,n1,n2,pr,oks,few,k⟩:=h;obtain⟨r0,e0⟩:=fu.g0;have lts:=Z7 pr;refine⟨_,(Ac (Aq (i:=2) FS.nd rfl (Or.inl rfl) (Ar aU (rm hr) rfl Am (Aa (pv 0) Ab))) (Ac (CL Z6 rfl (BT (pv 1)) (Bv (i:=3) FS.nd rfl (Or.inl rfl)) (Ag (Aq (i:=2) FS.nd rfl (Or.inl rfl) (Ar cL (rm hr) rfl Am (Aa (pv 0) (Aa (pv 2) (Aa (Aj An (pv 3) Ae (λ_ _=>rfl)) (Aa (Aj An (pv 3) Ae (λ_ _=>rfl)) (Aa (Aj An (pv 3) Ae (λ_ _=>rfl)) Ab))))))))) (Ag (Av (pv 2))))),?_⟩
  try dsimp only[cxK]
  refine xq1 rfl ⟨g,G,rfl,fu,?_⟩;refine xq1 rfl ⟨L,rfl,⟨_,SqL.of hL⟩,?_⟩;refine LZ (xs:=ts.map V.ref) (λj σ H2=>∃(G':Gv)(f n:Nat)(u3:Option V),σ=[some (.ref g.p),some (.ref L),some (.int f),u3]/\Fr g H H2/\AX a H2 g G'/\AH G G' (400*j)/\n<=40/\Ak G' f ((n+1:Nat):Int)/\Ry G' (cs.take j).reverse n f) ⟨G,bareN 1,0,none,rfl,Fr.refl g H,fu,AH.refl fu.ok,by lia,GK e0 A0,.nil⟩ (λj σ H2 _ ⟨_,_,_,_,_,fr,_⟩=>SqL.of (fr _ _ hL n1 n2 (AE hL fu.at'.nm A3))) ?_ ?_
  ·rintro j v σ H2 ev ⟨G',f',n,u3,rfl,fr,fu2,go,n40,lf,fl⟩;rw[B8]at ev;obtain⟨t,et,rfl⟩:=D0.mp ev;obtain⟨c,ec,hc⟩:=PairedM.getL pr et;have cok:=oks c (C9 ec);have hj:j<cs.length:=(B7.mp ec).1;have hc2:=fr.tup fu.at' hc;have gf:=go.few;refine xw3 rfl rfl rfl (xq4 rfl rfl (SqT.of hc2) (Ai (j:=0) rfl) (xwi rfl rfl rfl (SqT.of hc2) (Ai (j:=1) rfl) (xwi rfl rfl rfl (SqT.of hc2) (Ai (j:=2) rfl) ?_)));refine⟨g,G',f',n,c.x,c.y,c.s,rfl,fu2,lf,n40,cok.li,cok.s,by lia,λr kk w' i' G2 H3 fr3 fu3 go3 pl=>?_⟩;have li':=pl.rep.lev fu3.ok cok.s;obtain⟨m,lm,lr⟩:=EU.lev li' pl.tr;have le:=pl.le;refine⟨G2,r,m,(xq1 rfl ⟨fr.trans fr3,fu3,(go.trans go3).mono A0,by lia,lr,?_⟩)⟩;rw[F3,ec,Q4,List.reverse_append];exact .cons (fl.app go3) (go3.lev lf) pl lr
  ·rintro σ H2 ⟨G',f',n,u3,rfl,fr,fu2,go,n40,lf,fl⟩;rw[B6,lts]at go fl;rw[F6]at fl;exact xq1 rfl (k f' n G' H2 fr fu2 go n40 lf fl)
end
def Iz(G:Gv)(n f:Nat):Prop:=n=0\/∃m qs ps,n=m+1/\Nt G m f qs ps/\¬BA m ps
theorem Iz.app{G G':Gv}{k n f:Nat}(go:AH G G' k)(h:Iz G n f):Iz G' n f:=by
 rcases h with h|⟨m,qs,ps,e,d,b⟩
 ·exact .inl h
 ·exact .inr ⟨m,qs,ps,e,d.app go,b⟩
end J
namespace J
open PySem L2
def cellF(G:Gv):Nat->Nat->Nat->Nat->Nat
 |0,i,_,_=>i
 |n+1,i,x,y=>match G[i]? with
  |some q=>cellF G n (q.parts.getD (quad n x y) 0).toNat (x%2^n) (y%2^n)
  |none=>0
theorem AS(n:Nat):0<2^n:=T9 A4
theorem Bb{G:Gv}{n i:Nat}{q:Sq}{a b c d:Nat}(h:CP G n i q a b c d){x y:Nat}(hx:x<2^(n+1))(hy:y<2^(n+1)):cellF G (n+1) i x y=cellF G n (f4 a b c d (quad n x y)) (x%2^n) (y%2^n):=by
 rw[show cellF G (n+1) i x y=(match G[i]? with|some q=>cellF G n (q.parts.getD (quad n x y) 0).toNat (x%2^n) (y%2^n)|none=>0)from rfl,h.g];show cellF G n (q.parts.getD (quad n x y) 0).toNat _ _=_;have:=(h.nat (Ci hx hy)).1;rw[D7,this];rfl
theorem Ju{G G':Gv}{k:Nat}(ok:GOk G)(go:AH G G' k):∀{n i x y:Nat},Ak G i (n:Int)->x<2^n->y<2^n->cellF G' n i x y=cellF G n i x y
 |0,_,_,_,_,_,_=>rfl
 |n+1,i,x,y,h,hx,hy=>by
  obtain⟨q,a,b,c,d,nd⟩:=Be ok h;rw[Bb nd hx hy,Bb (nd.app go) hx hy];exact Ju ok go (nd.nat (Ci hx hy)).2 (J6 _ (AS n)) (J6 _ (AS n))
theorem DG{G r:Gv}(e:G=G0++r)(ok:GOk G):∀{n x y:Nat},n<=48->x<2^n->y<2^n->cellF G n (bareN n) x y=0
 |0,_,_,_,_,_=>rfl
 |n+1,x,y,hn,hx,hy=>by
  obtain⟨q,a,b,c,d,nd⟩:=Be ok (GK e (n:=n+1) hn);have bn:a=bareN n/\b=bareN n/\c=bareN n/\d=bareN n:=by
   have g:=nd.g;rw[show bareN (n+1)=8+n from rfl,Zp e n A0]at g;cases g;have s:[(bareN n:Int),(bareN n:Int),(bareN n:Int),(bareN n:Int)]=[(a:Int),(b:Int),(c:Int),(d:Int)]:=nd.ps;injection s with s0 s
   injection s with s1 s
   injection s with s2 s
   injection s with s3 s
   exact⟨(Z4 s0).symm,(Z4 s1).symm,(Z4 s2).symm,(Z4 s3).symm⟩
  obtain⟨rfl,rfl,rfl,rfl⟩:=bn;rw[Bb nd hx hy];have:f4 (bareN n) (bareN n) (bareN n) (bareN n) (quad n x y)=bareN n:=by unfold f4;split<;>rfl
  rw[this];exact DG e ok A0 (J6 _ (AS n)) (J6 _ (AS n))
theorem FN{n k x y:Nat}(hk:k<4)(hx:x<2^n)(hy:y<2^n):(x+2^n*(k%2))<2^(n+1)/\(y+2^n*(k/2))<2^(n+1)/\quad n (x+2^n*(k%2)) (y+2^n*(k/2))=k/\(x+2^n*(k%2))%2^n=x/\(y+2^n*(k/2))%2^n=y:=by
 have p:=AS n;have e:2^(n+1)=2*2^n:=by rw[J3];lia
 unfold quad;rw[N8 _ _ p,N8 _ _ p,P5,P5,N5 hx,N5 hy,O4 hx,O4 hy,e];generalize 2^n=h at *
 match k,hk with
 |0,_=>exact⟨by lia,by lia,rfl,rfl,rfl⟩
 |1,_=>exact⟨by lia,by lia,rfl,rfl,rfl⟩
 |2,_=>exact⟨by lia,by lia,rfl,rfl,rfl⟩
 |3,_=>exact⟨by lia,by lia,rfl,rfl,rfl⟩
theorem MT{G:Gv}(ok:GOk G):∀{n i j:Nat},Ak G i (n:Int)->Ak G j (n:Int)->(∀x y,x<2^n->y<2^n->cellF G n i x y=cellF G n j x y)->i=j
 |0,i,j,_,_,h=>h 0 0 A4 A4
 |n+1,i,j,hi,hj,h=>by
  obtain⟨q,a,b,c,d,nd⟩:=Be ok hi;obtain⟨q',a',b',c',d',nd'⟩:=Be ok hj;have key:∀k,k<4->f4 a b c d k=f4 a' b' c' d' k:=λk hk=>by
   refine MT ok (nd.nat hk).2 (nd'.nat hk).2 λx y hx hy=>?_;obtain⟨h1,h2,h3,h4,h5⟩:=FN hk hx hy;have:=h _ _ h1 h2;rw[Bb nd h1 h2,Bb nd' h1 h2,h3,h4,h5]at this;exact this
  have k0:a=a':=key 0 A4;have k1:b=b':=key 1 A4;have k2:c=c':=key 2 A4;have k3:d=d':=key 3 A4;subst k0 k1 k2 k3;exact ok.one nd.g nd'.g (nd.ps.trans nd'.ps.symm)
theorem RQ{n x X:Nat}(h1:x/2^n=X/2^n)(h2:x%2^n=X%2^n):x=X:=by
 rw[<-M8 x (2^n),<-M8 X (2^n),h1,h2]
theorem Sb{G:Gv}(ok:GOk G){s:Nat}(hs:s<8):∀{n i X Y r x y:Nat},X<2^n->Y<2^n->x<2^n->y<2^n->Rep G s n i X Y r->cellF G n r x y=if x=X/\y=Y then s else cellF G n i x y
 |0,i,X,Y,r,x,y,hX,hY,hx,hy,h=>by
  have h:r=s:=h;have e1:X=0:=S3.mp hX;have e2:Y=0:=S3.mp hY;have e3:x=0:=S3.mp hx;have e4:y=0:=S3.mp hy;subst e1 e2 e3 e4 h;rfl
 |n+1,i,X,Y,r,x,y,hX,hY,hx,hy,h=>by
  obtain⟨q,a,b,c,d,j,nd,h1,e⟩:=h;have lj:=h1.lev ok hs;have lst:∀ii,ii<4->Ak G (st4 a b c d (quad n X Y) j ii) (n:Int):=λii hi=>by
   unfold st4;split
   ·exact lj
   ·exact(nd.nat hi).2
  have nr:CP G n r _ (st4 a b c d (quad n X Y) j 0) (st4 a b c d (quad n X Y) j 1) (st4 a b c d (quad n X Y) j 2) (st4 a b c d (quad n X Y) j 3):=⟨e,rfl,rfl,lst 0 A4,lst 1 A4,lst 2 A4,lst 3 A4⟩
  have qk:=Ci hx hy;rw[Bb nr hx hy,Bb nd hx hy,OS (st4 a b c d (quad n X Y) j) qk];have m:=AS n;have x2:=EB hx;have y2:=EB hy;have X2:=EB hX;have Y2:=EB hY;unfold st4;by_cases hq:quad n x y=quad n X Y
  ·rw[Y7 hq,Sb ok hs (J6 _ m) (J6 _ m) (J6 _ m) (J6 _ m) h1,hq];have exy:x/2^n=X/2^n/\y/2^n=Y/2^n:=by
    unfold quad at hq;generalize x/2^n=A at *
    generalize X/2^n=B at *
    generalize y/2^n=C at *
    generalize Y/2^n=D at *
    lia
   obtain⟨ex,ey⟩:=exy;by_cases hxy:x=X/\y=Y
   ·rw[Y7 hxy,Y7 ⟨by rw[hxy.1],by rw[hxy.2]⟩]
   ·rw[Y4 hxy,Y4 λz=>hxy ⟨RQ ex z.1,RQ ey z.2⟩]
  ·rw[Y4 hq,Y4 λz=>hq (by rw[z.1,z.2])]
def fieldF(G:Gv)(n f:Nat)(x y:Int):Nat:=if -(2^n)<=x/\x<2^n/\-(2^n)<=y/\y<2^n then cellF G (n+1) f (x+2^n).toNat (y+2^n).toNat else 0
theorem Ec{n:Nat}{x:Int}(h0:-(2^n)<=x)(h1:x<2^n):(x+2^n).toNat<2^(n+1):=by
 have e:=ES (n+1);rw[CI]at e;lia
theorem DE{G G':Gv}{k n f:Nat}(ok:GOk G)(go:AH G G' k)(h:Ak G f ((n+1:Nat):Int))(x y:Int):fieldF G' n f x y=fieldF G n f x y:=by
 unfold fieldF;split
 ·rename_i z;exact Ju ok go h (Ec z.1 z.2.1) (Ec z.2.2.1 z.2.2.2)
 ·rfl
theorem Rc{h X:Nat}(u:Nat)(h1:h*u<=X)(h2:X<h*(u+1)):X/h=u/\X%h=X-h*u:=by
 have e:X/h=u:=Nat.div_eq_of_lt_le (by rw[U9];exact h1) (by rw[U9];exact h2);exact⟨e,by have:=M8 X h;rw[e]at this;lia⟩
theorem LU(x n:Nat):x%2^(n+1)%2^n=x%2^n:=Nat.mod_mod_of_dvd x ⟨2,by rw[J3]⟩
theorem JG{G:Gv}{n i:Nat}{qs:Nat->Nat}{ps:Nat->Nat->Nat}(h:Nt G n i qs ps){x y:Nat}(hx:x<2^(n+2))(hy:y<2^(n+2)):cellF G (n+2) i x y=cellF G n (ps (quad (n+1) x y) (quad n (x%2^(n+1)) (y%2^(n+1)))) (x%2^n) (y%2^n):=by
 obtain⟨q,nd⟩:=h.node;have qk:=Ci (l:=n+1) hx hy;have hx1:x%2^(n+1)<2^(n+1):=J6 _ (AS _);have hy1:y%2^(n+1)<2^(n+1):=J6 _ (AS _);obtain⟨q',nk⟩:=h.sub _ qk;rw[Bb nd hx hy,OS qs qk,Bb nk hx1 hy1,OS (ps _) (Ci hx1 hy1),LU,LU]
theorem bits{h u:Nat}(hu:u<2*h):(u+h)/(2*h)=u/h/\(u+h)%(2*h)/h=1-u/h/\(u+h)%h=u%h/\u/h<2:=by
 have p:0<h:=by lia
 rcases Nat.lt_or_ge u h with z|z
 ·have e1:u/h=0:=N5 z;have e2:(u+h)/(2*h)=0:=N5 A0;have e3:(u+h)%(2*h)=u+h:=O4 A0;have e4:(u+h)/h=1:=(Rc (X:=u+h) 1 A0 A0).1;exact⟨by rw[e1,e2],by rw[e3,e4,e1],Nat.add_mod_right u h,by lia⟩
 ·have e1:u/h=1:=(Rc 1 A0 A0).1;have e2:=Rc (h:=2*h) (X:=u+h) 1 A0 A0;have e3:(u+h-2*h*1)/h=0:=N5 A0;exact⟨by rw[e1,e2.1],by rw[e2.2,e3,e1],Nat.add_mod_right u h,by lia⟩
theorem PF(n:Nat):2^(n+1)=2*2^n:=by rw[J3];lia
theorem YT{G:Gv}(ok:GOk G){n i m:Nat}{qs:Nat->Nat}{ps:Nat->Nat->Nat}(h:Nt G n i qs ps)(em:G[m]?=some ⟨[(ps 0 3:Int),(ps 1 2:Int),(ps 2 1:Int),(ps 3 0:Int)],(n:Int)+1⟩){u v:Nat}(hu:u<2^(n+1))(hv:v<2^(n+1)):cellF G (n+2) i (u+2^n) (v+2^n)=cellF G (n+1) m u v:=by
 have lp:∀k j,k<4->j<4->Ak G (ps k j) (n:Int):=λk j hk hj=>by
  obtain⟨q,nk⟩:=h.sub k hk;have:=(nk.nat hj).2;rw[OS (ps k) hj]at this;exact this
 have nm:CP G n m _ (ps 0 3) (ps 1 2) (ps 2 1) (ps 3 0):=⟨em,rfl,rfl,lp 0 3 A4 A4,lp 1 2 A4 A4,lp 2 1 A4 A4,lp 3 0 A4 A4⟩
 have e1:=PF n;have e2:2^(n+2)=2*2^(n+1):=PF (n+1);have p:=AS n;rw[JG h A0 A0,Bb nm hu hv];unfold quad;rw[e1];rw[e1]at hu hv;apply AZ;intro G_ hG_;obtain⟨a1,a2,a3,a4⟩:=bits hu;obtain⟨b1,b2,b3,b4⟩:=bits hv;apply hG_;clear hG_ G_;rw[a1,a2,a3,b1,b2,b3];have two:∀{A:Nat},A<2->A=0\/A=1:=λ{A} h=>by lia
 have hu2:=two a4;have hv2:=two b4;rcases hu2 with z|z<;>rcases hv2 with z'|z'<;>rw[z,z']<;>rfl
theorem mid_iff'{m X Y:Nat}{x y:Int}(eX:(X:Int)=x+2^(m+1))(eY:(Y:Int)=y+2^(m+1))(hX:X<2^(m+2))(hY:Y<2^(m+2)):quad m (X%2^(m+1)) (Y%2^(m+1))+quad (m+1) X Y=3↔(-(2^m)<=x/\x<2^m/\-(2^m)<=y/\y<2^m):=by
 have p:=AS m;have e1:=PF m;have e2:2^(m+2)=2*2^(m+1):=PF (m+1);have c1:=ES m;have c2:=ES (m+1);rw[e1]at c2;unfold quad;rw[e1];rw[e2,e1]at hX hY;rw[<-c2]at eX eY;rw[<-c1];generalize 2^m=h at *
 have key:∀{X:Nat}{x:Int},(X:Int)=x+((2*h:Nat):Int)->X<2*(2*h)->(X%(2*h)/h+X/(2*h)=1 ↔ -(h:Int)<=x/\x<(h:Int))/\X%(2*h)/h<2/\X/(2*h)<2:=by
  intro X x e l;have h2:0<2*h:=by lia
  have q2:X/(2*h)<2:=by rw[V7 h2];exact l
  have r2:X%(2*h)<2*h:=J6 _ h2;have q1:X%(2*h)/h<2:=by rw[V7 p];exact r2
  have d2:=M8 X (2*h);have d1:=M8 (X%(2*h)) h;have m1:=J6 (X%(2*h)) p;refine⟨?_,q1,q2⟩;generalize X/(2*h)=u at *
  generalize X%(2*h)/h=v at *
  generalize X%(2*h)%h=t at *
  generalize X%(2*h)=rr at *
  have hu:u=0\/u=1:=by lia
  have hv:v=0\/v=1:=by lia
  rcases hu with rfl|rfl<;>rcases hv with rfl|rfl<;>simp only[Nat.mul_zero,Nat.mul_one,N1]at d1 d2<;>lia
 obtain⟨kx,x1,x2⟩:=key eX hX;obtain⟨ky,y1,y2⟩:=key eY hY;clear key;generalize X%(2*h)/h=A at *
 generalize X/(2*h)=B at *
 generalize Y%(2*h)/h=C at *
 generalize Y/(2*h)=D at *
 constructor
 ·intro z;have zx:=kx.mp A0;have zy:=ky.mp A0;exact⟨zx.1,zx.2,zy.1,zy.2⟩
 ·rintro z0_;apply AZ;intro G_ hG_;obtain⟨z1,z2,z3,z4⟩:=z0_;apply hG_;clear hG_ G_;have zx:=kx.mpr ⟨z1,z2⟩;have zy:=ky.mpr ⟨z3,z4⟩;lia
theorem PM{G r:Gv}(e0:G=G0++r)(ok:GOk G){n i m:Nat}(hn:n<=46){qs:Nat->Nat}{ps:Nat->Nat->Nat}(h:Nt G n i qs ps)(ba:BA n ps)(em:G[m]?=some ⟨[(ps 0 3:Int),(ps 1 2:Int),(ps 2 1:Int),(ps 3 0:Int)],(n:Int)+1⟩)(x y:Int):fieldF G (n+1) i x y=fieldF G n m x y:=by
 have s1:=CI n;have p:=QJ n;unfold fieldF;by_cases hin:-(2^n)<=x/\x<2^n/\-(2^n)<=y/\y<2^n
 ·apply AZ;intro G_ hG_;obtain⟨a1,a2,a3,a4⟩:=hin;apply hG_;clear hG_ G_;rw[Y7 ⟨by lia,by lia,by lia,by lia⟩,Y7 ⟨a1,a2,a3,a4⟩];have hu:=Ec a1 a2;have hv:=Ec a3 a4;have c:=ES n;have ex:(x+2^(n+1)).toNat=(x+2^n).toNat+2^n:=by lia
  have ey:(y+2^(n+1)).toNat=(y+2^n).toNat+2^n:=by lia
  rw[ex,ey];exact YT ok h em hu hv
 ·rw[Y4 hin];split
  ·rename_i z;apply AZ;intro G_ hG_;obtain⟨z1,z2,z3,z4⟩:=z;apply hG_;clear hG_ G_;have hX:=Ec z1 z2;have hY:=Ec z3 z4;rw[JG h hX hY];have ne:¬quad n ((x+2^(n+1)).toNat%2^(n+1)) ((y+2^(n+1)).toNat%2^(n+1))+quad (n+1) (x+2^(n+1)).toNat (y+2^(n+1)).toNat=3:=λq=>hin ((mid_iff' (N3 A0) (N3 A0) hX hY).mp q);rw[ba _ _ (Ci hX hY) (Ci (J6 _ (AS _)) (J6 _ (AS _))) ne];exact DG e0 ok A0 (J6 _ (AS _)) (J6 _ (AS _))
  ·rfl
theorem GN{G r0:Gv}(e0:G=G0++r0)(ok:GOk G):∀{n f r:Nat},n<=47->Ak G f ((n+1:Nat):Int)->EU G (n+1) f r->∃m,m<=n/\Ak G r ((m+1:Nat):Int)/\Iz G m r/\∀x y,fieldF G m r x y=fieldF G n f x y
 |0,f,r,_,hl,h=>by
  have h:r=f:=h;subst h;exact⟨0,C0 _,hl,.inl rfl,λ_ _=>rfl⟩
 |n+1,f,r,hn,hl,h=>by
  apply AZ;intro G_ hG_;obtain⟨qs,ps,d,h⟩:=h;apply hG_;clear hG_ G_;rcases h with ⟨nb,rfl⟩|⟨ba,m,em,h⟩
  ·exact⟨n+1,C0 _,hl,.inr ⟨n,qs,ps,rfl,d,nb⟩,λ_ _=>rfl⟩
  ·obtain⟨k,hk,lk,tk,ek⟩:=GN e0 ok A0 ⟨_,em,by show(n:Int)+1=_;lia⟩ h;refine⟨k,by lia,lk,tk,λx y=>?_⟩;rw[ek x y,PM e0 ok A0 d ba em x y]
theorem VH{G r:Gv}(e0:G=G0++r)(ok:GOk G){n f w:Nat}(hn:n<=46)(h:Wid G n f w)(x y:Int):fieldF G (n+1) w x y=fieldF G n f x y:=by
 apply AZ;intro G_ hG_;obtain⟨q,a,b,c,d,w0,w1,w2,w3,nd,ea,eb,ec,ed,ew⟩:=h.ex;apply hG_;clear hG_ G_;have lb:=GK e0 (n:=n) A0;have lv:∀{p:Nat}{l:List Int},G[p]?=some ⟨l,(n:Int)+1⟩->Ak G p ((n+1:Nat):Int):=λ{p l} e=>⟨_,e,by show(n:Int)+1=_;lia⟩
 have dp:Nt G n w (f4 w0 w1 w2 w3) (λk j=>if j+k=3 then f4 a b c d k else bareN n):=by
  refine⟨⟨_,ew,rfl,by show(n:Int)+2=_;lia,lv ea,lv eb,lv ec,lv ed⟩,λk hk=>?_⟩
  match k,hk with
  |0,_=>exact⟨_,ea,rfl,rfl,lb,lb,lb,nd.hx⟩
  |1,_=>exact⟨_,eb,rfl,rfl,lb,lb,nd.hy,lb⟩
  |2,_=>exact⟨_,ec,rfl,rfl,lb,nd.hz,lb,lb⟩
  |3,_=>exact⟨_,ed,rfl,rfl,nd.hw,lb,lb,lb⟩
 have g:=nd.g;have l:=nd.lev;have ps:=nd.ps;refine PM e0 ok hn dp (λk j _ _ ne=>Y4 ne) ?_ x y;rw[g];cases q with
 |mk pp ll=>cases ps;cases l;rfl
theorem Ef{G r:Gv}(e0:G=G0++r)(ok:GOk G){n f:Nat}:∀{k w:Nat},n+k<=46->Lw G n f k w->∀x y,fieldF G (n+k) w x y=fieldF G n f x y
 |0,w,_,h,x,y=>by
  have h:w=f:=h;subst h;rfl
 |k+1,w,hk,h,x,y=>by
  obtain⟨u,h1,h2⟩:=h;rw[show n+(k+1)=n+k+1 by lia,VH e0 ok A0 h2 x y];exact Ef e0 ok A0 h1 x y
theorem Sg{G r0:Gv}(e0:G=G0++r0)(ok:GOk G){n f s r k w i:Nat}{X Y:Int}(hs:s<8)(h:JJ G n f X Y s r k w i):∃m,m<=40/\Ak G r ((m+1:Nat):Int)/\Iz G m r/\∀x y,fieldF G m r x y=if x=X/\y=Y then s else fieldF G n f x y:=by
 have le:=h.le;have li:=h.rep.lev ok hs;obtain⟨m,hm,lm,tm,em⟩:=GN e0 ok A0 li h.tr;refine⟨m,by lia,lm,tm,λx y=>?_⟩;rw[em x y,<-Ef e0 ok A0 h.wid x y];apply AZ;intro G_ hG_;obtain⟨b1,b2,b3,b4⟩:=Vf h.li;obtain⟨l1,l2,l3,l4⟩:=h.li;apply hG_;clear hG_ G_;unfold fieldF;split
 ·rename_i z;apply AZ;intro G_ hG_;obtain⟨z1,z2,z3,z4⟩:=z;apply hG_;clear hG_ G_;rw[Sb ok hs b1 b2 (Ec z1 z2) (Ec z3 z4) h.rep];by_cases hxy:x=X/\y=Y
  ·rw[Y7 hxy,Y7 ⟨by rw[hxy.1],by rw[hxy.2]⟩]
  ·rw[Y4 hxy,Y4 λq=>hxy ⟨by lia,by lia⟩]
 ·rename_i z;rw[Y4 λq=>z ⟨by lia,by lia,by lia,by lia⟩]
theorem YY{G r:Gv}(e0:G=G0++r)(ok:GOk G){n i:Nat}(hn:n<=48)(h:Ak G i (n:Int))(ne:i≠bareN n):∃x y,x<2^n/\y<2^n/\cellF G n i x y≠0:=by
 refine Z2 λz=>ne (MT ok h (GK e0 hn) λx y hx hy=>?_);rw[DG e0 ok hn hx hy];exact Z2 λq=>z ⟨x,y,hx,hy,q⟩
theorem Ly{G r:Gv}(e0:G=G0++r)(ok:GOk G){m f:Nat}(hm:m<=46)(h:Iz G (m+1) f):∃x y:Int,¬(-(2^m)<=x/\x<2^m/\-(2^m)<=y/\y<2^m)/\fieldF G (m+1) f x y≠0:=by
 rcases h with h|⟨m',qs,ps,e,dp,nb⟩
 ·lia
 ·have:m'=m:=by lia
  subst this;have:∃k j,k<4/\j<4/\j+k≠3/\ps k j≠bareN m':=by
   refine Z2 λz=>nb λk j hk hj ne=>Z2 λq=>z ⟨k,j,hk,hj,ne,q⟩
  apply AZ;intro G_ hG_;obtain⟨k,j,hk,hj,ne,nbare⟩:=this;obtain⟨qk,nk⟩:=dp.sub k hk;apply hG_;clear hG_ G_;have lp:Ak G (ps k j) (m':Int):=by
   have:=(nk.nat hj).2;rw[OS (ps k) hj]at this;exact this
  obtain⟨u,v,hu,hv,hc⟩:=YY e0 ok A0 lp nbare;apply AZ;intro G_ hG_;obtain⟨a1,a2,a3,a4,a5⟩:=FN hj hu hv;obtain⟨b1,b2,b3,b4,b5⟩:=FN (n:=m'+1) hk a1 a2;apply hG_;clear hG_ G_;generalize hX:u+2^m'*(j%2)+2^(m'+1)*(k%2)=X at *
  generalize hY:v+2^m'*(j/2)+2^(m'+1)*(k/2)=Y at *
  have c1:=ES (m'+1);have c2:=ES (m'+2);have s2:=CI (m'+1);rw[s2]at c2;refine⟨(X:Int)-2^(m'+1),(Y:Int)-2^(m'+1),λz=>ne ?_,?_⟩
  ·have:=(mid_iff' (X:=X) (Y:=Y) A0 A0 b1 b2).mpr z;rw[b3,b4,b5,a3]at this;exact this
  ·unfold fieldF;rw[Y7 ⟨by lia,by lia,by lia,by lia⟩,show((X:Int)-2^(m'+1)+2^(m'+1)).toNat=X by lia,show((Y:Int)-2^(m'+1)+2^(m'+1)).toNat=Y by lia,JG dp b1 b2,b3,b4,b5,a3];have d1:X%2^m'=u:=by rw[<-LU,b4,a4]
   have d2:Y%2^m'=v:=by rw[<-LU,b5,a5]
   rw[d1,d2];exact hc
theorem OR{G r:Gv}(e0:G=G0++r)(ok:GOk G){n m f f':Nat}(hn:n<=47)(hm:m<=47)(lf:Ak G f ((n+1:Nat):Int))(lf':Ak G f' ((m+1:Nat):Int))(t:Iz G n f)(t':Iz G m f')(h:∀x y,fieldF G n f x y=fieldF G m f' x y):n=m/\f=f':=by
 have le:∀{n m f f':Nat},m<=47->Iz G m f'->(∀x y,fieldF G n f x y=fieldF G m f' x y)->m<=n:=by
  intro n m f f' hm t' h;refine O6 λz=>?_;obtain⟨k,rfl⟩:∃k,m=k+1:=⟨m-1,by lia⟩
  obtain⟨x,y,out,lv⟩:=Ly e0 ok A0 t';rw[<-h x y]at lv;unfold fieldF at lv;split at lv
  ·rename_i q;have:(2:Int)^n<=2^k:=by
    have:=N7 (show 0<2 by decide) (show n<=k by lia)
    exact_mod_cast this
   exact out ⟨by lia,by lia,by lia,by lia⟩
  ·exact lv rfl
 have e1:=le hm t' h;have e2:=le hn t λx y=>(h x y).symm;have e:n=m:=by lia
 subst e;refine⟨rfl,MT ok lf lf' λx y hx hy=>?_⟩;have c1:=ES n;have c2:=ES (n+1);have s2:=CI n;rw[s2]at c2;have:=h ((x:Int)-2^n) ((y:Int)-2^n);unfold fieldF at this;rw[Y7 ⟨by lia,by lia,by lia,by lia⟩,Y7 ⟨by lia,by lia,by lia,by lia⟩,show((x:Int)-2^n+2^n).toNat=x by lia,show((y:Int)-2^n+2^n).toNat=y by lia]at this;exact this
def Fix:HO->Prop
 |.tup _=>True
 |.ins _ _ _=>True
 |_=>False
def Fx(l:List Addr)(H H':Hp):Prop:=∀b o,H b=some o->(b∈l->Fix o)->H' b=some o
theorem Fx.refl(l:List Addr)(H:Hp):Fx l H H:=λ_ _ e _=>e
theorem Fx.trans{l:List Addr}{H1 H2 H3:Hp}(h:Fx l H1 H2)(h2:Fx l H2 H3):Fx l H1 H3:=λb o e n=>h2 b o (h b o e n) n
theorem Ay.fx{l:List Addr}{H1 H2:Hp}(h:Ay H1 H2):Fx l H1 H2:=λb o e _=>h b o e
theorem Fx.mono{l m:List Addr}{H1 H2:Hp}(h:Fx l H1 H2)(s:∀x∈l,x∈m):Fx m H1 H2:=λb o e n=>h b o e λz=>n (s b z)
theorem Fx.get{l:List Addr}{H1 H2:Hp}(h:Fx l H1 H2){b:Addr}{o:HO}(n:b∉l)(e:H1 b=some o):H2 b=some o:=h b o e λz=>absurd z n
theorem Fx.tup{l:List Addr}{H1 H2:Hp}(h:Fx l H1 H2){b:Addr}{xs:List V}(e:H1 b=some (.tup xs)):H2 b=some (.tup xs):=h b _ e λ_=>True.intro
theorem fx_up{H:Hp}{x:Addr}{o o':HO}(e:H x=some o)(n:¬Fix o):Fx [x] H (upd H x o'):=λb u e2 f=>by
 by_cases z:b=x
 ·subst z;rw[e]at e2;cases e2;exact absurd (f (D4.mpr rfl)) n
 ·rw[Au z];exact e2
theorem Fr.fx{a:Ad}{g:GA}{G:Gv}{H H':Hp}(h:Fr g H H')(at':AJ a H g G):Fx [g.lv,g.pt,g.nm] H H':=λb o e f=>by
 obtain⟨ts,h3,_⟩:=at'.pt;refine h b o e (λz=>?_) (λz=>?_) (λz=>?_)
 ·subst z;rw[at'.lv]at e;cases e;exact f A6
 ·subst z;rw[h3]at e;cases e;exact f A6
 ·subst z;rw[at'.nm]at e;cases e;exact f A6
def EO(g:GA):List Addr:=[g.lv,g.pt,g.nm,g.br,g.am,g.bx]
theorem AX.fx{a:Ad}{g:GA}{G:Gv}{H H':Hp}{l:List Addr}(h:AX a H g G)(f:Fx l H H')(n:∀x∈EO g,x∉l):AX a H' g G:=by
 obtain⟨at',ok,g0,br,⟨ks,h1,h2⟩,⟨ks',h3,h4⟩,n1,n2,n3⟩:=h;obtain⟨p1,p2,⟨ts,p3,p4⟩,p5,p6⟩:=at';have m:∀x∈EO g,∀o,H x=some o->H' x=some o:=λx hx o e=>f.get (n x hx) e;refine⟨⟨f _ _ p1 λ_=>True.intro,m _ (by simp[EO]) _ p2,⟨ts,m _ (by simp[EO]) _ p3,PairedM.imp (λt q z=>f.tup z) p4⟩,m _ (by simp[EO]) _ p5,p6⟩,ok,g0,m _ (by simp[EO]) _ br,⟨ks,m _ (by simp[EO]) _ h1,h2⟩,⟨ks',m _ (by simp[EO]) _ h3,h4.keys,λi v e=>?_⟩,n1,n2,n3⟩;obtain⟨l,b,t,e1,e2,e3,e4⟩:=h4.val i v e;exact⟨l,b,t,e1,e2,e3,f.tup e4⟩
structure Nw(H:Hp)(l:List Addr):Prop where
 nd:l.Nodup
 s:∀x∈l,∃o,H x=some o
theorem AX.nw{a:Ad}{H:Hp}{g:GA}{G:Gv}(h:AX a H g G):Nw H (EO g):=by
 obtain⟨⟨_,h2,⟨ts,h3,_⟩,h5,h6⟩,_,_,h7,⟨ks,h8,_⟩,⟨ks',h9,_⟩,n1,n2,n3⟩:=h;have t:∀{x y:Addr}{o o':HO},H x=some o->H y=some o'->o≠o'->x≠y:=λ{x y o o'} e e' n=>AE e e' n;refine⟨?_,λx hx=>?_⟩
 ·simp only[EO,M4,C1,D9,X7,A2e,A1g,O8,and_true];exact⟨⟨h6,t h2 h5 A3,Z3 n1,t h2 h8 A3,t h2 h9 A3⟩,⟨t h3 h5 A3,Z3 n2,t h3 h8 A3,t h3 h9 A3⟩,⟨t h5 h7 A3,t h5 h8 A3,t h5 h9 A3⟩,⟨t h7 h8 A3,t h7 h9 A3⟩,n3⟩
 ·simp only[EO,C1,D9,X7]at hx;rcases hx with rfl|rfl|rfl|rfl|rfl|rfl
  ·exact⟨_,h2⟩
  ·exact⟨_,h3⟩
  ·exact⟨_,h5⟩
  ·exact⟨_,h7⟩
  ·exact⟨_,h8⟩
  ·exact⟨_,h9⟩
theorem Dt{H:Hp}{x y:Addr}{o:HO}(h:upd H x o y=none):H y=none:=by
 by_cases e:y=x
 ·subst e;rw[Af]at h;cases h
 ·rw[Au e]at h;exact h
theorem Tf.none{a:Ad}{H H':Hp}{x dx:Addr}{o o':HO}{g:GA}{G:Gv}{B:List Int}{am:List (Key×V)}(N:Tf a (upd (upd H dx o) x o') H' g G B am):∀y∈EO g,H y=none:=λy hy=>by
 obtain⟨f1,f2,f3,f4,f5,f6⟩:=N.fresh;simp only[EO,C1,D9,X7]at hy;rcases hy with rfl|rfl|rfl|rfl|rfl|rfl
 ·exact Dt (Dt f1)
 ·exact Dt (Dt f2)
 ·exact Dt (Dt f3)
 ·exact Dt (Dt f4)
 ·exact Dt (Dt f5)
 ·exact Dt (Dt f6)
theorem Ay.fxn{H H3 H4:Hp}{m:List Addr}(s:Ay H H3)(f:Fx m H3 H4)(n:∀y∈m,H y=none):Ay H H4:=λb o e=>f.get (λz=>by rw[n b z]at e;cases e) (s _ _ e)
structure OY(L:Int->Int->Prop)(b:Bx):Prop where
 inn:∀u v,L u v->b.l<=u/\u<b.l+b.w/\b.t<=v/\v<b.t+b.h
 le:∃v,L b.l v
 to:∃u,L u b.t
 ri:∃v,L (b.l+b.w-1) v
 bo:∃u,L u (b.t+b.h-1)
theorem SB{l:List Int}(h:l≠[]):mnL l∈l/\∀x∈l,mnL l<=x:=by
 unfold mnL;cases e:l.min? with
 |none=>exact absurd (List.min?_eq_none_iff.mp e) h
 |some m=>exact List.min?_eq_some_iff.mp e
theorem Sz{l:List Int}(h:l≠[]):mxL l∈l/\∀x∈l,x<=mxL l:=by
 unfold mxL;cases e:l.max? with
 |none=>exact absurd (List.max?_eq_none_iff.mp e) h
 |some m=>exact List.max?_eq_some_iff.mp e
theorem VL{L:Int->Int->Prop}{bs:List Bx}(ne:bs≠[])(h1:∀b∈bs,∃M:Int->Int->Prop,OY M b/\∀u v,M u v->L u v)(h2:∀u v,L u v->∃b∈bs,b.l<=u/\u<b.l+b.w/\b.t<=v/\v<b.t+b.h):OY L (OL bs):=by
 have n1:bs.map (·.l)≠[]:=λz=>ne (R8.mp z);have n2:bs.map (·.t)≠[]:=λz=>ne (R8.mp z);have n3:(bs.map λb=>b.l+b.w)≠[]:=λz=>ne (R8.mp z);have n4:(bs.map λb=>b.t+b.h)≠[]:=λz=>ne (R8.mp z);obtain⟨m1,a1⟩:=SB n1;obtain⟨m2,a2⟩:=SB n2;obtain⟨m3,a3⟩:=Sz n3;obtain⟨m4,a4⟩:=Sz n4;obtain⟨b1,hb1,e1⟩:=D5.mp m1;obtain⟨b2,hb2,e2⟩:=D5.mp m2;obtain⟨b3,hb3,e3⟩:=D5.mp m3;obtain⟨b4,hb4,e4⟩:=D5.mp m4;unfold OL;refine⟨λu v q=>?_,?_,?_,?_,?_⟩
 ·obtain⟨b,hb,q1,q2,q3,q4⟩:=h2 u v q;have c1:=a1 _ (D5.mpr ⟨b,hb,rfl⟩);have c2:=a2 _ (D5.mpr ⟨b,hb,rfl⟩);have c3:=a3 _ (D5.mpr ⟨b,hb,rfl⟩);have c4:=a4 _ (D5.mpr ⟨b,hb,rfl⟩);dsimp only at c1 c2 c3 c4⊢;lia
 ·obtain⟨M,t,s⟩:=h1 b1 hb1;obtain⟨v,x⟩:=t.le;exact⟨v,by rw[e1]at x;exact s _ _ x⟩
 ·obtain⟨M,t,s⟩:=h1 b2 hb2;obtain⟨v,x⟩:=t.to;exact⟨v,by rw[e2]at x;exact s _ _ x⟩
 ·obtain⟨M,t,s⟩:=h1 b3 hb3;obtain⟨v,x⟩:=t.ri;refine⟨v,?_⟩;dsimp only at e3⊢;rw[e3]at x;have:=s _ _ x;rw[show mnL (bs.map (·.l))+(mxL (bs.map λb=>b.l+b.w)-mnL (bs.map (·.l)))-1=mxL (bs.map λb=>b.l+b.w)-1 by lia];exact this
 ·obtain⟨M,t,s⟩:=h1 b4 hb4;obtain⟨v,x⟩:=t.bo;refine⟨v,?_⟩;dsimp only at e4⊢;rw[e4]at x;have:=s _ _ x;rw[show mnL (bs.map (·.t))+(mxL (bs.map λb=>b.t+b.h)-mnL (bs.map (·.t)))-1=mxL (bs.map λb=>b.t+b.h)-1 by lia];exact this
theorem OI{half:Int}{b:Bx}:∀{obs:List (Option Bx)}{k:Nat},b∈DJ half k obs ↔ ∃(j:Nat)(c:Bx),obs[j]?=some (some c)/\b=shB half (k+j) c
 |[],k=>⟨(λh=>by cases h),(λh=>by obtain⟨j,c,h,_⟩:=h;simp at h)⟩
 |none::r,k=>by
  rw[show DJ half k (none::r)=DJ half (k+1) r from rfl,OI];constructor
  ·rintro⟨j,c,h,e⟩;exact⟨j+1,c,by simpa using h,by rw[e,show k+1+j=k+(j+1) by lia]⟩
  ·rintro⟨j,c,h,e⟩;cases j with
   |zero=>simp at h
   |succ j=>exact⟨j,c,by simpa using h,by rw[e,show k+1+j=k+(j+1) by lia]⟩
 |some d::r,k=>by
  rw[show DJ half k (some d::r)=shB half k d::DJ half (k+1) r from rfl,C1,OI];constructor
  ·rintro(h|⟨j,c,h,e⟩)
   ·exact⟨0,d,rfl,h⟩
   ·exact⟨j+1,c,by simpa using h,by rw[e,show k+1+j=k+(j+1) by lia]⟩
  ·rintro⟨j,c,h,e⟩;cases j with
   |zero =>
    have h:d=c:=by simpa using h
    subst h;exact .inl e
   |succ j=>exact .inr ⟨j,c,by simpa using h,by rw[e,show k+1+j=k+(j+1) by lia]⟩
def Lv(G:Gv)(n i:Nat)(u v:Int):Prop:=∃a b:Nat,u=a/\v=b/\a<2^n/\b<2^n/\cellF G n i a b≠0
theorem Vd{G:Gv}{n i:Nat}{q:Sq}{a b c d:Nat}(nd:CP G n i q a b c d)(u v:Int):Lv G (n+1) i u v ↔ ∃k,k<4/\Lv G n (f4 a b c d k) (u-2^n*((k:Int)%2)) (v-2^n*((k:Int)/2)):=by
 have cc:=ES n;constructor
 ·rintro⟨x,y,rfl,rfl,hx,hy,ne⟩;rw[Bb nd hx hy]at ne;have x2:=EB hx;have y2:=EB hy;refine⟨quad n x y,Ci hx hy,x%2^n,y%2^n,?_,?_,J6 _ (AS n),J6 _ (AS n),ne⟩
  ·have e:=M8 x (2^n);have q2:((quad n x y:Nat):Int)%2=((x/2^n:Nat):Int):=by
    unfold quad;generalize x/2^n=A at *
    generalize y/2^n=B at *
    lia
   rw[q2,<-cc,<-N4];lia
  ·have e:=M8 y (2^n);have q2:((quad n x y:Nat):Int)/2=((y/2^n:Nat):Int):=by
    unfold quad;generalize x/2^n=A at *
    generalize y/2^n=B at *
    lia
   rw[q2,<-cc,<-N4];lia
 ·rintro⟨k,hk,x,y,ex,ey,hx,hy,ne⟩;obtain⟨h1,h2,h3,h4,h5⟩:=FN hk hx hy;refine⟨x+2^n*(k%2),y+2^n*(k/2),?_,?_,h1,h2,?_⟩
  ·rw[M9,N4,cc,show((k%2:Nat):Int)=(k:Int)%2 from rfl];lia
  ·rw[M9,N4,cc,show((k/2:Nat):Int)=(k:Int)/2 from rfl];lia
  ·rw[Bb nd h1 h2,h3,h4,h5];exact ne
theorem PD{L:Int->Int->Prop}{b:Bx}{half:Int}{k:Nat}(h:OY L b):OY (λu v=>L (u-half*((k:Int)%2)) (v-half*((k:Int)/2))) (shB half k b):=by
 obtain⟨v1,a1⟩:=h.le;obtain⟨v2,a2⟩:=h.to;obtain⟨v3,a3⟩:=h.ri;obtain⟨v4,a4⟩:=h.bo;unfold shB;generalize half*((k:Int)%2)=p;generalize half*((k:Int)/2)=q;refine⟨λu v m=>?_,⟨v1+q,?_⟩,⟨v2+p,?_⟩,⟨v3+q,?_⟩,⟨v4+p,?_⟩⟩
 ·have:=h.inn _ _ m;dsimp only;lia
 ·show L (b.l+p-p) (v1+q-q);rw[Q5,Q5];exact a1
 ·show L (v2+p-p) (b.t+q-q);rw[Q5,Q5];exact a2
 ·show L (b.l+p+b.w-1-p) (v3+q-q);rw[Q5,show b.l+p+b.w-1-p=b.l+b.w-1 by lia];exact a3
 ·show L (v4+p-p) (b.t+q+b.h-1-q);rw[Q5,show b.t+q+b.h-1-q=b.t+b.h-1 by lia];exact a4
theorem MU{G:Gv}(ok:GOk G):∀{n i:Nat}{b:Bx},Ak G i (n:Int)->BQ G n i=some b->OY (Lv G n i) b
 |0,i,b,_,h=>by
  have h:(if i=0 then none else some (⟨0,0,1,1⟩:Bx))=some b:=h;by_cases z:i=0
  ·rw[Y7 z]at h;cases h
  ·rw[Y4 z]at h;cases h;have l0:Lv G 0 i 0 0:=⟨0,0,rfl,rfl,by decide,by decide,z⟩
   refine⟨λu v m=>?_,⟨0,l0⟩,⟨0,l0⟩,⟨0,l0⟩,⟨0,l0⟩⟩;obtain⟨x,y,rfl,rfl,hx,hy,_⟩:=m;have hx:x<1:=hx;have hy:y<1:=hy;dsimp only;lia
 |n+1,i,b,l,h=>by
  obtain⟨q,a,b',c,d,nd⟩:=Be ok l;rw[Fj nd]at h;have obs:∀k,k<4->[BQ G n a,BQ G n b',BQ G n c,BQ G n d][k]?=some (BQ G n (f4 a b' c d k)):=λk hk=>by
   match k,hk with
   |0,_=>rfl
   |1,_=>rfl
   |2,_=>rfl
   |3,_=>rfl
  have key:∀e,e∈DJ (2^n) 0 [BQ G n a,BQ G n b',BQ G n c,BQ G n d] ↔ ∃k e',k<4/\BQ G n (f4 a b' c d k)=some e'/\e=shB (2^n) k e':=λe=>by
   rw[OI];constructor
   ·rintro⟨j,c',hj,rfl⟩;have j4:j<4:=(B7.mp hj).1;rw[obs j j4]at hj;exact⟨j,c',j4,Z5 hj,by rw[N1]⟩
   ·rintro⟨k,e',hk,h1,rfl⟩;exact⟨k,e',by rw[obs k hk,h1],by rw[N1]⟩
  unfold Ph at h;cases hg:DJ (2^n) 0 [BQ G n a,BQ G n b',BQ G n c,BQ G n d]with
  |nil=>rw[hg]at h;cases h
  |cons e0 es =>
   rw[hg]at h;have h:=Z5 h;rw[hg]at key;subst h;refine VL A6 (λe he=>?_) λu v m=>?_
   ·obtain⟨k,e',hk,h1,rfl⟩:=(key e).mp he;refine⟨_,PD (MU ok (nd.nat hk).2 h1),λu v m=>(Vd nd u v).mpr ⟨k,hk,m⟩⟩
   ·obtain⟨k,hk,m⟩:=(Vd nd u v).mp m;cases hb:BQ G n (f4 a b' c d k)with
    |none =>
     have c0:=(JI ok n _ (nd.nat hk).2).mp hb;obtain⟨x,y,_,_,hx,hy,ne⟩:=m;exact absurd (cell_none ok (nd.nat hk).2 c0 hx hy) ne
    |some e' =>
     have t:=PD (half:=2^n) (k:=k) (MU ok (nd.nat hk).2 hb);exact⟨_,(key _).mpr ⟨k,e',hk,hb,rfl⟩,t.inn u v m⟩
where cell_none {G:Gv} (ok:GOk G):∀{n i x y:Nat},Ak G i (n:Int)->Bj G n i=0->x<2^n->y<2^n->cellF G n i x y=0
 |0,i,x,y,_,h,_,_=>by
  have h:(if i=0 then(0:Int)else 1)=0:=h;show i=0;by_cases z:i=0
  ·exact z
  ·rw[Y4 z]at h;lia
 |n+1,i,x,y,l,h,hx,hy=>by
  obtain⟨q,a,b,c,d,nd⟩:=Be ok l;have e:=Fe nd;have e:Bj G (n+1) i=Bj G n a+(Bj G n b+(Bj G n c+(Bj G n d+0))):=e;have ea:=CO G n a;have eb:=CO G n b;have ec:=CO G n c;have ed:=CO G n d;have qk:=Ci hx hy;rw[Bb nd hx hy];refine cell_none ok (nd.nat qk).2 ?_ (J6 _ (AS n)) (J6 _ (AS n));generalize quad n x y=k at qk
  match k,qk with
  |0,_=>show Bj G n a=0;lia
  |1,_=>show Bj G n b=0;lia
  |2,_=>show Bj G n c=0;lia
  |3,_=>show Bj G n d=0;lia
seal L2.PA L2.PE L2.PS L2.PSs L2.PT L2.PW
theorem SG{G:Gv}{n f:Nat}(x y:Int):Lv G (n+1) f (x+2^n) (y+2^n)↔fieldF G n f x y≠0:=by
 have c:=ES n;have e:=PF n;constructor
 ·rintro⟨u,v,eu,ev,hu,hv,ne⟩;unfold fieldF;rw[Y7 ⟨by lia,by lia,by lia,by lia⟩,show(x+2^n).toNat=u by lia,show(y+2^n).toNat=v by lia];exact ne
 ·intro ne;unfold fieldF at ne;split at ne
  ·rename_i z;obtain⟨z1,z2,z3,z4⟩:=z;exact⟨(x+2^n).toNat,(y+2^n).toNat,by lia,by lia,Ec z1 z2,Ec z3 z4,ne⟩
  ·exact absurd rfl ne
def mvB(r:Int)(b:Bx):Bx:=⟨b.l+-r,b.t+-r,b.w,b.h⟩
theorem RF{G:Gv}(ok:GOk G){n f:Nat}(l:Ak G f ((n+1:Nat):Int)){b:Bx}(h:BQ G (n+1) f=some b):OY (λx y=>fieldF G n f x y≠0) (mvB (2^n) b):=by
 have t:=MU ok l h;obtain⟨v1,a1⟩:=t.le;obtain⟨v2,a2⟩:=t.to;obtain⟨v3,a3⟩:=t.ri;obtain⟨v4,a4⟩:=t.bo;have go:∀{u v:Int},Lv G (n+1) f u v->fieldF G n f (u+-(2^n)) (v+-(2^n))≠0:=λ{u v} m=>(SG _ _).mp (by rw[show u+-(2^n)+2^n=u by lia,show v+-(2^n)+2^n=v by lia];exact m);unfold mvB;refine⟨λx y m=>?_,⟨_,go a1⟩,⟨_,go a2⟩,⟨v3+-(2^n),?_⟩,⟨v4+-(2^n),?_⟩⟩
 ·have:=t.inn _ _ ((SG x y).mpr m);dsimp only;lia
 ·have:=go a3;rw[show b.l+b.w-1+-(2^n)=b.l+-(2^n)+b.w-1 by lia]at this;exact this
 ·have:=go a4;rw[show b.t+b.h-1+-(2^n)=b.t+-(2^n)+b.h-1 by lia]at this;exact this
section
variable{P:Program}{w:World}{K:PySem.W.Frag}{mg:Str->Option Value}{base:Heap}{a:Ad}
inductive VC(a:Ad)(vs:List V)(H:Hp)(Q:VK):Prop
 |mk (g:GA) (G:Gv) (f n:Nat) (_:vs=[.ref g.p,.int f]) (_:AX a H g G) (_:Ak G f ((n+1:Nat):Int)) (_:n<48) (_:G.length<8000000) (_:(BQ G (n+1) f=none->∀H',FrQ g H H'->AX a H' g G->Q .non H')) (_:∀b,BQ G (n+1) f=some b->∀t H',FrQ g H H'->AX a H' g G->MW H' t (mvB (2^n) b)->Q (.ref t) H'):VC a vs H Q
def QC(a:Ad):Sp:=λvs H Q _=>VC a vs H Q
theorem YG{f:Addr}{fd:FuncData}(F:Fun K "box_of" "box_of" Om f fd)(T:Top K mg a)(bU:BO P w K mg base CX0 101 a.c_Grove "span" Il (Tj a))(aI:Cal P w K mg base CX0 4 "reach_of" En (Jw a))(aG:Cal P w K mg base CX0 1 "shifted_box" Dm Lz):AI P w K mg base CX0 102 f fd Ov (QC a):=by
 refine F.ok Mq (λvs H Q E h=>?_) (λcdv A outer s H vs Q E hr h=>?_)
 ·obtain⟨g,G,f',n,rfl,_⟩:=h;rfl
 ·obtain⟨g,G,f',n,rfl,fu,lf,n48,few,k0,k1⟩:=h;refine⟨_,(Ac (Aq (i:=2) Mq.nd rfl (Or.inl rfl) (AF (pv 0) bU (rm hr) Am (Aa (pv 1) Ab))) (Ac (AM (Az Io (pv 2) Dh (AG _)) (Ag (Av Dh)) AC) (Ac (Aq (i:=3) Mq.nd rfl (Or.inl rfl) (Ar aI (rm hr) rfl Am (Aa (pv 0) (Aa (pv 1) Ab)))) (Ag (Av (Ar aG (rm hr) rfl Am (Aa (pv 2) (Aa (LL GM (pv 3)) (Aa (LL GM (pv 3)) Ab))))))))),?_⟩
  try dsimp only[cxK]
  refine xq1 rfl ⟨g.p,g.dx,(xq1 rfl ⟨fu.at'.hp,no_span g,(xq1 rfl ⟨g,G,f',n+1,rfl,fu,lf,by lia,λhn H1 fr1 fu1=>?_,λb hb t H1 fr1 fu1 ht=>?_⟩)⟩)⟩
  ·exact xq1 rfl ⟨rfl,(xq1 rfl (Ce (k0 hn H1 fr1 fu1)))⟩
  ·refine xq1 rfl ⟨rfl,(xq1 rfl (Bo ?_))⟩;refine xw2 rfl rfl ⟨g,G,f',n,rfl,fu1.at',lf,n48,?_⟩;refine xw3 rfl rfl rfl (xw2 rfl rfl ⟨t,b,_,_,rfl,ht,λt' ht'=>?_⟩);have s2:=AK (o:=.tup [.int (b.l+-(2^n)),.int (b.t+-(2^n)),.int b.w,.int b.h]) ht';exact k1 b hb t' _ (fr1.trans (Ay.frq s2)) (fu1.same s2) Af
end
end J
namespace J
open PySem L2
theorem cel_F{G:Gv}(ok:GOk G):∀{n i x y:Nat},Ak G i (n:Int)->x<2^n->y<2^n->cel G n i x y=cellF G n i x y
 |0,_,_,_,_,_,_=>rfl
 |n+1,i,x,y,h,hx,hy=>by
  obtain⟨q,a,b,c,d,nd⟩:=Be ok h;rw[Bb nd hx hy];have p:=AS n;have hx2:x/2^n<2:=Nat.div_lt_of_lt_mul (by rw[J3]at hx;lia);have hy2:y/2^n<2:=Nat.div_lt_of_lt_mul (by rw[J3]at hy;lia);have e:qO G i ((x/2^n)%2+2*((y/2^n)%2))=f4 a b c d (quad n x y):=by
   have:=(nd.nat (Ci hx hy)).1;unfold qO;rw[nd.g,O4 hx2,O4 hy2];show(q.parts.getD (quad n x y) 0).toNat=_;rw[D7,this];rfl
  show cel G n (qO G i ((x/2^n)%2+2*((y/2^n)%2))) x y=_;rw[e,<-cel_F ok (nd.nat (Ci hx hy)).2 (J6 _ p) (J6 _ p)];have:=Rp G n (f4 a b c d (quad n x y)) (x%2^n) (y%2^n) (x/2^n) (y/2^n);rw[Nat.mod_add_div,Nat.mod_add_div]at this;exact this
theorem Mb{α β:Type}(f:α->List β)(m:Nat):∀l:List α,(∀x∈l,(f x).length<=m)->(l.flatMap f).length<=l.length*m
 |[],_=>by simp
 |a::l,h=>by
  have:=Mb f m l λx hx=>h x (C2 _ hx);have:=h a C3;rw[U0,C4,D8,Nat.succ_mul];lia
structure ZS(a:Ad)(H:Hp)(g:GA)(G:Gv)(Κ:KTy)(N b:Nat)(p dx mem pr:Addr)(r:AD)(m:MA):Prop where
 jz:JZ a H g G Κ N b p dx mem pr r m
 fu:AX a H g G
 na:g.am∉m.ds
 nb:g.bx∉m.ds
def FrZ(g:GA)(m:MA)(H H':Hp):Prop:=∀b o,H b=some o->b∉[g.lv,g.pt,g.nm,g.am,g.bx,m.kc]->b∉m.ds->H' b=some o
section
variable{a:Ad}{H H' H1 H2 H3:Hp}{g:GA}{G G':Gv}{Κ:KTy}{N b i:Nat}{p dx mem pr:Addr}{r:AD}{m:MA}
theorem FrZ.trans(h:FrZ g m H1 H2)(k:FrZ g m H2 H3):FrZ g m H1 H3:=λb o e n1 n2=>k b o (h b o e n1 n2) n1 n2
theorem Ay.z(s:Ay H H'):FrZ g m H H':=λb o e _ _=>s b o e
theorem Fr.z(f:Fr g H H'):FrZ g m H H':=λb o e n1 _=>f b o e (λz=>n1 (by simp[z])) (λz=>n1 (by simp[z])) (λz=>n1 (by simp[z]))
theorem FrQ.z(f:FrQ g H H'):FrZ g m H H':=λb o e n1 _=>f b o e (λz=>n1 (by simp[z])) (λz=>n1 (by simp[z]))
theorem FrJ.z(f:FrJ g m H H'):FrZ g m H H':=λb o e n1 n2=>f b o e (λz=>n1 (by simp[z])) (λz=>n1 (by simp[z])) (λz=>n1 (by simp[z])) (λz=>n1 (by simp[z])) n2
theorem ZS.same(h:ZS a H g G Κ N b p dx mem pr r m)(s:Ay H H'):ZS a H' g G Κ N b p dx mem pr r m:=⟨h.jz.same s,h.fu.same s,h.na,h.nb⟩
theorem ZS.mono{b':Nat}(h:ZS a H g G Κ N b p dx mem pr r m)(e:b<=b'):ZS a H g G Κ N b' p dx mem pr r m:=⟨h.jz.mono e,h.fu,h.na,h.nb⟩
theorem ZS.fr(h:ZS a H g G Κ N b p dx mem pr r m)(f:Fr g H H')(fu:AX a H' g G')(go:AH G G' i):ZS a H' g G' Κ N (b+i) p dx mem pr r m:=⟨h.jz.fr f fu.at' go,fu,h.na,h.nb⟩
theorem ZS.frQ(h:ZS a H g G Κ N b p dx mem pr r m)(f:FrQ g H H')(fu:AX a H' g G):ZS a H' g G Κ N b p dx mem pr r m:=by
 have hj:=h.jz.jw;have nd:∀{x:Addr}{o:HO},H x=some o->(∀ks,o≠.dK ks)->H' x=some o:=λ{x o} e n=>f _ _ e (h.fu.ne_am e n).1 (h.fu.ne_am e n).2;have kd:∀d∈m.ds,∀o,H d=some o->H' d=some o:=λd hd o e=>f _ _ e (λz=>h.na (z▸hd)) (λz=>h.nb (z▸hd));obtain⟨kc,c1,_⟩:=hj.me.ce;have me:IO H' g G N (b+10*N) r m:=hj.me.kp hj.ok (AH.refl hj.ok) λx o e w=>by
  rcases w with z|z|z|z
  ·subst z;exact nd e (by rw[hj.me.tp]at e;cases e;intro ks z;cases z)
  ·subst z;exact nd e (by rw[hj.me.l]at e;cases e;intro ks z;cases z)
  ·exact kd x z o e
  ·subst z;exact nd e (by rw[c1]at e;cases e;intro ks z;cases z)
 obtain⟨ff,cn⟩:=h.jz.cn;refine⟨⟨⟨fu.at',hj.ok,hj.bs,fu.br,hj.nbr,nd hj.hp (by intro ks z;cases z),hj.ru.kp λx o e n=>nd e (by intro ks z;rw[z]at n;cases n),hj.rok,hj.rest,me⟩,ff,cn.kp (i:=0) hj.ok (AH.refl hj.ok) kd λkc' e=>⟨kc',nd e (by intro ks z;cases z),C0 _⟩⟩,fu,h.na,h.nb⟩
theorem ZS.aft(h:ZS a H g G Κ N b p dx mem pr r m)(f:FrJ g m H H')(jz:JZ a H' g G' Κ N b p dx mem pr r m)(go:AH G G' i):ZS a H' g G' Κ N b p dx mem pr r m:=by
 have hj:=h.jz.jw;refine⟨jz,?_,h.na,h.nb⟩;obtain⟨at',ok,⟨r0,g0⟩,br,⟨ks,h1,h2⟩,⟨ks',h3,h4⟩,n1,n2,n3⟩:=h.fu;obtain⟨us,hp,_⟩:=at'.pt;obtain⟨kc,c1,_⟩:=hj.me.ce;have nds:∀{x:Addr}{o:HO},H x=some o->(∀ks,o≠.dK ks)->x∉m.ds:=λ{x o} e n z=>by
  obtain⟨j,hj'⟩:=J9 z;obtain⟨kv,e2,_⟩:=hj.me.sq j x hj';rw[e]at e2;cases e2;exact n _ rfl
 obtain⟨t,et⟩:=go.pre;have dk:∀{x:Addr}{ks:List (Key×V)},H x=some (.dK ks)->x∉m.ds->H' x=some (.dK ks):=λ{x ks} e n=>f _ _ e (AE e at'.lv A3) (AE e hp A3) (AE e at'.nm A3) (AE e c1 A3) n;refine⟨jz.jw.gr,go.ok,⟨r0++t,by rw[et,g0,R1]⟩,jz.jw.br,⟨ks,dk h1 h.na,h2.app ok go⟩,⟨ks',dk h3 h.nb,h4.keys.app go.le,λi v e=>?_⟩,n1,n2,n3⟩;obtain⟨l,bb,t,e1,e2,e3,e4⟩:=h4.val i v e;exact⟨l,bb,t,go.lev e1,by rw[GJ ok go l i e1];exact e2,e3,f _ _ e4 (AE e4 at'.lv A3) (AE e4 hp A3) (AE e4 at'.nm A3) (AE e4 c1 A3) (nds e4 (by intro ks z;cases z))⟩
theorem ZS.keep(h:ZS a H g G Κ N b p dx mem pr r m)(f:FrZ g m H H'){x:Addr}{o:HO}(e:H x=some o)(k1:∀xs,o≠.lst xs)(k2:∀ks,o≠.dK ks)(k3:∀ks,o≠.dT ks):H' x=some o:=by
 have hj:=h.jz.jw;obtain⟨us,hp,_⟩:=h.fu.at'.pt;obtain⟨kc,c1,_⟩:=hj.me.ce;have n1:=h.fu.ne_am e k2;refine f _ _ e (λz=>?_) (λz=>?_)
 ·simp only[C1,D9,X7]at z;rcases z with z|z|z|z|z|z
  ·exact AE e h.fu.at'.lv (k1 _) z
  ·exact AE e hp (k1 _) z
  ·exact AE e h.fu.at'.nm (k3 _) z
  ·exact n1.1 z
  ·exact n1.2 z
  ·exact AE e c1 (k3 _) z
 ·obtain⟨j,hj'⟩:=J9 z;obtain⟨kv,e2,_⟩:=hj.me.sq j x hj';exact AE e e2 (k2 _) rfl
theorem ZS.new(h:ZS a H g G Κ N b p dx mem pr r m){x:Addr}(n:H x=none):x∉[g.lv,g.pt,g.nm,g.am,g.bx,m.kc]/\x∉m.ds:=by
 have hj:=h.jz.jw;obtain⟨us,hp,_⟩:=h.fu.at'.pt;obtain⟨kc,c1,_⟩:=hj.me.ce;obtain⟨ks,h1,_⟩:=h.fu.am;obtain⟨ks',h3,_⟩:=h.fu.bx;refine⟨λz=>?_,λz=>?_⟩
 ·simp only[C1,D9,X7]at z;rcases z with rfl|rfl|rfl|rfl|rfl|rfl
  ·rw[h.fu.at'.lv]at n;cases n
  ·rw[hp]at n;cases n
  ·rw[h.fu.at'.nm]at n;cases n
  ·rw[h1]at n;cases n
  ·rw[h3]at n;cases n
  ·rw[c1]at n;cases n
 ·obtain⟨j,hj'⟩:=J9 z;obtain⟨kv,e2,_⟩:=hj.me.sq j x hj';rw[e2]at n;cases n
end
theorem JW.putL{a:Ad}{H:Hp}{g:GA}{G:Gv}{N M:Nat}{p dx mem pr x:Addr}{r:AD}{m:MA}{xs:List V}{o:HO}(h:JW a H g G N M p dx mem pr r m)(hx:H x=some (.lst xs))(n1:x≠g.lv)(n2:x≠g.pt)(n3:x≠g.br)(n4:x≠m.l):JW a (upd H x o) g G N M p dx mem pr r m:=by
 have other:∀{b v},H b=some v->(∀l,v≠.lst l)->upd H x o b=some v:=λ{b v} e n=>by rw[Au (AE e hx (n _))];exact e
 refine⟨h.gr.put hx n1 n2,h.ok,h.bs,by rw[Au (Z3 n3)];exact h.br,h.nbr,other h.hp B0,h.ru.kp λb o e n=>other e λl z=>(by rw[z]at n;cases n),h.rok,h.rest,h.me.kp h.ok (AH.refl h.ok) λb o e w=>?_⟩;rcases w with z|z|z|z
 ·have e2:=h.me.tp;rw[<-z,e]at e2;cases e2;exact other e B0
 ·rw[z]at e⊢;rw[Au (Z3 n4)];exact e
 ·obtain⟨j,hj⟩:=J9 z;obtain⟨kv,e2,_⟩:=h.me.sq j b hj;rw[e]at e2;cases e2;exact other e B0
 ·obtain⟨kc,e2,_⟩:=h.me.ce;rw[z]at e⊢;rw[e]at e2;cases e2;exact other e B0
structure ApZ(g:GA)(m:MA)(x:Addr):Prop where
 n0:x∉[g.lv,g.pt,g.nm,g.am,g.bx,m.kc]
 n1:x∉m.ds
 n2:x≠g.br
 n3:x≠m.l
section
variable{a:Ad}{H H':Hp}{g:GA}{G G':Gv}{Κ:KTy}{N b i:Nat}{p dx mem pr:Addr}{r:AD}{m:MA}
theorem ZS.ap(h:ZS a H g G Κ N b p dx mem pr r m){x:Addr}(n:H x=none):ApZ g m x:=by
 obtain⟨n0,n1⟩:=h.new n;refine⟨n0,n1,λz=>?_,λz=>?_⟩
 ·rw[z,h.fu.br]at n;cases n
 ·rw[z,h.jz.jw.me.l]at n;cases n
theorem ZS.putL{x:Addr}{xs:List V}{o:HO}(h:ZS a H g G Κ N b p dx mem pr r m)(hx:H x=some (.lst xs))(ap:ApZ g m x):ZS a (upd H x o) g G Κ N b p dx mem pr r m:=by
 have lv:x≠g.lv:=λz=>ap.n0 (by simp[z]);have pt:x≠g.pt:=λz=>ap.n0 (by simp[z]);obtain⟨f,c⟩:=h.jz.cn;refine⟨⟨h.jz.jw.putL hx lv pt ap.n2 ap.n3,f,c.kp (i:=0) h.jz.jw.ok (AH.refl h.jz.jw.ok) (λd hd o' e=>?_) λkc e=>⟨kc,?_,C0 _⟩⟩,h.fu.put hx lv pt ap.n2,h.na,h.nb⟩
 ·rw[Au (λz:d=x=>ap.n1 (z▸hd))];exact e
 ·rw[Au (AE e hx A3)];exact e
end
theorem Rk{G:Gv}(ok:GOk G){n f:Nat}(lf:Ak G f ((n+1:Nat):Int)){x y:Nat}(hx:x<2^(n+1))(hy:y<2^(n+1)):Co G (n+1) f x y=(fieldF G n f ((x:Int)-2^n) ((y:Int)-2^n):Nat):=by
 unfold Co fieldF;have p:((2^(n+1):Nat):Int)=2^n+2^n:=by rw[L5];exact CI n
 rw[Y7 A0,cel_F ok lf hx hy];congr 2<;>lia
seal L2.PA L2.PE L2.PS L2.PSs L2.PT L2.PW
section
variable{P:Program}{w:World}{K:PySem.W.Frag}{mg:Str->Option Value}{base:Heap}{a:Ad}
inductive SpLvF(a:Ad)(vs:List V)(H:Hp)(Q:VK):Prop
 |mk (g:GA) (G:Gv) (f n e:Nat) (_:vs=[.ref g.p,.int f,.int e]) (_:AJ a H g G) (_:Ak G f ((n+1:Nat):Int)) (_:n<=40) (_:e<=40) (_:∀l:Nat,l<=41->n<=l->e<=l->2^n+2^e<=2^l->Q (.int ((l+2:Nat):Int)) H):SpLvF a vs H Q
def WZ(a:Ad):Sp:=λvs H Q _=>SpLvF a vs H Q
theorem ok_lvf{f:Addr}{fd:FuncData}(F:Fun K "level_for" "level_for" IS f fd)(T:Top K mg a)(aI:Cal P w K mg base CX0 4 "reach_of" En (Jw a)):AI P w K mg base CX0 5 f fd Je (WZ a):=by
 refine F.ok EV (λvs H Q E h=>?_) (λcdv A outer s H vs Q E hr h=>?_)
 ·obtain⟨g,G,f',n,e,rfl,_⟩:=h;rfl
 ·obtain⟨g,G,f',n,e,rfl,hg,lf,n40,e40,k⟩:=h;refine⟨_,(Ac (Aq (i:=3) EV.nd rfl (Or.inl rfl) (AA AL (Ar aI (rm hr) rfl Am (Aa (pv 0) (Aa (pv 1) Ab))) (AA Ow Ae (pv 2)))) (Ac (Aq (i:=4) EV.nd rfl (Or.inl rfl) Ae) (Ac (IZ Z6 (Az IH (AA Ow Ae (AA Cw (pv 4) Ae)) (pv 3) (AG _)) (Ag (Aq (i:=4) EV.nd rfl (Or.inl rfl) (AA AL (pv 4) Ae)))) (Ag (Av (pv 4)))))),?_⟩
  try dsimp only[cxK]
  refine BM ?_;intro r1 s1 k1 hk1 E1;refine xw2 rfl rfl ⟨g,G,f',n,rfl,hg,lf,by lia,?_⟩;refine xwb rfl rfl rfl ⟨⟨by lia,by lia,by decide⟩,_,_,rfl,rfl,?_⟩;have eR:(2:Int)^n+1*2^(e:Int).toNat=((2^n+2^e:Nat):Int):=by
   rw[L6,Int.one_mul,M9,L5,L5];rfl
  have pn:2^n<=2^40:=N7 A4 n40;have pe:2^e<=2^40:=N7 A4 e40;have pn0:=AS n;have pe0:=AS e;rw[show(λi j:Int=>V.int (i+j)) (2^n) ((λi j:Int=>i*2^j.toNat) 1 (e:Int))=V.int ((2^n+2^e:Nat):Int)from X9 V.int eR];generalize hR:2^n+2^e=R at k;have R41:R<=2^41:=by rw[<-hR];lia
  refine hk1 ?_;refine BM ?_;intro r2 s2 k2 hk2 E2;refine hk2 ?_;refine⟨λm σ H2=>∃j:Nat,σ=[some (.ref g.p),some (.int f'),some (.int (e:Int)),some (.int (R:Int)),some (.int ((j+2:Nat):Int))]/\H2=H/\j+m=41,⟨41,0,rfl,rfl,rfl⟩,?_⟩;rintro m σ H2 ⟨j,rfl,rfl,jm⟩;refine xwb rfl rfl rfl ⟨_,_,rfl,rfl,⟨by lia,by lia,by decide⟩,_,rfl,_,_,rfl,rfl,_,rfl,?_⟩;have eJ:(1:Int)*2^(((j+2:Nat):Int)-2).toNat=((2^j:Nat):Int):=by
   rw[show(((j+2:Nat):Int)-2).toNat=j by lia,Int.one_mul,L5];rfl
  refine Fb (λhc=>?_) (λhc=>?_)
  ·have hc:=X6 hc;have hc:(1:Int)*2^(((j+2:Nat):Int)-2).toNat<(R:Int):=hc;rw[eJ]at hc;have m0:m≠0:=λz=>by
    subst z;have:j=41:=by lia
    subst this;lia
   refine⟨fun σ' H'=>∃j2:Nat,σ'=[some (.ref g.p),some (.int f'),some (.int (e:Int)),some (.int (R:Int)),some (.int ((j2+2:Nat):Int))]/\H'=H2/\j2+(m-1)=41,fun σ' H' z=>⟨m-1,by lia,z⟩,?_⟩;have ej:((j+2:Nat):Int)+1=((j+1+2:Nat):Int):=by lia
   exact xwb rfl rfl rfl ⟨j+1,X9 (λz:Int=>[some (V.ref g.p),some (V.int f'),some (V.int (e:Int)),some (V.int (R:Int)),some (V.int z)]) ej,rfl,by lia⟩
  ·have hc:¬(1:Int)*2^(((j+2:Nat):Int)-2).toNat<(R:Int):=λz=>hc (Y5 z);rw[eJ]at hc;have le:R<=2^j:=by lia
   refine⟨_,rfl,k j A0 ?_ ?_ le⟩
   ·refine O6 λz=>?_;have:2^j<2^n:=V9 A4 z;lia
   ·refine O6 λz=>?_;have:2^j<2^e:=V9 A4 z;lia
inductive SpWT(a:Ad)(vs:List V)(H:Hp)(Q:VK):Prop
 |mk (g:GA) (G:Gv) (f n k:Nat) (_:vs=[.ref g.p,.int f,.int ((n+k+1:Nat):Int)]) (_:AX a H g G) (_:Ak G f ((n+1:Nat):Int)) (_:n+k<=46) (_:G.length<8000000) (_:∀(v:Nat)(G':Gv)(H':Hp),Fr g H H'->AX a H' g G'->AH G G' (5*k)->Lw G' n f k v->Ak G' v ((n+k+1:Nat):Int)->Q (.int v) H'):SpWT a vs H Q
def spWT(a:Ad):Sp:=λvs H Q _=>SpWT a vs H Q
theorem ok_wt{f:Addr}{fd:FuncData}(F:Fun K "widened_to" "widened_to" GQ f fd)(T:Top K mg a)(a7:BO P w K mg base CX0 3 a.c_Grove "level_of" AY (LA a))(bD:Cal P w K mg base CX0 4 "widened" JA (UF a)):AI P w K mg base CX0 5 f fd EX (spWT a):=by
 refine F.ok Ge (λvs H Q E h=>?_) (λcdv A outer s H vs Q E hr h=>?_)
 ·obtain⟨g,G,f',n,kk,rfl,_⟩:=h;rfl
 ·obtain⟨g,G,f',n,kk,rfl,fu,hl,n46,few,k⟩:=h;refine⟨_,(Ac (Aq (i:=3) Ge.nd rfl (Or.inl rfl) (pv 1)) (Ac (IZ Z6 (Az IH (AF (pv 0) a7 (rm hr) Am (Aa (pv 3) Ab)) (pv 2) (AG _)) (Ag (Aq (i:=3) Ge.nd rfl (Or.inl rfl) (Ar bD (rm hr) rfl Am (Aa (pv 0) (Aa (pv 3) Ab)))))) (Ag (Av (pv 3))))),?_⟩
  try dsimp only[cxK]
  refine xq1 rfl ?_;refine⟨λm σ H2=>∃(G':Gv)(c j:Nat),σ=[some (.ref g.p),some (.int f'),some (.int ((n+kk+1:Nat):Int)),some (.int c)]/\Fr g H H2/\AX a H2 g G'/\AH G G' (5*j)/\j+m=kk/\Ak G' c ((n+j+1:Nat):Int)/\Lw G' n f' j c,⟨kk,G,f',0,rfl,Fr.refl g H,fu,AH.refl fu.ok,by lia,hl,rfl⟩,?_⟩;rintro m σ H2 ⟨G',c,j,rfl,fr,fu2,go,e40,lc,wn⟩;have gf:=go.few;obtain⟨q,eq,el⟩:=id lc;refine⟨_,rfl,g.p,g.dx,_,rfl,fu2.at'.hp,CV g,_,rfl,⟨g,G',c,q,rfl,fu2.at',eq,?_⟩⟩;rw[el];refine⟨_,rfl,_,_,rfl,rfl,_,rfl,Fb (λhc=>?_) (λhc=>?_)⟩
  ·have hc:((n+j+1:Nat):Int)<((n+kk+1:Nat):Int):=X6 hc;refine⟨fun σ' H'=>∃(G2:Gv)(c2 j2:Nat),σ'=[some (.ref g.p),some (.int f'),some (.int ((n+kk+1:Nat):Int)),some (.int c2)]/\Fr g H H'/\AX a H' g G2/\AH G G2 (5*j2)/\j2+(m-1)=kk/\Ak G2 c2 ((n+j2+1:Nat):Int)/\Lw G2 n f' j2 c2,fun σ' H' z=>⟨m-1,by lia,z⟩,?_⟩;refine xw2 rfl rfl ⟨g,G',c,n+j,rfl,fu2,lc,by lia,by lia,λc2 G2 H3 fr3 hg3 go3 wi=>?_⟩;refine⟨G2,c2,j+1,rfl,fr.trans fr3,fu2.fr fr3 hg3 go3,(go.trans go3).mono A0,by lia,?_,⟨c,wn.app go3,wi⟩⟩;have:=wi.lev;rw[show n+(j+1)+1=n+j+2 by lia];exact this
  ·have hc:¬((n+j+1:Nat):Int)<((n+kk+1:Nat):Int):=λz=>hc (Y5 z);have:j=kk:=by lia
   subst this;exact⟨_,rfl,k c G' H2 fr fu2 go wn lc⟩
end
end J
namespace J
open PySem L2
def sF(r:AD)(φ:Int->Int->Nat):Int->Int->Nat:=λx y=>(CZ r (φ x y:Nat) [((φ (x-1) (y-1):Nat):Int),((φ x (y-1):Nat):Int),((φ (x+1) (y-1):Nat):Int),((φ (x-1) y:Nat):Int),((φ (x+1) y:Nat):Int),((φ (x-1) (y+1):Nat):Int),((φ x (y+1):Nat):Int),((φ (x+1) (y+1):Nat):Int)]).toNat
def sFN(r:AD):Nat->(Int->Int->Nat)->Int->Int->Nat
 |0,φ=>φ
 |n+1,φ=>sF r (sFN r n φ)
theorem LI(r:AD)(φ:Int->Int->Nat)(n:Nat):∀m,sFN r (m+n) φ=sFN r m (sFN r n φ)
 |0=>by rw[N1];rfl
 |m+1=>by
  rw[show m+1+n=(m+n)+1 by lia];show sF r (sFN r (m+n) φ)=sF r (sFN r m (sFN r n φ));rw[LI r φ n m]
theorem ND(r:AD){φ ψ:Int->Int->Nat}{X Y:Int}:∀(k:Nat)(x y:Int),(∀u v,x-k<=u->u<=x+k->y-k<=v->v<=y+k->φ u v=ψ (u+X) (v+Y))->sFN r k φ x y=sFN r k ψ (x+X) (y+Y)
 |0,x,y,h=>h x y A0 A0 A0 A0
 |k+1,x,y,h=>by
  have ih:∀u v,x-1<=u->u<=x+1->y-1<=v->v<=y+1->sFN r k φ u v=sFN r k ψ (u+X) (v+Y):=λu v h1 h2 h3 h4=>ND r k u v λa b q1 q2 q3 q4=>h a b A0 A0 A0 A0;show sF r (sFN r k φ) x y=sF r (sFN r k ψ) (x+X) (y+Y);unfold sF;rw[ih x y A0 A0 A0 A0,ih (x-1) (y-1) A0 A0 A0 A0,ih x (y-1) A0 A0 A0 A0,ih (x+1) (y-1) A0 A0 A0 A0,ih (x-1) y A0 A0 A0 A0,ih (x+1) y A0 A0 A0 A0,ih (x-1) (y+1) A0 A0 A0 A0,ih x (y+1) A0 A0 A0 A0,ih (x+1) (y+1) A0 A0 A0 A0];rw[show x-1+X=x+X-1 by lia,show y-1+Y=y+Y-1 by lia,show x+1+X=x+X+1 by lia,show y+1+Y=y+Y+1 by lia]
theorem IW{r:AD}(h:CZ r 0 BV=0):∀k,sFN r k (λ_ _=>0)=λ_ _=>0
 |0=>rfl
 |k+1=>by
  show sF r (sFN r k λ_ _=>0)=_;rw[IW h k]
  funext x y
  show(CZ r ((0:Nat):Int) BV).toNat=0;rw[show((0:Nat):Int)=0 from rfl,h];rfl
theorem DV{r:AD}(h:CZ r 0 BV=0){φ:Int->Int->Nat}{k:Nat}{x y:Int}(z:sFN r k φ x y≠0):∃u v,x-k<=u/\u<=x+k/\y-k<=v/\v<=y+k/\φ u v≠0:=by
 refine Z2 λno=>z ?_;have:=ND r (φ:=φ) (ψ:=λ_ _=>0) (X:=0) (Y:=0) k x y λu v h1 h2 h3 h4=>Z2 λq=>no ⟨u,v,h1,h2,h3,h4,q⟩;rw[this,IW h]
theorem bec_nn{r:AD}(h:IN r){cell:Int}(hc:0<=cell)(ar:List Int):0<=CZ r cell ar:=by
 cases e:IL r cell ar with
 |none=>rw[Mi e];exact hc
 |some i =>
  obtain⟨c,h1,h2⟩:=Mh e;rw[h2];exact(h.ok c (C9 h1)).makes.1
theorem NC{r:AD}(ro:IN r){c:Nat->Nat->Int}{φ:Int->Int->Nat}{X Y:Int}:∀(k x y:Nat),k<=x->k<=y->(∀u v:Nat,x-k<=u->u<=x+k->y-k<=v->v<=y+k->c u v=(φ ((u:Int)+X) ((v:Int)+Y):Nat))->Bk r k c x y=(sFN r k φ ((x:Int)+X) ((y:Int)+Y):Nat)
 |0,x,y,_,_,h=>h x y A0 A0 A0 A0
 |k+1,x,y,hx,hy,h=>by
  have ih:∀u v:Nat,x-1<=u->u<=x+1->y-1<=v->v<=y+1->Bk r k c u v=(sFN r k φ ((u:Int)+X) ((v:Int)+Y):Nat):=λu v h1 h2 h3 h4=>NC ro k u v A0 A0 λa b q1 q2 q3 q4=>h a b A0 A0 A0 A0;show CZ r (Bk r k c x y) [Bk r k c (x-1) (y-1),Bk r k c x (y-1),Bk r k c (x+1) (y-1),Bk r k c (x-1) y,Bk r k c (x+1) y,Bk r k c (x-1) (y+1),Bk r k c x (y+1),Bk r k c (x+1) (y+1)]=((sF r (sFN r k φ) ((x:Int)+X) ((y:Int)+Y):Nat):Int)
  unfold sF;rw[N3 (bec_nn ro (Int.natCast_nonneg _) _)];rw[ih x y A0 A0 A0 A0,ih (x-1) (y-1) A0 A0 A0 A0,ih x (y-1) A0 A0 A0 A0,ih (x+1) (y-1) A0 A0 A0 A0,ih (x-1) y A0 A0 A0 A0,ih (x+1) y A0 A0 A0 A0,ih (x-1) (y+1) A0 A0 A0 A0,ih x (y+1) A0 A0 A0 A0,ih (x+1) (y+1) A0 A0 A0 A0];rw[show((x-1:Nat):Int)+X=x+X-1 by lia,show((y-1:Nat):Int)+Y=y+Y-1 by lia,show((x+1:Nat):Int)+X=x+X+1 by lia,show((y+1:Nat):Int)+Y=y+Y+1 by lia]
theorem fld_jg{G:Gv}(ok:GOk G){r:AD}(ro:IN r)(re:CZ r 0 BV=0){l e f k:Nat}(lf:Ak G f ((l+1+1:Nat):Int))(jr:JR r G e f k){φ:Int->Int->Nat}(h:∀x y,fieldF G (l+1) f x y=φ x y)(far:∀x y,φ x y≠0->-(2^l)+2^e<=x/\x+2^e<2^l/\-(2^l)+2^e<=y/\y+2^e<2^l):Ak G k ((l+1:Nat):Int)/\∀x y,fieldF G l k x y=sFN r (2^e) φ x y:=by
 obtain⟨l',h1,h2,h3,h4⟩:=jr;have e':l'=l:=by
  have:=h1.one lf;lia
 subst e';have p:((2^(l'+1):Nat):Int)=2^l'+2^l':=by rw[L5];exact CI l'
 have p0:((2^l':Nat):Int)=2^l':=L5 2 l';have pe:((2^e:Nat):Int)=2^e:=L5 2 e;have p2:((2^(l'+2):Nat):Int)=2^l'+2^l'+(2^l'+2^l'):=by
  rw[L5];show(2:Int)^(l'+2)=_;rw[show(2:Int)^(l'+2)=2^(l'+1)+2^(l'+1)from CI (l'+1),CI]
 have le:2^e<=2^l':=N7 A4 h2;refine⟨h3,λx y=>?_⟩;by_cases z:-(2^l')<=x/\x<2^l'/\-(2^l')<=y/\y<2^l'
 ·obtain⟨a1,a2,b1,b2⟩:=z;have at':(fieldF G l' k x y:Int)=Bk r (2^e) (Co G (l'+2) f) ((x+2^l').toNat+2^l') ((y+2^l').toNat+2^l'):=by
   rw[<-h4 _ _ A0 A0,Rk ok h3 A0 A0];congr 2<;>lia
  have e2:∀u:Int,-(2^l')<=u->((((u+2^l').toNat+2^l':Nat):Int)+-(2^(l'+1)))=u:=λu hu=>by
   rw[CI,M9,p0];lia
  rw[NC ro (φ:=φ) (X:=-(2^(l'+1))) (Y:=-(2^(l'+1))) _ _ _ A0 A0 (λu v q1 q2 q3 q4=>?_),e2 x a1,e2 y b1]at at'
  ·exact Z4 at'
  ·rw[Rk ok lf A0 A0,h];rfl
 ·unfold fieldF;rw[Y4 z];refine(Z2 λq=>?_);obtain⟨u,v,q1,q2,q3,q4,q5⟩:=DV re (λw=>q w.symm);have:=far u v q5;lia
def Kg(r:AD)(F:List (Int->Int->Nat))(T:Nat):KTy:=λl e ψ=>l<47/\((∀x y,x<2^(l+2)->y<2^(l+2)->ψ x y=0)\/∃φ∈F,∃(t:Nat)(i j:Int),t+2^e<=T/\∀x y,x<2^(l+2)->y<2^(l+2)->ψ x y=(sFN r t φ ((x:Int)+2^l*i) ((y:Int)+2^l*j):Nat))
theorem kg_cl{r:AD}(ro:IN r)(re:CZ r 0 BV=0)(F:List (Int->Int->Nat))(T:Nat):ClK r (Kg r F T):=by
 have p1:∀l,2^(l+1)=2^l*2:=λl=>J3 ..;have q1:∀l:Nat,(2:Int)^(l+1)=2^l*2:=λl=>V0 ..;have p2:∀l,2^(l+2)=2^l*2*2:=λl=>by rw[J3,J3]
 have p3:∀l,2^(l+1+2)=2^l*2*2*2:=λl=>by rw[J3,J3,J3]
 have nine:∀{l e e' ψ},Kg r F T (l+1) e ψ->2^e'<=2^e->∀i j,i<3->j<3->Kg r F T l e' λx y=>ψ (x+2^(l+1)*i) (y+2^(l+1)*j):=λ{l e e' ψ} h he i j hi hj=>by
  have b1:2^(l+1)*i<=2^(l+1)*2:=L9 _ A0;have b2:2^(l+1)*j<=2^(l+1)*2:=L9 _ A0;have a1:=p1 l;have a2:=p2 l;have a3:=p3 l;refine⟨by have:=h.1;lia,?_⟩;rcases h.2 with z|⟨φ,hφ,t,i',j',ht,z⟩
  ·exact .inl λx y hx hy=>z _ _ A0 A0
  ·refine .inr ⟨φ,hφ,t,2*i'+2*(i:Int),2*j'+2*(j:Int),by lia,λx y hx hy=>?_⟩;show ψ _ _=_;rw[z _ _ A0 A0];have e1:∀(x i:Nat)(i':Int),((x+2^(l+1)*i:Nat):Int)+2^(l+1)*i'=(x:Int)+2^l*(2*i'+2*(i:Int)):=λx i i'=>by
    rw[M9,N4,L5];show(x:Int)+2^(l+1)*(i:Int)+2^(l+1)*i'=_;rw[q1,W1,W3,W3];lia
   rw[e1,e1]
 refine⟨λh _=>nine h (C0 _),λ{l φ} h=>nine h (by rw[p1];lia),λ{l ψ} h i j hi hj=>?_⟩;have b1:2^(l+1)*i<=2^(l+1)*1:=L9 _ A0;have b2:2^(l+1)*j<=2^(l+1)*1:=L9 _ A0;have a1:=p1 l;have a2:=p2 l;have a3:=p3 l;refine⟨by have:=h.1;lia,?_⟩;rcases h.2 with z|⟨φ,hφ,t,i',j',ht,z⟩
 ·refine .inl λx y hx hy=>?_;have:=NC ro (c:=ψ) (φ:=λ_ _=>0) (X:=0) (Y:=0) (2^l) (x+(2^(l+1)*i+2^l)) (y+(2^(l+1)*j+2^l)) A0 A0 λu v h1 h2 h3 h4=>z u v A0 A0;rw[IW re]at this;exact this
 ·refine .inr ⟨φ,hφ,t+2^l,2*i'+(2*(i:Int)+1),2*j'+(2*(j:Int)+1),by lia,λx y hx hy=>?_⟩;have:=NC ro (c:=ψ) (φ:=sFN r t φ) (X:=2^(l+1)*i') (Y:=2^(l+1)*j') (2^l) (x+(2^(l+1)*i+2^l)) (y+(2^(l+1)*j+2^l)) A0 A0 λu v h1 h2 h3 h4=>z u v A0 A0;show Bk r (2^l) ψ _ _=_;rw[this,<-LI,Nat.add_comm];have e1:∀(x i:Nat)(i':Int),((x+(2^(l+1)*i+2^l):Nat):Int)+2^(l+1)*i'=(x:Int)+2^l*(2*i'+(2*(i:Int)+1)):=λx i i'=>by
   rw[M9,M9,N4,L5,L5];show(x:Int)+(2^(l+1)*(i:Int)+2^l)+2^(l+1)*i'=_;rw[q1,W1,W1,W3,W3,Int.mul_one];lia
  rw[e1,e1]
def wl(W T l:Nat):Nat:=(W+2*T)/2^l+5
def sg(k T W D l:Nat):Nat:=1+k*(T*(wl W T l*wl D T l))
def mg(k T W D e:Nat):Nat:=if 2^e<=T then((List.range 47).map (sg k T W D)).sum else 47
def ng(k T W D:Nat):Nat:=s47 (mg k T W D)
def winF(ψ:Int->Int->Nat)(l:Nat)(i j:Int):Sht:=λx y=>(ψ ((x:Int)+2^l*i) ((y:Int)+2^l*j):Nat)
abbrev Fbx:=(Int->Int->Nat)×Int×Int
def WH(r:AD)(T W D l:Nat)(q:Fbx):List (Nat×Sht):=(List.range T).flatMap λt=>(List.range (wl W T l*wl D T l)).map λd=>(l,winF (sFN r t q.1) l ((q.2.1-T)/2^l-3+((d%wl W T l:Nat):Int)) ((q.2.2-T)/2^l-3+((d/wl W T l:Nat):Int)))
def Ve(r:AD)(T W D:Nat)(qs:List Fbx)(e:Nat):List (Nat×Sht):=(List.range 47).flatMap λl=>(l,λ_ _=>0)::if 2^e<=T then qs.flatMap (WH r T W D l)else []
theorem SO{α β:Type}(f:α->List β)(m:α->Nat):∀l:List α,(∀x∈l,(f x).length<=m x)->(l.flatMap f).length<=(l.map m).sum
 |[],_=>by simp
 |a::l,h=>by
  have:=SO f m l λx hx=>h x (C2 _ hx);have:=h a C3;rw[U0,C4,F5,O3];lia
theorem Wh(r:AD)(T W D:Nat)(qs:List Fbx)(e:Nat):(Ve r T W D qs e).length<=mg qs.length T W D e:=by
 unfold Ve mg;by_cases h:2^e<=T
 ·rw[Y7 h];simp only[Y7 h];refine SO _ _ _ λl _=>?_;rw[D8];have:=Mb (WH r T W D l) (T*(wl W T l*wl D T l)) qs λq _=>by
   unfold WH;have:=Mb (λt=>(List.range (wl W T l*wl D T l)).map λd=>(l,winF (sFN r t q.1) l ((q.2.1-T)/2^l-3+((d%wl W T l:Nat):Int)) ((q.2.2-T)/2^l-3+((d/wl W T l:Nat):Int)))) (wl W T l*wl D T l) (List.range T) λt _=>by rw[B6,M6];exact C0 _
   rw[M6]at this;exact this
  unfold sg;lia
 ·rw[Y4 h];simp only[Y4 h];have:=Mb (λl=>[((l,λ_ _=>0):Nat×Sht)]) 1 (List.range 47) λl _=>C0 _;rw[M6]at this;exact this
theorem kg_ext{r:AD}{F:List (Int->Int->Nat)}{T l e:Nat}{φ ψ:Sht}(h:Kg r F T l e φ)(q:WC l φ ψ):Kg r F T l e ψ:=by
 refine⟨h.1,?_⟩;rcases h.2 with h2|⟨φ0,m,t,i,j,ht,h2⟩
 ·exact .inl λx y hx hy=>(q x y hx hy).symm.trans (h2 x y hx hy)
 ·exact .inr ⟨φ0,m,t,i,j,ht,λx y hx hy=>(q x y hx hy).symm.trans (h2 x y hx hy)⟩
theorem WI{l T W t:Nat}{x:Nat}{i X u:Int}(hx:x<2^(l+2))(ht:t<=T)(h1:(x:Int)+2^l*i-t<=u)(h2:u<=(x:Int)+2^l*i+t)(h3:X<=u)(h4:u<X+W):∃d,d<wl W T l/\i=(X-T)/2^l-3+((d:Nat):Int):=by
 have pz:(0:Int)<2^l:=by have:=AS l;have e:((2^l:Nat):Int)=2^l:=L5 2 l;lia
 have p2:((2^(l+2):Nat):Int)=2^l*4:=by rw[L5];show(2:Int)^(l+2)=_;rw[V0,V0];lia
 have ec:(((W+2*T)/2^l:Nat):Int)=((W:Int)+2*T)/2^l:=by rw[Int.natCast_ediv,L5];rfl
 generalize eP:(2:Int)^l=P at *
 generalize eq:(X-T)/P=q;have d1:=Int.emod_add_mul_ediv (X-T) P;have d2:=V6 (X-T) (Int.ne_of_gt pz);have d3:=S1 (X-T) pz;rw[eq]at d1;have f1:=Int.emod_add_mul_ediv ((W:Int)+2*T) P;have f3:=S1 ((W:Int)+2*T) pz;generalize eb:((W:Int)+2*T)/P=b at *
 have lo:P*(q-4)<P*i:=by rw[Int.mul_sub];lia
 have hi:P*i<P*(q+b+2):=by rw[W1,W1];lia
 have lo:=Int.lt_of_mul_lt_mul_left lo (Int.le_of_lt pz);have hi:=Int.lt_of_mul_lt_mul_left hi (Int.le_of_lt pz);refine⟨(i-q+3).toNat,?_,by lia⟩;unfold wl;lia
def InBx(F:List (Int->Int->Nat))(W D:Nat)(qs:List Fbx):Prop:=∀φ∈F,∀u v,φ u v≠0->∃X Y,(φ,X,Y)∈qs/\X<=u/\u<X+W/\Y<=v/\v<Y+D
theorem kg_fin{r:AD}(re:CZ r 0 BV=0){F:List (Int->Int->Nat)}{T W D:Nat}{qs:List Fbx}(hb:InBx F W D qs):Jv (Kg r F T) (ng qs.length T W D):=by
 refine⟨⟨mg qs.length T W D,C0 _,λe=>⟨Ve r T W D qs e,Wh r T W D qs e,λl ψ h=>?_⟩⟩,kg_ext⟩;obtain⟨h1,h2⟩:=h;have zero:(∀x y,x<2^(l+2)->y<2^(l+2)->ψ x y=0)->∃ψ',(l,ψ')∈Ve r T W D qs e/\WC l ψ ψ':=λz=>⟨λ_ _=>0,R5.mpr ⟨l,L7.mpr h1,C3⟩,z⟩
 rcases h2 with h2|⟨φ,hφ,t,i,j,ht,h2⟩
 ·exact zero h2
 ·by_cases z:∀x y,x<2^(l+2)->y<2^(l+2)->ψ x y=0
  ·exact zero z
  ·obtain⟨x,z⟩:=Classical.not_forall.mp z;obtain⟨y,z⟩:=Classical.not_forall.mp z;obtain⟨hx,z⟩:=Classical.not_imp.mp z;obtain⟨hy,z⟩:=Classical.not_imp.mp z;rw[h2 x y hx hy]at z;have z:sFN r t φ ((x:Int)+2^l*i) ((y:Int)+2^l*j)≠0:=λq=>z (by rw[q];rfl);obtain⟨u,v,a1,a2,b1,b2,c⟩:=DV re z;obtain⟨X,Y,m,g1,g2,g3,g4⟩:=hb φ hφ u v c;have pe:=AS e;obtain⟨d1,l1,e1⟩:=WI (T:=T) (W:=W) hx A0 a1 a2 g1 g2;obtain⟨d2,l2,e2⟩:=WI (T:=T) (W:=D) hy A0 b1 b2 g3 g4;have hw:0<wl W T l:=by unfold wl;lia
   have dm:(d1+wl W T l*d2)%wl W T l=d1:=by rw[P5,O4 l1]
   have dd:(d1+wl W T l*d2)/wl W T l=d2:=by rw[N8 _ _ hw,N5 l1,N1]
   have lt:d1+wl W T l*d2<wl W T l*wl D T l:=by
    have:wl W T l*(d2+1)<=wl W T l*wl D T l:=L9 _ l2;rw[Nat.mul_add]at this;lia
   refine⟨winF (sFN r t φ) l i j,R5.mpr ⟨l,L7.mpr h1,C2 _ ?_⟩,λx y hx hy=>h2 x y hx hy⟩;rw[Y7 A0];refine R5.mpr ⟨_,m,R5.mpr ⟨t,L7.mpr A0,D5.mpr ⟨d1+wl W T l*d2,L7.mpr lt,?_⟩⟩⟩;rw[dm,dd];show(l,winF (sFN r t φ) l ((X-T)/2^l-3+((d1:Nat):Int)) ((Y-T)/2^l-3+((d2:Nat):Int)))=_;rw[<-e1,<-e2]
theorem fld_kg{G:Gv}(ok:GOk G){r:AD}{F:List (Int->Int->Nat)}{T l f e t:Nat}(l46:l<47)(lf:Ak G f ((l+1+1:Nat):Int)){φ:Int->Int->Nat}(m:φ∈F)(ht:t+2^e<=T)(h:∀x y,fieldF G (l+1) f x y=sFN r t φ x y):Kg r F T l e (Co G (l+2) f):=by
 refine⟨by lia,.inr ⟨φ,m,t,-2,-2,ht,λx y hx hy=>?_⟩⟩;rw[Rk ok lf hx hy,h];have e:(2:Int)^(l+1)=2^l*2:=V0 ..;rw[e];congr 2<;>lia
seal L2.PA L2.PE L2.PS L2.PSs L2.PT L2.PW
def Pr(φ:Int->Int->Nat)(k:Nat):Prop:=∀x y,φ x y≠0->-(2^40)+(k:Int)<=x/\x+k<2^40/\-(2^40)+(k:Int)<=y/\y+k<2^40
theorem YN {φ:Int->Int->Nat} {b:Bx} (t:OY (λx y=>φ x y≠0) b) (k:Nat):IA (b.l-k) (b.t-k) (b.w+2*k) (b.h+2*k) (2^40)↔Pr φ k:=by
 unfold IA;constructor
 ·rintro⟨h1,h2,h3,h4⟩ x y h;have:=t.inn x y h;lia
 ·intro h;obtain⟨v1,h1⟩:=t.le;obtain⟨v2,h2⟩:=t.to;obtain⟨v3,h3⟩:=t.ri;obtain⟨v4,h4⟩:=t.bo;have a1:=h _ _ h1;have a2:=h _ _ h2;have a3:=h _ _ h3;have a4:=h _ _ h4;lia
section
variable{P:Program}{w:World}{K:PySem.W.Frag}{mg:Str->Option Value}{base:Heap}{a:Ad}
inductive SpChG(a:Ad)(vs:List V)(H:Hp)(Q:VK):Prop
 |mk (g:GA) (G:Gv) (f n k:Nat) (_:vs=[.ref g.p,.int f,.int (k:Int)]) (_:AX a H g G) (_:Ak G f ((n+1:Nat):Int)) (_:n<48) (_:G.length<8000000) (_:Pr (fieldF G n f) k) (_:∀H',FrQ g H H'->AX a H' g G->Q .non H'):SpChG a vs H Q
def Yh(a:Ad):Sp:=λvs H Q _=>SpChG a vs H Q
theorem ok_chg'{f:Addr}{fd:FuncData}(F:Fun K "check_leap" "check_leap" GU f fd)(T:Top K mg a)(aJ:Cal P w K mg base CX0 1 "is_whole" Eo VM)(cR:Cal P w K mg base CX0 102 "box_of" Ov (QC a))(aH:Cal P w K mg base CX0 1 "lies_within" Do RS):AI P w K mg base CX0 103 f fd Ih (Yh a):=by
 refine F.ok JN (λvs H Q E h=>?_) (λcdv A outer s H vs Q E hr h=>?_)
 ·obtain⟨g,G,f',n,k,rfl,_⟩:=h;rfl
 ·obtain⟨g,G,f',n,k,rfl,fu,lf,n48,few,nr,kn⟩:=h;refine⟨_,(Ac (AM (PW.pt (MZ (El (Dw (Ar aJ (rm hr) rfl Am (Aa (pv 2) Ab)))) (Lj (Az IH (pv 2) Ae (AG _))))) (Ag Bm) AC) (Ac (Aq (i:=3) JN.nd rfl (Or.inl rfl) (Ar cR (rm hr) rfl Am (Aa (pv 0) (Aa (pv 1) Ab)))) (Ag (AM (PW.pt (MB (Az UV (pv 3) Dh (AG _)) (Jy (El (Dw (Ar aH (rm hr) rfl Am (BB (Bp Cw (Aj An (pv 3) Ae (λ_ _=>rfl)) (pv 2) (Bp Cw (Aj An (pv 3) Ae (λ_ _=>rfl)) (pv 2) (Bp AL (Aj An (pv 3) Ae (λ_ _=>rfl)) (AA Et Ae (pv 2)) (Bp AL (Aj An (pv 3) Ae (λ_ _=>rfl)) (AA Et Ae (pv 2)) Ab)))) (Aa (BY rfl T.k_LIMIT) Ab)))))))) (Ag Bm) AC)))),?_⟩
  try dsimp only[cxK]
  refine BM ?_;intro r1 s1 k1 hk1 E1;refine⟨_,rfl,(k:Int),rfl,true,rfl,Bo ?_⟩;refine⟨_,rfl,_,_,rfl,rfl,_,rfl,?_⟩;rw[Z0 A0];refine Bo ?_;refine hk1 ?_;refine BM ?_;intro r2 s2 k2 hk2 E2;refine xw2 rfl rfl ⟨g,G,f',n,rfl,fu,lf,n48,few,λeb H1 fq fu1=>?_,λbb eb t H1 fq fu1 ht=>?_⟩
  ·refine hk2 ?_;refine⟨_,rfl,rfl,false,rfl,Bo ?_⟩;exact kn H1 fq fu1
  ·refine hk2 ?_;have tg:=RF fu.ok lf eb;generalize mvB (2^n) bb=B at ht tg;have ht:H1 t=some (.tup [.int B.l,.int B.t,.int B.w,.int B.h]):=ht;have nb:=YN tg k;refine⟨_,rfl,rfl,true,rfl,Ce ?_⟩;refine⟨_,rfl,t,_,0,.int B.l,rfl,rfl,SqT.of ht,Ai (j:=0) rfl,_,rfl,_,_,rfl,rfl,?_⟩;refine⟨_,rfl,t,_,1,.int B.t,rfl,rfl,SqT.of ht,Ai (j:=1) rfl,_,rfl,_,_,rfl,rfl,?_⟩;refine⟨_,rfl,t,_,2,.int B.w,rfl,rfl,SqT.of ht,Ai (j:=2) rfl,_,rfl,_,_,rfl,rfl,.inl ⟨by decide,by decide⟩,_,_,rfl,rfl,?_⟩;refine⟨_,rfl,t,_,3,.int B.h,rfl,rfl,SqT.of ht,Ai (j:=3) rfl,_,rfl,_,_,rfl,rfl,.inl ⟨by decide,by decide⟩,_,_,rfl,rfl,?_⟩;refine⟨by show 4<=sizeLine;decide,λu hu=>?_⟩;refine⟨u,B.l-k,B.t-k,B.w+2*k,B.h+2*k,2^40,rfl,Af,?_⟩;generalize eH:upd H1 u _=H2;have s2':Ay H1 H2:=eH▸AK hu;clear eH;rw[Y5 (nb.mpr nr)];exact⟨true,rfl,Bo (kn H2 (fq.trans (Ay.frq s2')) (fu1.same s2'))⟩
end
theorem bare0{G r:Gv}(e:G=G0++r)(ok:GOk G):Ak G (bareN 1) ((0+1:Nat):Int)/\Iz G 0 (bareN 1)/\∀x y,fieldF G 0 (bareN 1) x y=0:=by
 refine⟨GK e (n:=1) A4,.inl rfl,λx y=>?_⟩;unfold fieldF;by_cases z:-(2^0)<=x/\x<2^0/\-(2^0)<=y/\y<2^0
 ·rw[Y7 z];exact DG e ok (n:=1) A4 (by show _<2;have:(2:Int)^0=1:=rfl;lia) (by show _<2;have:(2:Int)^0=1:=rfl;lia)
 ·rw[Y4 z]
theorem near_lt{φ:Int->Int->Nat}{k:Nat}(h:Pr φ k){x y:Int}(hx:φ x y≠0):k<2^40:=by
 have:=h x y hx;lia
theorem Va{r:AD}(re:CZ r 0 BV=0){φ:Int->Int->Nat}{k t:Nat}(h:Pr φ k)(tk:t<=k){x y:Int}(hx:sFN r t φ x y≠0):-(2^40)<=x/\x<2^40/\-(2^40)<=y/\y<2^40:=by
 obtain⟨u,v,h1,h2,h3,h4,h5⟩:=DV re hx;have:=h u v h5;lia
theorem Uw{G r:Gv}(e:G=G0++r)(ok:GOk G){n f:Nat}(hn:n<=47)(t:Iz G n f)(h:∀x y,fieldF G n f x y≠0->-(2^40)<=x/\x<2^40/\-(2^40)<=y/\y<2^40):n<=40:=by
 refine O6 λz=>?_;obtain⟨m,rfl⟩:∃m,n=m+1:=⟨n-1,by lia⟩
 obtain⟨x,y,h1,h2⟩:=Ly e ok A0 t;have:=h x y h2;have p:2^40<=2^m:=N7 A4 A0;have p1:((2^m:Nat):Int)=2^m:=L5 2 m;lia
def Ut(Κ:KTy)(r:AD)(φ:Int->Int->Nat)(k:Nat):Prop:=∀(j l:Nat)(G:Gv)(f:Nat),k/2^j%2=1->j<=l->l<=41->GOk G->Ak G f ((l+1+1:Nat):Int)->(∀x y,fieldF G (l+1) f x y=sFN r (k%2^j) φ x y)->Κ l j (Co G (l+2) f)
theorem Ua{r:AD}{F:List (Int->Int->Nat)}{T k t:Nat}{φ:Int->Int->Nat}(m:φ∈F)(h:k+t<=T):Ut (Kg r F T) r (sFN r t φ) k:=λj l G f hb hl l41 ok lf hf=>by
 refine fld_kg (t:=k%2^j+t) ok A0 lf m ?_ λx y=>by rw[hf,<-LI]
 have d:=M8 k (2^j);have p:2^j*1<=2^j*(k/2^j):=L9 _ A0;lia
def VE(H:Hp)(G:Gv)(ψ:Int->Int->Nat)(ts:List Addr):Prop:=∃(t:Addr)(sq e res l:Nat),ts.getLast?=some t/\H t=some (.tup [.int sq,.int e,.int res])/\l<=41/\Ak G res ((l+1:Nat):Int)/\∀x y,fieldF G l res x y=ψ x y
section
variable{P:Program}{w:World}{K:PySem.W.Frag}{mg:Str->Option Value}{base:Heap}{a:Ad}
inductive SpRdG(a:Ad)(vs:List V)(H:Hp)(Q:VK):Prop
 |mk (p dx mem pr:Addr) (g:GA) (G:Gv) (Κ:KTy) (φ:Int->Int->Nat) (N b:Nat) (r:AD) (m:MA) (f n k:Nat) (_:vs=[.ref p,.int f,.int (k:Int)]) (_:ZS a H g G Κ N b p dx mem pr r m) (_:Jv Κ N) (_:ClK r Κ) (_:Ut Κ r φ k) (_:Ak G f ((n+1:Nat):Int)) (_:n<=40) (_:Iz G n f) (_:∀x y,fieldF G n f x y=φ x y) (_:Pr φ k) (_:b+12000+10*N<7900000) (_:∀(L:Addr)(ts:List Addr)(G':Gv)(H':Hp)(i:Nat),FrZ g m H H'->ZS a H' g G' Κ N (b+12000) p dx mem pr r m->AH G G' i->H L=none->H' L=some (.lst (ts.map V.ref))->((ts=[]/\∀x y,sFN r k φ x y=φ x y)\/VE H' G' (sFN r k φ) ts)->Q (.ref L) H'):SpRdG a vs H Q
def WU(a:Ad):Sp:=λvs H Q _=>SpRdG a vs H Q
theorem ok_rdg{f:Addr}{fd:FuncData}(F:Fun K "road" "road" Tr f fd)(T:Top K mg a)(bX:Cal P w K mg base CX0 103 "check_leap" Ih (Yh a))(aU:Cal P w K mg base CX0 1 "bare_field" EY (NB a))(cC:Cal P w K mg base CX0 5 "level_for" Je (WZ a))(aQ:Cal P w K mg base CX0 5 "widened_to" EX (spWT a))(bQ:BO P w K mg base CX0 149 a.c_Jumps "after" Gr (Gd a 46))(aT:Cal P w K mg base CX0 4 "trimmed" GE (NU a)):AI P w K mg base CX0 150 f fd Tw (WU a):=by
 refine F.ok DL (λvs H Q E h=>?_) (λcdv A outer s H vs Q E hr h=>?_)
 ·obtain⟨p,dx,mem,pr,g,G,Κ,φ,N,b,r,m,f',n,k,rfl,_⟩:=h;rfl
 ·obtain⟨p,dx,mem,pr,g,G,Κ,φ,N,b,r,m,f',n,k,rfl,zs,fin,cl,ask,lf,n40,tr,hf,nr,few,kn⟩:=h;refine⟨_,(Ac (Aq (i:=3) DL.nd rfl (Or.inl rfl) (AB (pv 0) rfl)) (Ac (BS (Ar bX (rm hr) rfl Am (Aa (pv 3) (Aa (pv 1) (Aa (pv 2) Ab))))) (Ac (Aq (i:=4) DL.nd rfl (Or.inl rfl) (Cm Ab)) (Ac (Aq (i:=5) DL.nd rfl (Or.inl rfl) (pv 1)) (Ac (Aq (i:=6) DL.nd rfl (Or.inl rfl) (pv 2)) (Ac (Aq (i:=7) DL.nd rfl (Or.inl rfl) Ae) (Ac (IZ Z6 (PW.pt (MB (Az UW (pv 6) Ae (AG _)) (Jy (Az JP (pv 5) (Ar aU (rm hr) rfl Am (Aa (pv 3) Ab)) (AG _))))) (Ac (AM (Az Cb (AA Bd (pv 6) Ae) Ae (AG _)) (Ac (Aq (i:=8) DL.nd rfl (Or.inl rfl) (Ar aQ (rm hr) rfl Am (Aa (pv 3) (Aa (pv 5) (Aa (Ar cC (rm hr) rfl Am (Aa (pv 3) (Aa (pv 5) (Aa (pv 7) Ab)))) Ab))))) (Ac (Aq (i:=9) DL.nd rfl (Or.inl rfl) (AF (pv 0) bQ (rm hr) Am (Aa (pv 8) (Aa (pv 7) Ab)))) (Ac (BS (DB Z8 Z9 X4 BW (pv 4) (BB (Aa (pv 8) (Aa (pv 7) (Aa (pv 9) Ab))) Ab))) (Ag (Aq (i:=5) DL.nd rfl (Or.inl rfl) (Ar aT (rm hr) rfl Am (Aa (pv 3) (Aa (pv 9) Ab)))))))) AC) (Ac (Aq (i:=6) DL.nd rfl (Or.inl rfl) (AA Cy (pv 6) Ae)) (Ag (Aq (i:=7) DL.nd rfl (Or.inl rfl) (AA AL (pv 7) Ae)))))) (Ag (Av (pv 4)))))))))),?_⟩
  try dsimp only[cxK]
  have sz:=zs.jz.sz fin;have re:=zs.jz.jw.rest;have ro:=zs.jz.jw.rok;refine BM ?_;intro r1 s1 k1 hk1 E1;refine xwf rfl rfl zs.jz.jw.hp T.cl_Jumps T.na_Jumps_grove (Eb _ _ _ _ _) ?_;refine hk1 ?_;refine BM ?_;intro r2 s2 k2 hk2 E2;refine xw3 rfl rfl rfl ⟨g,G,f',n,k,rfl,zs.fu,lf,by lia,by lia,(λx y h=>nr x y (by rw[<-hf];exact h)),λH1 fq fu1=>?_⟩;have zs1:=zs.frQ fq fu1;have fz1:FrZ g m H H1:=FrQ.z fq;refine hk2 ?_;refine BM ?_;intro r3 s3 k3 hk3 E3;refine⟨by show 0<=sizeLine;decide,λL nL=>?_⟩;generalize eH:upd H1 L _=H2;have s2':Ay H1 H2:=eH▸AK nL;have hL2:H2 L=some (.lst (([]:List Addr).map V.ref)):=eH▸Af;clear eH;have zs2:=zs1.same s2';obtain⟨nL1,nL2⟩:=zs1.new nL;have apL:=zs1.ap nL;refine hk3 ?_;refine BM ?_;intro r4 s4 k4 hk4 E4;refine xq1 rfl (hk4 ?_);refine BM ?_;intro r5 s5 k5 hk5 E5;refine xq1 rfl (hk5 ?_);refine BM ?_;intro r6 s6 k6 hk6 E6;refine hk6 ?_;refine BM ?_;intro r7 s7 k7 hk7 E7;have hL0:H L=none:=by
   cases e:H L with
   |none=>rfl
   |some o =>
    have h1:=fq L o e (λz=>nL1 (by simp[z])) (λz=>nL1 (by simp[z]));rw[nL]at h1;cases h1
  have fz2:FrZ g m H H2:=fz1.trans (Ay.z s2');have hk0:k/2^0=k:=by rw[Nat.pow_zero,Nat.div_one]
  have hm0:k%2^0=0:=by rw[Nat.pow_zero,Nat.mod_one]
  refine⟨fun μ σ H3=>∃(j:Nat)(G':Gv)(ts:List Addr)(h nh:Nat)(u8 u9:Option V)(i:Nat),σ=[some (.ref p),some (.int f'),some (.int (k:Int)),some (.ref g.p),some (.ref L),some (.int h),some (.int ((k/2^j:Nat):Int)),some (.int (j:Int)),u8,u9]/\j+μ=41/\FrZ g m H H3/\ZS a H3 g G' Κ N (b+270*ts.length) p dx mem pr r m/\AH G G' i/\H3 L=some (.lst (ts.map V.ref))/\ts.length<=j/\(nh<=40/\Ak G' h ((nh+1:Nat):Int)/\Iz G' nh h/\∀x y,fieldF G' nh h x y=sFN r (k%2^j) φ x y)/\((ts=[]/\∀x y,sFN r (k%2^j) φ x y=φ x y)\/VE H3 G' (sFN r (k%2^j) φ) ts),⟨41,0,G,[],f',n,none,none,0,(by rw[hk0];rfl),rfl,fz2,zs2,AH.refl zs.fu.ok,hL2,C0 _,⟨n40,lf,tr,by rw[hm0];exact hf⟩,.inl ⟨rfl,by rw[hm0];exact λ_ _=>rfl⟩⟩,?_⟩;rintro μ σ H3 ⟨j,G',ts,h,nh,u8,u9,i,rfl,jm,fz3,zs3,go3,hL3,tl,⟨nh40,lh,th,fh⟩,la⟩;have sz3:=zs3.jz.sz fin;obtain⟨r3',e3⟩:=zs3.fu.g0;have done:(k/2^j=0\/h=bareN 1)->k7 [some (.ref p),some (.int f'),some (.int (k:Int)),some (.ref g.p),some (.ref L),some (.int h),some (.int ((k/2^j:Nat):Int)),some (.int (j:Int)),u8,u9] H3:=λex=>by
   have eq:sFN r k φ=sFN r (k%2^j) φ:=by
    rcases ex with ex|rfl
    ·have:k%2^j=k:=by
      have:=M8 k (2^j);rw[ex,Nat.mul_zero,N1]at this;exact this
     rw[this]
    ·obtain⟨b1,b2,b3⟩:=bare0 e3 zs3.fu.ok;have n0:nh=0:=by
      have:=lh.one b1;lia
     subst n0;have z:sFN r (k%2^j) φ=λ_ _=>0:=by
      funext x y
      rw[<-fh,b3]
     have:=LI r φ (k%2^j) (2^j*(k/2^j));rw[M8]at this;rw[this,z,IW re]
   refine hk7 ?_;refine xq1 rfl (kn L ts G' H3 i fz3 (zs3.mono A0) go3 hL0 hL3 ?_);rw[eq];exact la
  refine⟨_,rfl,_,_,rfl,rfl,_,rfl,Fb (λhc=>?_) (λhc=>?_)⟩
  ·have hc:((k/2^j:Nat):Int) > 0:=X6 hc;have kj:k/2^j≠0:=by lia
   refine⟨_,rfl,_,rfl,g,G',rfl,zs3.fu,rfl,_,rfl,?_⟩;by_cases hb:h=bareN 1
   ·subst hb;rw[Y5 rfl];exact Bo (done (.inr rfl))
   ·rw[Z0 (λz=>hb (by injection z with z;exact Z4 z))];refine Ce ?_;obtain⟨x0,y0,h0⟩:∃x y,φ x y≠0:=by
     refine Z2 λno=>hb ?_;have z:φ=λ_ _=>0:=by
      funext x y
      exact Z2 λz=>no ⟨x,y,z⟩
     obtain⟨b1,b2,b3⟩:=bare0 e3 zs3.fu.ok;refine(OR e3 zs3.fu.ok A0 A4 lh b1 th b2 λx y=>?_).2;rw[b3,fh,z,IW re]
    have k40:=near_lt nr h0;have j40:j<40:=by
     refine Nat.lt_of_not_le λz=>kj (N5 (F2 k40 (N7 A4 z)))
    refine⟨fun σ' H4=>∃(j:Nat)(G':Gv)(ts:List Addr)(h nh:Nat)(u8 u9:Option V)(i:Nat),σ'=[some (.ref p),some (.int f'),some (.int (k:Int)),some (.ref g.p),some (.ref L),some (.int h),some (.int ((k/2^j:Nat):Int)),some (.int (j:Int)),u8,u9]/\j+(μ-1)=41/\FrZ g m H H4/\ZS a H4 g G' Κ N (b+270*ts.length) p dx mem pr r m/\AH G G' i/\H4 L=some (.lst (ts.map V.ref))/\ts.length<=j/\(nh<=40/\Ak G' h ((nh+1:Nat):Int)/\Iz G' nh h/\∀x y,fieldF G' nh h x y=sFN r (k%2^j) φ x y)/\((ts=[]/\∀x y,sFN r (k%2^j) φ x y=φ x y)\/VE H4 G' (sFN r (k%2^j) φ) ts),fun σ' H4 z=>⟨μ-1,by lia,z⟩,?_⟩;have dv:k/2^(j+1)=k/2^j/2:=by rw[J3,Nat.div_div_eq_div_mul]
    have md:k%2^(j+1)=k%2^j+2^j*(k/2^j%2):=Nat.mod_pow_succ;refine BM ?_;intro r8 s8 k8 hk8 E8;apply SF (T:=k8) (fun σ' H4=>∃(G':Gv)(ts:List Addr)(h nh:Nat)(u8 u9:Option V)(i:Nat),σ'=[some (.ref p),some (.int f'),some (.int (k:Int)),some (.ref g.p),some (.ref L),some (.int h),some (.int ((k/2^j:Nat):Int)),some (.int (j:Int)),u8,u9]/\FrZ g m H H4/\ZS a H4 g G' Κ N (b+270*ts.length) p dx mem pr r m/\AH G G' i/\H4 L=some (.lst (ts.map V.ref))/\ts.length<=j+1/\(nh<=40/\Ak G' h ((nh+1:Nat):Int)/\Iz G' nh h/\∀x y,fieldF G' nh h x y=sFN r (k%2^(j+1)) φ x y)/\((ts=[]/\∀x y,sFN r (k%2^(j+1)) φ x y=φ x y)\/VE H4 G' (sFN r (k%2^(j+1)) φ) ts))
    ·intro rest;refine xwb rfl rfl rfl ⟨B5,rfl,(xq1 rfl (Fb (λhc=>?_) (λhc=>?_)))⟩
     ·have hc:((k/2^j:Nat):Int)%2=1:=by
       have:=X6 hc;injection this
      have od:k/2^j%2=1:=by lia
      have tk:2^j+k%2^j<=k:=by
       have d:=M8 k (2^j);have p:2^j*1<=2^j*(k/2^j):=L9 _ A0;lia
      refine BM ?_;intro r9 s9 k9 hk9 E9;refine⟨_,rfl,_,rfl,_,rfl,_,rfl,_,rfl,⟨g,G',h,nh,j,rfl,zs3.fu.at',lh,nh40,by lia,λl l41 nl jl le=>?_⟩⟩;have el:nh+(l+1-nh)+1=l+2:=by lia
      refine⟨g,G',h,nh,l+1-nh,by rw[el];rfl,zs3.fu,lh,by lia,by lia,λv G2 H4 fr4 fu4 go4 wn lv=>?_⟩;have zs4:=zs3.fr fr4 fu4 go4;have sz4:=zs4.jz.sz fin;obtain⟨r4,e4⟩:=fu4.g0;have wf:∀x y,fieldF G2 (l+1) v x y=sFN r (k%2^j) φ x y:=λx y=>by
       have:=Ef e4 fu4.ok (k:=l+1-nh) (w:=v) A0 wn x y;rw[show nh+(l+1-nh)=l+1 by lia]at this;rw[this,DE zs3.fu.ok go4 lh,fh]
      have lv2:Ak G2 v ((l+1+1:Nat):Int):=by rw[show l+1+1=nh+(l+1-nh)+1 by lia];exact lv
      have go24:=go3.trans go4;refine hk9 ?_;refine BM ?_;intro r10 s10 k10 hk10 E10;refine xwn rfl rfl zs4.jz.jw.hp (VY _ _ _ _ _) rfl (xq1 rfl ⟨p,dx,mem,pr,g,G2,Κ,N,_,r,m,v,l,j,rfl,zs4.jz,fin,cl,lv2,by lia,jl,ask j l G2 v od jl l41 fu4.ok lv2 wf,by lia,λres G3 H5 i5 fj jz5 go5 jr up=>?_⟩);have zs5:=zs4.aft fj jz5 go5;have sz5:=zs5.jz.sz fin;have fz5:FrZ g m H H5:=(fz3.trans (Fr.z fr4)).trans (FrJ.z fj);have wf5:∀x y,fieldF G3 (l+1) v x y=sFN r (k%2^j) φ x y:=λx y=>by rw[DE fu4.ok go5 lv2];exact wf x y
      obtain⟨lr,rs⟩:=fld_jg zs5.fu.ok ro re (go5.lev lv2) jr wf5 (λx y hxy=>by
       rw[<-fh]at hxy;have p0:((2^nh:Nat):Int)=2^nh:=L5 2 nh;have p1:((2^l:Nat):Int)=2^l:=L5 2 l;have p3:((2^j:Nat):Int)=2^j:=L5 2 j;have:=Z2 λz:¬(-(2^nh)<=x/\x<2^nh/\-(2^nh)<=y/\y<2^nh)=>hxy (by unfold fieldF;rw[Y4 z]);lia)
      have rs:∀x y,fieldF G3 l res x y=sFN r (k%2^(j+1)) φ x y:=λx y=>by rw[rs,<-LI,md,od,Nat.mul_one,Nat.add_comm]
      have hL5:H5 L=some (.lst (ts.map V.ref)):=FrJ.z fj _ _ (Fr.z (m:=m) fr4 _ _ hL3 apL.n0 apL.n1) apL.n0 apL.n1;refine hk10 ?_;refine BM ?_;intro r11 s11 k11 hk11 E11;refine⟨_,rfl,.inl ⟨rfl,_,SqL.of hL5⟩,_,rfl,_,rfl,_,rfl,by show 3<=sizeLine;decide,λt nt=>?_⟩;have s6':=AK (o:=.tup [.int (v:Int),.int (j:Int),.int (res:Int)]) nt;have ht6:upd H5 t (.tup [.int (v:Int),.int (j:Int),.int (res:Int)]) t=some (.tup [.int (v:Int),.int (j:Int),.int (res:Int)]):=Af;generalize upd H5 t (.tup [.int (v:Int),.int (j:Int),.int (res:Int)])=H6 at s6' ht6⊢;have zs6:=zs5.same s6';have hL6:=s6' _ _ hL5;refine⟨L,_,_,rfl,rfl,hL6,by rw[B6];exact FY A0,?_⟩;have zs7:=zs6.putL (o:=.lst (ts.map V.ref++[.ref t])) hL6 apL;have ht7:upd H6 L (.lst (ts.map V.ref++[.ref t])) t=some (.tup [.int (v:Int),.int (j:Int),.int (res:Int)]):=by rw[Au (AE ht6 hL6 A3)];exact ht6
      have fz7:FrZ g m H (upd H6 L (.lst (ts.map V.ref++[.ref t]))):=λb' o e n1 n2=>by
       rw[Au (Aw e hL0)];exact s6' _ _ (fz5 _ _ e n1 n2)
      have hL7:upd H6 L (.lst (ts.map V.ref++[.ref t])) L=some (.lst ((ts++[t]).map V.ref)):=by rw[Af,C6];rfl
      generalize upd H6 L (.lst (ts.map V.ref++[.ref t]))=H7 at zs7 ht7 fz7 hL7⊢;refine hk11 ?_;refine xw2 rfl rfl ⟨g,G3,res,l,rfl,zs7.fu,lr,by lia,λnw G8 H8 fr8 fu8 go8 tr8=>?_⟩;have zs8:=zs7.fr fr8 fu8 go8;obtain⟨r8,e8⟩:=fu8.g0;obtain⟨m8,ml8,lv8,tm8,fe8⟩:=GN e8 fu8.ok A0 (go8.lev lr) tr8;have fa:∀x y,fieldF G8 l res x y=sFN r (k%2^(j+1)) φ x y:=λx y=>by rw[DE zs5.fu.ok go8 lr];exact rs x y
      have fe:∀x y,fieldF G8 m8 nw x y=sFN r (k%2^(j+1)) φ x y:=λx y=>by rw[fe8,fa]
      have tk1:k%2^(j+1)<=k:=Nat.mod_le _ _;have m40:=Uw e8 fu8.ok A0 tm8 (λx y hxy=>Va re nr tk1 (by rw[<-fe];exact hxy));have ht8:=zs7.keep (Fr.z fr8) ht7 (by intro xs z;cases z) (by intro xs z;cases z) (by intro xs z;cases z);have hL8:H8 L=some (.lst ((ts++[t]).map V.ref)):=Fr.z (m:=m) fr8 _ _ hL7 apL.n0 apL.n1;have goz:=(go24.trans go5).trans go8;refine rest _ _ ⟨G8,ts++[t],nw,m8,_,_,_,rfl,fz7.trans (Fr.z fr8),zs8.mono ?_,goz,hL8,by rw[C4];show ts.length+1<=_;lia,⟨m40,lv8,tm8,fe⟩,.inr ⟨t,v,j,res,l,by rw[List.getLast?_append];rfl,ht8,l41,go8.lev lr,fa⟩⟩;rw[C4];show _<=b+270*(ts.length+1)
      lia
     ·have hc:¬((k/2^j:Nat):Int)%2=1:=λz=>hc (Y5 (X9 V.int z));have ev:k/2^j%2=0:=by lia
      have md:k%2^(j+1)=k%2^j:=by rw[md,ev,Nat.mul_zero,Nat.add_zero]
      exact rest _ _ ⟨G',ts,h,nh,u8,u9,i,rfl,fz3,zs3,go3,hL3,by lia,by rw[md];exact⟨nh40,lh,th,fh⟩,by rw[md];exact la⟩
    ·rintro σ' H4 ⟨G2,ts2,h2,nh2,v8,v9,i2,rfl,fz4,zs4,go4,hL4,tl4,mo4,la4⟩;refine hk8 ?_;refine BM ?_;intro r9 s9 k9 hk9 E9;refine xwb rfl rfl rfl ⟨⟨by decide,by decide⟩,?_⟩;refine hk9 ?_;have ed:((k/2^j:Nat):Int)/2=((k/2^(j+1):Nat):Int):=by rw[dv];lia
     have ej:(j:Int)+1=((j+1:Nat):Int):=by lia
     refine xwb rfl rfl rfl ⟨j+1,G2,ts2,h2,nh2,v8,v9,i2,?_,by lia,fz4,zs4,go4,hL4,tl4,mo4,la4⟩;exact(X9 (λu:Int=>[some (V.ref p),some (V.int f'),some (V.int (k:Int)),some (V.ref g.p),some (V.ref L),some (V.int h2),some (V.int u),some (V.int ((j:Int)+1)),v8,v9]) ed).trans (X9 (λv:Int=>[some (V.ref p),some (V.int f'),some (V.int (k:Int)),some (V.ref g.p),some (V.ref L),some (V.int h2),some (V.int ((k/2^(j+1):Nat):Int)),some (V.int v),v8,v9]) ej)
  ·have hc:¬((k/2^j:Nat):Int) > 0:=λz=>hc (Y5 z);exact Bo (done (.inl A0))
end
theorem ifT{b:Bool}{A B:Prop}(h:b=true)(x:A):if b=true then A else B:=by rw[h];exact Ce x
theorem ifF{b:Bool}{A B:Prop}(h:b=false)(x:B):if b=true then A else B:=by rw[h];exact Bo x
structure Fv(G:Gv)(f:Nat)(φ:Int->Int->Nat):Prop where
 ex:∃n:Nat,n<=40/\Ak G f ((n+1:Nat):Int)/\Iz G n f/\∀x y,fieldF G n f x y=φ x y
theorem Fv.app{G G':Gv}{k f:Nat}{φ:Int->Int->Nat}(ok:GOk G)(go:AH G G' k)(h:Fv G f φ):Fv G' f φ:=by
 obtain⟨n,h1,h2,h3,h4⟩:=h.ex;exact⟨n,h1,go.lev h2,h3.app go,λx y=>by rw[DE ok go h2];exact h4 x y⟩
theorem Fv.eq{G r:Gv}(e0:G=G0++r)(ok:GOk G){f f':Nat}{φ ψ:Int->Int->Nat}(h:Fv G f φ)(h':Fv G f' ψ)(e:∀x y,φ x y=ψ x y):f=f':=by
 obtain⟨n,h1,h2,h3,h4⟩:=h.ex;obtain⟨m,g1,g2,g3,g4⟩:=h'.ex;exact(OR e0 ok A0 A0 h2 g2 h3 g3 λx y=>by rw[h4,g4,e]).2
theorem Fv.to{G:Gv}{f:Nat}{φ ψ:Int->Int->Nat}(h:Fv G f φ)(e:∀x y,φ x y=ψ x y):Fv G f ψ:=by
 obtain⟨n,h1,h2,h3,h4⟩:=h.ex;exact⟨n,h1,h2,h3,λx y=>by rw[h4,e]⟩
section
variable{P:Program}{w:World}{K:PySem.W.Frag}{mg:Str->Option Value}{base:Heap}{a:Ad}
inductive ZU(a:Ad)(vs:List V)(H:Hp)(Q:VK):Prop
 |mk (p dx mem pr:Addr) (g:GA) (G:Gv) (Κ:KTy) (φ:Int->Int->Nat) (N b:Nat) (r:AD) (m:MA) (f k:Nat) (_:vs=[.ref p,.int f,.int (k:Int)]) (_:ZS a H g G Κ N b p dx mem pr r m) (_:Jv Κ N) (_:ClK r Κ) (_:Ut Κ r φ k) (_:Fv G f φ) (_:Pr φ k) (_:b+12000+10*N<7900000) (_:∀(d:Nat)(G':Gv)(H':Hp)(i:Nat),FrZ g m H H'->ZS a H' g G' Κ N (b+12048) p dx mem pr r m->AH G G' i->Fv G' d (sFN r k φ)->Q (.int d) H'):ZU a vs H Q
def Yc(a:Ad):Sp:=λvs H Q _=>ZU a vs H Q
theorem ok_jpg{f:Addr}{fd:FuncData}(F:Fun K "jump" "jump" Ts f fd)(T:Top K mg a)(dA:Cal P w K mg base CX0 150 "road" Tw (WU a))(aT:Cal P w K mg base CX0 4 "trimmed" GE (NU a)):AI P w K mg base CX0 151 f fd Ty (Yc a):=by
 refine F.ok UP (λvs H Q E h=>?_) (λcdv A outer s H vs Q E hr h=>?_)
 ·obtain⟨p,dx,mem,pr,g,G,Κ,φ,N,b,r,m,f',k,rfl,_⟩:=h;rfl
 ·obtain⟨p,dx,mem,pr,g,G,Κ,φ,N,b,r,m,f',k,rfl,zs,fin,cl,ask,fv,nr,few,kn⟩:=h;obtain⟨n,n40,lf,tr,hf⟩:=id fv.ex;have re:=zs.jz.jw.rest;refine⟨_,(Ac (Aq (i:=3) UP.nd rfl (Or.inl rfl) (Ar dA (rm hr) rfl Am (Aa (pv 0) (Aa (pv 1) (Aa (pv 2) Ab))))) (Ac (AM (Az Cb (AU CA rfl T.b_len K4 (Aa (pv 3) Ab)) Ae (AG _)) (Ag (Av (pv 1))) AC) (Ag (Av (Ar aT (rm hr) rfl Am (Aa (AB (pv 0) rfl) (Aa (Aj An (Aj Ax (pv 3) (LL GM Ae) (λ_ _=>rfl)) Ae (λ_ _=>rfl)) Ab))))))),?_⟩
  try dsimp only[cxK]
  refine BM ?_;intro r1 s1 k1 hk1 E1;refine xw3 rfl rfl rfl (.mk p dx mem pr g G Κ φ N b r m f' n k rfl zs fin cl ask lf n40 tr hf nr few (λL ts G1 H1 i1 fz1 zs1 go1 nL hL ca=>?_));refine hk1 ?_;refine BM ?_;intro r2 s2 k2 hk2 E2;refine⟨_,rfl,L,_,rfl,.inl (SqL.of hL),rfl,_,rfl,?_⟩;rcases ca with ⟨rfl,ca⟩|⟨t,sq,e,res,l,la,ht,l41,lr,rs⟩
  ·exact ifT rfl ⟨_,rfl,kn f' G1 H1 i1 fz1 (zs1.mono A0) go1 ((fv.app zs.fu.ok go1).to λx y=>(ca x y).symm)⟩
  ·have ne:ts≠[]:=λz=>by rw[z]at la;cases la
   have tl:1<=ts.length:=S9.mpr ne;refine ifF (Z0 (λz=>by injection z with z;rw[B6]at z;lia)) ?_;refine hk2 ?_;have li:atI (ts.map V.ref) (-1)=some (.ref t):=by
    unfold atI;have:ixN (ts.map V.ref).length (-1)=some (ts.length-1):=by
     unfold ixN;rw[B6,Y4 A4,Y7 A0];congr 1;lia
    rw[this];show(ts.map V.ref)[ts.length-1]?=_;rw[B8,<-List.getLast?_eq_getElem?,la];rfl
   refine xwf rfl rfl zs1.jz.jw.hp T.cl_Jumps T.na_Jumps_grove (Eb _ _ _ _ _) ?_;refine⟨_,rfl,1,rfl,L,_,-1,.ref t,rfl,rfl,SqL.of hL,li,t,_,2,.int (res:Int),rfl,rfl,SqT.of ht,Ai (j:=2) rfl,?_⟩;have sz1:=zs1.jz.sz fin;refine⟨g,G1,res,l,rfl,zs1.fu,lr,by lia,λnh G8 H8 fr8 fu8 go8 tr8=>?_⟩;have zs8:=zs1.fr fr8 fu8 go8;obtain⟨r8,e8⟩:=fu8.g0;obtain⟨m8,ml8,lv8,tm8,fe8⟩:=GN e8 fu8.ok A0 (go8.lev lr) tr8;have goz:=go1.trans go8;have fe:∀x y,fieldF G8 m8 nh x y=sFN r k φ x y:=λx y=>by rw[fe8,DE zs1.fu.ok go8 lr];exact rs x y
   have m40:=Uw e8 fu8.ok A0 tm8 (λx y hxy=>Va re nr (C0 k) (by rw[<-fe];exact hxy));exact kn nh G8 H8 _ (fz1.trans (Fr.z fr8)) (zs8.mono A0) goz ⟨m8,m40,lv8,tm8,fe⟩
end
end J
namespace J
open PySem L2
def Iw(G:Gv):Nat->Nat->Int->Int->List (List Int)
 |0,i,x,y=>if i=0 then []else [[y,x,(i:Int)]]
 |n+1,i,x,y=>match G[i]? with
  |some q=>(List.range 4).flatMap λk=>Iw G n (q.parts.getD k 0).toNat (x+((k%2:Nat):Int)*2^n) (y+((k/2:Nat):Int)*2^n)
  |none=>[]
def Mz(G:Gv)(n:Nat)(f:Nat->Nat)(x y:Int)(k:Nat):List (List Int):=Iw G n (f k) (x+((k%2:Nat):Int)*2^n) (y+((k/2:Nat):Int)*2^n)
theorem OQ{α β:Type}{f g:α->List β}:∀{l:List α},(∀x∈l,f x=g x)->l.flatMap f=l.flatMap g
 |[],_=>rfl
 |x::l,h=>by rw[U0,U0,h x (C3 ..),OQ λy hy=>h y (C2 _ hy)]
theorem Lu{G:Gv}{n i:Nat}{q:Sq}{a b c d:Nat}(h:CP G n i q a b c d)(x y:Int):Iw G (n+1) i x y=(List.range 4).flatMap (Mz G n (f4 a b c d) x y):=by
 rw[show Iw G (n+1) i x y=(match G[i]? with|some q=>(List.range 4).flatMap λk=>Iw G n (q.parts.getD k 0).toNat (x+((k%2:Nat):Int)*2^n) (y+((k/2:Nat):Int)*2^n)|none=>[])from rfl,h.g];refine OQ λk hk=>?_;have:=(h.nat (by simpa using hk)).1;unfold Mz;rw[D7,this];rfl
theorem GH{G:Gv}(ok:GOk G):∀{n i:Nat}{x y:Int},Ak G i (n:Int)->((Iw G n i x y).length:Int)=Bj G n i
 |0,i,x,y,_=>by
  show(((if i=0 then []else [[y,x,(i:Int)]]:List (List Int)).length:Nat):Int)=if i=0 then 0 else 1;split<;>rfl
 |n+1,i,x,y,h=>by
  obtain⟨q,a,b,c,d,nd⟩:=Be ok h;rw[Lu nd,Fe nd];show(((Mz G n (f4 a b c d) x y 0++(Mz G n (f4 a b c d) x y 1++(Mz G n (f4 a b c d) x y 2++(Mz G n (f4 a b c d) x y 3++[])))).length:Nat):Int)=Bj G n a+(Bj G n b+(Bj G n c+(Bj G n d+0)))
  have e0:=GH ok (x:=x+((0%2:Nat):Int)*2^n) (y:=y+((0/2:Nat):Int)*2^n) nd.hx;have e1:=GH ok (x:=x+((1%2:Nat):Int)*2^n) (y:=y+((1/2:Nat):Int)*2^n) nd.hy;have e2:=GH ok (x:=x+((2%2:Nat):Int)*2^n) (y:=y+((2/2:Nat):Int)*2^n) nd.hz;have e3:=GH ok (x:=x+((3%2:Nat):Int)*2^n) (y:=y+((3/2:Nat):Int)*2^n) nd.hw;rw[<-e0,<-e1,<-e2,<-e3];simp only[C4,P6,M9];rfl
theorem dm_c(v h:Nat):(v:Int)=((v/h:Nat):Int)*(h:Int)+((v%h:Nat):Int):=by
 have:=M8 v h;rw[<-N4,<-M9,U9,this]
theorem GG{G:Gv}(ok:GOk G):∀{n i:Nat}{x y:Int}{r:List Int},Ak G i (n:Int)->(r∈Iw G n i x y ↔ ∃u v:Nat,u<2^n/\v<2^n/\cellF G n i u v≠0/\r=[y+v,x+u,(cellF G n i u v:Int)])
 |0,i,x,y,r,_=>by
  show r∈(if i=0 then []else [[y,x,(i:Int)]]:List (List Int))↔_;constructor
  ·intro h;by_cases z:i=0
   ·rw[Y7 z]at h;cases h
   ·rw[Y4 z]at h;refine⟨0,0,by decide,by decide,z,?_⟩;rw[D4.mp h];show [y,x,(i:Int)]=[y+0,x+0,(i:Int)]
    rw[N2,N2]
  ·rintro⟨u,v,hu,hv,ne,rfl⟩;have hu:u=0:=S3.mp hu;have hv:v=0:=S3.mp hv;subst hu hv;have ne:i≠0:=ne;rw[Y4 ne];show [y+0,x+0,(i:Int)]∈_;rw[N2,N2];exact D4.mpr rfl
 |n+1,i,x,y,r,h=>by
  obtain⟨q,a,b,c,d,nd⟩:=Be ok h;have cc:=ES n;rw[Lu nd,R5];constructor
  ·rintro⟨k,hk,hr⟩;have hk:k<4:=by simpa using hk
   obtain⟨u,v,hu,hv,ne,rfl⟩:=(GG ok (nd.nat hk).2).mp hr;obtain⟨h1,h2,h3,h4,h5⟩:=FN hk hu hv;have e:=Bb nd h1 h2;rw[h3,h4,h5]at e;refine⟨_,_,h1,h2,by rw[e];exact ne,?_⟩;rw[e,<-cc,M9,N4,M9,N4,Int.mul_comm ((k/2:Nat):Int),Int.mul_comm ((k%2:Nat):Int),W4,W4,Int.add_comm (v:Int),Int.add_comm (u:Int)]
  ·rintro⟨u,v,hu,hv,ne,rfl⟩;rw[Bb nd hu hv]at ne⊢;have qk:=Ci hu hv;refine⟨quad n u v,by simpa using qk,(GG ok (nd.nat qk).2).mpr ⟨u%2^n,v%2^n,J6 _ (AS n),J6 _ (AS n),ne,?_⟩⟩;have q1:quad n u v/2=v/2^n:=by
    have:=EB hu;unfold quad;generalize u/2^n=A at *
    generalize v/2^n=B at *
    lia
   have q2:quad n u v%2=u/2^n:=by
    have:=EB hu;unfold quad;generalize u/2^n=A at *
    generalize v/2^n=B at *
    lia
   rw[q1,q2,<-cc,W4,W4,<-dm_c,<-dm_c]
theorem Nb{G:Gv}(ok:GOk G):∀{n i:Nat}{x y:Int},Ak G i (n:Int)->(Iw G n i x y).Nodup
 |0,i,x,y,_=>by
  show(if i=0 then []else [[y,x,(i:Int)]]:List (List Int)).Nodup;split
  ·exact O8
  ·simp
 |n+1,i,x,y,h=>by
  obtain⟨q,a,b,c,d,nd⟩:=Be ok h;rw[Lu nd,M7,List.pairwise_flatMap];refine⟨λk hk=>?_,?_⟩
  ·have hk:k<4:=by simpa using hk
   exact M7.mp (Nb ok (nd.nat hk).2)
  ·refine A2h (λ{k j} hk hj kj r hr r' hr' e=>kj ?_) (M7.mp (List.nodup_range (n:=4)));subst e;have hk:k<4:=by simpa using hk
   have hj:j<4:=by simpa using hj
   obtain⟨u,v,hu,hv,ne,e1⟩:=(GG ok (nd.nat hk).2).mp hr;obtain⟨u',v',hu',hv',ne',e2⟩:=(GG ok (nd.nat hj).2).mp hr';rw[e1]at e2;injection e2 with f1 e2
   injection e2 with f2 e2
   have cc:=ES n;rw[<-cc]at f1 f2;have side:∀{A B h u u':Nat},A<2->B<2->u<h->u'<h->(A:Int)*(h:Int)+u=(B:Int)*(h:Int)+u'->A=B:=by
    intro A B h u u' hA hB hu hu' e;have hA:A=0\/A=1:=by lia
    have hB:B=0\/B=1:=by lia
    rcases hA with rfl|rfl<;>rcases hB with rfl|rfl<;>simp at e<;>first|rfl|lia
   have g1:=side (A:=k/2) (B:=j/2) A0 A0 hv hv' A0;have g2:=side (A:=k%2) (B:=j%2) A0 A0 hu hu' A0;lia
def stC:List Cl->Int->Int->Nat
 |[],_,_=>0
 |c::cs,x,y=>if x=c.x/\y=c.y then c.s else stC cs x y
theorem Wr{G r0:Gv}(e0:G=G0++r0)(ok:GOk G){cs:List Cl}{n f:Nat}(h:Ry G cs n f):(∀c∈cs,c.s<8)->Iz G n f/\∀x y,fieldF G n f x y=stC cs x y:=by
 induction h with
 |nil =>
  intro _;refine⟨.inl rfl,λx y=>?_⟩;unfold fieldF;split
  ·rename_i z;exact DG e0 ok A4 (Ec z.1 z.2.1) (Ec z.2.2.1 z.2.2.2)
  ·rfl
 |@cons cs c n f r k w i m h l p l' ih =>
  intro hs;obtain⟨t,e⟩:=ih λc hc=>hs c (C2 _ hc);obtain⟨m',_,lm,tm,em⟩:=Sg e0 ok (hs c (C3 ..)) p;have:m'=m:=by
   have:=Z4 (lm.uniq l');lia
  subst this;refine⟨tm,λx y=>?_⟩;rw[em x y,e x y];rfl
def kvC(ds:List Cl):List (List Key×V):=ds.map λc=>(kOf [c.x,c.y],V.int (c.s:Int))
theorem NK:∀{ds:List Cl},(ds.map λc=>(c.x,c.y)).Nodup->∀{c:Cl},c∈ds->Br (kvC ds) (kOf [c.x,c.y])=some (.int (c.s:Int))
 |d::ds,nd,c,hc=>by
  rw[F5,M4]at nd;show Br ((kOf [d.x,d.y],V.int (d.s:Int))::kvC ds) (kOf [c.x,c.y])=_;rcases C1.mp hc with rfl|hc
  ·exact BF rfl
  ·rw[Bq λz=>?_]
   ·exact NK nd.2 hc
   ·have z:=JC z;injection z with z1 z
    injection z with z2 z
    exact nd.1 (D5.mpr ⟨c,hc,by rw[z1,z2]⟩)
def MC(ds:List Cl)(c:Cl):List Cl:=if ds.any (λd=>decide (d.x=c.x/\d.y=c.y))=true then ds.map (λd=>if d.x=c.x/\d.y=c.y then c else d)else ds++[c]
theorem YV{ds:List Cl}{c d:Cl}:d∈MC ds c↔d=c\/(d∈ds/\¬(d.x=c.x/\d.y=c.y)):=by
 unfold MC;by_cases h:ds.any (λd=>decide (d.x=c.x/\d.y=c.y))=true
 ·rw[Y7 h,D5];obtain⟨z,hz,ez⟩:=S4.mp h;have ez:=X6 ez;constructor
  ·rintro⟨e,he,rfl⟩;by_cases q:e.x=c.x/\e.y=c.y
   ·rw[Y7 q];exact .inl rfl
   ·rw[Y4 q];exact .inr ⟨he,q⟩
  ·rintro(rfl|⟨hd,q⟩)
   ·exact⟨z,hz,Y7 ez⟩
   ·exact⟨d,hd,Y4 q⟩
 ·rw[Y4 h,F0,D4];have no:∀e∈ds,¬(e.x=c.x/\e.y=c.y):=λe he q=>h (S4.mpr ⟨e,he,Y5 q⟩);constructor
  ·rintro(hd|rfl)
   ·exact .inr ⟨hd,no d hd⟩
   ·exact .inl rfl
  ·rintro(rfl|⟨hd,_⟩)
   ·exact .inr rfl
   ·exact .inl hd
theorem Za(ds:List Cl)(c:Cl):(MC ds c).length<=ds.length+1:=by
 unfold MC;split
 ·rw[B6];lia
 ·rw[C4];exact C0 _
theorem nd_putC {ds:List Cl} {c:Cl} (h:(ds.map λc=>(c.x,c.y)).Nodup):((MC ds c).map λc=>(c.x,c.y)).Nodup:=by
 unfold MC;by_cases q:ds.any (λd=>decide (d.x=c.x/\d.y=c.y))=true
 ·rw[Y7 q,M5];have:((λc:Cl=>(c.x,c.y)) ∘ λd=>if d.x=c.x/\d.y=c.y then c else d)=λd=>(d.x,d.y):=by
   funext d
   show((if d.x=c.x/\d.y=c.y then c else d).x,(if d.x=c.x/\d.y=c.y then c else d).y)=(d.x,d.y)
   split
   ·rename_i z;rw[z.1,z.2]
   ·rfl
  rw[this];exact h
 ·rw[Y4 q,C6,Q9];refine⟨h,by simp,λa ha b hb e=>q ?_⟩;obtain⟨d,hd,rfl⟩:=D5.mp ha;rw[F5,W7,D4]at hb;rw[hb]at e;injection e with e1 e2
  exact S4.mpr ⟨d,hd,Y5 ⟨e1,e2⟩⟩
theorem kv_putC(ds:List Cl)(c:Cl):DI (kvC ds) (kOf [c.x,c.y]) (.int (c.s:Int))=kvC (MC ds c):=by
 have key:∀d:Cl,(kOf [d.x,d.y]=kOf [c.x,c.y])↔(d.x=c.x/\d.y=c.y):=λd=>⟨λz=>by
  have z:=JC z;injection z with z1 z
  injection z with z2 z
  exact⟨z1,z2⟩,λz=>by rw[z.1,z.2]⟩
 unfold DI MC kvC;rw[List.any_map];have:((λkv:List Key×V=>decide (kv.1=kOf [c.x,c.y])) ∘ λc:Cl=>(kOf [c.x,c.y],V.int (c.s:Int)))=λd=>decide (d.x=c.x/\d.y=c.y):=by
  funext d
  exact decide_eq_decide.mpr (key d)
 rw[this];split
 ·rw[M5,M5];congr 1
  funext d
  show(if kOf [d.x,d.y]=kOf [c.x,c.y]then(kOf [d.x,d.y],V.int (c.s:Int))else(kOf [d.x,d.y],V.int (d.s:Int)))=(kOf [(if d.x=c.x/\d.y=c.y then c else d).x,(if d.x=c.x/\d.y=c.y then c else d).y],V.int ((if d.x=c.x/\d.y=c.y then c else d).s:Int))
  by_cases q:d.x=c.x/\d.y=c.y
  ·rw[Y7 ((key d).mpr q),Y7 q,q.1,q.2]
  ·rw[Y4 λz=>q ((key d).mp z),Y4 q]
 ·rw[C6];rfl
theorem We{G:Gv}(ok:GOk G){n f:Nat}(l:Ak G f ((n+1:Nat):Int)){r:List Int}:r∈Iw G (n+1) f (-(2^n)) (-(2^n)) ↔ ∃x y:Int,fieldF G n f x y≠0/\r=[y,x,(fieldF G n f x y:Int)]:=by
 have c:=ES n;have e:=PF n;rw[GG ok l];constructor
 ·rintro⟨u,v,hu,hv,ne,rfl⟩;have ef:fieldF G n f (-(2^n)+u) (-(2^n)+v)=cellF G (n+1) f u v:=by
   unfold fieldF;rw[Y7 ⟨by lia,by lia,by lia,by lia⟩];congr 1<;>lia
  refine⟨-(2^n)+u,-(2^n)+v,by rw[ef];exact ne,by rw[ef]⟩
 ·rintro⟨x,y,ne,rfl⟩;have ne':=ne;unfold fieldF at ne';split at ne'
  ·rename_i z;obtain⟨z1,z2,z3,z4⟩:=z;refine⟨(x+2^n).toNat,(y+2^n).toNat,Ec z1 z2,Ec z3 z4,ne',?_⟩;unfold fieldF;rw[Y7 ⟨z1,z2,z3,z4⟩,show -(2^n)+(((y+2^n).toNat:Nat):Int)=y by lia,show -(2^n)+(((x+2^n).toNat:Nat):Int)=x by lia]
  ·exact absurd rfl ne'
theorem dput{H:Hp}{D t:Addr}{ds:List Cl}{c:Cl}(e:H D=some (.dT (kvC ds)))(ht:H t=some (.tup [.int c.x,.int c.y]))(hl:ds.length<1000):Lx H D (.ref t) (.int (c.s:Int)) (upd H D (.dT (kvC (MC ds c)))):=by
 rw[<-kv_putC];exact Lx.t (k:=kOf [c.x,c.y]) e ht (FY (by rw[show(kvC ds).length=ds.length from B6 _];lia))
structure WD(ds:List Cl)(φ:Int->Int->Nat):Prop where
 nd:(ds.map λc=>(c.x,c.y)).Nodup
 mem:∀c:Cl,c∈ds↔(1<=c.s/\φ c.x c.y=c.s)
theorem stC_ds{ds:List Cl}{φ:Int->Int->Nat}(h:WD ds φ)(x y:Int):stC ds.reverse x y=φ x y:=by
 have key:∀{es:List Cl},(∀c∈es,1<=c.s/\φ c.x c.y=c.s)->(∃c∈es,c.x=x/\c.y=y)->stC es x y=φ x y:=by
  intro es;induction es with
  |nil=>rintro _ ⟨c,hc,_⟩;cases hc
  |cons d es ih =>
   intro h1 ⟨c,hc,ex,ey⟩;show(if x=d.x/\y=d.y then d.s else stC es x y)=_;by_cases q:x=d.x/\y=d.y
   ·rw[Y7 q,q.1,q.2];exact(h1 d (C3 ..)).2.symm
   ·rw[Y4 q];refine ih (λc hc=>h1 c (C2 _ hc)) ?_;rcases C1.mp hc with rfl|hc
    ·exact absurd ⟨ex.symm,ey.symm⟩ q
    ·exact⟨c,hc,ex,ey⟩
 have non:∀{es:List Cl},(∀c∈es,¬(c.x=x/\c.y=y))->stC es x y=0:=by
  intro es;induction es with
  |nil=>intro _;rfl
  |cons d es ih =>
   intro h1;show(if x=d.x/\y=d.y then d.s else stC es x y)=_;rw[Y4 λq=>h1 d (C3 ..) ⟨q.1.symm,q.2.symm⟩];exact ih λc hc=>h1 c (C2 _ hc)
 by_cases z:φ x y=0
 ·rw[z];refine non λc hc q=>?_;obtain⟨a1,a2⟩:=(h.mem c).mp (U4.mp hc);rw[q.1,q.2,z]at a2;lia
 ·refine key (λc hc=>(h.mem c).mp (U4.mp hc)) ⟨⟨x,y,φ x y⟩,U4.mpr ((h.mem _).mpr ⟨by show 1<=φ x y;lia,rfl⟩),rfl,rfl⟩
seal L2.PA L2.PE L2.PS L2.PSs L2.PT L2.PW
def FrO(d:Addr)(H H':Hp):Prop:=∀b o,H b=some o->b≠d->H' b=some o
theorem FrO.fx{dd:Addr}{H H':Hp}{kvs:List (List Key×V)}(rd:Rd H dd (.dT kvs))(f:FrO dd H H'):Fx [dd] H H':=λb o e z=>by
 refine f b o e λy=>?_;subst y;have z:=z (D4.mpr rfl);rcases rd with rd|⟨oo,rd⟩<;>rw[e]at rd<;>cases rd<;>exact z
theorem Ny:∀(cs:List Cl)(x y:Int),(∃c∈cs,c.x=x/\c.y=y/\stC cs x y=c.s)\/((∀c∈cs,¬(c.x=x/\c.y=y))/\stC cs x y=0)
 |[],_,_=>.inr ⟨(λc hc=>nomatch hc),rfl⟩
 |c::cs,x,y=>by
  by_cases z:x=c.x/\y=c.y
  ·exact .inl ⟨c,C3,z.1.symm,z.2.symm,Y7 z⟩
  ·have e:stC (c::cs) x y=stC cs x y:=Y4 z;rw[e];rcases Ny cs x y with ⟨d,hd,h⟩|⟨h1,h2⟩
   ·exact .inl ⟨d,C2 _ hd,h⟩
   ·refine .inr ⟨λd hd=>?_,h2⟩;rcases C1.mp hd with rfl|hd
    ·exact λq=>z ⟨q.1.symm,q.2.symm⟩
    ·exact h1 d hd
def clI(q:It3):Cl:=⟨q.x,q.y,(q.r.headD 0).toNat⟩
theorem UR{H:Hp}:∀{ts:List Addr}{ds:List Cl},Paired (Pw H) ts ds->∃items:List It3,(items.map λq=>V.ref q.a)=ts.map V.ref/\items.map clI=ds/\∀q∈items,Pw H q.a (clI q)/\H q.a=some (.tup (q.ns.map V.int))
 |_,_,.nil=>⟨[],rfl,rfl,λq hq=>by cases hq⟩
 |t::ts,c::ds,.cons h pr=>by
  obtain⟨items,e1,e2,hit⟩:=UR pr;have ec:clI ⟨t,c.x,c.y,[(c.s:Int)]⟩=c:=rfl;refine⟨⟨t,c.x,c.y,[(c.s:Int)]⟩::items,by rw[F5,e1];rfl,by rw[F5,e2,ec],λq hq=>?_⟩;rcases C1.mp hq with rfl|hq
  ·exact⟨by rw[ec];exact h,h⟩
  ·exact hit q hq
theorem Ot{H:Hp}:∀{out:List It3},(∀q∈out,Pw H q.a (clI q))->Paired (Pw H) (out.map (·.a)) (out.map clI)
 |[],_=>.nil
 |q::out,h=>.cons (h q (C3 ..)) (Ot λq hq=>h q (C2 _ hq))
theorem WD.perm{ds es:List Cl}{φ:Int->Int->Nat}(h:WD ds φ)(p:es.Perm ds):WD es φ:=⟨(p.map _).nodup_iff.mpr h.nd,λc=>by rw[p.mem_iff];exact h.mem c⟩
structure Dd(ds:List Cl)(n:Nat)(x y:Int):Prop where
 nd:(ds.map λc=>(c.x,c.y)).Nodup
 ok:∀c∈ds,(ClOk c/\1<=c.s)/\x<=c.x/\c.x<x+6/\y<=c.y/\c.y<y+3
 len:ds.length<=n
theorem Dd.nil(x y:Int):Dd [] 0 x y:=⟨by simp,(λc hc=>by cases hc),C0 _⟩
theorem Dd.put{ds:List Cl}{n:Nat}{x y:Int}{c:Cl}(h:Dd ds n x y)(hc:ClOk c)(h1:1<=c.s)(h2:x<=c.x/\c.x<x+6/\y<=c.y/\c.y<y+3):Dd (MC ds c) (n+1) x y:=by
 refine⟨nd_putC h.nd,λd hd=>?_,C7 (Za ds c) (P9 h.len)⟩;rcases YV.mp hd with rfl|⟨hd,_⟩
 ·exact⟨⟨hc,h1⟩,h2⟩
 ·exact h.ok d hd
theorem same_s {ds:List Cl} (nd:(ds.map λc=>(c.x,c.y)).Nodup) {c d:Cl} (hc:c∈ds) (hd:d∈ds) (ex:d.x=c.x) (ey:d.y=c.y):d.s=c.s:=by
 have h1:=NK nd hc;have h2:=NK nd hd;rw[ex,ey,h1]at h2;injection h2 with h2
 injection h2 with h2
 lia
theorem Dd.dk{ds:List Cl}{n:Nat}{x y:Int}(h:Dd ds n x y):WD ds (stC ds):=by
 refine⟨h.nd,λc=>⟨λhc=>⟨(h.ok c hc).1.2,?_⟩,λ⟨h1,h2⟩=>?_⟩⟩
 ·rcases Ny ds c.x c.y with ⟨d,hd,ex,ey,e⟩|⟨no,_⟩
  ·rw[e];exact same_s h.nd hc hd ex ey
  ·exact absurd ⟨rfl,rfl⟩ (no c hc)
 ·rcases Ny ds c.x c.y with ⟨d,hd,ex,ey,e⟩|⟨_,e⟩
  ·rw[e]at h2;have:d=c:=by
    cases d;cases c;cases ex;cases ey;cases h2;rfl
   exact this▸hd
  ·lia
section
variable{P:Program}{w:World}{K:PySem.W.Frag}{mg:Str->Option Value}{base:Heap}{a:Ad}
theorem ok_row{f:Addr}{fd:FuncData}(F:Fun K "_law_by_rows" "_law_by_rows" Fs f fd)(T:Top K mg a):AI P w K mg base CX0 1 f fd FG NV:=by
 refine F.ok Ni (λvs H Q E h=>?_) (λcdv A outer s H vs Q E hr h=>?_)
 ·obtain⟨t,x,y,r,rfl,_⟩:=h;rfl
 ·obtain⟨t,x,y,r,rfl,ht,k⟩:=h;exact⟨_,(Ag (Av (DW (Aa (Aj An (pv 0) Ae (λ_ _=>rfl)) (Aa (Aj An (pv 0) Ae (λ_ _=>rfl)) Ab))))),_,rfl,t,_,1,.int y,rfl,rfl,SqT.of ht,Ai (j:=1) rfl,_,rfl,t,_,0,.int x,rfl,rfl,SqT.of ht,Ai (j:=0) rfl,(by show 2<=sizeLine;decide),k⟩
inductive SpLsd(vs:List V)(H:Hp)(Q:VK):Prop
 |mk (D:Addr) (ds:List Cl) (_:vs=[.ref D]) (_:Rd H D (.dT (kvC ds))) (_:(ds.map λc=>(c.x,c.y)).Nodup) (_:ds.length<=40) (_:∀(o:Obj)(L:Addr)(ts:List Addr)(cs:List Cl)(H':Hp),FrO D H H'->H' D=some (.frz o (.dT (kvC ds)))->H L=none->H' L=some (.lst (ts.map V.ref))->Paired (Pw H') ts cs->cs.Perm ds->Q (.ref L) H'):SpLsd vs H Q
def Ya:Sp:=λvs H Q _=>SpLsd vs H Q
theorem ok_lsd{f:Addr}{fd:FuncData}(F:Fun K "_law_listed" "_law_listed" Gi f fd)(T:Top K mg a)(bM:Cal P w K mg base CX0 1 "_law_by_rows" FG NV):AI P w K mg base CX0 5 f fd Gp Ya:=by
 refine F.ok Fk (λvs H Q E h=>?_) (λcdv A outer s H vs Q E hr h=>?_)
 ·obtain⟨D,ds,rfl,_⟩:=h;rfl
 ·obtain⟨D,ds,rfl,rd,nd,l40,k⟩:=h;refine⟨_,(Ac (Aq (i:=1) Fk.nd rfl (Or.inl rfl) (Cm Ab)) (Ac (CL Z6 rfl (Yr (pv 0)) (Bv (i:=2) Fk.nd rfl (Or.inl rfl)) (Ag (BS (DB Z8 Z9 X4 BW (pv 1) (BB (Aa (Aj An (pv 2) Ae (λ_ _=>rfl)) (Aa (Aj An (pv 2) Ae (λ_ _=>rfl)) (Aa (QN (EG hr) (pv 0) (pv 2) (λ_ _=>rfl)) Ab))) Ab))))) (Ag (Av (Tu bM (rm hr) rfl T.b_sorted rfl (Aa (pv 1) Ab)))))),?_⟩
  try dsimp only[cxK]
  have nD:∀{x:Addr},H x=none->x≠D:=λ{x} n z=>by
   rw[z]at n;rcases rd with y|⟨o,y⟩
   ·rw[y]at n;cases n
   ·rw[y]at n;cases n
  refine⟨(by show 0<=sizeLine;decide),λS hS=>?_⟩;have s1:=AK (o:=.lst []) hS;have h1:upd H S (.lst []) S=some (.lst []):=Af;generalize upd H S (.lst [])=H1 at s1 h1⊢;have rd1:Rd H1 D (.dT (kvC ds)):=by
   rcases rd with y|⟨o,y⟩
   ·exact .inl (s1 _ _ y)
   ·exact .inr ⟨o,s1 _ _ y⟩
  refine⟨_,rfl,D,kvC ds,rfl,rd1,λo H2 hD2 fr2=>?_⟩;have h2:=fr2 _ _ h1 (nD hS);have fr02:FrO D H H2:=λb u e n=>fr2 _ _ (s1 _ _ e) n;have ldk:(kvC ds).length=ds.length:=B6 _;refine for_dT (kvs:=kvC ds) (λj σ H3=>∃(ts:List Addr)(u2:Option V),σ=[some (.ref D),some (.ref S),u2]/\(∀b u,H2 b=some u->b≠S->H3 b=some u)/\H3 S=some (.lst (ts.map V.ref))/\Paired (Pw H3) ts (ds.take j)) ⟨[],none,rfl,λb u e _=>e,h2,.nil⟩ (λj σ H3 _ z=>by obtain⟨_,_,_,z,_⟩:=z;exact z _ _ hD2 (Z3 (nD hS))) ?_ ?_
  ·rintro j kb kv v σ H3 ev hb ⟨ts,u2,rfl,k3,h3,pr⟩;obtain⟨c,ec,ee⟩:∃c,ds[j]?=some c/\(kOf [c.x,c.y],V.int (c.s:Int))=(kv,v):=by
    unfold kvC at ev;rw[B8]at ev;obtain⟨c,ec,e⟩:=D0.mp ev;exact⟨c,ec,e⟩
   cases ee;have jl:j<ds.length:=(B7.mp ec).1;have hb':H3 kb=some (.tup [.int c.x,.int c.y]):=hb;have hD3:=k3 _ _ hD2 (Z3 (nD hS));have lt:=Z7 pr;rw[J0]at lt;refine⟨_,rfl,.inl ⟨rfl,_,SqL.of h3⟩,_,rfl,kb,_,0,.int c.x,rfl,rfl,SqT.of hb',Ai (j:=0) rfl,_,rfl,kb,_,1,.int c.y,rfl,rfl,SqT.of hb',Ai (j:=1) rfl,_,rfl,_,rfl,D,.int (c.s:Int),rfl,?_,?_⟩
   ·exact .inr ⟨kvC ds,kOf [c.x,c.y],kb,.inr ⟨o,hD3⟩,rfl,hb,(NK nd (C9 ec)).symm⟩
   refine⟨(by show 3<=sizeLine;decide),λt ht=>?_⟩;have s6:=AK (o:=.tup [.int c.x,.int c.y,.int (c.s:Int)]) ht;have ht6:Pw (upd H3 t (.tup [.int c.x,.int c.y,.int (c.s:Int)])) t c:=Af;generalize upd H3 t (.tup [.int c.x,.int c.y,.int (c.s:Int)])=H6 at s6 ht6⊢;have h6:=s6 _ _ h3;refine⟨S,_,_,rfl,rfl,h6,by rw[B6];exact FY A0,?_⟩;have tp:∀{b:Addr}{ys:List V},H6 b=some (.tup ys)->upd H6 S (.lst (ts.map V.ref++[.ref t])) b=some (.tup ys):=λ{b ys} e=>by rw[Au (AE e h6 A3)];exact e
   refine⟨ts++[t],_,rfl,λb u e n=>?_,by rw[Af,C6];rfl,?_⟩
   ·rw[Au n];exact s6 _ _ (k3 _ _ e n)
   ·rw[F3,ec,Q4];exact K9 (PairedM.imp (λb c z=>tp (s6 _ _ z)) pr) (tp ht6)
  ·rintro σ H3 ⟨ts,u2,rfl,k3,h3,pr⟩;rw[ldk,F6]at pr;obtain⟨items,e1,e2,hit⟩:=UR pr;have li:items.length=ds.length:=by rw[<-e2,B6]
   refine⟨_,rfl,S,items,rfl,by rw[e1];exact SqL.of h3,by lia,λq hq=>(hit q hq).2,λL out H4 kp nL pm=>?_⟩;have hD4:=kp _ _ (k3 _ _ hD2 (Z3 (nD hS)));have s5:=AK (o:=.lst (out.map λq=>V.ref q.a)) nL;have h5:upd H4 L (.lst (out.map λq=>V.ref q.a)) L=some (.lst ((out.map (·.a)).map V.ref)):=by rw[Af,M5];rfl
   generalize upd H4 L (.lst (out.map λq=>V.ref q.a))=H5 at s5 h5⊢;refine k o L (out.map (·.a)) (out.map clI) H5 (λb u e n=>s5 _ _ (kp _ _ (k3 _ _ (fr02 _ _ e n) (Aw e hS)))) (s5 _ _ hD4) ?_ h5 (Ot λq hq=>s5 _ _ (kp _ _ (hit q (pm.mem_iff.mp hq)).1)) (by rw[<-e2];exact pm.map _);cases e:H L with
   |none=>rfl
   |some u =>
    by_cases z:L=D
    ·rw[z,hD4]at nL;cases nL
    ·rw[kp _ _ (k3 _ _ (fr02 _ _ e z) (Aw e hS))]at nL;cases nL
theorem cpow2{n:Int}(h:0<=n)(l:n<=100):CPow 2 n:=⟨h,by lia,by decide⟩
inductive ZZ(vs:List V)(H:Hp)(Q:VK):Prop
 |mk (c:Int) (_:vs=[.int c]) (_:∀v:Int,-(2^38)<=v->v<2^38->Q (.int v) H):ZZ vs H Q
def To:Sp:=λvs H Q _=>ZZ vs H Q
theorem ok_base{f:Addr}{fd:FuncData}(F:Fun K "_law_base" "_law_base" IV f fd)(T:Top K mg a):AI P w K mg base CX0 1 f fd Jj To:=by
 refine F.ok QF (λvs H Q E h=>?_) (λcdv A outer s H vs Q E hr h=>?_)
 ·obtain⟨c,rfl,_⟩:=h;rfl
 ·obtain⟨c,rfl,k⟩:=h;refine⟨_,(Ac (AM (Az Cb (AA Bd (pv 0) Ae) Ae (AG _)) (Ag (Av (AA Cw (AA Bd (AA Cy (pv 0) Ae) (AA Tz Ae Ae)) (AA Tz Ae Ae)))) AC) (Ag (Av (AA Cw (AA Bd (AA Cy (pv 0) Ae) Ae) Ae)))),?_⟩
  try dsimp only[cxK]
  refine⟨_,rfl,_,_,rfl,rfl,(by show(0:Int)<4;decide),rfl,_,rfl,Fb (λ_=>?_) (λ_=>?_)⟩
  ·refine⟨_,rfl,_,_,rfl,rfl,⟨by decide,by decide⟩,_,_,rfl,rfl,cpow2 A4 A4,_,_,rfl,rfl,(by show(0:Int)<2^39;decide),_,_,rfl,rfl,cpow2 A4 A4,_,_,rfl,rfl,k _ ?_ ?_⟩
   ·show -(2^38)<=c/4%2^39-2^38;lia
   ·show c/4%2^39-2^38<2^38;lia
  ·refine⟨_,rfl,_,_,rfl,rfl,⟨by decide,by decide⟩,_,_,rfl,rfl,(by show(0:Int)<12;decide),_,_,rfl,rfl,k _ ?_ ?_⟩
   ·show -(2^38)<=c/4%12-8;lia
   ·show c/4%12-8<2^38;lia
inductive ZV(K:PySem.W.Frag)(vs:List V)(H:Hp)(Q:VK):Prop
 |mk (l:Addr) (ns:List Int) (fi x y:Int) (m:Nat) (_:vs=[.ref l,.int fi,.int (m:Int),.int x,.int y]) (_:SqL K H l (ns.map V.int)) (_:0<=fi) (_:m<=100) (_:-(2^39)<=x) (_:x<2^39) (_:-(2^39)<=y) (_:y<2^39) (_:∀(D:Addr)(ds:List Cl)(H':Hp),Ay H H'->H D=none->H' D=some (.dT (kvC ds))->Dd ds m x y->Q (.ref D) H'):ZV K vs H Q
def Tl(K:PySem.W.Frag):Sp:=λvs H Q _=>ZV K vs H Q
theorem ok_heap{f:Addr}{fd:FuncData}(F:Fun K "_law_heap" "_law_heap" IU f fd)(T:Top K mg a)(a9:Cal P w K mg base CX0 1 "_law_at" GF (Yi K)):AI P w K mg base CX0 2 f fd Ji (Tl K):=by
 refine F.ok DO (λvs H Q E h=>?_) (λcdv A outer s H vs Q E hr h=>?_)
 ·obtain⟨l,ns,fi,x,y,m,rfl,_⟩:=h;rfl
 ·obtain⟨l,ns,fi,x,y,m,rfl,hS,f0,m1,x1,x2,y1,y2,k⟩:=h;refine⟨_,(Ac (Aq (i:=5) DO.nd rfl (Or.inl rfl) LM) (Ac (CL Z6 rfl (De rfl T.b_range (Aa (pv 2) Ab)) (Bv (i:=6) DO.nd rfl (Or.inl rfl)) (Ac (Aq (i:=7) DO.nd rfl (Or.inl rfl) (Ar a9 (rm hr) rfl Am (Aa (pv 0) (Bp AL (pv 1) (pv 6) Ab)))) (Ac (Aq (i:=8) DO.nd rfl (Or.inl rfl) (AA AL (pv 7) (AA Et Ae (pv 6)))) (Ag (FW (EG hr) (pv 5) (DW (Bp AL (pv 3) (AA Bd (pv 8) Ae) (Bp AL (pv 4) (AA Bd (AA Cy (pv 8) Ae) Ae) Ab))) (AA AL Ae (AA Bd (AA AL (AA Cy (pv 7) Ae) (pv 6)) Ae)) rfl))))) (Ag (Av (pv 5))))),?_⟩
  try dsimp only[cxK]
  refine λD hD=>?_;have s1:=AK (o:=.dT []) hD;have hD1:upd H D (.dT []) D=some (.dT (kvC [])):=Af;generalize upd H D (.dT [])=H1 at s1 hD1⊢;refine⟨_,rfl,_,rfl,by lia,by lia,?_⟩;rw[L6];refine DD (n:=m) (λj σ H3=>∃(ds:List Cl)(u6 u7 u8:Option V),σ=[some (.ref l),some (.int fi),some (.int (m:Int)),some (.int x),some (.int y),some (.ref D),u6,u7,u8]/\Ay H H3/\H3 D=some (.dT (kvC ds))/\Dd ds j x y) ⟨[],none,none,none,rfl,s1,hD1,Dd.nil x y⟩ ?_ ?_
  ·rintro j σ H3 hj ⟨ds,u6,u7,u8,rfl,sm,hD3,dd⟩;refine⟨_,rfl,_,rfl,_,rfl,_,_,rfl,rfl,l,ns,_,rfl,sm.seq hS,by show 0<=fi+(0+(j:Int));lia,?_⟩;generalize atN ns (fi+(0+(j:Int)))=v;refine⟨_,rfl,_,rfl,_,_,rfl,rfl,.inl ⟨by decide,by decide⟩,_,_,rfl,rfl,?_⟩;refine⟨_,rfl,_,_,rfl,rfl,⟨by decide,by decide⟩,_,rfl,_,_,rfl,rfl,_,_,rfl,rfl,(by show(0:Int)<7;decide),_,_,rfl,rfl,_,rfl,?_⟩;obtain⟨st,hst⟩:=F7 (show 0<=1+(v/18+(0+(j:Int)))%7 by lia);refine⟨_,rfl,_,rfl,_,_,rfl,rfl,(by show(0:Int)<6;decide),_,_,rfl,rfl,_,rfl,_,rfl,_,_,rfl,rfl,⟨by decide,by decide⟩,_,_,rfl,rfl,B1,_,_,rfl,rfl,(by show 2<=sizeLine;decide),λt ht=>?_⟩;have e1:(λ(i j:Int)=>V.int (i+j)) 1 ((v/18+(0+(j:Int)))%7)=V.int (st:Int):=X9 V.int hst;rw[e1];have s6:=AK (o:=.tup [.int (x+(v+3*(0+(j:Int)))%6),.int (y+(v+3*(0+(j:Int)))/6%3)]) ht;have h6:upd H3 t (.tup [.int (x+(v+3*(0+(j:Int)))%6),.int (y+(v+3*(0+(j:Int)))/6%3)]) t=some (.tup [.int (x+(v+3*(0+(j:Int)))%6),.int (y+(v+3*(0+(j:Int)))/6%3)]):=Af;have hD6:=s6 _ _ hD3;have dl:=dd.len;refine⟨D,_,rfl,dput (c:=⟨x+(v+3*(0+(j:Int)))%6,y+(v+3*(0+(j:Int)))/6%3,st⟩) hD6 h6 A0,?_⟩;refine⟨MC ds ⟨x+(v+3*(0+(j:Int)))%6,y+(v+3*(0+(j:Int)))/6%3,st⟩,_,_,_,rfl,λb o e=>?_,Af,dd.put ⟨?_,?_⟩ ?_ ?_⟩
   ·rw[Au (Aw e hD)];exact s6 _ _ (sm _ _ e)
   ·unfold IA;dsimp only;generalize v+3*(0+(j:Int))=z;refine⟨by lia,by lia,by lia,by lia⟩
   ·show st<8;lia
   ·show 1<=st;lia
   ·dsimp only;generalize v+3*(0+(j:Int))=z;refine⟨by lia,by lia,by lia,by lia⟩
  ·rintro σ H3 ⟨ds,u6,u7,u8,rfl,sm,hD3,dd⟩;exact⟨_,rfl,k D ds H3 sm hD hD3 dd⟩
theorem fld_fv{g:GA}{G:Gv}{H:Hp}{Q:VK}{L:Addr}{ts:List Addr}{cs ds:List Cl}{φ:Int->Int->Nat}(fu:AX a H g G)(hL:H L=some (.lst (ts.map V.ref)))(ap:Ap g L)(pr:Paired (Pw H) ts cs)(pm:cs.Perm ds)(dk:WD ds φ)(ok:∀c∈ds,ClOk c)(l:ds.length<=40)(few:G.length<6000000)(k:∀(r:Nat)(G':Gv)(H':Hp),Fr g H H'->AX a H' g G'->AH G G' 16000->Fv G' r φ->Q (.int r) H'):VB a [.ref g.p,.ref L] H Q:=by
 have lc:=pm.length_eq;have ok':∀c∈cs,ClOk c:=λc hc=>ok c (pm.mem_iff.mp hc);refine⟨g,G,L,ts,cs,rfl,fu,hL,ap.1,ap.2.1,pr,ok',by lia,λf1 n1 G13 H13 fr13 fu13 go13 n140 lf13 fl13=>?_⟩;obtain⟨r13,e13⟩:=fu13.g0;obtain⟨tr13,ef13⟩:=Wr e13 fu13.ok fl13 (λc hc=>(ok' c (U4.mp hc)).s);exact k f1 G13 H13 fr13 fu13 (go13.mono A0) ⟨n1,n140,lf13,tr13,λu v=>by rw[ef13,stC_ds (dk.perm pm)]⟩
end
end J
namespace J
open PySem L2
theorem IO.new{a:Ad}{H H':Hp}{g:GA}{G:Gv}{N M:Nat}{r:AD}{m:MA}(hg:AJ a H g G)(nl:H m.l=none)(nk:H m.kc=none)(h4:H' m.tp=some (.tup [.ref m.l,.ref m.kc]))(h5:H' m.l=some (.lst (m.ds.map V.ref)))(h6:H' m.kc=some (.dT []))(h7:∀d∈m.ds,H' d=some (.dK []))(h8:m.ds.length=47)(h9:m.ds.Nodup):IO H' g G N M r m:=by
 obtain⟨ts,h3,_⟩:=hg.pt;exact⟨h4,h5,⟨Z3 (Aw hg.lv nl),Z3 (Aw h3 nl),Z3 (Aw hg.nm nk)⟩,h8,h9,λe d ed=>⟨[],h7 d (C9 ed),J8 _,λp hp=>(nomatch hp),λn v hv=>by cases hv⟩,⟨[],h6,J8 _,λks v hv=>by cases hv⟩⟩
def zL(g:GA)(m:MA):List Addr:=[g.lv,g.pt,g.nm,g.am,g.bx,m.kc]++m.ds
section
variable{a:Ad}{H H':Hp}{g:GA}{G G':Gv}{Κ:KTy}{N b i:Nat}{p dx mem pr:Addr}{r:AD}{m:MA}
theorem FrZ.fx(h:ZS a H g G Κ N b p dx mem pr r m)(f:FrZ g m H H'):Fx (zL g m) H H':=λx o e z=>by
 obtain⟨ts,h3,_⟩:=h.fu.at'.pt;obtain⟨ka,a1,_⟩:=h.fu.am;obtain⟨kb,b1,_⟩:=h.fu.bx;obtain⟨kc,c1,_⟩:=h.jz.jw.me.ce;refine f x o e (λy=>?_) (λy=>?_)
 ·have z':=z (F0.mpr (.inl y));clear z;simp only[C1,D9,X7]at y;rcases y with y|y|y|y|y|y<;>subst y
  ·rw[h.fu.at'.lv]at e;cases e;exact z'
  ·rw[h3]at e;cases e;exact z'
  ·rw[h.fu.at'.nm]at e;cases e;exact z'
  ·rw[a1]at e;cases e;exact z'
  ·rw[b1]at e;cases e;exact z'
  ·rw[c1]at e;cases e;exact z'
 ·have z':=z (F0.mpr (.inr y));obtain⟨j,hj⟩:=J9 y;obtain⟨kv,e2,_⟩:=h.jz.jw.me.sq j x hj;rw[e2]at e;cases e;exact z'
theorem ZS.fx{l:List Addr}(h:ZS a H g G Κ N b p dx mem pr r m)(f:Fx l H H')(n:∀x∈[g.br,m.l]++zL g m,x∉l):ZS a H' g G Κ N b p dx mem pr r m:=by
 have nz:∀x∈zL g m,x∉l:=λx hx=>n x (F0.mpr (.inr hx));have nbr:g.br∉l:=n _ A6;have nml:m.l∉l:=n _ A6;have fu':=h.fu.fx f λx hx=>by
  simp only[EO,C1,D9,X7]at hx;rcases hx with z|z|z|z|z|z<;>subst z
  ·exact nz _ (by simp[zL])
  ·exact nz _ (by simp[zL])
  ·exact nz _ (by simp[zL])
  ·exact nbr
  ·exact nz _ (by simp[zL])
  ·exact nz _ (by simp[zL])
 have jw:=h.jz.jw;obtain⟨kc,c1,_⟩:=jw.me.ce;have kds:∀d∈m.ds,∀o,H d=some o->H' d=some o:=λd hd o e=>f.get (nz d (F0.mpr (.inr hd))) e;have kkc:∀o,H m.kc=some o->H' m.kc=some o:=λo e=>f.get (nz _ (by simp[zL])) e;have me:IO H' g G N (b+10*N) r m:=jw.me.kp jw.ok (AH.refl jw.ok) λx o e w=>by
  rcases w with rfl|rfl|w|rfl
  ·rw[jw.me.tp]at e;cases e;exact f.tup jw.me.tp
  ·exact f.get nml e
  ·exact kds x w o e
  ·exact kkc o e
 obtain⟨fc,cn⟩:=h.jz.cn;refine⟨⟨⟨fu'.at',jw.ok,jw.bs,f.get nbr jw.br,jw.nbr,f _ _ jw.hp λ_=>True.intro,jw.ru.kp λx o e nv=>f _ _ e λ_=>?_,jw.rok,jw.rest,me⟩,fc,cn.kp (i:=0) jw.ok (AH.refl jw.ok) kds λkc e=>⟨kc,kkc _ e,C0 _⟩⟩,fu',h.na,h.nb⟩;cases nv<;>exact True.intro
theorem jnew{Q:VK}{H7:Hp}(fu:AX a H7 g G)(ro:IN r)(rz:CZ r 0 BV=0)(hR:CB a H7 pr (DA r) r)(np:H7 p=none)(ndp:H7 dx=none)(nep:dx≠p)(few:G.length<=b)(k:∀(H8:Hp)(mem:Addr)(m:MA),Ay H7 H8->ZS a H8 g G Κ N b p dx mem pr r m->(∀y∈m.l::m.kc::m.ds,H7 y=none)->H8 mem=some (.dK (mK [(DA r,m)]))->H7 mem=none->mem∉m.ds->Q .non H8):Rx a [.ref p,.ref g.p,.ref pr] (upd (upd H7 dx (.own p)) p (.ins a.c_Jumps dx [])) Q:=by
 have nq:upd H7 dx (.own p) p=none:=by rw[Au (Z3 nep)];exact np
 have sj:Ay H7 (upd (upd H7 dx (.own p)) p (.ins a.c_Jumps dx [])):=(show Ay H7 _ from Ao ndp).trans (Ao nq);refine⟨p,dx,g.p,pr,DA r,r,rfl,Af,hR.same sj,λH8 mem m fr8 nmem hp8 hmem8 fre htp hl hkc hds lds nds nmd=>?_⟩;have s8':Ay H7 H8:=λb o e=>fr8 b o (sj b o e) (Aw e np);have mn:∀{y:Addr},upd (upd H7 dx (.own p)) p (.ins a.c_Jumps dx []) y=none->H7 y=none:=λ{y} e=>Ay.noneN sj e;have fu8:=fu.same s8';have hw:IO H8 g G N (b+10*N) r m:=(IO.new (N:=0) (M:=0) fu.at' (mn fre.2.1) (mn fre.2.2.1) htp hl hkc hds lds nds).mono (J8 _) (J8 _);have nds7:∀dd∈m.ds,H7 dd=none:=λdd hdd=>mn (fre.2.2.2 dd hdd);obtain⟨rr5,e5⟩:=fu.g0;have bs5:Bs G:=λj hj=>by
  have:=NN j hj;rw[e5];exact LX this
 obtain⟨ka,ha1,_⟩:=fu.am;obtain⟨kb,hb1,_⟩:=fu.bx;refine k H8 mem m s8' ⟨⟨⟨fu8.at',fu8.ok,bs5,fu8.br,⟨fu8.n1,fu8.n2⟩,hp8,hR.same s8',ro,rz,hw⟩,λ_=>0,λe dd ed=>⟨[],hds dd (C9 ed),rfl,O8,λk hk=>nomatch hk⟩,C7 few (U3 _ _),[],hkc,J8 _⟩,fu8,λz=>?_,λz=>?_⟩ (λy hy=>?_) hmem8 (mn nmem) (λz=>nmd mem z rfl)
 ·rw[nds7 _ z]at ha1;cases ha1
 ·rw[nds7 _ z]at hb1;cases hb1
 ·rcases C1.mp hy with rfl|hy
  ·exact mn fre.2.1
  ·rcases C1.mp hy with rfl|hy
   ·exact mn fre.2.2.1
   ·exact nds7 y hy
end
section
variable{P:Program}{w:World}{K:PySem.W.Frag}{mg:Str->Option Value}{base:Heap}{a:Ad}
end
theorem RE{G r:Gv}(e0:G=G0++r)(ok:GOk G){m f:Nat}(hm:m<=46)(l:Ak G f ((m+2:Nat):Int)){x y:Int}(out:¬(-(2^m)<=x/\x<2^m/\-(2^m)<=y/\y<2^m))(lv:fieldF G (m+1) f x y≠0):Iz G (m+1) f:=by
 obtain⟨qs,ps,dp⟩:=Vm ok l;refine .inr ⟨m,qs,ps,rfl,dp,λba=>lv ?_⟩;unfold fieldF;split
 ·rename_i z;apply AZ;intro G_ hG_;obtain⟨z1,z2,z3,z4⟩:=z;apply hG_;clear hG_ G_;have hX:=Ec z1 z2;have hY:=Ec z3 z4;rw[JG dp hX hY];have ne:¬quad m ((x+2^(m+1)).toNat%2^(m+1)) ((y+2^(m+1)).toNat%2^(m+1))+quad (m+1) (x+2^(m+1)).toNat (y+2^(m+1)).toNat=3:=λq=>out ((mid_iff' (N3 A0) (N3 A0) hX hY).mp q);rw[ba _ _ (Ci hX hY) (Ci (J6 _ (AS _)) (J6 _ (AS _))) ne];exact DG e0 ok A0 (J6 _ (AS _)) (J6 _ (AS _))
 ·rfl
structure Fd(G:Gv)(n f:Nat):Prop where
 lev:Ak G f ((n+1:Nat):Int)
 tr:Iz G n f
 le:n<=40
section
variable{P:Program}{w:World}{K:PySem.W.Frag}{mg:Str->Option Value}{base:Heap}{a:Ad}
end
seal L2.PA L2.PE L2.PS L2.PSs L2.PT L2.PW
theorem CP.at4{G:Gv}{n i:Nat}{q:Sq}{a b c d:Nat}(h:CP G n i q a b c d){k:Nat}(hk:k<4):(q.parts.map V.int)[k]?=some (.int (f4 a b c d k:Nat)):=by
 rw[h.ps]
 match k,hk with
 |0,_=>rfl
 |1,_=>rfl
 |2,_=>rfl
 |3,_=>rfl
theorem cast4'{x y z w a b c d:Nat}(e:[(x:Int),(y:Int),(z:Int),(w:Int)]=[(a:Int),(b:Int),(c:Int),(d:Int)]):x=a/\y=b/\z=c/\w=d:=by
 injection e with e1 e
 injection e with e2 e
 injection e with e3 e
 injection e with e4 e
 exact⟨Z4 e1,Z4 e2,Z4 e3,Z4 e4⟩
def frM(g:GA)(kn:Addr):List Addr:=[g.lv,g.pt,g.nm,kn]
structure Mj(G:Gv)(n lo up m:Nat):Prop where
 lev:Ak G m (n:Int)
 cell:∀x y:Nat,x<2^n->y<2^n->cellF G n m x y=if cellF G n up x y=0 then cellF G n lo x y else cellF G n up x y
theorem Mj.app{G G':Gv}{k n lo up m:Nat}(ok:GOk G)(go:AH G G' k)(hl:Ak G lo (n:Int))(hu:Ak G up (n:Int))(h:Mj G n lo up m):Mj G' n lo up m:=⟨go.lev h.lev,λx y hx hy=>by rw[Ju ok go h.lev hx hy,Ju ok go hl hx hy,Ju ok go hu hx hy];exact h.cell x y hx hy⟩
theorem Mj.join{G:Gv}{n lo up m:Nat}{qi qo:Sq}{i0 i1 i2 i3 o0 o1 o2 o3:Nat}{ms:Nat->Nat}(ni:CP G n lo qi i0 i1 i2 i3)(no:CP G n up qo o0 o1 o2 o3)
  (h:∀k,k<4->Mj G n (f4 i0 i1 i2 i3 k) (f4 o0 o1 o2 o3 k) (ms k))
  (em:G[m]?=some ⟨[(ms 0:Int),(ms 1:Int),(ms 2:Int),(ms 3:Int)],(n:Int)+1⟩):Mj G (n+1) lo up m:=by
 have nm:CP G n m _ (ms 0) (ms 1) (ms 2) (ms 3):=⟨em,rfl,rfl,(h 0 A4).lev,(h 1 A4).lev,(h 2 A4).lev,(h 3 A4).lev⟩
 refine⟨⟨_,em,by show(n:Int)+1=_;lia⟩,λx y hx hy=>?_⟩;have q4:=Ci hx hy;have c:=(h _ q4).cell (x%2^n) (y%2^n) (J6 _ (AS n)) (J6 _ (AS n));have f:f4 (ms 0) (ms 1) (ms 2) (ms 3) (quad n x y)=ms (quad n x y):=by
  match quad n x y,q4 with
  |0,_=>rfl
  |1,_=>rfl
  |2,_=>rfl
  |3,_=>rfl
 rw[Bb nm hx hy,f,c,Bb ni hx hy,Bb no hx hy]
def Trv(n lo up:Nat):Prop:=up=bareN n\/lo=bareN n\/n=0
def JM(G:Gv)(Ps:List (Nat×Nat)):Prop:=∀p∈Ps,∃(n:Nat)(q q':Sq)(a b c d a' b' c' d':Nat),CP G n p.1 q a b c d/\CP G n p.2 q' a' b' c' d'/\∀k,k<4->Trv n (f4 a b c d k) (f4 a' b' c' d' k)\/(f4 a b c d k,f4 a' b' c' d' k)∈Ps
theorem JM.app{G G':Gv}{k:Nat}{Ps:List (Nat×Nat)}(go:AH G G' k)(h:JM G Ps):JM G' Ps:=λp hp=>by
 obtain⟨n,q,q',a,b,c,d,a',b',c',d',h1,h2,h3⟩:=h p hp;exact⟨n,q,q',a,b,c,d,a',b',c',d',h1.app go,h2.app go,h3⟩
theorem CP.same4{G:Gv}{n m i:Nat}{q q':Sq}{a b c d a' b' c' d':Nat}(h:CP G n i q a b c d)(h':CP G m i q' a' b' c' d'):n=m/\a=a'/\b=b'/\c=c'/\d=d':=by
 have e:q=q':=Z5 (h.g.symm.trans h'.g);subst e;obtain⟨e1,e2,e3,e4⟩:=cast4' (h.ps.symm.trans h'.ps);have l1:=h.lev;have l2:=h'.lev;exact⟨by lia,e1,e2,e3,e4⟩
theorem JM.get{G:Gv}{Ps:List (Nat×Nat)}(h:JM G Ps){n lo up:Nat}{q q':Sq}{a b c d a' b' c' d':Nat}(hp:(lo,up)∈Ps)(n1:CP G n lo q a b c d)(n2:CP G n up q' a' b' c' d'){k:Nat}(hk:k<4):Trv n (f4 a b c d k) (f4 a' b' c' d' k)\/(f4 a b c d k,f4 a' b' c' d' k)∈Ps:=by
 obtain⟨m,_,_,_,_,_,_,_,_,_,_,h1,h2,h3⟩:=h _ hp;obtain⟨rfl,rfl,rfl,rfl,rfl⟩:=n1.same4 h1;obtain⟨_,rfl,rfl,rfl,rfl⟩:=n2.same4 h2;exact h3 k hk
structure LEnt(G:Gv)(Ps:List (Nat×Nat))(p:List Key×V)(n lo up m:Nat):Prop where
 e:p=(kOf [(lo:Int),(up:Int)],.int m)
 mem:(lo,up)∈Ps
 ll:Ak G lo (n:Int)
 lu:Ak G up (n:Int)
 lc:Mj G n lo up m
structure LOk(G:Gv)(Ps:List (Nat×Nat))(kvs:List (List Key×V)):Prop where
 nd:(kvs.map (·.1)).Nodup
 val:∀p∈kvs,∃n lo up m,LEnt G Ps p n lo up m
theorem lok0(G:Gv)(Ps:List (Nat×Nat)):LOk G Ps []:=⟨O8,λp hp=>by simp at hp⟩
theorem LOk.go{G G':Gv}{k:Nat}{Ps:List (Nat×Nat)}{kvs:List (List Key×V)}(ok:GOk G)(go:AH G G' k)(h:LOk G Ps kvs):LOk G' Ps kvs:=⟨h.nd,λp hp=>by
 obtain⟨n,lo,up,m,e⟩:=h.val p hp;exact⟨n,lo,up,m,e.e,e.mem,go.lev e.ll,go.lev e.lu,e.lc.app ok go e.ll e.lu⟩⟩
theorem SK{a b c d:Nat}(e:kOf [(a:Int),(b:Int)]=kOf [(c:Int),(d:Int)]):a=c/\b=d:=by
 have e:=JC e;injection e with e1 e
 injection e with e2 _
 exact⟨Z4 e1,Z4 e2⟩
theorem RB{k:List Key}{v:V}:∀{l:List (List Key×V)},Br l k=some v->(k,v)∈l
 |[],h=>by cases h
 |p::r,h=>by
  by_cases e:p.1=k
  ·rw[BF e]at h;cases h;rw[<-e];exact C3
  ·rw[Bq e]at h;exact C2 _ (RB h)
theorem LOk.put{G:Gv}{Ps:List (Nat×Nat)}{kvs:List (List Key×V)}{n lo up m:Nat}(h:LOk G Ps kvs)(en:LEnt G Ps (kOf [(lo:Int),(up:Int)],.int m) n lo up m)(no:Br kvs (kOf [(lo:Int),(up:Int)])=none):LOk G Ps (DI kvs (kOf [(lo:Int),(up:Int)]) (.int m))/\(DI kvs (kOf [(lo:Int),(up:Int)]) (.int m)).length=kvs.length+1:=by
 have nd:=nd_putK (.int m) h.nd no;rw[GD _ no]at nd⊢;refine⟨⟨nd,λp hp=>?_⟩,by rw[C4];rfl⟩;rcases F0.mp hp with z|z
 ·exact h.val p z
 ·rw[D4]at z;subst z;exact⟨n,lo,up,m,en⟩
def codeL(Ps:List (Nat×Nat))(k:List Key):Nat:=match k with
 |[.inl a,.inl b]=>Ps.idxOf (a.toNat,b.toNat)
 |_=>0
theorem LOk.len{G:Gv}{Ps:List (Nat×Nat)}{kvs:List (List Key×V)}(h:LOk G Ps kvs):kvs.length<=Ps.length:=by
 have:=JE Ps.length ((kvs.map (·.1)).map (codeL Ps)) (by
  rw[M7,W6];refine A2h (λ{x y} hx hy hne z=>hne ?_) (M7.mp h.nd);obtain⟨p,hp,rfl⟩:=D5.mp hx;obtain⟨p',hp',rfl⟩:=D5.mp hy;obtain⟨n,lo,up,m,e⟩:=h.val p hp;obtain⟨n',lo',up',m',e'⟩:=h.val p' hp';have e1:=e.e;have e2:=e'.e;subst e1 e2;have z:Ps.idxOf (lo,up)=Ps.idxOf (lo',up'):=z;have a1:=List.getElem_idxOf (O1 e.mem);have a2:=List.getElem_idxOf (O1 e'.mem);have:Ps[Ps.idxOf (lo,up)]?=Ps[Ps.idxOf (lo',up')]?:=by rw[z]
  rw[C5 (O1 e.mem),C5 (O1 e'.mem),a1,a2]at this;have:=Z5 this;injection this with h1 h2
  rw[h1,h2]) (λx hx=>by
  obtain⟨y,hy,rfl⟩:=D5.mp hx;obtain⟨p,hp,rfl⟩:=D5.mp hy;obtain⟨n,lo,up,m,e⟩:=h.val p hp;have e1:=e.e;subst e1;exact O1 e.mem)
 rw[B6,B6]at this;exact this
def UnL(G:Gv)(N:Nat)(kvs kvs':List (List Key×V)):Prop:=∀(lo up N':Nat),Ak G up (N':Int)->N<N'->Br kvs (kOf [(lo:Int),(up:Int)])=none->Br kvs' (kOf [(lo:Int),(up:Int)])=none
theorem UnL.refl(G:Gv)(N:Nat)(kvs:List (List Key×V)):UnL G N kvs kvs:=λ_ _ _ _ _ h=>h
theorem UnL.trans{G G':Gv}{k N:Nat}{a b c:List (List Key×V)}(go:AH G G' k)(h:UnL G N a b)(h2:UnL G' N b c):UnL G N a c:=λlo up N' h1 hl z=>h2 lo up N' (go.lev h1) hl (h lo up N' h1 hl z)
section
variable{P:Program}{w:World}{K:PySem.W.Frag}{mg:Str->Option Value}{base:Heap}{a:Ad}
inductive SpLQ(a:Ad)(n:Nat)(vs:List V)(H:Hp)(Q:VK):Prop
 |mk (g:GA) (G:Gv) (Ps:List (Nat×Nat)) (kn ti tu:Addr) (kvs:List (List Key×V)) (lo up N:Nat) (qi qo:Sq) (i0 i1 i2 i3 o0 o1 o2 o3:Nat) (_:vs=[.ref g.p,.ref ti,.ref tu,.ref kn]) (_:AX a H g G) (_:H kn=some (.dT kvs)) (_:kn∉EO g) (_:H ti=some (.tup (qi.parts.map V.int))) (_:H tu=some (.tup (qo.parts.map V.int))) (_:CP G N lo qi i0 i1 i2 i3) (_:CP G N up qo o0 o1 o2 o3) (_:LOk G Ps kvs) (_:JM G Ps) (_:(lo,up)∈Ps) (_:N<n) (_:N<=47) (_:G.length+Ps.length<8000000+kvs.length/\Ps.length<4000000) (_:∀(ms:Nat->Nat)(tm:Addr)(G':Gv)(kvs':List (List Key×V))(H':Hp),Fx (frM g kn) H H'->AX a H' g G'->H' kn=some (.dT kvs')->LOk G' Ps kvs'->kvs.length<=kvs'.length->AH G G' (kvs'.length-kvs.length)->UnL G N kvs kvs'->H' tm=some (.tup [.int (ms 0:Nat),.int (ms 1:Nat),.int (ms 2:Nat),.int (ms 3:Nat)])->(∀k,k<4->Mj G' N (f4 i0 i1 i2 i3 k) (f4 o0 o1 o2 o3 k) (ms k))->Q (.ref tm) H'):SpLQ a n vs H Q
def spLQ(a:Ad)(n:Nat):Sp:=λvs H Q _=>SpLQ a n vs H Q
inductive SpLd(a:Ad)(n:Nat)(vs:List V)(H:Hp)(Q:VK):Prop
 |mk (g:GA) (G:Gv) (Ps:List (Nat×Nat)) (kn:Addr) (kvs:List (List Key×V)) (lo up N:Nat) (_:vs=[.ref g.p,.int lo,.int up,.ref kn]) (_:AX a H g G) (_:H kn=some (.dT kvs)) (_:kn∉EO g) (_:Ak G lo (N:Int)) (_:Ak G up (N:Int)) (_:LOk G Ps kvs) (_:JM G Ps) (_:Trv N lo up\/(lo,up)∈Ps) (_:N<n) (_:N<=48) (_:G.length+Ps.length<8000000+kvs.length/\Ps.length<4000000) (_:∀(m:Nat)(G':Gv)(kvs':List (List Key×V))(H':Hp),Fx (frM g kn) H H'->AX a H' g G'->H' kn=some (.dT kvs')->LOk G' Ps kvs'->kvs.length<=kvs'.length->AH G G' (kvs'.length-kvs.length)->UnL G N kvs kvs'->Mj G' N lo up m->Q (.int m) H'):SpLd a n vs H Q
def Yb(a:Ad)(n:Nat):Sp:=λvs H Q _=>SpLd a n vs H Q
theorem ok_ldS{n d:Nat}{f:Addr}{fd:FuncData}(F:Fun K "laid" "laid" QI f fd)(T:Top K mg a)(a6:BO P w K mg base CX0 2 a.c_Grove "linked" AQ (DK a))(hd:2<=d)(cO:Cal P w K mg base CX0 d "laid_quarters" Dr (spLQ a n)):AI P w K mg base CX0 (d+1) f fd MF (Yb a (n+1)):=by
 refine F.ok Jx (λvs H Q E h=>?_) (λcdv A outer s H vs Q E hr h=>?_)
 ·obtain⟨g,G,Ps,kn,kvs,lo,up,N,rfl,_⟩:=h;rfl
 ·obtain⟨g,G,Ps,kn,kvs,lo,up,N,rfl,fu,hk,nk,ll,lu,lok,pc,tr,Nn,N48,few,k⟩:=h;refine⟨_,(Ac (Aq (i:=4) Jx.nd rfl (Or.inl rfl) (Aj Ax (AB (pv 0) rfl) (pv 2) (λ_ _=>rfl))) (Ac (Aq (i:=5) Jx.nd rfl (Or.inl rfl) (Aj Ax (AB (pv 0) rfl) (pv 4) (λ_ _=>rfl))) (Ac (AM (Az Cb (pv 2) (pv 5) (AG _)) (Ag (Av (pv 1))) AC) (Ac (AM (PW.pt (MZ (Az Cb (pv 4) Ae (AG _)) (MZ (Az Cb (pv 1) (pv 5) (AG _)) (Lj (Az Cb (pv 1) (pv 2) (AG _)))))) (Ag (Av (pv 2))) AC) (Ac (Aq (i:=6) Jx.nd rfl (Or.inl rfl) (Ja (EG hr) (pv 3) (DW (Aa (pv 1) (Aa (pv 2) Ab))) ⟨rfl,rfl,rfl,rfl⟩)) (Ac (AM (Az Io (pv 6) Dh (AG _)) (Ac (Aq (i:=6) Jx.nd rfl (Or.inl rfl) (AF (pv 0) a6 (rm hr) Am (Aa (Ar cO (rm hr) rfl Am (Aa (pv 0) (Aa (Aj Ax (AB (pv 0) rfl) (pv 1) (λ_ _=>rfl)) (Aa (Aj Ax (AB (pv 0) rfl) (pv 2) (λ_ _=>rfl)) (Aa (pv 3) Ab))))) Ab))) (Ag (FW (EG hr) (pv 3) (DW (Aa (pv 1) (Aa (pv 2) Ab))) (pv 6) rfl))) AC) (Ag (Av (pv 6))))))))),?_⟩
  try dsimp only[cxK]
  obtain⟨r0,e0⟩:=fu.g0;have back:∀{m:Nat}{H':Hp},Ay H H'->Mj G N lo up m->Q (.int m) H':=λ{m H'} s' mx=>k m G kvs H' (Ay.fx s') (fu.same s') (s' _ _ hk) lok (C0 _) ((AH.refl fu.ok).mono A0) (UnL.refl _ _ _) mx;obtain⟨qu,eu,elu⟩:=id lu;refine⟨_,rfl,g.p,_,g.dx,_,_,rfl,fu.at'.hp,T.cl_Grove,T.na_Grove_levels,EQ g,_,rfl,g.lv,_,(up:Int),.int qu.lev,rfl,rfl,SqL.of fu.at'.lv,Ai (by rw[B8,eu];rfl),?_⟩;rw[elu];refine⟨_,rfl,g.p,_,g.dx,_,_,rfl,fu.at'.hp,T.cl_Grove,T.na_Grove_bares,Iu g,_,rfl,g.br,_,(N:Int),.int (bareN N:Int),rfl,rfl,SqL.of fu.br,Ai (bareL_at' N48),?_⟩;have natE:∀{x y:Nat},decide (V.int (x:Int)=V.int (y:Int))=true->x=y:=λ{x y} z=>by
   have z:=X6 z;injection z with z
   exact Z4 z
  refine⟨_,rfl,_,rfl,rfl,_,rfl,Fb (λz=>?_) (λz1=>?_)⟩
  ·have z:=natE z;subst z;exact⟨_,rfl,back (Ay.refl H) ⟨ll,λx y hx hy=>by rw[Y7 (DG e0 fu.ok N48 hx hy)]⟩⟩
  have nb:up≠bareN N:=λz=>z1 (by rw[z];exact Y5 rfl);refine⟨_,rfl,rfl,_,rfl,Fb (λz=>?_) (λz2=>?_)⟩
  ·have z:N=0:=natE (y:=0) z;subst z;refine Ce ⟨_,rfl,back (Ay.refl H) ⟨lu,λx y hx hy=>?_⟩⟩;have u0:cellF G 0 up x y≠0:=nb;rw[Y4 u0]
  have N0:N≠0:=λz=>z2 (by subst z;exact Y5 rfl);refine⟨_,rfl,_,rfl,rfl,_,rfl,Fb (λz=>?_) (λz3=>?_)⟩
  ·have z:=natE z;subst z;refine Ce ⟨_,rfl,back (Ay.refl H) ⟨lu,λx y hx hy=>?_⟩⟩;rw[DG e0 fu.ok N48 hx hy];split
   ·rename_i q;rw[q]
   ·rfl
  have lb:lo≠bareN N:=λz=>z3 (by rw[z];exact Y5 rfl);refine⟨_,rfl,_,rfl,rfl,_,rfl,Fb (λz=>?_) (λz4=>?_)⟩
  ·have z:=natE z;subst z;refine⟨_,rfl,back (Ay.refl H) ⟨lu,λx y hx hy=>?_⟩⟩;split<;>rfl
  have mem:(lo,up)∈Ps:=by
   rcases tr with (z|z|z)|z
   ·exact absurd z nb
   ·exact absurd z lb
   ·exact absurd z N0
   ·exact z
  obtain⟨M,rfl⟩:∃M,N=M+1:=⟨N-1,by lia⟩
  refine⟨_,rfl,kn,rfl,.inr ⟨kvs,.inl hk⟩,_,rfl,_,rfl,(by show 2<=sizeLine;decide),λtk htk=>?_⟩;have s1:=AK (o:=.tup [.int lo,.int up]) htk;have h1:upd H tk (.tup [.int lo,.int up]) tk=some (.tup ((kOf [(lo:Int),(up:Int)]).map kV)):=Af;show ∃_,_;generalize upd H tk (.tup [.int lo,.int up])=H1 at s1 h1⊢;have hk1:=s1 _ _ hk;refine⟨_,IB.t hk1 h1,?_⟩;cases ev:Br kvs (kOf [(lo:Int),(up:Int)])with
  |some v =>
   obtain⟨n',lo',up',m,en⟩:=lok.val _ (RB ev);have e2:=en.e;injection e2 with e2 e3
   obtain⟨rfl,rfl⟩:=SK e2;subst e3;have:n'=M+1:=Z4 (en.lu.uniq lu);subst this;exact⟨_,rfl,rfl,_,rfl,Bo ⟨_,rfl,back s1 en.lc⟩⟩
  |none =>
   refine⟨_,rfl,rfl,_,rfl,Ce ?_⟩;obtain⟨qi,i0,i1,i2,i3,ni⟩:=Be fu.ok ll;obtain⟨qo,o0,o1,o2,o3,no⟩:=Be fu.ok lu;have fu1:=fu.same s1;obtain⟨ts,h3,h4⟩:=fu1.at'.pt;obtain⟨ti,eti,hti⟩:=PairedM.get h4 ni.g;have hti:H1 ti=some (.tup (qi.parts.map V.int)):=hti;obtain⟨tu,etu,htu⟩:=PairedM.get h4 no.g;have htu:H1 tu=some (.tup (qo.parts.map V.int)):=htu;refine⟨_,rfl,g.p,g.dx,_,rfl,fu1.at'.hp,BK g,?_⟩;refine⟨_,rfl,_,rfl,g.p,_,g.dx,_,_,rfl,fu1.at'.hp,T.cl_Grove,T.na_Grove_parts,Cf g,_,rfl,g.pt,_,(lo:Int),.ref ti,rfl,rfl,SqL.of h3,Ai (by rw[B8,eti];rfl),_,rfl,g.p,_,g.dx,_,_,rfl,fu1.at'.hp,T.cl_Grove,T.na_Grove_parts,Cf g,_,rfl,g.pt,_,(up:Int),.ref tu,rfl,rfl,SqL.of h3,Ai (by rw[B8,etu];rfl),_,rfl,?_⟩;refine⟨g,G,Ps,kn,ti,tu,kvs,lo,up,M,qi,qo,i0,i1,i2,i3,o0,o1,o2,o3,rfl,fu1,hk1,nk,hti,htu,ni,no,lok,pc,mem,by lia,by lia,few,λms tm G2 kvs2 H2 x2 fu2 hk2 lok2 le2 go2 un2 htm lc=>?_⟩;have g2:=go2.few;have l2:=lok2.len;refine⟨g,G2,tm,ms 0,ms 1,ms 2,ms 3,(M:Int),rfl,fu2.at',fu2.ok,htm,⟨(lc 0 A4).lev,(lc 1 A4).lev,(lc 2 A4).lev,(lc 3 A4).lev⟩,by lia,by lia,λm G6 H6 fr6 hg6 go6 e6=>?_⟩;have x6:=fr6.fx fu2.at';have fu6:=fu2.fr fr6 hg6 go6;have kf:kn∉[g.lv,g.pt,g.nm]:=λz=>nk (by simp[EO]at *;lia);have hk6:=x6.get kf hk2;have lok6:=lok2.go fu2.ok go6;have lay:Mj G6 (M+1) lo up m:=Mj.join (ni.app (go2.trans go6)) (no.app (go2.trans go6)) (λx hx=>(lc x hx).app fu2.ok go6 (go2.lev (ni.nat hx).2) (go2.lev (no.nat hx).2)) e6;have no2:Br kvs2 (kOf [(lo:Int),(up:Int)])=none:=un2 lo up (M+1) lu A0 ev;refine⟨_,rfl,_,rfl,_,rfl,_,rfl,(by show 2<=sizeLine;decide),λt7 ht7=>?_⟩;have s7:=AK (o:=.tup [.int lo,.int up]) ht7;have h7:upd H6 t7 (.tup [.int lo,.int up]) t7=some (.tup ((kOf [(lo:Int),(up:Int)]).map kV)):=Af;show ∃_,_;generalize upd H6 t7 (.tup [.int lo,.int up])=H7 at s7 h7⊢;have hk7:=s7 _ _ hk6;refine⟨kn,_,rfl,Lx.t (k:=kOf [(lo:Int),(up:Int)]) hk7 h7 (FY A0),?_⟩;obtain⟨lok8,len8⟩:=lok6.put ⟨rfl,mem,(go2.trans go6).lev ll,(go2.trans go6).lev lu,lay⟩ no2;have x8:=fx_up (o':=.dT (DI kvs2 (kOf [(lo:Int),(up:Int)]) (.int m))) hk7 (λz=>z);have fu8:=(fu6.same s7).fx x8 (λy hy z=>nk (by rw[D4]at z;rw[<-z];exact hy));refine⟨_,rfl,k m G6 _ _ ((((Ay.fx s1).trans x2).trans (x6.mono (by simp[frM]))).trans ((Ay.fx s7).trans (x8.mono (by simp[frM])))) fu8 Af lok8 A0 ((go2.trans go6).mono A0) ?_ lay⟩;intro lo' up' N' hN hlt z;rw[IP,Y4]
   ·exact un2 lo' up' N' hN A0 z
   ·intro q;obtain⟨_,rfl⟩:=SK q;have:=Z4 (hN.uniq lu);lia
end
section
variable{P:Program}{w:World}{K:PySem.W.Frag}{mg:Str->Option Value}{base:Heap}{a:Ad}
theorem ok_lq{n d:Nat}{f:Addr}{fd:FuncData}(F:Fun K "laid_quarters" "laid_quarters" CG f fd)(T:Top K mg a)(cQ:Cal P w K mg base CX0 d "laid" MF (Yb a n)):AI P w K mg base CX0 (d+1) f fd Dr (spLQ a n):=by
 refine F.ok Mp (λvs H Q E h=>?_) (λcdv A outer s H vs Q E hr h=>?_)
 ·obtain⟨g,G,Ps,kn,ti,tu,kvs,lo,up,N,qi,qo,i0,i1,i2,i3,o0,o1,o2,o3,rfl,_⟩:=h;rfl
 ·obtain⟨g,G,Ps,kn,ti,tu,kvs,lo,up,N,qi,qo,i0,i1,i2,i3,o0,o1,o2,o3,rfl,fu,hk,nk,hti,htu,ni,no,lok,pc,mem,Nn,N47,⟨few,few2⟩,k⟩:=h;refine⟨_,(Ag (Av (BC BN rfl T.b_tuple X8 (Aa (BU rfl (Bw.of (So:=Ah CG) (No:=II) (N:=["lower","upper","grove","known"]) (k:=2) (cs:=[0,3]) rfl rfl A1) (Yp true true rfl T.b_zip (Aa (pv 1) (Aa (pv 2) Ab))) (λ_ _ _=>(Sh (i:=0) (j:=1) rfl A1 rfl rfl rfl rfl)) (λ_ _ _=>BE) (λ_ _ _=>(Ar cQ (rm hr) rfl Am (Aa (pv 2) (Aa (pv 0) (Aa (pv 1) (Aa (pv 3) Ab))))))) Ab)))),?_⟩
  try dsimp only[cxK]
  refine⟨_,rfl,_,rfl,ti,tu,rfl,⟨_,SqT.of hti⟩,⟨_,SqT.of htu⟩,?_⟩;have li:(qi.parts.map V.int).length=4:=by rw[ni.ps];rfl
  have lu:(qo.parts.map V.int).length=4:=by rw[no.ps];rfl
  refine Vq (xs:=qi.parts.map V.int) (ys:=qo.parts.map V.int) (λj acc H4=>∃(G4:Gv)(kvs4:List (List Key×V))(ms:Nat->Nat),acc=((List.range j).map λx=>V.int (ms x:Nat))/\Fx (frM g kn) H H4/\AX a H4 g G4/\H4 kn=some (.dT kvs4)/\LOk G4 Ps kvs4/\kvs.length<=kvs4.length/\AH G G4 (kvs4.length-kvs.length)/\UnL G N kvs kvs4/\∀x,x<j->x<4->Mj G4 N (f4 i0 i1 i2 i3 x) (f4 o0 o1 o2 o3 x) (ms x)) ⟨G,kvs,λ_=>0,rfl,Fx.refl _ H,fu,hk,lok,C0 _,(AH.refl fu.ok).mono A0,UnL.refl _ _ _,λx hx=>absurd hx (M0 _)⟩ (λj acc H4 z=>by obtain⟨_,_,_,_,x4,_⟩:=z;exact⟨SqT.of (x4.tup hti),SqT.of (x4.tup htu)⟩) ?_ ?_
  ·rintro j x y acc H4 T' ex ey ⟨G4,kvs4,ms,rfl,x4,fu4,hk4,lok4,le4,go4,un4,mx4⟩ nT;have hj:j<4:=by
    have:=(B7.mp ex).1;lia
   rw[ni.at4 hj]at ex;rw[no.at4 hj]at ey;cases ex;cases ey;have s5:=AK (o:=.tup [.int (f4 i0 i1 i2 i3 j:Nat),.int (f4 o0 o1 o2 o3 j:Nat)]) nT;refine PV Af ?_;generalize upd H4 T' (.tup [.int (f4 i0 i1 i2 i3 j:Nat),.int (f4 o0 o1 o2 o3 j:Nat)])=H5 at s5⊢;have g4:=go4.few;refine⟨⟨[some (.int (f4 i0 i1 i2 i3 j:Nat)),some (.int (f4 o0 o1 o2 o3 j:Nat))],rfl,rfl⟩,by rw[B6,M6];exact FY A0,Gb ⟨_,rfl,_,rfl,_,rfl,_,rfl,?_⟩⟩;refine⟨g,G4,Ps,kn,kvs4,f4 i0 i1 i2 i3 j,f4 o0 o1 o2 o3 j,N,rfl,fu4.same s5,s5 _ _ hk4,nk,go4.lev (ni.nat hj).2,go4.lev (no.nat hj).2,lok4,pc.app go4,pc.get mem ni no hj,Nn,by lia,⟨by lia,few2⟩,λm G6 kvs6 H6 x6 fu6 hk6 lok6 le6 go6 un6 mx6=>?_⟩;refine⟨G6,kvs6,λx=>if x=j then m else ms x,?_,(x4.trans (Ay.fx s5)).trans x6,fu6,hk6,lok6,by lia,(go4.trans go6).mono A0,un4.trans go4 un6,λx hx hx4=>?_⟩
   ·rw[R9,C6];congr 1
    ·exact List.map_congr_left λx hx=>by
      show V.int (ms x:Nat)=V.int ((if x=j then m else ms x:Nat):Int);rw[Y4 (by have:=L7.mp hx;lia)]
    ·show [V.int m]=[V.int ((if j=j then m else ms j:Nat):Int)]
     rw[Y7 rfl]
   ·dsimp only;by_cases z:x=j
    ·subst z;rw[Y7 rfl];exact mx6
    ·rw[Y4 z];exact(mx4 x A0 hx4).app fu4.ok go6 (go4.lev (ni.nat hx4).2) (go4.lev (no.nat hx4).2)
  ·rintro acc H4 ⟨G4,kvs4,ms,rfl,x4,fu4,hk4,lok4,le4,go4,un4,mx4⟩ md hmd;rw[li,lu]at *
   have s5:=AK (o:=.lst ((List.range 4).map λx=>V.int (ms x:Nat))) hmd;refine⟨md,_,rfl,.inl ⟨SqL.of Af,λtl htl=>?_⟩⟩;have s6:=AK (o:=.tup [.int (ms 0:Nat),.int (ms 1:Nat),.int (ms 2:Nat),.int (ms 3:Nat)]) htl;exact k ms tl G4 kvs4 _ (x4.trans ((Ay.fx s5).trans (Ay.fx s6))) ((fu4.same s5).same s6) (s6 _ _ (s5 _ _ hk4)) lok4 le4 go4 un4 Af (λx hx=>mx4 x hx hx)
theorem ok_ld{f:Addr}{fd:FuncData}{f':Addr}{fd':FuncData}(F:Fun K "laid" "laid" QI f fd)(F':Fun K "laid_quarters" "laid_quarters" CG f' fd')(T:Top K mg a)(hm:mg "laid" = some (.ref f))(Bi:Cs K fd MF [])(hm':mg "laid_quarters" = some (.ref f'))(Bi':Cs K fd' Dr [])(a6:BO P w K mg base CX0 2 a.c_Grove "linked" AQ (DK a)):∀n,AI P w K mg base CX0 (2*n+2) f fd MF (Yb a n)
 |0=>by
  refine F.ok Jx (λvs H Q E h=>?_) (λcdv A outer s H vs Q E hr h=>?_)
  ·obtain⟨g,G,Ps,kn,kvs,lo,up,N,rfl,_,_,_,_,_,_,_,_,h0,_⟩:=h;exact absurd h0 (M0 _)
  ·obtain⟨g,G,Ps,kn,kvs,lo,up,N,rfl,_,_,_,_,_,_,_,_,h0,_⟩:=h;exact absurd h0 (M0 _)
 |n+1=>ok_ldS F T a6 A0 ⟨f',fd',ok_lq (d:=2*n+2) F' T ⟨f,fd,ok_ld F F' T hm Bi hm' Bi' a6 n,hm,F.kp,Bi⟩,hm',F'.kp,Bi'⟩
end
end J
namespace J
open PySem L2
theorem cnt_pos{G r:Gv}(e0:G=G0++r)(ok:GOk G){n i:Nat}(hn:n<=48)(h:Ak G i (n:Int))(ne:i≠bareN n):1<=Bj G n i:=by
 have nn:=CO G n i;have:Bj G n i≠0:=λz=>ne ((GL ok e0 n i hn h).mp ((JI ok n i h).mpr z));lia
def CM(φ ψ:Int->Int->Nat)(u v:Int):Nat:=if ψ u v=0 then φ u v else ψ u v
theorem Wj{G:Gv}{n lo up m:Nat}(h:Mj G (n+1) lo up m)(u v:Int):fieldF G n m u v=CM (fieldF G n lo) (fieldF G n up) u v:=by
 unfold CM fieldF;by_cases z:-(2^n)<=u/\u<2^n/\-(2^n)<=v/\v<2^n
 ·rw[Y7 z,Y7 z,Y7 z];exact h.cell _ _ (Ec z.1 z.2.1) (Ec z.2.2.1 z.2.2.2)
 ·rw[Y4 z,Y4 z,Y4 z];rfl
theorem JM.cons{G:Gv}{Ps:List (Nat×Nat)}(h:JM G Ps){n lo up a b c d a' b' c' d':Nat}{q q':Sq}(n1:CP G n lo q a b c d)(n2:CP G n up q' a' b' c' d')(hq:∀k,k<4->Trv n (f4 a b c d k) (f4 a' b' c' d' k)\/(f4 a b c d k,f4 a' b' c' d' k)∈Ps):JM G ((lo,up)::Ps):=λp hp=>by
 rcases C1.mp hp with rfl|z
 ·exact⟨n,q,q',a,b,c,d,a',b',c',d',n1,n2,λk hk=>(hq k hk).imp id (C2 _)⟩
 ·obtain⟨n,q,q',a,b,c,d,a',b',c',d',h1,h2,h3⟩:=h p z;exact⟨n,q,q',a,b,c,d,a',b',c',d',h1,h2,λk hk=>(h3 k hk).imp id (C2 _)⟩
theorem JM.append{G:Gv}{Ps Qs:List (Nat×Nat)}(h:JM G Ps)(h':JM G Qs):JM G (Ps++Qs):=λp hp=>by
 rcases F0.mp hp with z|z
 ·obtain⟨n,q,q',a,b,c,d,a',b',c',d',h1,h2,h3⟩:=h p z;exact⟨n,q,q',a,b,c,d,a',b',c',d',h1,h2,λk hk=>(h3 k hk).imp id λy=>F0.mpr (.inl y)⟩
 ·obtain⟨n,q,q',a,b,c,d,a',b',c',d',h1,h2,h3⟩:=h' p z;exact⟨n,q,q',a,b,c,d,a',b',c',d',h1,h2,λk hk=>(h3 k hk).imp id λy=>F0.mpr (.inr y)⟩
structure PEx(G:Gv)(N lo up M:Nat):Prop where
 ex:∃Ps:List (Nat×Nat),JM G Ps/\(Trv N lo up\/(lo,up)∈Ps)/\Ps.length<=M
theorem PEx.mono{G:Gv}{N lo up M M':Nat}(h:PEx G N lo up M)(e:M<=M'):PEx G N lo up M':=by
 obtain⟨Ps,h1,h2,h3⟩:=h.ex;exact⟨Ps,h1,h2,by lia⟩
def PairsM(G:Gv)(n1 lo n2 up M:Nat):Prop:=∀(G':Gv)(k k1 k2 wl wu:Nat),AH G G' k->GOk G'->(∃r,G'=G0++r)->Lw G' n1 lo k1 wl->Lw G' n2 up k2 wu->n1+k1=n2+k2->n1+k1<=40->Ak G' wl ((n1+k1+1:Nat):Int)->Ak G' wu ((n1+k1+1:Nat):Int)->PEx G' (n1+k1+1) wl wu M
theorem Yo{G r:Gv}(e0:G=G0++r)(ok:GOk G):∀{n lo up:Nat},n<=48->Ak G lo (n:Int)->Ak G up (n:Int)->PEx G n lo up (n*(Bj G n lo).toNat)
 |0,lo,up,_,_,_=>⟨[],λp hp=>(nomatch hp),.inl (.inr (.inr rfl)),J8 _⟩
 |n+1,lo,up,hn,ll,lu=>by
  by_cases b1:up=bareN (n+1)
  ·exact⟨[],λp hp=>(nomatch hp),.inl (.inl b1),J8 _⟩
  by_cases b2:lo=bareN (n+1)
  ·exact⟨[],λp hp=>(nomatch hp),.inl (.inr (.inl b2)),J8 _⟩
  obtain⟨q,a,b,c,d,n1⟩:=Be ok ll;obtain⟨q',a',b',c',d',n2⟩:=Be ok lu;have ih:∀{k},k<4->PEx G n (f4 a b c d k) (f4 a' b' c' d' k) (n*(Bj G n (f4 a b c d k)).toNat):=λ{k} hk=>Yo e0 ok A0 (n1.nat hk).2 (n2.nat hk).2;obtain⟨P0,p0,m0,l0⟩:=(ih (k:=0) A4).ex;obtain⟨P1,p1,m1,l1⟩:=(ih (k:=1) A4).ex;obtain⟨P2,p2,m2,l2⟩:=(ih (k:=2) A4).ex;obtain⟨P3,p3,m3,l3⟩:=(ih (k:=3) A4).ex;have e:=Fe n1;have ea:=CO G n a;have eb:=CO G n b;have ec:=CO G n c;have ed:=CO G n d;have e:Bj G (n+1) lo=Bj G n a+(Bj G n b+(Bj G n c+(Bj G n d+0))):=e;have pos:=cnt_pos e0 ok hn ll b2;have l0:P0.length<=n*(Bj G n a).toNat:=l0;have l1:P1.length<=n*(Bj G n b).toNat:=l1;have l2:P2.length<=n*(Bj G n c).toNat:=l2;have l3:P3.length<=n*(Bj G n d).toNat:=l3;refine⟨(lo,up)::(P0++(P1++(P2++P3))),JM.cons (p0.append (p1.append (p2.append p3))) n1 n2 ?_,.inr C3,?_⟩
  ·intro k hk
   match k,hk with
   |0,_=>exact m0.imp id λy=>by simp[F0,y]
   |1,_=>exact m1.imp id λy=>by simp[F0,y]
   |2,_=>exact m2.imp id λy=>by simp[F0,y]
   |3,_=>exact m3.imp id λy=>by simp[F0,y]
  ·have s:(Bj G (n+1) lo).toNat=(Bj G n a).toNat+(Bj G n b).toNat+(Bj G n c).toNat+(Bj G n d).toNat:=by lia
   have s1:1<=(Bj G (n+1) lo).toNat:=by lia
   have s2:(n+1)*(Bj G (n+1) lo).toNat=n*(Bj G n a).toNat+n*(Bj G n b).toNat+n*(Bj G n c).toNat+n*(Bj G n d).toNat+(Bj G (n+1) lo).toNat:=by rw[Nat.add_mul,Nat.one_mul,<-Nat.mul_add,<-Nat.mul_add,<-Nat.mul_add,<-s]
   simp only[D8,C4];lia
theorem cnt_le{G:Gv}(ok:GOk G){n f:Nat}(l:Ak G f ((n+1:Nat):Int))(ps:List (Int×Int))(h:∀x y,fieldF G n f x y≠0->(x,y)∈ps):Bj G (n+1) f<=(ps.length:Int):=by
 rw[<-GH ok (x:=-(2^n)) (y:=-(2^n)) l];have:=Rg (λ(r:List Int)(q:Int×Int)=>r=[q.2,q.1,(fieldF G n f q.1 q.2:Int)]) (λr r' q e e'=>e.trans e'.symm) ps _ (Nb ok (x:=-(2^n)) (y:=-(2^n)) l) λr hr=>by
  obtain⟨x,y,ne,e⟩:=(We ok l).mp hr;exact⟨(x,y),h x y ne,e⟩
 lia
def bxP(X Y:Int)(W D:Nat):List (Int×Int):=(List.range W).flatMap λi:Nat=>(List.range D).map λj:Nat=>(X+(i:Int),Y+(j:Int))
theorem Rr(X Y:Int)(W D:Nat):(bxP X Y W D).length<=W*D:=by
 have:=Mb (λi:Nat=>(List.range D).map λj:Nat=>(X+(i:Int),Y+(j:Int))) D (List.range W) λi _=>by rw[B6,M6];exact C0 _
 rw[M6]at this;exact this
theorem NP{X Y x y:Int}{W D:Nat}(h:X<=x/\x<X+W/\Y<=y/\y<Y+D):(x,y)∈bxP X Y W D:=R5.mpr ⟨(x-X).toNat,L7.mpr A0,D5.mpr ⟨(y-Y).toNat,L7.mpr A0,by rw[show X+(((x-X).toNat:Nat):Int)=x by lia,show Y+(((y-Y).toNat:Nat):Int)=y by lia]⟩⟩
theorem lay_prs{G:Gv}{n1 n2 lo up:Nat}{ps:List (Int×Int)}(ok:GOk G)(ll:Ak G lo ((n1+1:Nat):Int))(h:∀x y,fieldF G n1 lo x y≠0->(x,y)∈ps):PairsM G n1 lo n2 up (41*ps.length):=λG' k k1 k2 wl wu go ok' g0 w1 w2 e le l1 l2=>by
 obtain⟨r',e0⟩:=g0;have fw:∀x y,fieldF G' (n1+k1) wl x y=fieldF G n1 lo x y:=λx y=>by
  rw[Ef e0 ok' A0 w1,DE ok go ll]
 have c:=cnt_le ok' l1 ps λx y z=>h x y (by rw[<-fw];exact z);refine(Yo e0 ok' A0 l1 l2).mono ?_;have:(Bj G' (n1+k1+1) wl).toNat<=ps.length:=by lia
 exact Nat.mul_le_mul A0 this
seal L2.PA L2.PE L2.PS L2.PSs L2.PT L2.PW
section
variable{P:Program}{w:World}{K:PySem.W.Frag}{mg:Str->Option Value}{base:Heap}{a:Ad}
inductive SpLo(a:Ad)(vs:List V)(H:Hp)(Q:VK):Prop
 |mk (g:GA) (G:Gv) (lo up n1 n2 M:Nat) (_:vs=[.ref g.p,.int lo,.int up]) (_:AX a H g G) (_:Fd G n1 lo) (_:Fd G n2 up) (_:PairsM G n1 lo n2 up M) (_:M<3000000) (_:G.length+M<7800000) (_:∀(m n:Nat)(G':Gv)(H':Hp),Fr g H H'->AX a H' g G'->AH G G' (M+400)->Fd G' n m->(∀u v,fieldF G' n m u v=CM (fieldF G n1 lo) (fieldF G n2 up) u v)->Q (.int m) H'):SpLo a vs H Q
def spLo(a:Ad):Sp:=λvs H Q _=>SpLo a vs H Q
theorem lay_out{G r:Gv}(e0:G=G0++r)(ok:GOk G){N m:Nat}(hN:N<=40)(lm:Ak G m ((N+1:Nat):Int)){φ ψ:Int->Int->Nat}(h:∀u v,fieldF G N m u v=CM φ ψ u v)(out:∀M,N=M+1->∃x y:Int,¬(-(2^M)<=x/\x<2^M/\-(2^M)<=y/\y<2^M)/\(φ x y≠0\/ψ x y≠0)):Fd G N m:=by
 refine⟨lm,?_,hN⟩;cases N with
 |zero=>exact .inl rfl
 |succ M =>
  obtain⟨x,y,o,lv⟩:=out M rfl;refine RE e0 ok A0 lm o ?_;rw[h];unfold CM;split
  ·rename_i z;exact lv.resolve_right λq=>q z
  ·rename_i z;exact z
theorem ok_lo{f:Addr}{fd:FuncData}(F:Fun K "laid_over" "laid_over" IT f fd)(T:Top K mg a)(a7:BO P w K mg base CX0 3 a.c_Grove "level_of" AY (LA a))(aQ:Cal P w K mg base CX0 5 "widened_to" EX (spWT a))(cQ:Cal P w K mg base CX0 102 "laid" MF (Yb a 50)):AI P w K mg base CX0 103 f fd Jf (spLo a):=by
 refine F.ok LF (λvs H Q E h=>?_) (λcdv A outer s H vs Q E hr h=>?_)
 ·obtain⟨g,G,lo,up,n1,n2,M,rfl,_⟩:=h;rfl
 ·obtain⟨g,G,lo,up,n1,n2,M,rfl,fu,f1,f2,px,M3,few,k⟩:=h;refine⟨_,(Ac (Aq (i:=3) LF.nd rfl (Or.inl rfl) (AU (Wz rfl) rfl T.b_max A3e (Aa (AF (pv 0) a7 (rm hr) Am (Aa (pv 1) Ab)) (Aa (AF (pv 0) a7 (rm hr) Am (Aa (pv 2) Ab)) Ab)))) (Ag (Av (Ar cQ (rm hr) rfl Am (Aa (pv 0) (Aa (Ar aQ (rm hr) rfl Am (Aa (pv 0) (Aa (pv 1) (Aa (pv 3) Ab)))) (Aa (Ar aQ (rm hr) rfl Am (Aa (pv 0) (Aa (pv 2) (Aa (pv 3) Ab)))) (Aa LM Ab)))))))),?_⟩
  try dsimp only[cxK]
  obtain⟨q1,eq1,el1⟩:=id f1.lev;obtain⟨q2,eq2,el2⟩:=id f2.lev;obtain⟨N,k1,k2,e1,e2,hN,hz⟩:∃N k1 k2,n1+k1=N/\n2+k2=N/\N<=40/\(k1=0\/k2=0):=by
   have h1:=f1.le;have h2:=f2.le;rcases Nat.le_total n1 n2 with z|z
   ·exact⟨n2,n2-n1,0,by lia,by lia,by lia,.inr rfl⟩
   ·exact⟨n1,0,n1-n2,by lia,by lia,by lia,.inl rfl⟩
  refine⟨_,rfl,g.p,g.dx,_,rfl,fu.at'.hp,CV g,_,rfl,g,G,lo,q1,rfl,fu.at',eq1,_,rfl,g.p,g.dx,_,rfl,fu.at'.hp,CV g,_,rfl,g,G,up,q2,rfl,fu.at',eq2,_,_,rfl,?_⟩;have em:(if q2.lev > q1.lev then q2.lev else q1.lev)=((N+1:Nat):Int):=by
   split<;>lia
  rw[em];refine⟨_,rfl,_,rfl,_,rfl,_,rfl,g,G,lo,n1,k1,by rw[e1];rfl,fu,f1.lev,by lia,by lia,λwl G1 H1 fr1 fu1 go1 wi1 lw1=>?_⟩;have g1:=go1.few;refine⟨_,rfl,_,rfl,_,rfl,g,G1,up,n2,k2,by rw[e2];rfl,fu1,go1.lev f2.lev,by lia,by lia,λwu G2 H2 fr2 fu2 go2 wi2 lw2=>?_⟩;have g2:=go2.few;refine λkn hkn=>?_;have s4:=AK (o:=.dT []) hkn;have hk4:upd H2 kn (.dT []) kn=some (.dT []):=Af;generalize upd H2 kn (.dT [])=H4 at s4 hk4⊢;have fu4:=fu2.same s4;have nkn:H kn=none:=by
   cases e:H kn with
   |none=>rfl
   |some oo =>
    have z:kn=g.lv\/kn=g.pt\/kn=g.nm:=by
     refine Z2 λz=>?_;have q1:=fr1 _ _ e (λq=>z (.inl q)) (λq=>z (.inr (.inl q))) (λq=>z (.inr (.inr q)));have q2:=fr2 _ _ q1 (λq=>z (.inl q)) (λq=>z (.inr (.inl q))) (λq=>z (.inr (.inr q)));rw[q2]at hkn;cases hkn
    obtain⟨o1,e1⟩:=fu2.nw.s kn (by simp[EO];lia);rw[hkn]at e1;cases e1
  have kg:kn∉EO g:=λz=>by
   obtain⟨o1,e1⟩:=fu2.nw.s kn z;rw[hkn]at e1;cases e1
  have wi1':=wi1.app go2;have lw1':=go2.lev lw1;rw[e1]at lw1';rw[e2]at lw2;obtain⟨Ps,pc,tr,lP⟩:=(px G2 _ k1 k2 wl wu (go1.trans go2) fu2.ok fu2.g0 wi1' wi2 A0 A0 (by rw[e1];exact lw1') (by rw[e1];exact lw2)).ex;rw[e1]at tr;refine⟨g,G2,Ps,kn,[],wl,wu,N+1,rfl,fu4,hk4,kg,lw1',lw2,lok0 _ _,pc,tr,by lia,by lia,⟨by show _<8000000+0;lia,by lia⟩,λm G5 kvs5 H5 x5 fu5 na5 lok5 le5 go5 un5 mx5=>?_⟩;have l5:=lok5.len;obtain⟨r5,e5⟩:=fu5.g0;have go25:=go2.trans go5;have fe:∀u v,fieldF G5 N m u v=CM (fieldF G n1 lo) (fieldF G n2 up) u v:=λu v=>by
   rw[Wj mx5];unfold CM;have h1:fieldF G5 N wl u v=fieldF G n1 lo u v:=by
    have:=Ef e5 fu5.ok A0 (wi1'.app go5) u v;rw[e1]at this;rw[this,DE fu.ok (go1.trans go25) f1.lev]
   have h2:fieldF G5 N wu u v=fieldF G n2 up u v:=by
    have:=Ef e5 fu5.ok A0 (wi2.app go5) u v;rw[e2]at this;rw[this,DE fu.ok (go1.trans go25) f2.lev]
   rw[h1,h2]
  refine k m N G5 H5 ?_ fu5 ((go1.trans go25).mono (by show _<=_;simp only[P6]at *;lia)) (lay_out e5 fu5.ok hN mx5.lev fe λM' eM=>?_) fe
  ·intro bb oo e n1 n2 n3;have q2:=s4 _ _ (fr2 _ _ (fr1 _ _ e n1 n2 n3) n1 n2 n3);exact x5.get (b:=bb) (by
    simp only[frM,C1,D9,X7,A2e];exact⟨n1,n2,n3,λz=>by rw[z,nkn]at e;cases e⟩) q2
  ·obtain⟨r0,e0⟩:=fu.g0;rcases hz with z|z
   ·subst z;have:n1=M'+1:=by lia
    subst this;obtain⟨x,y,o,lv⟩:=Ly e0 fu.ok A0 f1.tr;exact⟨x,y,o,.inl lv⟩
   ·subst z;have:n2=M'+1:=by lia
    subst this;obtain⟨x,y,o,lv⟩:=Ly e0 fu.ok A0 f2.tr;exact⟨x,y,o,.inr lv⟩
end
theorem Jv.mono{Κ:KTy}{N N':Nat}(h:Jv Κ N)(e:N<=N'):Jv Κ N':=by
 obtain⟨M,h1,h2⟩:=h.ls;exact⟨⟨M,C7 h1 e,h2⟩,h.ext⟩
theorem Vl{r:AD}(re:CZ r 0 BV=0){φ ψ:Int->Int->Nat}{n:Nat}(far:∀x y u v s t,φ u v≠0->ψ s t≠0->x-n<=u->u<=x+n->x-n<=s->s<=x+n->y-n<=v->v<=y+n->y-n<=t->t<=y+n->False)(x y:Int):sFN r n (CM φ ψ) x y=CM (sFN r n φ) (sFN r n ψ) x y:=by
 by_cases z:∃s t,x-n<=s/\s<=x+n/\y-n<=t/\t<=y+n/\ψ s t≠0
 ·obtain⟨s,t,a1,a2,a3,a4,a5⟩:=z;have h1:∀u v,x-n<=u->u<=x+n->y-n<=v->v<=y+n->φ u v=0:=λu v b1 b2 b3 b4=>Z2 λq=>far x y u v s t q a5 b1 b2 a1 a2 b3 b4 a3 a4;have e1:sFN r n φ x y=0:=Z2 λq=>by
   obtain⟨u,v,b1,b2,b3,b4,b5⟩:=DV re q;exact b5 (h1 u v b1 b2 b3 b4)
  have e2:=ND r (φ:=CM φ ψ) (ψ:=ψ) (X:=0) (Y:=0) n x y λu v b1 b2 b3 b4=>by
   unfold CM;rw[N2,N2];split
   ·rename_i q;rw[q];exact h1 u v b1 b2 b3 b4
   ·rfl
  rw[e2,N2,N2];unfold CM;split
  ·rename_i q;rw[q,e1]
  ·rfl
 ·have h2:∀u v,x-n<=u->u<=x+n->y-n<=v->v<=y+n->ψ u v=0:=λu v b1 b2 b3 b4=>Z2 λq=>z ⟨u,v,b1,b2,b3,b4,q⟩;have e1:sFN r n ψ x y=0:=Z2 λq=>by
   obtain⟨u,v,b1,b2,b3,b4,b5⟩:=DV re q;exact b5 (h2 u v b1 b2 b3 b4)
  have e2:=ND r (φ:=CM φ ψ) (ψ:=φ) (X:=0) (Y:=0) n x y λu v b1 b2 b3 b4=>by
   unfold CM;rw[N2,N2,Y7 (h2 u v b1 b2 b3 b4)]
  rw[e2,N2,N2];unfold CM;rw[Y7 e1]
theorem SH{φ ψ:Int->Int->Nat}(h:∀x y,φ x y=0\/ψ x y=0)(x y:Int):CM φ ψ x y=CM ψ φ x y:=by
 unfold CM;rcases h x y with e|e
 ·rw[e];split
  ·rename_i q;rw[q];rfl
  ·rfl
 ·rw[e,Y7 rfl];split
  ·rename_i q;rw[q]
  ·rfl
theorem WS{ds:List Cl}{n:Nat}{x y:Int}(h:Dd ds n x y){u v:Int}(z:stC ds u v≠0):x<=u/\u<x+6/\y<=v/\v<y+3:=by
 rcases Ny ds u v with ⟨c,hc,e1,e2,_⟩|⟨_,e⟩
 ·subst e1;subst e2;exact(h.ok c hc).2
 ·exact absurd e z
def zB(g:GA)(m:MA):List Addr:=[g.br,m.l]++zL g m
structure Y6(a:Ad)(H0 Hd H:Hp)(g:GA)(G:Gv)(Κ:KTy)(N b:Nat)(p dx mem pr:Addr)(r:AD)(m:MA):Prop where
 zs:ZS a H g G Κ N b p dx mem pr r m
 sm:Ay H0 H
 sd:Ay H0 Hd
 nn:∀y∈zB g m,Hd y=none
section
variable{P:Program}{w:World}{K:PySem.W.Frag}{mg:Str->Option Value}{base:Heap}{a:Ad}{H0 Hd H H':Hp}{g:GA}{G G':Gv}{Κ:KTy}{N b i:Nat}{p dx mem pr:Addr}{r:AD}{m:MA}{Q:VK}
theorem Y6.n0(h:Y6 a H0 Hd H g G Κ N b p dx mem pr r m):∀y∈zL g m,H0 y=none:=λy hy=>Ay.noneN h.sd (h.nn y (F0.mpr (.inr hy)))
theorem Y6.frz(h:Y6 a H0 Hd H g G Κ N b p dx mem pr r m)(f:FrZ g m H H'):Ay H0 H':=Ay.fxn h.sm (f.fx h.zs) h.n0
theorem Y6.fr(h:Y6 a H0 Hd H g G Κ N b p dx mem pr r m)(f:Fr g H H')(fu:AX a H' g G')(go:AH G G' i):Y6 a H0 Hd H' g G' Κ N (b+i) p dx mem pr r m:=⟨h.zs.fr f fu go,h.frz (Fr.z f),h.sd,h.nn⟩
theorem Y6.mono{b':Nat}(h:Y6 a H0 Hd H g G Κ N b p dx mem pr r m)(e:b<=b'):Y6 a H0 Hd H g G Κ N b' p dx mem pr r m:=⟨h.zs.mono e,h.sm,h.sd,h.nn⟩
theorem Y6.frO{D:Addr}{kv:List (List Key×V)}{o:HO}(h:Y6 a H0 Hd H g G Κ N b p dx mem pr r m)(f:FrO D H H')(rd:Rd H D (.dT kv))(n0:H0 D=none)(hD:Hd D=some o):Y6 a H0 Hd H' g G Κ N b p dx mem pr r m:=by
 have fx:=f.fx rd;refine⟨h.zs.fx fx λx hx z=>?_,Ay.fxn h.sm fx λy hy=>(by rw[D4.mp hy];exact n0),h.sd,h.nn⟩;have:=h.nn x hx;rw[D4.mp z,hD]at this;cases this
theorem Y6.dict{D:Addr}{o o':HO}(h:Y6 a H0 Hd H g G Κ N b p dx mem pr r m)(f:FrZ g m H H')(hD:Hd D=some o)(e:H D=some o'):H' D=some o':=(f.fx h.zs).get (λz=>by
 have:=h.nn D (F0.mpr (.inr z));rw[hD]at this;cases this) e
theorem Y6.jump{φ:Int->Int->Nat}{f k:Nat}(h:Y6 a H0 Hd H g G Κ N b p dx mem pr r m)(fin:Jv Κ N)(cl:ClK r Κ)(ask:Ut Κ r φ k)(fv:Fv G f φ)(nr:Pr φ k)(few:b+12000+10*N<7900000)(kn:∀(d:Nat)(G':Gv)(H':Hp)(i:Nat),Y6 a H0 Hd H' g G' Κ N (b+12048) p dx mem pr r m->AH G G' i->Fv G' d (sFN r k φ)->Q (.int d) H'):ZU a [.ref p,.int (f:Int),.int (k:Int)] H Q :=
 ⟨p,dx,mem,pr,g,G,Κ,φ,N,b,r,m,f,k,rfl,h.zs,fin,cl,ask,fv,nr,few,λd G' H' i fz zs go fd=>kn d G' H' i ⟨zs,h.frz fz,h.sd,h.nn⟩ go fd⟩
theorem Y6.lay{φ ψ:Int->Int->Nat}{lo up:Nat}{ps:List (Int×Int)}(h:Y6 a H0 Hd H g G Κ N b p dx mem pr r m)(fin:Jv Κ N)(f1:Fv G lo φ)(f2:Fv G up ψ)(hp:∀x y,φ x y≠0->(x,y)∈ps)(lp:ps.length<=400)(few:b+20000+10*N<7700000)(kn:∀(d:Nat)(G':Gv)(H':Hp)(i:Nat),Y6 a H0 Hd H' g G' Κ N (b+17000) p dx mem pr r m->AH G G' i->Fv G' d (CM φ ψ)->Q (.int d) H'):SpLo a [.ref g.p,.int (lo:Int),.int (up:Int)] H Q:=by
 obtain⟨n1,a1,a2,a3,a4⟩:=f1.ex;obtain⟨n2,c1,c2,c3,c4⟩:=f2.ex;have sz:=h.zs.jz.sz fin;refine⟨g,G,lo,up,n1,n2,41*ps.length,rfl,h.zs.fu,⟨a2,a3,a1⟩,⟨c2,c3,c1⟩,lay_prs h.zs.fu.ok a2 (λx y z=>hp x y (by rw[<-a4];exact z)),by lia,by lia,λd n G' H' fr fu go fd e=>?_⟩;refine kn d G' H' _ ((h.fr fr fu go).mono A0) go ⟨n,fd.le,fd.lev,fd.tr,λx y=>?_⟩;rw[e];unfold CM;rw[a4,c4]
theorem Y6.fld{L:Addr}{ts:List Addr}{cs ds:List Cl}{n:Nat}{x y:Int}(h:Y6 a H0 Hd H g G Κ N b p dx mem pr r m)(fin:Jv Κ N)(hL:H L=some (.lst (ts.map V.ref)))(ap:Ap g L)(pr':Paired (Pw H) ts cs)(pm:cs.Perm ds)(dd:Dd ds n x y)(n40:n<=40)(few:b+10*N<6000000)(kn:∀(d:Nat)(G':Gv)(H':Hp)(i:Nat),FrZ g m H H'->Y6 a H0 Hd H' g G' Κ N (b+16000) p dx mem pr r m->AH G G' i->Fv G' d (stC ds)->Q (.int d) H'):VB a [.ref g.p,.ref L] H Q:=by
 have sz:=h.zs.jz.sz fin;have ln:=dd.len;exact fld_fv h.zs.fu hL ap pr' pm dd.dk (λc hc=>(dd.ok c hc).1.1) A0 A0 λd G' H' fr fu go fv=>kn d G' H' _ (Fr.z fr) (h.fr fr fu go) go fv
inductive SpGap(vs:List V)(H:Hp)(Q:VK):Prop
 |mk (c:Int) (_:vs=[.int c]) (_:∀v:Nat,v<2^37->Q (.int (v:Int)) H):SpGap vs H Q
def Yd:Sp:=λvs H Q _=>SpGap vs H Q
theorem ok_gap{f:Addr}{fd:FuncData}(F:Fun K "_law_gap" "_law_gap" Lh f fd)(T:Top K mg a):AI P w K mg base CX0 1 f fd Lo Yd:=by
 refine F.ok RY (λvs H Q E h=>?_) (λcdv A outer s H vs Q E hr h=>?_)
 ·obtain⟨c,rfl,_⟩:=h;rfl
 ·obtain⟨c,rfl,k⟩:=h;have k:∀v:Int,0<=v->v<2^37->Q (.int v) H:=λv h0 h1=>by
   have:=k v.toNat A0;rw[N3 h0]at this;exact this
  refine⟨_,(Ac (AM (Az Cb (AA Bd (pv 0) Ae) Ae (AG _)) (Ag (Av (AA Bd (AA Cy (pv 0) Ae) Ae))) AC) (Ac (AM (Az Cb (AA Bd (pv 0) Ae) Ae (AG _)) (Ag (Av (AA Bd (AA Cy (pv 0) Ae) (AA Tz Ae Ae)))) AC) (Ag (Av Ae)))),?_⟩
  try dsimp only[cxK]
  refine⟨_,rfl,_,_,rfl,rfl,B1,rfl,_,rfl,Fb (λ_=>?_) (λ_=>?_)⟩
  ·refine⟨_,rfl,_,_,rfl,rfl,⟨by decide,by decide⟩,_,_,rfl,rfl,(by show(0:Int)<9;decide),k _ ?_ ?_⟩
   ·exact V6 _ A4
   ·exact Int.lt_of_lt_of_le (S1 _ A4) A4
  ·refine⟨_,rfl,_,_,rfl,rfl,B1,rfl,_,rfl,Fb (λ_=>?_) (λ_=>?_)⟩
   ·refine⟨_,rfl,_,_,rfl,rfl,⟨by decide,by decide⟩,_,_,rfl,rfl,⟨by decide,by decide,by decide⟩,_,_,rfl,rfl,(by show(0:Int)<10^(11:Int).toNat;decide),k _ ?_ ?_⟩
    ·exact V6 _ A4
    ·exact Int.lt_of_lt_of_le (S1 _ A4) A4
   ·exact k 0 A4 A4
end
section
variable{P:Program}{w:World}{K:PySem.W.Frag}{mg:Str->Option Value}{base:Heap}{a:Ad}
theorem ng61:ng 4 4 6 3<=80000:=by decide +kernel
theorem ok_law{f:Addr}{fd:FuncData}(F:Fun K "law" "law" Yl f fd)(T:Top K mg a)(cW:Rz P w K mg base CX0 2 "Grove" a.c_Grove Im (QB a))(a9:Cal P w K mg base CX0 1 "_law_at" GF (Yi K))(b6:Cal P w K mg base CX0 4 "_law_clauses_by" Ea (spCs K))(cF:Cal P w K mg base CX0 2 "_law_text" Jh spTx)(cA:Cal P w K mg base CX0 8 "read_rule" Jc (spRR a))(bP:Cal P w K mg base CX0 1 "_law_base" Jj To)(bO:Cal P w K mg base CX0 2 "_law_heap" Ji (Tl K))(cJ:Cal P w K mg base CX0 1 "_law_gap" Lo Yd)(bC:Cal P w K mg base CX0 5 "_law_listed" Gp Ya)(bW:Cal P w K mg base CX0 56 "field_of" Ll (Ye a))(cV:Rz P w K mg base CX0 3 "Jumps" a.c_Jumps Ik (Qz a))(cD:Cal P w K mg base CX0 151 "jump" Ty (Yc a))(aZ:Cal P w K mg base CX0 103 "laid_over" Jf (spLo a)):AI P w K mg base CX0 152 f fd p_law (UJ K):=by
 refine F.ok Ct (λvs H Q E h=>?_) (λcdv A outer s H vs Q E hr h=>?_)
 ·obtain⟨l,ns,rfl,_⟩:=h;rfl
 ·obtain⟨l,ns,rfl,hS,hlen,kq⟩:=h;refine⟨_,(Ac (Aq (i:=1) Ct.nd rfl (Or.inl rfl) (Ar cA (rm hr) rfl Am (Aa (Ar cF (rm hr) rfl Am (Aa (Ar b6 (rm hr) rfl Am (Aa (pv 0) (AO (Bp Bd (Ar a9 (rm hr) rfl Am (Aa (pv 0) (AO Ab))) Ae Ab)))) Ab)) Ab))) (Ac (Aq (i:=2) Ct.nd rfl (Or.inl rfl) (AA Bd (Ar a9 (rm hr) rfl Am (Aa (pv 0) (AO Ab))) Ae)) (Ac (Aq (i:=3) Ct.nd rfl (Or.inl rfl) (Ar bP (rm hr) rfl Am (Aa (Ar a9 (rm hr) rfl Am (Aa (pv 0) (AO Ab))) Ab))) (Ac (Aq (i:=4) Ct.nd rfl (Or.inl rfl) (Ar bP (rm hr) rfl Am (Aa (Ar a9 (rm hr) rfl Am (Aa (pv 0) (AO Ab))) Ab))) (Ac (Aq (i:=5) Ct.nd rfl (Or.inl rfl) (Ar bO (rm hr) rfl Am (Aa (pv 0) (AO (Bp AL Ae (AA Bd (Ar a9 (rm hr) rfl Am (Aa (pv 0) (AO Ab))) Ae) (Aa (pv 3) (Aa (pv 4) Ab))))))) (Ac (Aq (i:=6) Ct.nd rfl (Or.inl rfl) (AA AL (AA Et Ae (pv 2)) (Ar cJ (rm hr) rfl Am (Aa (Ar a9 (rm hr) rfl Am (Aa (pv 0) (AO Ab))) Ab)))) (Ac (AM (Az Cb (AA Bd (AA Cy (Ar a9 (rm hr) rfl Am (Aa (pv 0) (AO Ab))) Ae) Ae) Ae (AG _)) (Ag (Aq (i:=3) Ct.nd rfl (Or.inl rfl) (AA AL (AA AL (pv 3) Ae) (pv 6)))) (Ag (Aq (i:=4) Ct.nd rfl (Or.inl rfl) (AA AL (AA AL (pv 4) Ae) (pv 6))))) (Ac (Aq (i:=7) Ct.nd rfl (Or.inl rfl) (Ar bO (rm hr) rfl Am (Aa (pv 0) (AO (Bp AL Ae (AA Bd (AA Cy (Ar a9 (rm hr) rfl Am (Aa (pv 0) (AO Ab))) Ae) Ae) (Aa (pv 3) (Aa (pv 4) Ab))))))) (Ac (Aq (i:=8) Ct.nd rfl (Or.inl rfl) (Yu cW (rm hr) rfl Am)) (Ac (Aq (i:=9) Ct.nd rfl (Or.inl rfl) (LO cV (rm hr) rfl Am (Aa (pv 8) (Aa (pv 1) Ab)))) (Ac (Aq (i:=10) Ct.nd rfl (Or.inl rfl) (Ar bW (rm hr) rfl Am (Aa (pv 8) (Aa (Ar bC (rm hr) rfl Am (Aa (pv 5) Ab)) Ab)))) (Ac (Aq (i:=11) Ct.nd rfl (Or.inl rfl) (Ar bW (rm hr) rfl Am (Aa (pv 8) (Aa (Ar bC (rm hr) rfl Am (Aa (pv 7) Ab)) Ab)))) (Ac (Aq (i:=12) Ct.nd rfl (Or.inl rfl) (Ar aZ (rm hr) rfl Am (Aa (pv 8) (Aa (pv 10) (Aa (pv 11) Ab))))) (Ac (AM (Az Cb (AA Bd (AA Cy (Ar a9 (rm hr) rfl Am (Aa (pv 0) (AO Ab))) Ae) Ae) Ae (AG _)) (Ac (Aq (i:=13) Ct.nd rfl (Or.inl rfl) (Ar cD (rm hr) rfl Am (Aa (pv 9) (Aa (pv 12) (Aa (pv 2) Ab))))) (Ag (Aq (i:=14) Ct.nd rfl (Or.inl rfl) (Ar aZ (rm hr) rfl Am (Aa (pv 8) (Aa (Ar cD (rm hr) rfl Am (Aa (pv 9) (Aa (pv 10) (Aa (pv 2) Ab)))) (Aa (Ar cD (rm hr) rfl Am (Aa (pv 9) (Aa (pv 11) (Aa (pv 2) Ab)))) Ab))))))) (Ac (Aq (i:=14) Ct.nd rfl (Or.inl rfl) (Ar aZ (rm hr) rfl Am (Aa (pv 8) (Aa (Ar cD (rm hr) rfl Am (Aa (pv 9) (Aa (pv 11) (Aa (pv 2) Ab)))) (Aa (Ar cD (rm hr) rfl Am (Aa (pv 9) (Aa (pv 10) (Aa (pv 2) Ab)))) Ab))))) (Ag (Aq (i:=13) Ct.nd rfl (Or.inl rfl) (Ar cD (rm hr) rfl Am (Aa (pv 9) (Aa (pv 12) (Aa (pv 2) Ab)))))))) (Ac (AM (PW.pt (MZ (El (Dw (AU GI rfl T.b_isinstance K1 (Aa (pv 13) (Aa (Jz (v:=.ty "int") rfl T.b_int A0c rfl) Ab))))) (Lj (Dw (AU GI rfl T.b_isinstance K1 (Aa (pv 13) (Aa (Jz (v:=.ty "bool") rfl T.b_bool PyProof.Rows.boot_bool rfl) Ab))))))) (Ag (Av Sj)) AC) (Ag (Av (Jb (DX Cb (pv 13) (pv 14) (AG _)) (Lk (DX Cb (Ar aZ (rm hr) rfl Am (Aa (pv 8) (Aa (pv 11) (Aa (pv 10) Ab)))) (pv 12) (AG _))))))))))))))))))))),?_⟩
  try dsimp only[cxK]
  refine BM ?_;intro r1 s1 k1 hk1 E1;refine⟨_,rfl,_,rfl,l,ns,8,rfl,hS,by decide,_,_,rfl,rfl,(by show(0:Int)<7;decide),l,ns,0,atN ns 8%7,rfl,hS,by decide,by lia,by lia,λqc r H1 s1' hr1 rok bz rl1 rl2=>?_⟩;refine⟨qc,r,rfl,hr1,rok,λH2 s2'=>?_⟩;refine⟨r,rfl,rok,bz,λpr H3 s3' hR=>?_⟩;refine hk1 ?_;have sH3:=(s1'.trans s2').trans s3';have hS3:=sH3.seq hS;clear s1' s2' s3' hr1;refine BM ?_;intro r2 s2 k2 hk2 E2;obtain⟨n,hn⟩:=F7 (V6 (atN ns 9) (by decide:(5:Int)≠0));have n5:n<5:=by have:=S1 (atN ns 9) (by decide:(0:Int)<5);lia
  refine⟨_,rfl,l,ns,9,rfl,hS3,by decide,_,_,rfl,rfl,(by show(0:Int)<5;decide),?_⟩;rw[show(λi j:Int=>V.int (i%j)) (atN ns 9) 5=V.int (n:Int)from X9 V.int hn];refine hk2 ?_;refine BM ?_;intro r3 s3 k3 hk3 E3;refine⟨_,rfl,l,ns,10,rfl,hS3,by decide,_,rfl,λlx x1 x2=>?_⟩;refine hk3 ?_;refine BM ?_;intro r4 s4 k4 hk4 E4;refine⟨_,rfl,l,ns,11,rfl,hS3,by decide,_,rfl,λly y1 y2=>?_⟩;refine hk4 ?_;refine BM ?_;intro r5 s5 k5 hk5 E5;obtain⟨m1,hm1⟩:=F7 (show 0<=1+atN ns 12%9 by lia);refine⟨_,rfl,_,rfl,l,ns,12,rfl,hS3,by decide,_,_,rfl,rfl,(by show(0:Int)<9;decide),_,_,rfl,rfl,_,rfl,_,rfl,l,ns,14,lx,ly,m1,by rw[<-hm1];rfl,hS3,by decide,by lia,by lia,by lia,by lia,by lia,λD1 ds1 H4 s4' nD1 hD1 dd1=>?_⟩;have hS4:=s4'.seq hS3;have m19:m1<=9:=by lia
  clear hm1;refine hk5 ?_;refine BM ?_;intro r6 s6 k6 hk6 E6;refine⟨_,rfl,_,_,rfl,rfl,.inl ⟨by decide,by decide⟩,_,rfl,l,ns,13,rfl,hS4,by decide,_,rfl,λgp gp37=>?_⟩;refine⟨_,_,rfl,rfl,?_⟩;refine hk6 ?_;refine BM ?_;intro r7 s7 k7 hk7 E7;apply SF (T:=k7) (fun σ' H5=>∃lx2 ly2:Int,σ'=[some (.ref l),some (.ref pr),some (.int (n:Int)),some (.int lx2),some (.int ly2),some (.ref D1),some (.int (2*(n:Int)+(gp:Int))),none,none,none,none,none,none,none,none]/\H5=H4/\((lx2=lx+6+(2*(n:Int)+gp)/\ly2=ly)\/(lx2=lx/\ly2=ly+3+(2*(n:Int)+gp))))
  ·intro rest;refine⟨_,rfl,l,ns,9,rfl,hS4,by decide,_,_,rfl,rfl,⟨by decide,by decide⟩,_,_,rfl,rfl,B5,rfl,_,rfl,Fb (λ_=>?_) (λ_=>?_)⟩
   ·exact⟨_,rfl,_,_,rfl,rfl,_,rfl,_,_,rfl,rfl,rest _ _ ⟨_,_,rfl,rfl,.inl ⟨rfl,rfl⟩⟩⟩
   ·exact⟨_,rfl,_,_,rfl,rfl,_,rfl,_,_,rfl,rfl,rest _ _ ⟨_,_,rfl,rfl,.inr ⟨rfl,rfl⟩⟩⟩
  ·rintro σ' H5 ⟨lx2,ly2,rfl,rfl,sep⟩;refine hk7 ?_;refine BM ?_;intro r8 s8 k8 hk8 E8;have bx2:-(2^38)<=lx2/\lx2<2^38+2^37+100/\-(2^38)<=ly2/\ly2<2^38+2^37+100:=by lia
   obtain⟨m2,hm2⟩:=F7 (show 0<=1+atN ns 12/9%9 by lia);refine⟨_,rfl,_,rfl,l,ns,12,rfl,hS4,by decide,_,_,rfl,rfl,⟨by decide,by decide⟩,_,_,rfl,rfl,(by show(0:Int)<9;decide),_,_,rfl,rfl,_,rfl,_,rfl,l,ns,23,lx2,ly2,m2,by rw[<-hm2];rfl,hS4,by decide,by lia,by lia,by lia,by lia,by lia,λD2 ds2 Hd s5' nD2 hD2 dd2=>?_⟩;have m29:m2<=9:=by lia
   clear hm2;have hDd:=s5' _ _ hD1;have hSd:=s5'.seq hS4;have sHd:=(sH3.trans s4').trans s5';have nD1H:H D1=none:=Ay.noneN sH3 nD1;have nD2H:H D2=none:=Ay.noneN (sH3.trans s4') nD2;have hRd:=(hR.same s4').same s5';have D12:D2≠D1:=λz=>by rw[z,hD1]at nD2;cases nD2
   clear hD1 hS4 hS3 sH3 hR;refine hk8 ?_;refine BM ?_;intro r9 s9 k9 hk9 E9;refine λx dx' nx ndx nex=>⟨x,dx',rfl,Af,λg H6 gp' N=>⟨rfl,?_⟩⟩
   have s6':Ay Hd H6:=λb o e=>N.kp b o (by rw[Au (Aw e nx),Au (Aw e ndx)];exact e) (gp'▸Aw e nx);subst gp';have fu6:=AX.new N;have ng:=N.none;clear N;refine hk9 ?_;refine BM ?_;intro r10 s10 k10 hk10 E10;generalize hφ1:stC ds1=φ1;generalize hφ2:stC ds2=φ2;have in1:∀{u v},φ1 u v≠0->lx<=u/\u<lx+6/\ly<=v/\v<ly+3:=λ{u v} z=>WS dd1 (by rw[hφ1];exact z);have in2:∀{u v},φ2 u v≠0->lx2<=u/\u<lx2+6/\ly2<=v/\v<ly2+3:=λ{u v} z=>WS dd2 (by rw[hφ2];exact z);have inB:InBx [φ1,φ2,CM φ1 φ2] 6 3 [(φ1,lx,ly),(φ2,lx2,ly2),(CM φ1 φ2,lx,ly),(CM φ1 φ2,lx2,ly2)]:=fun φ hφ u v z=>by
    simp only[C1,D9,X7]at hφ;rcases hφ with rfl|rfl|rfl
    ·exact⟨lx,ly,by simp,in1 z⟩
    ·exact⟨lx2,ly2,by simp,in2 z⟩
    ·by_cases q:φ2 u v=0
     ·exact⟨lx,ly,by simp,in1 (by unfold CM at z;rw[Y7 q]at z;exact z)⟩
     ·exact⟨lx2,ly2,by simp,in2 q⟩
   have fin:Jv (Kg r [φ1,φ2,CM φ1 φ2] 4) 80000:=(kg_fin bz inB).mono ng61;have cl:ClK r (Kg r [φ1,φ2,CM φ1 φ2] 4):=kg_cl rok bz _ _;refine⟨_,rfl,_,rfl,λp dxp np ndp nep=>jnew (Κ:=Kg r [φ1,φ2,CM φ1 φ2] 4) (N:=80000) (b:=1000) fu6 rok bz (hRd.same s6') np ndp nep (by rw[Uf];decide) λH8 mem m s8' zs8 fr8 _ _ _=>⟨rfl,?_⟩⟩;have Y8:Y6 a H Hd H8 g G0 (Kg r [φ1,φ2,CM φ1 φ2] 4) 80000 1000 p dxp mem pr r m:=⟨zs8,(sHd.trans s6').trans s8',sHd,λy hy=>by
    simp only[zB,zL,List.cons_append,List.nil_append,C1]at hy;rcases hy with rfl|rfl|rfl|rfl|rfl|rfl|rfl|rfl|hy
    ·exact ng _ (by simp[EO])
    ·exact Ay.noneN s6' (fr8 _ A6)
    ·exact ng _ (by simp[EO])
    ·exact ng _ (by simp[EO])
    ·exact ng _ (by simp[EO])
    ·exact ng _ (by simp[EO])
    ·exact ng _ (by simp[EO])
    ·exact Ay.noneN s6' (fr8 _ A6)
    ·exact Ay.noneN s6' (fr8 _ (by simp[hy]))⟩
   have hD18:=s8' _ _ (s6' _ _ hDd);have hD28:=s8' _ _ (s6' _ _ hD2);clear zs8 fr8 s8' s6' fu6 ng np ndp nep hRd inB;refine hk10 ?_;refine BM ?_;intro r11 s11 k11 hk11 E11;refine⟨_,rfl,_,rfl,D1,ds1,rfl,.inl hD18,dd1.nd,by have:=dd1.len;lia,λo1 L1 ts1 cs1 H9 fo1 _ nL1 hL1 pr1 pm1=>?_⟩;have Y9:=Y8.frO fo1 (.inl hD18) nD1H hDd;have hD29:=fo1 _ _ hD28 D12;refine Y9.fld fin hL1 (Ap.new Y8.zs.fu.at' nL1) pr1 pm1 dd1 A0 A0 λf1 G1 H10 i1 fz1 Y10 go1 fv1=>?_;have hD210:=Y9.dict fz1 hD2 hD29;rw[hφ1]at fv1;clear Y8 Y9 fo1 hD18 hD28 hD29 hL1 pr1 pm1 nL1 fz1;refine hk11 ?_;refine BM ?_;intro r12 s12 k12 hk12 E12;refine⟨_,rfl,_,rfl,D2,ds2,rfl,.inl hD210,dd2.nd,by have:=dd2.len;lia,λo2 L2 ts2 cs2 H11 fo2 _ nL2 hL2 pr2 pm2=>?_⟩;have Y11:=Y10.frO fo2 (.inl hD210) nD2H hD2;refine Y11.fld fin hL2 (Ap.new Y10.zs.fu.at' nL2) pr2 pm2 dd2 A0 A0 λf2 G2 H12 i2 fz2 Y12 go2 fv2=>?_;have fv1:=fv1.app Y10.zs.fu.ok go2;rw[hφ2]at fv2;clear Y10 Y11 fo2 hD210 hL2 pr2 pm2 nL2 fz2 go1 go2;have p1:∀x y,φ1 x y≠0->(x,y)∈bxP lx ly 6 3:=λx y z=>NP (in1 z);have p2:∀x y,φ2 x y≠0->(x,y)∈bxP lx2 ly2 6 3:=λx y z=>NP (in2 z);refine hk12 ?_;refine BM ?_;intro r13 s13 k13 hk13 E13;refine⟨_,rfl,_,rfl,_,rfl,Y12.lay fin fv1 fv2 p1 (C7 (Rr _ _ _ _) A4) A0 λfb G3 H13 i3 Y13 go3 fvb=>?_⟩;have fv1:=fv1.app Y12.zs.fu.ok go3;have fv2:=fv2.app Y12.zs.fu.ok go3;clear Y12 go3;refine hk13 ?_;refine BM ?_;intro r14 s14 k14 hk14 E14;have nr1:Pr φ1 n:=λx y z=>by have:=in1 z;lia
   have nr2:Pr φ2 n:=λx y z=>by have:=in2 z;lia
   have nrb:Pr (CM φ1 φ2) n:=λx y z=>by
    by_cases q:φ2 x y=0
    ·exact nr1 x y (by unfold CM at z;rw[Y7 q]at z;exact z)
    ·exact nr2 x y q
   have as1:Ut (Kg r [φ1,φ2,CM φ1 φ2] 4) r φ1 n:=Ua (t:=0) A6 A0;have as2:Ut (Kg r [φ1,φ2,CM φ1 φ2] 4) r φ2 n:=Ua (t:=0) A6 A0;have asb:Ut (Kg r [φ1,φ2,CM φ1 φ2] 4) r (CM φ1 φ2) n:=Ua (t:=0) (φ:=CM φ1 φ2) A6 A0;have gr1:∀{u v},sFN r n φ1 u v≠0->lx-4<=u/\u<lx+10/\ly-4<=v/\v<ly+7:=λ{u v} z=>by
    obtain⟨s,t,h1,h2,h3,h4,h5⟩:=DV bz z;have:=in1 h5;lia
   have gr2:∀{u v},sFN r n φ2 u v≠0->lx2-4<=u/\u<lx2+10/\ly2-4<=v/\v<ly2+7:=λ{u v} z=>by
    obtain⟨s,t,h1,h2,h3,h4,h5⟩:=DV bz z;have:=in2 h5;lia
   have q1:∀x y,sFN r n φ1 x y≠0->(x,y)∈bxP (lx-4) (ly-4) 14 11:=λx y z=>NP (by have:=gr1 z;lia);have q2:∀x y,sFN r n φ2 x y≠0->(x,y)∈bxP (lx2-4) (ly2-4) 14 11:=λx y z=>NP (by have:=gr2 z;lia);have far:∀x y u v s t,φ1 u v≠0->φ2 s t≠0->x-n<=u->u<=x+n->x-n<=s->s<=x+n->y-n<=v->v<=y+n->y-n<=t->t<=y+n->False:=λx y u v s t z1 z2 h1 h2 h3 h4 h5 h6 h7 h8=>by
    have:=in1 z1;have:=in2 z2;lia
   have ap0:∀x y,φ1 x y=0\/φ2 x y=0:=λx y=>Z2 λz=>by
    rw[A2e]at z;exact far x y x y x y z.1 z.2 A0 A0 A0 A0 A0 A0 A0 A0
   have apn:∀x y,sFN r n φ1 x y=0\/sFN r n φ2 x y=0:=λx y=>Z2 λz=>by
    rw[A2e]at z;obtain⟨u,v,h1,h2,h3,h4,h5⟩:=DV bz z.1;obtain⟨s,t,g1,g2,g3,g4,g5⟩:=DV bz z.2;exact far x y u v s t h5 g5 A0 A0 A0 A0 A0 A0 A0 A0
   have hSn:=Y13.sm.seq hS;have lq:∀X Y:Int,(bxP X Y 14 11).length<=400:=λX Y=>C7 (Rr _ _ _ _) A4;apply SF (T:=k14) (fun σ' H20=>∃(fd1:Nat)(G20:Gv),σ'=[some (.ref l),some (.ref pr),some (.int (n:Int)),some (.int lx2),some (.int ly2),some (.ref D1),some (.int (2*(n:Int)+(gp:Int))),some (.ref D2),some (.ref g.p),some (.ref p),some (.int (f1:Int)),some (.int (f2:Int)),some (.int (fb:Int)),some (.int (fd1:Int)),some (.int (fd1:Int))]/\Y6 a H Hd H20 g G20 (Kg r [φ1,φ2,CM φ1 φ2] 4) 80000 110000 p dxp mem pr r m/\Fv G20 f1 φ1/\Fv G20 f2 φ2/\Fv G20 fb (CM φ1 φ2))
   ·intro rest;refine⟨_,rfl,l,ns,12,rfl,hSn,by decide,_,_,rfl,rfl,⟨by decide,by decide⟩,_,_,rfl,rfl,B5,rfl,_,rfl,Fb (λ_=>?_) (λ_=>?_)⟩
    ·refine BM ?_;intro r15 s15 k15 hk15 E15;refine⟨_,rfl,_,rfl,_,rfl,Y13.jump fin cl asb fvb nrb A0 λdj G4 H14 i4 Y14 go4 fj=>?_⟩;have fv1:=fv1.app Y13.zs.fu.ok go4;have fv2:=fv2.app Y13.zs.fu.ok go4;have fvb:=fvb.app Y13.zs.fu.ok go4;refine hk15 ?_;refine⟨_,rfl,_,rfl,_,rfl,_,rfl,Y14.jump fin cl as1 fv1 nr1 A0 λd1 G5 H15 i5 Y15 go5 fj1=>?_⟩;have fv1:=fv1.app Y14.zs.fu.ok go5;have fv2:=fv2.app Y14.zs.fu.ok go5;have fvb:=fvb.app Y14.zs.fu.ok go5;have fj:=fj.app Y14.zs.fu.ok go5;refine⟨_,rfl,_,rfl,_,rfl,Y15.jump fin cl as2 fv2 nr2 A0 λd2 G6 H16 i6 Y16 go6 fj2=>?_⟩;have fv1:=fv1.app Y15.zs.fu.ok go6;have fv2:=fv2.app Y15.zs.fu.ok go6;have fvb:=fvb.app Y15.zs.fu.ok go6;have fj:=fj.app Y15.zs.fu.ok go6;have fj1:=fj1.app Y15.zs.fu.ok go6;refine Y16.lay fin fj1 fj2 q1 (lq _ _) A0 λdd G7 H17 i7 Y17 go7 fd'=>?_;have fj:=fj.app Y16.zs.fu.ok go7;obtain⟨rg,eg⟩:=Y17.zs.fu.g0;have e:dj=dd:=Fv.eq eg Y17.zs.fu.ok fj fd' (Vl bz far);subst e;exact rest _ _ ⟨dj,G7,rfl,Y17.mono A0,fv1.app Y16.zs.fu.ok go7,fv2.app Y16.zs.fu.ok go7,fvb.app Y16.zs.fu.ok go7⟩
    ·refine BM ?_;intro r15 s15 k15 hk15 E15;refine⟨_,rfl,_,rfl,_,rfl,_,rfl,Y13.jump fin cl as2 fv2 nr2 A0 λd2 G4 H14 i4 Y14 go4 fj2=>?_⟩;have fv1:=fv1.app Y13.zs.fu.ok go4;have fv2:=fv2.app Y13.zs.fu.ok go4;have fvb:=fvb.app Y13.zs.fu.ok go4;refine⟨_,rfl,_,rfl,_,rfl,Y14.jump fin cl as1 fv1 nr1 A0 λd1 G5 H15 i5 Y15 go5 fj1=>?_⟩;have fv1:=fv1.app Y14.zs.fu.ok go5;have fv2:=fv2.app Y14.zs.fu.ok go5;have fvb:=fvb.app Y14.zs.fu.ok go5;have fj2:=fj2.app Y14.zs.fu.ok go5;refine Y15.lay fin fj2 fj1 q2 (lq _ _) A0 λdd G6 H16 i6 Y16 go6 fd'=>?_;have fv1:=fv1.app Y15.zs.fu.ok go6;have fv2:=fv2.app Y15.zs.fu.ok go6;have fvb:=fvb.app Y15.zs.fu.ok go6;refine hk15 ?_;refine⟨_,rfl,_,rfl,_,rfl,Y16.jump fin cl asb fvb nrb A0 λdj G7 H17 i7 Y17 go7 fj=>?_⟩;have fd':=fd'.app Y16.zs.fu.ok go7;obtain⟨rg,eg⟩:=Y17.zs.fu.g0;have e:dj=dd:=Fv.eq eg Y17.zs.fu.ok fj fd' λx y=>by rw[Vl bz far,SH apn]
     subst e;exact rest _ _ ⟨dj,G7,rfl,Y17.mono A0,fv1.app Y16.zs.fu.ok go7,fv2.app Y16.zs.fu.ok go7,fvb.app Y16.zs.fu.ok go7⟩
   ·rintro σ' H20 ⟨fd1,G20,rfl,Y20,g1,g2,gb⟩;refine hk14 ?_;refine BM ?_;intro r16 s16 k16 hk16 E16;refine⟨_,rfl,_,_,_,.type "int",true,rfl,rfl,.of (.int (fd1:Int)),(Zf K).1,true,rfl,?_⟩;refine Bo ⟨_,rfl,_,_,_,.type "int",false,rfl,rfl,.of (.int (fd1:Int)),(Zf K).2,false,rfl,?_⟩;refine Bo (hk16 ?_);refine⟨_,rfl,_,rfl,rfl,_,rfl,?_⟩;rw[Y5 rfl];refine Ce ⟨_,rfl,_,rfl,_,rfl,Y20.lay fin g2 g1 p2 (C7 (Rr _ _ _ _) A4) A0 λfb2 G21 H21 i21 Y21 go21 fvc=>?_⟩;obtain⟨rg,eg⟩:=Y21.zs.fu.g0;have e:fb2=fb:=Fv.eq eg Y21.zs.fu.ok fvc (gb.app Y20.zs.fu.ok go21) λx y=>(SH ap0 x y).symm;subst e;refine⟨_,rfl,rfl,?_⟩;show Q (V.bl (decide (V.int (fb2:Int)=V.int (fb2:Int)))) H21;rw[Y5 rfl];exact kq H21
end
end J
namespace J
open PySem L2
theorem ar1{α:Type}:∀us:List α,us.length=1->∃a0,us=[a0]
 |[a0],_=>⟨a0,rfl⟩
theorem ar2{α:Type}:∀us:List α,us.length=2->∃a0 a1,us=[a0,a1]
 |[a0,a1],_=>⟨a0,a1,rfl⟩
theorem ar3{α:Type}:∀us:List α,us.length=3->∃a0 a1 a2,us=[a0,a1,a2]
 |[a0,a1,a2],_=>⟨a0,a1,a2,rfl⟩
theorem ar4{α:Type}:∀us:List α,us.length=4->∃a0 a1 a2 a3,us=[a0,a1,a2,a3]
 |[a0,a1,a2,a3],_=>⟨a0,a1,a2,a3,rfl⟩
theorem ar5{α:Type}:∀us:List α,us.length=5->∃a0 a1 a2 a3 a4,us=[a0,a1,a2,a3,a4]
 |[a0,a1,a2,a3,a4],_=>⟨a0,a1,a2,a3,a4,rfl⟩
structure Fg(K:PySem.W.Frag)(x:Str)(st:Stmt)(f:Addr)(fd:FuncData):Prop where
 at_:PySem.W.nsIn K mainGlobals x=some (some (.ref f))
 fn:Fun K x x st f fd
structure Fm(K:PySem.W.Frag)(C:Addr)(m q:Str)(st:Stmt)(f:Addr)(fd:FuncData):Prop where
 me:Pt K C m f
 fn:Fun K m q st f fd
structure Fi(K:PySem.W.Frag)(C:Addr)(q:Str)(st:Stmt)(f:Addr)(fd:FuncData):Prop where
 mk_:Mk K C f
 fn:Fun K "__init__" q st f fd
theorem bnd{K:PySem.W.Frag}{x q:Str}{st:Stmt}{f:Addr}{fd:FuncData}{ps:List Str}(F:Fun K x q st f fd)(h:∀(kV doc pm:Value)(an:Option Addr)(cdv ct:Value)(us:List Value),us.length=ps.length->bindArgs (PySem.W.fnOf x q (Mf st) (JF st) (Ah st) .none kV doc pm an cdv ct) ⟨us,[]⟩=pure (ps.zip us):=by intro _ _ _ _ _ _ us hl;first|(obtain⟨x0,rfl⟩:=ar1 us hl;exact rfl)|(obtain⟨x0,x1,rfl⟩:=ar2 us hl;exact rfl)|(obtain⟨x0,x1,x2,rfl⟩:=ar3 us hl;exact rfl)|(obtain⟨x0,x1,x2,x3,rfl⟩:=ar4 us hl;exact rfl)|(obtain⟨x0,x1,x2,x3,x4,rfl⟩:=ar5 us hl;exact rfl)):Cs K fd ps []:=F.binds h
theorem fin{l:PySem.W.OpenLaw}{w:World}{K:PySem.W.Frag}{h:Heap}{mg:Str->Option Value}{fa:Addr}(X:K.In h)(G:h.Ns mainGlobals mg)(hfa:mg "law" = some (.ref fa))
  {c_Amounts:Addr} {c_Places:Addr} {c_Clause:Addr} {c_Grove:Addr} {c_Rule:Addr} {c_Jumps:Addr} {f0:Addr} {d0:FuncData} {f1:Addr} {d1:FuncData} {f2:Addr} {d2:FuncData} {f3:Addr} {d3:FuncData} {f4:Addr} {d4:FuncData} {f5:Addr} {d5:FuncData} {f6:Addr} {d6:FuncData} {f7:Addr} {d7:FuncData} {f8:Addr} {d8:FuncData} {f9:Addr} {d9:FuncData} {f10:Addr} {d10:FuncData} {f11:Addr} {d11:FuncData} {f12:Addr} {d12:FuncData} {f13:Addr} {d13:FuncData} {f14:Addr} {d14:FuncData} {f15:Addr} {d15:FuncData} {f16:Addr} {d16:FuncData} {f17:Addr} {d17:FuncData} {f18:Addr} {d18:FuncData} {f19:Addr} {d19:FuncData} {f20:Addr} {d20:FuncData} {f21:Addr} {d21:FuncData} {f22:Addr} {d22:FuncData} {f23:Addr} {d23:FuncData} {f24:Addr} {d24:FuncData} {f25:Addr} {d25:FuncData} {f26:Addr} {d26:FuncData} {f27:Addr} {d27:FuncData} {f28:Addr} {d28:FuncData} {f29:Addr} {d29:FuncData} {f30:Addr} {d30:FuncData} {f31:Addr} {d31:FuncData} {f32:Addr} {d32:FuncData} {f33:Addr} {d33:FuncData} {f34:Addr} {d34:FuncData} {f35:Addr} {d35:FuncData} {f36:Addr} {d36:FuncData} {f37:Addr} {d37:FuncData} {f38:Addr} {d38:FuncData} {f39:Addr} {d39:FuncData} {f40:Addr} {d40:FuncData} {f41:Addr} {d41:FuncData} {f42:Addr} {d42:FuncData} {f43:Addr} {d43:FuncData} {f44:Addr} {d44:FuncData} {f45:Addr} {d45:FuncData} {f46:Addr} {d46:FuncData} {f47:Addr} {d47:FuncData} {f48:Addr} {d48:FuncData} {f49:Addr} {d49:FuncData} {f50:Addr} {d50:FuncData} {f51:Addr} {d51:FuncData} {f52:Addr} {d52:FuncData} {f53:Addr} {d53:FuncData} {f54:Addr} {d54:FuncData} {f55:Addr} {d55:FuncData} {f56:Addr} {d56:FuncData} {f58:Addr} {d58:FuncData} {f60:Addr} {d60:FuncData} {f62:Addr} {d62:FuncData} {f64:Addr} {d64:FuncData} {f65:Addr} {d65:FuncData} {f66:Addr} {d66:FuncData} {f67:Addr} {d67:FuncData} {f68:Addr} {d68:FuncData} {f69:Addr} {d69:FuncData} {f70:Addr} {d70:FuncData} {f71:Addr} {d71:FuncData} {f72:Addr} {d72:FuncData} {f75:Addr} {d75:FuncData} {f76:Addr} {d76:FuncData} {f77:Addr} {d77:FuncData} {f78:Addr} {d78:FuncData} {f79:Addr} {d79:FuncData} {f80:Addr} {d80:FuncData} {f81:Addr} {d81:FuncData} {f82:Addr} {d82:FuncData} {f57:Addr} {d57:FuncData} {f59:Addr} {d59:FuncData} {f61:Addr} {d61:FuncData} {f63:Addr} {d63:FuncData} {f73:Addr} {d73:FuncData} {f74:Addr} {d74:FuncData} {t_STATES:Tok} {t_NEIGHBOURS:Tok} {t_STATE_FIGURES:Tok} {x_STATE_FIGURES:Str} {t_AMOUNT_FIGURES:Tok} {x_AMOUNT_FIGURES:Str} {t_ANY_SIGN:Tok} {x_ANY_SIGN:Str} {t_TOP_LEVEL:Tok} {t_LIMIT:Tok} {t_LEAST_LEVEL:Tok} {t_CLAUSE_MARK:Tok} {x_CLAUSE_MARK:Str} {t_LEAST_JUMPED:Tok}
  (cX:PySem.W.nsIn K mainGlobals "Amounts" = some (some (.ref c_Amounts)))
  (cY:PySem.W.nsIn K mainGlobals "Places" = some (some (.ref c_Places)))
  (cZ:PySem.W.nsIn K mainGlobals "Clause" = some (some (.ref c_Clause)))
  (dD:PySem.W.nsIn K mainGlobals "Grove" = some (some (.ref c_Grove)))
  (dE:PySem.W.nsIn K mainGlobals "Rule" = some (some (.ref c_Rule)))
  (dC:PySem.W.nsIn K mainGlobals "Jumps" = some (some (.ref c_Jumps)))
  (q_Amounts:Cls K c_Amounts)
  (q_Places:Cls K c_Places)
  (q_Clause:Cls K c_Clause)
  (q_Grove:Cls K c_Grove)
  (q_Rule:Cls K c_Rule)
  (q_Jumps:Cls K c_Jumps)
  (na_Amounts_state:findIn K (.ref c_Amounts) "state" = some none)
  (na_Amounts_numbers:findIn K (.ref c_Amounts) "numbers" = some none)
  (na_Places_wanted:findIn K (.ref c_Places) "wanted" = some none)
  (na_Clause_cell:findIn K (.ref c_Clause) "cell" = some none)
  (na_Clause_conditions:findIn K (.ref c_Clause) "conditions" = some none)
  (na_Clause_makes:findIn K (.ref c_Clause) "makes" = some none)
  (na_Grove_levels:findIn K (.ref c_Grove) "levels" = some none)
  (na_Grove_parts:findIn K (.ref c_Grove) "parts" = some none)
  (na_Grove_numbers:findIn K (.ref c_Grove) "numbers" = some none)
  (na_Grove_bares:findIn K (.ref c_Grove) "bares" = some none)
  (na_Grove_amounts:findIn K (.ref c_Grove) "amounts" = some none)
  (na_Grove_boxes:findIn K (.ref c_Grove) "boxes" = some none)
  (na_Rule_text:findIn K (.ref c_Rule) "text" = some none)
  (na_Rule_clauses:findIn K (.ref c_Rule) "clauses" = some none)
  (na_Jumps_grove:findIn K (.ref c_Jumps) "grove" = some none)
  (na_Jumps_memories:findIn K (.ref c_Jumps) "memories" = some none)
  (na_Jumps_rule:findIn K (.ref c_Jumps) "rule" = some none)
  (na_Jumps_known_squares:findIn K (.ref c_Jumps) "known_squares" = some none)
  (na_Jumps_known_cells:findIn K (.ref c_Jumps) "known_cells" = some none)
  (g0:Fg K "is_whole" La f0 d0)
  (g1:Fg K "is_state" Lb f1 d1)
  (g2:Fg K "takes" QH f2 d2)
  (g3:Fg K "read_clause" Ew f3 d3)
  (g4:Fg K "read_state" GS f4 d4)
  (g5:Fg K "read_wanted" Gg f5 d5)
  (g6:Fg K "read_condition" Eg f6 d6)
  (g7:Fg K "read_amounts" Fo f7 d7)
  (g8:Fg K "read_numbers" Fn f8 d8)
  (g9:Fg K "read_places" Ev f9 d9)
  (g10:Fg K "shifted_box" Gf f10 d10)
  (g11:Fg K "least_box" CS f11 d11)
  (g12:Fg K "lies_within" Gh f12 d12)
  (g13:Fg K "reach_of" JY f13 d13)
  (g14:Fg K "bare_field" GV f14 d14)
  (g15:Fg K "widened" Mt f15 d15)
  (g16:Fg K "trimmed" Mu f16 d16)
  (g17:Fg K "middle_of" FT f17 d17)
  (g18:Fg K "is_bare_around" Eh f18 d18)
  (g19:Fg K "widened_over" Fl f19 d19)
  (g20:Fg K "widened_to" GQ f20 d20)
  (g21:Fg K "planted" Mv f21 d21)
  (g22:Fg K "replaced" JX f22 d22)
  (g23:Fg K "field_of" Le f23 d23)
  (g24:Fg K "box_of" Om f24 d24)
  (g25:Fg K "jump" Ts f25 d25)
  (g26:Fg K "road" Tr f26 d26)
  (g27:Fg K "check_leap" GU f27 d27)
  (g28:Fg K "level_for" IS f28 d28)
  (g29:Fg K "clause_texts" Fp f29 d29)
  (g30:Fg K "read_rule" IR f30 d30)
  (g31:Fg K "deciding" Lf f31 d31)
  (g32:Fg K "becomes" Mw f32 d32)
  (g33:Fg K "shown_rule" GR f33 d33)
  (g34:Fg K "nine_parts" GT f34 d34)
  (g35:Fg K "fours_of" Ld f35 d35)
  (g36:Fg K "met_in_the_middle" Dg f36 d36)
  (g37:Fg K "laid_over" IT f37 d37)
  (g38:Fg K "laid" QI f38 d38)
  (g39:Fg K "laid_quarters" CG f39 d39)
  (g40:Fg K "_law_at" Mx f40 d40)
  (g41:Fg K "_law_mix" Lg f41 d41)
  (g42:Fg K "_law_state_by" EK f42 d42)
  (g43:Fg K "_law_condition_by" Ch f43 d43)
  (g44:Fg K "_law_clause_by" Ei f44 d44)
  (g45:Fg K "_law_holds" GW f45 d45)
  (g46:Fg K "_law_decides" Fq f46 d46)
  (g47:Fg K "_law_becomes" Ft f47 d47)
  (g48:Fg K "_law_clauses_by" DS f48 d48)
  (g49:Fg K "_law_word" ED f49 d49)
  (g50:Fg K "_law_text" FU f50 d50)
  (g51:Fg K "_law_by_rows" Fs f51 d51)
  (g52:Fg K "_law_listed" Gi f52 d52)
  (g53:Fg K "_law_base" IV f53 d53)
  (g54:Fg K "_law_heap" IU f54 d54)
  (g55:Fg K "_law_gap" Lh f55 d55)
  (g56:Fg K "law" Yl f56 d56)
  (g58:Fm K c_Amounts "holds" "Amounts.holds" EL f58 d58)
  (g60:Fm K c_Places "holds" "Places.holds" DT f60 d60)
  (g62:Fm K c_Clause "fits" "Clause.fits" Ey f62 d62)
  (g64:Fm K c_Grove "kept" "Grove.kept" Ia f64 d64)
  (g65:Fm K c_Grove "linked" "Grove.linked" Fu f65 d65)
  (g66:Fm K c_Grove "check_square" "Grove.check_square" CU f66 d66)
  (g67:Fm K c_Grove "leaf" "Grove.leaf" GZ f67 d67)
  (g68:Fm K c_Grove "level_of" "Grove.level_of" Ek f68 d68)
  (g69:Fm K c_Grove "state_of" "Grove.state_of" Ej f69 d69)
  (g70:Fm K c_Grove "span" "Grove.span" GY f70 d70)
  (g71:Fm K c_Grove "boxed" "Grove.boxed" Ex f71 d71)
  (g72:Fm K c_Grove "measured" "Grove.measured" Dc f72 d72)
  (g75:Fm K c_Jumps "change" "Jumps.change" DU f75 d75)
  (g76:Fm K c_Jumps "after" "Jumps.after" Gk f76 d76)
  (g77:Fm K c_Jumps "check_jump" "Jumps.check_jump" Dv f77 d77)
  (g78:Fm K c_Jumps "reckoned" "Jumps.reckoned" Db f78 d78)
  (g79:Fm K c_Jumps "fresh" "Jumps.fresh" Cd f79 d79)
  (g80:Fm K c_Jumps "four_halfway" "Jumps.four_halfway" Bl f80 d80)
  (g81:Fm K c_Jumps "middle_after" "Jumps.middle_after" CT f81 d81)
  (g82:Fm K c_Jumps "cell_after" "Jumps.cell_after" Cu f82 d82)
  (g57:Fi K c_Amounts "Amounts.__init__" Fw f57 d57)
  (g59:Fi K c_Places "Places.__init__" Gj f59 d59)
  (g61:Fi K c_Clause "Clause.__init__" Gm f61 d61)
  (g63:Fi K c_Grove "Grove.__init__" Ib f63 d63)
  (g73:Fi K c_Rule "Rule.__init__" FV f73 d73)
  (g74:Fi K c_Jumps "Jumps.__init__" GX f74 d74)
  (z_all:PySem.W.nsIn K mainGlobals "all" = some none)
  (z_bool:PySem.W.nsIn K mainGlobals "bool" = some none)
  (z_enumerate:PySem.W.nsIn K mainGlobals "enumerate" = some none)
  (z_int:PySem.W.nsIn K mainGlobals "int" = some none)
  (z_isinstance:PySem.W.nsIn K mainGlobals "isinstance" = some none)
  (z_len:PySem.W.nsIn K mainGlobals "len" = some none)
  (z_list:PySem.W.nsIn K mainGlobals "list" = some none)
  (z_max:PySem.W.nsIn K mainGlobals "max" = some none)
  (z_min:PySem.W.nsIn K mainGlobals "min" = some none)
  (z_range:PySem.W.nsIn K mainGlobals "range" = some none)
  (z_sorted:PySem.W.nsIn K mainGlobals "sorted" = some none)
  (z_str:PySem.W.nsIn K mainGlobals "str" = some none)
  (z_tuple:PySem.W.nsIn K mainGlobals "tuple" = some none)
  (z_zip:PySem.W.nsIn K mainGlobals "zip" = some none)
  (g_STATES:PySem.W.nsIn K mainGlobals "STATES" = some (some (.int 8 t_STATES)))
  (g_NEIGHBOURS:PySem.W.nsIn K mainGlobals "NEIGHBOURS" = some (some (.int 8 t_NEIGHBOURS)))
  (g_STATE_FIGURES:PySem.W.nsIn K mainGlobals "STATE_FIGURES" = some (some (.str x_STATE_FIGURES t_STATE_FIGURES)))
  (gx_STATE_FIGURES:x_STATE_FIGURES=Str.ofString "01234567")
  (g_AMOUNT_FIGURES:PySem.W.nsIn K mainGlobals "AMOUNT_FIGURES" = some (some (.str x_AMOUNT_FIGURES t_AMOUNT_FIGURES)))
  (gx_AMOUNT_FIGURES:x_AMOUNT_FIGURES=Str.ofString "012345678")
  (g_ANY_SIGN:PySem.W.nsIn K mainGlobals "ANY_SIGN" = some (some (.str x_ANY_SIGN t_ANY_SIGN)))
  (gx_ANY_SIGN:x_ANY_SIGN=Str.ofString "*")
  (g_TOP_LEVEL:PySem.W.nsIn K mainGlobals "TOP_LEVEL" = some (some (.int 48 t_TOP_LEVEL)))
  (g_LIMIT:PySem.W.nsIn K mainGlobals "LIMIT" = some (some (.int 1099511627776 t_LIMIT)))
  (g_LEAST_LEVEL:PySem.W.nsIn K mainGlobals "LEAST_LEVEL" = some (some (.int 1 t_LEAST_LEVEL)))
  (g_CLAUSE_MARK:PySem.W.nsIn K mainGlobals "CLAUSE_MARK" = some (some (.str x_CLAUSE_MARK t_CLAUSE_MARK)))
  (gx_CLAUSE_MARK:x_CLAUSE_MARK=Str.ofString "; ")
  (g_LEAST_JUMPED:PySem.W.nsIn K mainGlobals "LEAST_JUMPED" = some (some (.int 2 t_LEAST_JUMPED)))
  : ∃fd:FuncData,(∀(s:Shared)(v:Value),BindsTo s fd ⟨[v],[]⟩ [("_law_script",v)])/\∀base:Heap,K.In base->base.Ns mainGlobals mg->AI l.prog w K mg base CX0 152 fa fd ["_law_script"] (UJ K):=by
 have e:=hfa.symm.trans (X5 X G g56.at_);cases e;have no:∀{x:Str},PySem.W.nsIn K mainGlobals x=some none->mg x=none:=λz=>PySem.W.mg_none_of X G z;subst gx_CLAUSE_MARK;subst gx_ANY_SIGN;subst gx_AMOUNT_FIGURES;subst gx_STATE_FIGURES;have T:Top K mg (⟨c_Amounts,c_Places,c_Clause,c_Grove,c_Rule,c_Jumps⟩:Ad):=⟨no z_all,no z_bool,no z_enumerate,no z_int,no z_isinstance,no z_len,no z_list,no z_max,no z_min,no z_range,no z_sorted,no z_str,no z_tuple,no z_zip,⟨t_STATES,X5 X G g_STATES⟩,⟨t_NEIGHBOURS,X5 X G g_NEIGHBOURS⟩,⟨t_STATE_FIGURES,X5 X G g_STATE_FIGURES⟩,⟨t_AMOUNT_FIGURES,X5 X G g_AMOUNT_FIGURES⟩,⟨t_ANY_SIGN,X5 X G g_ANY_SIGN⟩,⟨t_TOP_LEVEL,X5 X G g_TOP_LEVEL⟩,⟨t_LIMIT,X5 X G g_LIMIT⟩,⟨t_LEAST_LEVEL,X5 X G g_LEAST_LEVEL⟩,⟨t_CLAUSE_MARK,X5 X G g_CLAUSE_MARK⟩,⟨t_LEAST_JUMPED,X5 X G g_LEAST_JUMPED⟩,X5 X G cX,q_Amounts,na_Amounts_state,na_Amounts_numbers,X5 X G cY,q_Places,na_Places_wanted,X5 X G cZ,q_Clause,na_Clause_cell,na_Clause_conditions,na_Clause_makes,X5 X G dD,q_Grove,na_Grove_levels,na_Grove_parts,na_Grove_numbers,na_Grove_bares,na_Grove_amounts,na_Grove_boxes,X5 X G dE,q_Rule,na_Rule_text,na_Rule_clauses,X5 X G dC,q_Jumps,na_Jumps_grove,na_Jumps_memories,na_Jumps_rule,na_Jumps_known_squares,na_Jumps_known_cells⟩
 refine⟨d56,λs v=>(by obtain⟨_,_,_,_,_,_,_,_,_,rfl,_⟩:=g56.fn.ex;exact .of_eq rfl),λbase _ _=>?_⟩;have cal:∀{CX:CXT}{k:Nat}{x:Str}{st:Stmt}{f:Addr}{fd:FuncData}{ps:List Str}{sp:Sp},Fg K x st f fd->AI l.prog w K mg base CX k f fd ps sp->Cs K fd ps []->Cal l.prog w K mg base CX k x ps sp:=λF o b=>⟨_,_,o,X5 X G F.at_,F.fn.kp,b⟩
 have calm:∀{CX:CXT}{k:Nat}{C:Addr}{x q:Str}{st:Stmt}{f:Addr}{fd:FuncData}{ps:List Str}{sp:Sp},Fm K C x q st f fd->Cls K C->AI l.prog w K mg base CX k f fd ps sp->Cs K fd ps []->BO l.prog w K mg base CX k C x ps sp:=λF c o b=>⟨⟨_,_,o,F.me,b⟩,c⟩
 have calc':∀{CX:CXT}{k:Nat}{C:Addr}{x q:Str}{st:Stmt}{f:Addr}{fd:FuncData}{ps:List Str}{sp:Sp},Fi K C q st f fd->mg x=some (.ref C)->AI l.prog w K mg base CX k f fd ps sp->Cs K fd ps []->Rz l.prog w K mg base CX k x C ps sp:=λF m o b=>⟨_,_,o,F.mk_,m,b⟩
 have aJ:=cal (k:=1) (sp:=VM) g0 (ok_iw g0.fn T) (bnd g0.fn);have b9:=cal (k:=2) (sp:=spIS) g1 (ok_is g1.fn T aJ) (bnd g1.fn);have aP:=calm (k:=1) (sp:=(Qy _)) g64 q_Grove (ok_kept g64.fn T) (bnd g64.fn);have cW:=calc' (k:=2) (sp:=(QB _)) g63 T.m_Grove (YE g63.fn T aP) (bnd g63.fn)
 have a6:=calm (k:=2) (sp:=(DK _)) g65 q_Grove (ok_link g65.fn T aP) (bnd g65.fn);have aC:=calm (k:=2) (sp:=(UK _)) g66 q_Grove (ok_chk g66.fn T aJ) (bnd g66.fn);have aO:=calm (k:=3) (sp:=(Qx _)) g67 q_Grove (ok_leaf g67.fn T b9) (bnd g67.fn);have a7:=calm (k:=3) (sp:=(LA _)) g68 q_Grove (ok_lev g68.fn T aC) (bnd g68.fn);have b7:=calm (k:=4) (sp:=(WT _)) g69 q_Grove (ok_sta g69.fn T a7) (bnd g69.fn);have aG:=cal (k:=1) (sp:=Lz) g10 (Yw g10.fn T) (bnd g10.fn);have aY:=cal (k:=1) (sp:=NA) g11 (YB g11.fn T) (bnd g11.fn);have aW:=calm (k:=100) (sp:=(RT _ 49)) g71 q_Grove (YH g71.fn g72.fn T g71.me (bnd g71.fn) g72.me (bnd g72.fn) aG aY 49) (bnd g71.fn);have bU:=calm (k:=101) (sp:=(Tj _)) g70 q_Grove (ok_span g70.fn T aC aW) (bnd g70.fn);have aH:=cal (k:=1) (sp:=RS) g12 (ok_lie g12.fn T) (bnd g12.fn);have aI:=cal (k:=4) (sp:=(Jw _)) g13 (Yy g13.fn T a7) (bnd g13.fn);have bD:=cal (k:=4) (sp:=(UF _)) g15 (ok_wid g15.fn T a7 a6) (bnd g15.fn);have cB:=cal (k:=3) (sp:=(WY _)) g17 (ok_mid g17.fn T a6) (bnd g17.fn);have bA:=cal (k:=1) (sp:=(spBA _)) g18 (ok_ba g18.fn T) (bnd g18.fn);have aT:=cal (k:=4) (sp:=(NU _)) g16 (ok_trim g16.fn T a7 bA cB) (bnd g16.fn);have bG:=cal (k:=5) (sp:=(spWO _)) g19 (ok_wo g19.fn T aH aI bD) (bnd g19.fn);have aU:=cal (k:=1) (sp:=(NB _)) g14 (YI g14.fn T) (bnd g14.fn);have bH:=cal (k:=54) (sp:=(UG _ 50)) g22 (Yx g22.fn T (X5 X G g22.at_) (bnd g22.fn) aO a6 50) (bnd g22.fn);have cL:=cal (k:=55) (sp:=(Qv _)) g21 (YA g21.fn T aH b9 aI bG bH aT) (bnd g21.fn);have bW:=cal (k:=56) (sp:=(Ye _)) g23 (ok_fld g23.fn T aU cL) (bnd g23.fn);have cR:=cal (k:=102) (sp:=(QC _)) g24 (YG g24.fn T bU aI aG) (bnd g24.fn);have cG:=cal (k:=1) (sp:=Nz) g2 (Yv g2.fn) (bnd g2.fn);have cM:=calc' (k:=1) (sp:=(NZ _)) g57 T.m_Amounts (VV g57.fn T) (bnd g57.fn)
 have cS:=calc' (k:=1) (sp:=(NW _)) g59 T.m_Places (VT g59.fn T) (bnd g59.fn)
 have cT:=calc' (k:=1) (sp:=(NY _)) g61 T.m_Clause (VU g61.fn T) (bnd g61.fn)
 have cN:=calm (k:=1) (sp:=(Mn _)) g58 q_Amounts (TD g58.fn T) (bnd g58.fn);have cP:=calm (k:=2) (sp:=(Mm _)) g60 q_Places (TC g60.fn T cG) (bnd g60.fn);have bR:=calm (k:=3) (sp:=(Tn _)) g62 q_Clause (ok_Fits g62.fn T cG cN cP) (bnd g62.fn);have cH:=cal (k:=4) (sp:=(Yf _)) g31 (ok_dec g31.fn T bR) (bnd g31.fn);have bE:=cal (k:=5) (sp:=(UM _)) g32 (ok_bec g32.fn T cH) (bnd g32.fn);have aM:=cal (k:=1) (sp:=WV) g4 (ok_rs g4.fn T) (bnd g4.fn);have aS:=cal (k:=2) (sp:=spRW) g5 (ok_rw g5.fn T aM) (bnd g5.fn);have bI:=cal (k:=1) (sp:=spRN) g8 (ok_rn g8.fn T) (bnd g8.fn);have bJ:=cal (k:=3) (sp:=(WX _)) g7 (ok_ram g7.fn T aM bI cM) (bnd g7.fn);have bS:=cal (k:=3) (sp:=(WW _)) g9 (ok_rpl g9.fn T aS cS) (bnd g9.fn);have b8:=cal (k:=4) (sp:=(Qu _)) g6 (Yz g6.fn T bJ bS) (bnd g6.fn);have bT:=cal (k:=5) (sp:=(spRC _)) g3 (ok_rc g3.fn T aM aS b8 cT) (bnd g3.fn);have bK:=cal (k:=1) (sp:=spCT) g29 (ok_ct g29.fn T) (bnd g29.fn);have dB:=calc' (k:=6) (sp:=(spRI _)) g73 T.m_Rule (ok_ri g73.fn T bK bT) (bnd g73.fn)
 have cA:=cal (k:=8) (sp:=(spRR _)) g30 (ok_rr g30.fn T dB bE) (bnd g30.fn);have bV:=cal (k:=1) (sp:=(Tk _)) g33 (ok_show g33.fn T) (bnd g33.fn);have bF:=calm (k:=2) (sp:=(Yg _)) g75 q_Jumps (ok_chg g75.fn T bV) (bnd g75.fn);have cV:=calc' (k:=3) (sp:=(Qz _)) g74 T.m_Jumps (YC g74.fn T bF) (bnd g74.fn)
 have aF:=calm (k:=6) (sp:=(UL _)) g82 q_Jumps (ok_cel g82.fn T b7 aO bE) (bnd g82.fn);have aB:=calm (k:=7) (sp:=(Qw _)) g81 q_Jumps (ok_mid2 g81.fn T a6 aF) (bnd g81.fn);have aN:=cal (k:=3) (sp:=(NX _)) g34 (ok_nine g34.fn T a6) (bnd g34.fn);have aR:=cal (k:=1) (sp:=LB) g35 (YF g35.fn T) (bnd g35.fn);have aD:=cal (k:=3) (sp:=(UI _)) g36 (ok_met g36.fn T a6) (bnd g36.fn);have aA:=calm (k:=148) (sp:=(Gd _ 46)) g78 q_Jumps (UX g78.fn g80.fn g79.fn T g78.me (bnd g78.fn) g80.me (bnd g80.fn) g79.me (bnd g79.fn) aB a6 aN aR aD 46) (bnd g78.fn);have aX:=calm (k:=4) (sp:=(spCj _)) g77 q_Jumps (ok_cj g77.fn T a7 aJ) (bnd g77.fn);have bQ:=calm (k:=149) (sp:=(Gd _ 46)) g76 q_Jumps (VS g76.fn T A4 aX aA) (bnd g76.fn);have bX:=cal (k:=103) (sp:=(Yh _)) g27 (ok_chg' g27.fn T aJ cR aH) (bnd g27.fn);have cC:=cal (k:=5) (sp:=(WZ _)) g28 (ok_lvf g28.fn T aI) (bnd g28.fn);have aQ:=cal (k:=5) (sp:=(spWT _)) g20 (ok_wt g20.fn T a7 bD) (bnd g20.fn);have dA:=cal (k:=150) (sp:=(WU _)) g26 (ok_rdg g26.fn T bX aU cC aQ bQ aT) (bnd g26.fn);have cD:=cal (k:=151) (sp:=(Yc _)) g25 (ok_jpg g25.fn T dA aT) (bnd g25.fn);have a9:=cal (k:=1) (sp:=(Yi K)) g40 (ok_at g40.fn T) (bnd g40.fn);have aK:=cal (k:=1) (sp:=UH) g41 (ok_mix g41.fn) (bnd g41.fn);have aE:=cal (k:=1) (sp:=spSt) g42 (ok_st g42.fn) (bnd g42.fn);have aV:=cal (k:=2) (sp:=spCo) g43 (ok_co g43.fn T aK aE) (bnd g43.fn);have bB:=cal (k:=3) (sp:=spCl) g44 (ok_cl g44.fn T aK aE aV) (bnd g44.fn);have bY:=cal (k:=1) (sp:=spHo) g45 (ok_ho g45.fn T) (bnd g45.fn);have bL:=cal (k:=2) (sp:=spDe) g46 (ok_de g46.fn T bY) (bnd g46.fn);have bN:=cal (k:=3) (sp:=spBe) g47 (ok_be g47.fn T bL) (bnd g47.fn);have b6:=cal (k:=4) (sp:=(spCs K)) g48 (ok_cs g48.fn T a9 bB bN) (bnd g48.fn);have cE:=cal (k:=1) (sp:=spWd) g49 (ok_wd g49.fn T) (bnd g49.fn);have cF:=cal (k:=2) (sp:=spTx) g50 (ok_tx g50.fn T cE) (bnd g50.fn);have bM:=cal (k:=1) (sp:=NV) g51 (ok_row g51.fn T) (bnd g51.fn);have bC:=cal (k:=5) (sp:=Ya) g52 (ok_lsd g52.fn T bM) (bnd g52.fn);have cQ:=cal (k:=102) (sp:=(Yb _ 50)) g38 (ok_ld g38.fn g39.fn T (X5 X G g38.at_) (bnd g38.fn) (X5 X G g39.at_) (bnd g39.fn) a6 50) (bnd g38.fn);have aZ:=cal (k:=103) (sp:=(spLo _)) g37 (ok_lo g37.fn T a7 aQ cQ) (bnd g37.fn);have bP:=cal (k:=1) (sp:=To) g53 (ok_base g53.fn T) (bnd g53.fn);have bO:=cal (k:=2) (sp:=(Tl K)) g54 (ok_heap g54.fn T a9) (bnd g54.fn);have cJ:=cal (k:=1) (sp:=Yd) g55 (ok_gap g55.fn T) (bnd g55.fn);exact ok_law g56.fn T cW a9 b6 cF cA bP bO cJ bC bW cV cD aZ
theorem walk{l:PySem.W.OpenLaw}{q:Program}{loose:List Str}{XP:(Str->Option Value)->Heap->Prop}{YP:World->Heap->Prop}{d:DefRec}{K:Params->PySem.W.Frag}(hn:l.most=some 63)(hdf:d.params.defaults=[])
  (hY:∀(w:World)(h:Heap),YP w h->(K w.params).In h)
  (F:∀(w:World)(mg:Str->Option Value)(fa:Addr)(h:Heap),(K w.params).In h->h.Ns mainGlobals mg->mg d.name=some (.ref fa) ->
   ∃fd:FuncData,(∀(s:Shared)(u:Value),BindsTo s fd ⟨[u],[]⟩ [("_law_script",u)])/\∀base:Heap,(K w.params).In base->base.Ns mainGlobals mg->AI l.prog w (K w.params) mg base CX0 152 fa fd ["_law_script"] (UJ (K w.params))) :
  PySem.W.WalkO q loose XP YP l.row.toRowW d [] (λf vs=>PySem.call f vs) :=
 L2.Uu (n:=63) (k:=152) (x:="_law_script") (CX:=λ_=>CX0) (sp:=λw=>UJ (K w.params)) hn A4 hdf ⟨rfl,by decide,by decide⟩ hY F (λ_ _ a ns hl _ hS=>⟨a,ns,rfl,hS,hl,λ_=>rfl⟩) λ_ _ _ _ _ z=>z
end J
structure PySem.W.Fast:Prop where(tw13215200370451835235 tw1037387545364896965 tw7229067480848256136 tw8295987684707130045 tw12350920363604625934 tw4478049243184824112 tw5624173649456856825 tw1223496934609356352 tw14893964553877559425 tw2058254223228416294 tw11689739781268538100 tw17706071876218943379 tw5123333589410953787 tw15660572009517697801 tw2732041000643947644 tw8566557869457382567 tw803346996727489218 tw10617354264996228551 tw12855149595862596379 tw16381972888160772825 tw3145722289656807491 tw7819736289781623431 tw18396459917689506484 tw4045204823939453429 tw6195383008394872384 tw8444312095471069855 tw11524968730821428246 tw8533516256358233975 tw7622960537574640805 tw10844718039717023691 tw11545530811146827828 tw11145604114376112275 tw5347124758306328778 tw13936059685611563428 tw13247372101135610745 tw7437971681479019504 tw9466055812169126286 tw10612567674865817593 tw59307116434986322 tw2022224208548364918 tw643680994658478389 tw3225619726992127632 tw9557199925984979478 tw7183421305847032480 tw11644798559972309020 tw17281447231244507419 tw16134000755882973331 tw5220729358931027274 tw15439613362487412272 tw850838793242037149 tw201848586612555677 tw17003873255745641301 tw4567506561652934459 tw15028065084751864249 tw7046100847683753473 tw15089413896101716612 tw3532500918697574480 tw4808164298535552099 tw594075331481108862 tw12009595212932948144 tw8766704705674148737 tw3071700987799222733 tw1173196144881777503 tw15611993455253748036 tw10855127895081221330 tw582429629784058367 tw12507323314444828191 tw9823045423364508888 tw15345952926451022545 tw8356941699047003120 tw14342885792727691383 tw8812195170068780078 tw12243252098012220543 tw3338894447677208528 tw318238184086946842 tw14886461571740315125 tw8149127048389492500 tw2082461043869242334 tw14265871604344602102 tw17785907240796294158 tw1198233391668018615 tw1092043078825113176 tw2491759487398241663 tw15847257018993973391 tw1982720854296947742 tw2359450437034120142 tw17126197175188837099 tw6360505117737726860 tw3753026633151828997 tw10402455338591382700 tw5477548375240977662 tw15149189544808891089 tw16466624027798166254 tw11860976880011010924 tw18164505308323004983 tw14528374889213777210 tw8099128336001492560 tw14895026066190195695 tw11716148148025031493 tw2581093431558937008 tw11764016991163547721 tw10843316322195411081 tw649434665060095473 tw13163710978808887737 tw16513367920471788811 tw7631278794534303394 tw10525087867130182468 tw8920856985388164559 tw4205807209664041622 tw10784931714179522843 tw9781139452654830285 tw8060042865809970611 tw12421247245279396422 tw6527480543218455124 tw14883095923716173985 tw773247490092199081 tw13300022709392336333 tw16351996851598155239 tw6292232785404052992 tw15649956556307303970 tw15923976585933890471 tw5479333188514212794 tw9752704115052063397 tw4708527008701145697 tw2606406386046601655 tw16894017434580520406 tw14206862774786745170 tw13892323161363692709 tw8078688077388825649 tw5339714114472239166 tw17402599889287131364 tw17690756877005734827 tw12809566705219619085 tw8139648612804604351 tw9366789595915318919 tw16475251995736423059 tw10329938703850312297 tw3415837187399869095 tw10648639613440523647 tw16721657037551226315 tw5661246388009796759 tw4356073475692175475 tw13697267246137709577 tw9386756083536915033 tw8260339179279702117 tw8030355968677624849 tw702062346148538769 tw10182846509518154165 tw5673107662489320114 tw3666315724922553340 tw13995465179455791814 tw9623333812881448095 tw14086110472970647371 tw6736343167614802992 tw18446318069071533610 tw1588671296730248633 tw10031202249497128187 tw17667689897232756196 tw9303693894594405384 tw17327299184955708146 tw9554722768888486108 tw9906843125102673090 tw12478667364066942288 tw2378279114240291416 tw11004242382117888040 tw1049833668004873639 tw8629632755472738796 tw4915596962789055482 tw650615101044486682 tw17690322098053150809 tw2451498777071667927 tw14633129432511302985 tw13694047928067773776 tw9627702104956658935 tw14979179734190671021 tw9558058339247635065 tw11980412915002185527 tw11517706718431883187 tw4821976245405319545 tw3153613910127124786 tw14749190235007799668 tw14853688185525920320 tw16548894680898140480 tw17737566957170376086 tw341650779471928700 tw16688529862547126918 tw10094690455951512559 tw13238276799105824902 tw3413710920723161948 tw15342648857335275532 tw2975954395731055430 tw13973283014410030698 tw4763652849555284770 tw18203167629824780537 tw7712362520900983342 tw8864697655993206257 tw10974632538203584153 tw12999836151323155685 tw8215234756511185905 tw13834672691891492781 tw12345104313172803194 tw2292064483731843922 tw12761534221977004039 tw3660182007577428898 tw16026141075755639614 tw15759186770702624274 tw10139695942850903903 tw8143848999303751076 tw13703059939041160600 tw884866653040602270 tw5853098476195472731 tw2716070014991543021 tw2622090441296612057 tw15825979565654343462 tw16334451040711719772 tw389495795100628822 tw8679142966186672988 tw13717150105322908176 tw6406347709920672461 tw14272232486485789289 tw11951390690921838367 tw13433964516018452799 tw7301692481597418879 tw637014070039423242 tw8327992557944685456 tw1208513927646676707 tw17551553229113886979 tw10507511409815200042 tw6297117962084335758 tw3918285896360698894 tw8521197065479241297 tw14072309232184272847 tw3224149463502824880 tw9926801588643042470 tw2974133189389074696 tw7711637748133874844 tw7293367265091873437 tw3005612052668779863 tw4806358096231145143 tw17834537640228523256 tw10249706388128154248 tw12480710953024779107 tw2026646235824045424 tw11160400672546351159 tw9590495816894531559 tw17573317786702861613 tw6186425897778555459 tw16037939884197421020 tw17472040744836297595 tw7878192262522533612 tw1316977379943095388 tw2896836438068716526 tw11154171802348954354 tw3559729339802337230 tw11713560251874495396 tw14045662266101183582 tw7684183909085498382 tw10914264428080018424 tw15753391589250466172 tw537250516320680085 tw9099433551010183081 tw17211845935294290262 tw3148433166158617220 tw10212144718147876676 tw10461403407234396563 tw8928683908127017440 tw7707971943451461230 tw13045369142521075344 tw15733004910540068597 tw10617707213061197392 tw4599761100468395216 tw9168559231180607284 tw10917922060012610112 tw6970337949640537216 tw6956063689122751233 tw1581964031124897975 tw2097934172735271991 tw4914515139247848487 tw13502815166227573955 tw16533289203354518623 tw9541277512231560236 tw17327773316111752634 tw17031085219233136991 tw12689919629260825687 tw1888280516682549854 tw896298394037873560 tw2134051456410014829 tw1251128900630154510 tw4376259020578793288 tw2660520327025820054 tw6223674499071034347 tw1298531773003301676 tw10819680825926290583 tw15698109660390742854 tw3986153642168637152 tw12003353782724011315 tw7329328571162554181 tw11916113679678401649 tw10388774292089301534 tw68612342310562283 tw5110147010151615911 tw7113656826952310579 tw11084625438166207680 tw12817962345347612461 tw3893767781474354748 tw16546703326964164102 tw14387208004302940400 tw4141697921356973337 tw10123039124467246167 tw328990175275822373 tw6516326529961482937 tw15973138031597358086 tw9541641954315709879 tw8466625461381846954 tw12118349998889831059 tw2549295456321165881 tw11602306599577350771 tw5004553387024513061 tw4444352588088191792 tw11455791169686756277 tw421498907740804040 tw356569551672065306 tw15100905577164671314 tw1085171522161267329 tw12996572928898071046 tw10838682071549553570 tw17500029120057383585 tw3362104116201321806 tw16038208763752307710 tw6801231337603259619 tw1294791300772639997 tw9011858414391329971 tw9770738198056925290 tw7094190211452546825 tw3880484778111945702 tw2532787492646925698 tw13646095270014343278 tw9968650619629029210 tw12643728164854143040 tw2576179964036175817 tw14302471640461586519 tw5678944097953832087 tw10904709512615900626 tw8049001642919062075 tw16699589259704126610 tw14904209889644664762 tw7205989037922764369 tw8213421879028904113 tw9060013073030159744 tw329467836185946055 tw14736503442526100812 tw12708851099439125494 tw1195532899632029442 tw2674343255587237413 tw14570862271137106899 tw3516508116337423421 tw1480336107133306610 tw8261324459790170412 tw1179050412780184136 tw7873414724647052795 tw14761081796747781256 tw4105432967190523605 tw2688883560085143386 tw4712975650915355321 tw1678687483929203351 tw11135618301558805767 tw6765280681542702609 tw935091751648171387 tw12907005347954635617 tw592486641203660021 tw9286511609248115236 tw7290335992009783685 tw17224479543645390266 tw1179854239696717298 tw19936209601959296 tw7290905655380414889 tw11398641193788361809 tw1374401855772486906 tw2513576669969992016 tw13375218014380808516 tw13956412747450053944 tw14504724230479368079 tw2741932326190135720 tw17891635669266788927 tw196637118520132173 tw5834742909895644983 tw9966897808276883947 tw12732909580394542933 tw11078461478641796090 tw12417594079577000366 tw16276356633782735049 tw6354635530269587945 tw4456262590597616379 tw16391770498664969892 tw15370257250996942195 tw13814595022914777537 tw18100111571193297103 tw14854416863757710927 tw5105712591271668548 tw7195519434960149163 tw14355850747801473407 tw1396345916724752058 tw646538494043274067 tw14267415284558082625 tw15417767309204007479 tw4543553344681666367 tw2980667051585446169 tw6203549041696316307 tw16892781056750068324 tw2683370564857130573 tw13965953143937442818 tw9523518532165022741 tw13868065500719828456 tw3929576338664948311 tw13097113328523528416 tw566049473533941162 tw6777653249777827617 tw11373426845874800391 tw12359711832467150935 tw8230931150712597900 tw1019418874241174861 tw12395221175560092727 tw7268576673234639268 tw10562446336594111147 tw10844790556191264103 tw16430990248380228168 tw12547921282331155404 tw8502391284440332778 tw5282277103756424388 tw4266892732358134992 tw574183910770661577 tw14061873317564530537 tw6127909961746503431 tw15409613277406913621 tw18229643475336189407 tw7882092328701786869 tw15112279791819116883 tw921755249516843410 tw6373235482340176006 tw14521473045854577286 tw14226343088038449923 tw12579437171263969458 tw10044444774708899051 tw16625611757314269612 tw12655426563175435301 tw3325710883811671442 tw10999922037207805320 tw10847907747552198172 tw9882520628121488946 tw11827420131858893117 tw14487268302832368874 tw58530729604158197 tw12004624743730476809 tw16932742055169434807 tw6149167615416269570 tw12316565714263624750 tw5553282078090267270 tw1252780507785698334 tw12000693282203306840 tw9384942028896953943 tw14830677323246123195 tw12943835249539344907 tw16766074995035801368 tw9400613317817015672 tw7668039783139360372 tw10610592682692043771 tw3517781299085632378 tw10855447947552342663 tw17556887524575308832 tw4416038177655481633 tw9918747772159400480 tw724186158273934940 tw17462643532886828066 tw1523646489559879981 tw11357296189360916915 tw13402731931084916000 tw11139914580344493814 tw16898283958417101287 tw13631364772414608597 tw9761182733639326331 tw1483634815106185721 tw4895548746894774179 tw14602988115454888470 tw2346921304632781252 tw12289154805508871400 tw6652505630344299874 tw1215290582256595248 tw17378691950429956704 tw7055326398215441013 tw14261892944296552809 tw1496231520044199133 tw10203907195118533222 tw1964941645974293724 tw13447904517280226897 tw2748932147614646274 tw6031792680258339710 tw4058887808857300642 tw17544773683326685822 tw8373186601974567969 tw3714969465524080799 tw8886621229192726992 tw12258116904147160181 tw415179717671283281 tw1088199098342634703 tw5336763350866126197 tw5088565895297551715 tw3189767746561551945 tw12360043770916678314 tw5608450489058418808 tw2868114399509609725 tw13699844229287288833 tw1714801824427279198 tw16148495526428352561 tw14320260603549406622 tw17904669684437867971 tw17231994640587575975 tw11984694474311594183 tw13192895795629473138 tw5191937845723500668 tw2914326849151580592 tw4924684231308224031 tw15127600848104648755 tw2286649755844781205 tw250354650855793221 tw8379482500044582964 tw2481498842525408719 tw3579954054471143792 tw2153837360394520309 tw7732990268992556663 tw10413983663844875632 tw1373802484052435367 tw6967296002001086776 tw14894600685190806404 tw10768266995447632424 tw9600748556425572761 tw2828783342889004419 tw18234811657550581450 tw17889340913924944283 tw7954786864676860246 tw10091240775101749569 tw17213405004638554475 tw8273104779648766905 tw15009521440716516876 tw15623286243910741062 tw17766413964189007045 tw1255740909876141797 tw17383954552856481050 tw12905870771562848545 tw18133291623420614416 tw4034724914473598661 tw14085913688729699983 tw6579194028434809262 tw11177810895296332267 tw6635423001696403544 tw2985414383062811696 tw14230950966418309896 tw1100983056742650321 tw15216598162777741798 tw4882497858994554571 tw11047305509484078055 tw8503743856008946833 tw15512530582963964883 tw15793443500042549507 tw3140847622527273896 tw1328232800526234777 tw5929392043685559115 tw13014531271507791082 tw12798135754981738788 tw6714480038382061342 tw8865481879621387093 tw8878760451850794453 tw17760659758213257690 tw13366739004188384280 tw11419045860374159664 tw11155755359793927504 tw738582985900188894 tw5069022876761966414 tw5784034939707515969 tw17241394867661937345 tw4646386003007187201 tw10614425073947940351:True)
open PySem PySem.W PyProof.Rows
set_option maxRecDepth 100000 in
set_option maxHeartbeats 0 in
theorem PySem.Challenge.cw_jumpfield_k61_whole_far_parts_holds : PySem.Challenge.rw_jumpfield_k61_whole_far_parts.Holds := by
 w_on; o_law; k_head; (case hw=>w_witness2)
 k_fill
 refine J.walk (l:=PySem.Challenge.rw_jumpfield_k61_whole_far_parts) rfl rfl (fun w h Y=>PySem.W.kIn_of Y) ?F
 case F =>
  intro w mg fa h KX G hmg;refine' J.fin KX G hmg ?h0 ?h1 ?h2 ?h3 ?h4 ?h5 ?h6 ?h7 ?h8 ?h9 ?h10 ?h11 ?h12 ?h13 ?h14 ?h15 ?h16 ?h17 ?h18 ?h19 ?h20 ?h21 ?h22 ?h23 ?h24 ?h25 ?h26 ?h27 ?h28 ?h29 ?h30 ?h31 ?h32 ?h33 ?h34 ?h35 ?h36 ?h37 ?h38 ?h39 ?h40 ?h41 ?h42 ?h43 ?h44 ?h45 ?h46 ?h47 ?h48 ?h49 ?h50 ?h51 ?h52 ?h53 ?h54 ?h55 ?h56 ?h57 ?h58 ?h59 ?h60 ?h61 ?h62 ?h63 ?h64 ?h65 ?h66 ?h67 ?h68 ?h69 ?h70 ?h71 ?h72 ?h73 ?h74 ?h75 ?h76 ?h77 ?h78 ?h79 ?h80 ?h81 ?h82 ?h83 ?h84 ?h85 ?h86 ?h87 ?h88 ?h89 ?h90 ?h91 ?h92 ?h93 ?h94 ?h95 ?h96 ?h97 ?h98 ?h99 ?h100 ?h101 ?h102 ?h103 ?h104 ?h105 ?h106 ?h107 ?h108 ?h109 ?h110 ?h111 ?h112 ?h113 ?h114 ?h115 ?h116 ?h117 ?h118 ?h119 ?h120 ?h121 ?h122 ?h123 ?h124 ?h125 ?h126 ?h127 ?h128 ?h129 ?h130 ?h131 ?h132 ?h133 ?h134 ?h135 ?h136 ?h137 ?h138 ?h139 ?h140 ?h141
  (case h0 | h1 | h2 | h3 | h4 | h5=>k_is)
  (case h6 | h7 | h8 | h9 | h10 | h11=>(refine' ⟨?_,?_,?_,?_⟩<;>k_is))
  (case h12 | h13 | h14 | h15 | h16 | h17 | h18 | h19 | h20 | h21 | h22 | h23 | h24 | h25 | h26 | h27 | h28 | h29 | h30=>k_is)
  (case h31 | h32 | h33 | h34 | h35 | h36 | h37 | h38 | h39 | h40 | h41 | h42 | h43 | h44 | h45 | h46 | h47 | h48 | h49 | h50 | h51 | h52 | h53 | h54 | h55 | h56 | h57 | h58 | h59 | h60 | h61 | h62 | h63 | h64 | h65 | h66 | h67 | h68 | h69 | h70 | h71 | h72 | h73 | h74 | h75 | h76 | h77 | h78 | h79 | h80 | h81 | h82 | h83 | h84 | h85 | h86 | h87=>(apply J.Fg.mk; k_is; apply L2.Ug<;>k_is))
  (case h88 | h89 | h90 | h91 | h92 | h93 | h94 | h95 | h96 | h97 | h98 | h99 | h100 | h101 | h102 | h103 | h104 | h105 | h106 | h107=>(apply J.Fm.mk; (apply L2.Pt.mk<;>k_is); apply L2.Ug<;>k_is))
  (case h108 | h109 | h110 | h111 | h112 | h113=>(apply J.Fi.mk; (apply L2.Mk.mk<;>k_is); apply L2.Ug<;>k_is))
  (case h114 | h115 | h116 | h117 | h118 | h119 | h120 | h121 | h122 | h123 | h124 | h125 | h126 | h127 | h128 | h129 | h130=>k_is)
  (case h131=>decide +kernel)
  (case h132=>k_is)
  (case h133=>decide +kernel)
  (case h134=>k_is)
  (case h135=>decide +kernel)
  (case h136 | h137 | h138 | h139=>k_is)
  (case h140=>decide +kernel)
  (case h141=>k_is)
