import PyProof.Rows.All
import Wide.All
import OpenK.AllK
import Wide.FinOn
import Lean
import PyProof.EqAt
import PyProof.EqKinds
import PyProof.TupleCall
import PyProof.Rows.CatFin
import PyProof.StrLawsIn
import KE.IntTextLaws
import KE.IntTextText
import PyProof.StrLawsTight
import PyProof.StrLawsChain
import PyProof.Rows.StrLawsPart
import PyProof.Rows.StrFirst
import PyProof.Rows.ReprOcc
import PyProof.Rows.StrItems
import PyProof.SumAny
import PyProof.SeqI3
import PyProof.WalkInts
import PyProof.NeKinds
import KE.KDictLaws
import PyProof.DictIter
import PyProof.DictWalks
import PyProof.Rows.DictUnroll
import PyProof.Rows.FStr
import KE.KSortTup
import PySem.Challenge.RW_jumpfield_k59_whole_two_copies
set_option Elab.async false
set_option linter.all false
set_option maxRecDepth 100000
set_option maxHeartbeats 8000000
theorem A0{p:Prop}(h:p:=by lia):p:=h
theorem A1{p:Prop}(h:p:=by decide +kernel):p:=h
theorem A2{p:Prop}(h:p:=by intro z; cases z):p:=h
theorem A3{p:Prop}(h:p:=by decide):p:=h
theorem A4{p:Prop}(h:p:=by simp):p:=h
theorem A6{p:Prop}(h:p:=by intro _ z; cases z):p:=h
theorem B0{p:Prop}(h:p:=by show 0 < 1000; decide):p:=h
theorem B1{p:Prop}(h:p:=by show 1 < 1000; decide):p:=h
theorem B2{p:Prop}(h:p:=by show (0:Int) < 2305843009213693951; decide):p:=h
theorem B3{p:Prop}(h:p:=by omega):p:=h
abbrev B4:=@List.getElem?_eq_some_iff
abbrev B5:=@List.length_map
abbrev B6:=@Nat.le_refl
abbrev B7:=@List.getElem?_map
abbrev B8:=@List.mem_cons
abbrev B9:=@PySem.Heap.get?_push_of_some
abbrev C0:=@List.mem_cons_self
abbrev C1:=@List.mem_cons_of_mem
abbrev C2:=@Nat.le_trans
abbrev C3:=@List.mem_singleton
abbrev C4:=@List.length_append
abbrev C5:=@Bool.false_ne_true
abbrev C6:=@PySem.Heap.get?_push_size
abbrev C7:=@List.map_append
abbrev C8:=@PySem.Heap.lt_size
abbrev C9:=@Option.map_eq_some_iff
abbrev D0:=@List.not_mem_nil
abbrev D1:=@List.mem_map
abbrev D2:=@List.mem_of_getElem?
abbrev D3:=@List.getElem?_eq_getElem
abbrev D4:=@List.mem_append
abbrev D5:=@Nat.lt_of_lt_of_le
abbrev D6:=@List.size_toArray
abbrev D7:=@Nat.pow_succ
abbrev D8:=@List.length_cons
abbrev D9:=@List.getD_eq_getElem?_getD
abbrev F0:=@Nat.ne_of_lt
abbrev F1:=@List.map_cons
abbrev F2:=@List.getElem?_append_right
abbrev F3:=@Int.natCast_pow
abbrev F4:=@List.getElem?_of_mem
abbrev F5:=@List.mem_append_right
abbrev F6:=@Int.eq_ofNat_of_zero_le
abbrev F7:=@List.take_add_one
abbrev F8:=@Nat.zero_le
abbrev F9:=@List.length_take
abbrev J0:=@List.take_length
abbrev J1:=@Int.toNat_natCast
abbrev J3:=@Nat.lt_of_le_of_lt
abbrev J6:=@Nat.mul_le_mul_left
abbrev J7:=@Nat.mod_lt
abbrev J8:=@List.getElem?_append_left
abbrev J9:=@List.mem_range
abbrev L5:=@Nat.pow_le_pow_right
abbrev L6:=@Nat.div_eq_of_lt
abbrev L7:=@Nat.not_lt_zero
abbrev L9:=@Nat.div_add_mod
abbrev M0:=@List.nodup_cons
abbrev M4:=@List.length_singleton
abbrev M5:=@Int.emod_lt_of_pos
abbrev M6:=@Int.add_sub_cancel
abbrev M7:=@Nat.zero_add
abbrev M8:=@Nat.add_mul_div_left
abbrev M9:=@List.find?_cons
abbrev N1:=@Int.natCast_add
abbrev N2:=@Nat.lt_irrefl
abbrev N3:=@List.sum_cons
abbrev N4:=@Nat.mod_eq_of_lt
abbrev N5:=@Nat.le_of_not_lt
abbrev N6:=@List.mem_flatMap
abbrev N7:=@List.lookup_cons
abbrev N8:=@Option.toList_some
abbrev N9:=@PySem.Heap.size_push
abbrev O0:=@List.length_replicate
abbrev O1:=@Nat.add_mul_mod_self_left
abbrev O2:=@List.length_range
abbrev O3:=@Bool.and_eq_true
abbrev O4:=@Int.natCast_mul
abbrev O5:=@Int.mul_assoc
abbrev O6:=@List.nodup_append
abbrev O7:=@List.append_assoc
abbrev O8:=@Int.neg_mul
abbrev O9:=@PySem.Heap.get?_none_of_le
abbrev P0:=@Nat.succ_le_succ
abbrev P1:=@List.replicate_succ
abbrev P2:=@List.map_eq_nil_iff
abbrev P3:=@List.getElem?_range
abbrev P4:=@Int.toNat_of_nonneg
abbrev P5:=@Int.emod_nonneg
abbrev P6:=@Bool.eq_iff_iff
abbrev P7:=@Bool.false_eq_true
abbrev P8:=@Int.add_mul
abbrev P9:=@List.nodup_nil
abbrev Q0:=@List.map_map
abbrev Q4:=@PySem.Heap.get?_update_self
abbrev Q5:=@List.mem_append_left
abbrev Q6:=@Int.mul_add
abbrev Q7:=@List.length_pos_iff
abbrev Q8:=@Nat.mul_comm
abbrev Q9:=@Nat.lt_trans
abbrev R0:=@Int.add_zero
abbrev R1:=@Int.sub_eq_add_neg
abbrev R3:=@Bool.xor_false
abbrev R4:=@Bool.false_xor
abbrev R5:=@Nat.pow_pos
abbrev R6:=@Nat.le_succ
abbrev R7:=@List.flatten_cons
abbrev R8:=@Bool.eq_false_iff
abbrev R9:=@Nat.lt_succ_iff_lt_or_eq
abbrev S0:=@List.getElem?_take_of_lt
abbrev S3:=@List.any_cons
abbrev S4:=@Nat.min_le_right
abbrev S5:=@Nat.lt_succ_self
abbrev S6:=@Nat.lt_of_not_le
abbrev S7:=@Nat.le_add_right
abbrev S8:=@List.getElem_inj
abbrev S9:=@List.getElem?_replicate
abbrev T0:=@List.getElem?_cons_succ
abbrev T1:=@List.all_eq_true
abbrev T3:=@Int.natCast_ediv
abbrev T4:=@Nat.ne_of_gt
abbrev T5:=@Int.zero_mul
abbrev T6:=@Int.pow_succ
abbrev T7:=@Int.mul_comm
abbrev T8:=@PySem.Heap.get?_update_other
abbrev T9:=@Option.map_some
abbrev U0:=@List.range_succ
abbrev U1:=@List.foldl_cons
abbrev U2:=@Nat.div_lt_iff_lt_mul
abbrev U3:=@List.getElem?_eq_none
abbrev U4:=@Int.emod_add_mul_ediv
abbrev U5:=@Nat.pow_lt_pow_right
abbrev U6:=@Nat.lt_one_iff
abbrev U7:=@List.mem_iff_getElem
abbrev U8:=@Int.sub_neg
abbrev U9:=@Int.one_mul
abbrev V0:=@Int.le_refl
abbrev V1:=@List.filterMap_cons
abbrev V2:=@List.findIdx?_eq_some_iff_getElem
abbrev V3:=@Option.isSome_map
abbrev V4:=@Nat.sub_self
abbrev V5:=@Nat.lt_succ_of_lt
abbrev V6:=@List.flatMap_cons
abbrev V7:=@PySem.wpAny_bind
abbrev V8:=@if_neg
abbrev V9:=@decide_eq_true
abbrev W0:=@decide_eq_false
abbrev W1:=@PySem.wpAny_pure
abbrev W2:=@if_pos
abbrev W3:=@Option.some.inj
abbrev W4:=@Ne.symm
abbrev W5:=@Classical.byContradiction
abbrev W6:=@Int.ofNat.inj
abbrev W7:=@PySem.W.mg_of
abbrev W8:=@congrArg
abbrev W9:=@PySem.Paired.length
abbrev Y4:=@PySem.PassesOwn.never
abbrev Y5:=@or_false
abbrev Y6:=@PySem.W.kia_one
abbrev Y7:=@of_decide_eq_true
abbrev Y8:=@PyProof.Rows.boot_isinstance
abbrev Y9:=@PySem.wpAny_truthy_bool
abbrev Z0:=@PySem.F.plainAttrs_list
abbrev Z1:=@PyProof.Rows.boot_tuple
abbrev Z2:=@PySem.F.slot_list_append
abbrev Z3:=@PySem.F.type_list_append
abbrev Z4:=@PySem.mem_of_lookup
abbrev Z5:=@PyProof.Rows.callWith_type1
abbrev Z6:=@PySem.boot_len
abbrev Z7:=@PyProof.Rows.boot_int
abbrev Z8:=@PySem.wpAny_field
abbrev Z9:=@PySem.wpAny_mono
abbrev X4:=@PySem.F.plainAttrs_str
abbrev X5:=@PySem.Heap.SameBut.update
abbrev X6:=@PySem.wpAny_call_entry
abbrev X7:=@PySem.wpAny_seqItems
abbrev X8:=@PySem.wpAny_typeNameOfWhole_keyiter
abbrev X9:=@PySem.wpAny_setField_rec
abbrev K0:=@PySem.tupleKind_room_in1
abbrev K1:=@PySem.wpAny_passesOwn
abbrev K2:=@PySem.F.slot_dict_keyiterator_next
abbrev K3:=@PySem.strLen_append
abbrev K4:=@PySem.wpAny_newObj_type
abbrev K5:=@PySem.F.slot_tuple_iterator_next
abbrev K6:=@PySem.Paired.snoc
abbrev K7:=@PySem.wpAny_holding
abbrev K8:=@PySem.wpAny_typeNameOf_keyiter
abbrev K9:=@PySem.wpAny_Call_Name_kw
abbrev A0a:=@PySem.call_meets
abbrev A0b:=@PyProof.Rows.boot_str
abbrev A0c:=@PySem.wpAny_pyIter_list
abbrev A0d:=@PySem.wpAny_dictEntries
abbrev A0e:=@PySem.wpAny_attempt
abbrev A0f:=@if_false
abbrev A0g:=@not_false_eq_true
abbrev A0h:=@PySem.Obj.data_mapFields
abbrev A1a:=@PySem.F.slot_dict_get
abbrev A1b:=@PyProof.Rows.boot_min
abbrev A1c:=@not_or
abbrev A1d:=@Prod.ext
abbrev A1e:=@if_true
abbrev A1f:=@PySem.W.plainGet_of
abbrev A1g:=@PySem.Calls.callWith_builtin
abbrev A1h:=@PySem.wpAny_execs_nil
abbrev A2a:=@PySem.F.slot_zip_next
abbrev A2b:=@PySem.size_of_entries
abbrev A2c:=@PySem.W.callWith_K
abbrev A2d:=@PySem.Calls.evalArgs_plain
abbrev A2e:=@PySem.wpAny_setField
abbrev A2f:=@PySem.wpAny_updateSeq_pair
abbrev A2g:=@decide_eq_true_eq
abbrev A2h:=@PySem.wpAny_onRaise
abbrev A3a:=@PySem.Calls.spliced_cons
abbrev A3b:=@PySem.F.args_str_split_2
open PySem.W (instObj methodObj lookIn plainGet hasDictIn findIn handedIn isFn plainOver takerIn any_some makesIn emptyDict keepIn specialIn takesIn mroIn kitOne kitx_list kitx_dict notCls clsIn)
namespace L2
open PySem PySem.Spec PyProof.Rows
abbrev Key:=Sum Int Str
def OA:Key->Value->Bool
 |.inl k,v=>Value.isInt k v
 |.inr x,v=>Value.isStrOf x v
def keyH(w:World):Key->Int
 |.inl k=>hashInt k
 |.inr x=>hashStr w x
theorem BT:∀{k:Key}{v:Value},OA k v=true->(∃i t,k=Sum.inl i/\v=Value.int i t)\/(∃x t,k=Sum.inr x/\v=Value.str x t)
 |.inl i,v,h=>by
  obtain⟨t,e⟩:=Value.isInt_shape (k:=i) (v:=v) h;exact .inl ⟨i,t,rfl,e⟩
 |.inr x,v,h=>by
  obtain⟨t,e⟩:=Value.isStrOf_shape (x:=x) (v:=v) h;exact .inr ⟨x,t,rfl,e⟩
theorem UJ(i:Int)(t:Tok):OA (.inl i) (.int i t)=true:=by simp[OA,Value.isInt]
theorem UI(x:Str)(t:Tok):OA (.inr x) (.str x t)=true:=by simp[OA,Value.isStrOf]
theorem key_ll(a b:Int):decide ((Sum.inl a:Key)=Sum.inl b)=(a==b):=by
 by_cases e:a=b
 ·subst e;simp
 ·have h:¬(Sum.inl a:Key)=Sum.inl b:=λq=>e (Sum.inl.inj q);rw[W0 h];exact(beq_eq_false_iff_ne.mpr e).symm
theorem key_rr(a b:Str):decide ((Sum.inr a:Key)=Sum.inr b)=decide (a=b):=by
 by_cases e:a=b
 ·subst e;simp
 ·have h:¬(Sum.inr a:Key)=Sum.inr b:=λq=>e (Sum.inr.inj q);rw[W0 h,W0 e]
theorem key_lr(a:Int)(b:Str):decide ((Sum.inl a:Key)=Sum.inr b)=false:=W0 (λq=>nomatch q)
theorem key_rl(a:Str)(b:Int):decide ((Sum.inr a:Key)=Sum.inl b)=false:=W0 (λq=>nomatch q)
def BS(prog:Program)(w:World):PySem.KeyKind prog w Key where
 is:=OA
 hash:=keyH w
 inj:=λv a b ha hb=>by
  rcases BT ha with ⟨i,t,rfl,rfl⟩|⟨x,t,rfl,rfl⟩
  ·rcases BT hb with ⟨j,u,rfl,e⟩|⟨y,u,rfl,e⟩
   ·injection e with e1 _;rw[e1]
   ·exact nomatch e
  ·rcases BT hb with ⟨j,u,rfl,e⟩|⟨y,u,rfl,e⟩
   ·exact nomatch e
   ·injection e with e1 _;rw[e1]
 byValue:=λk v h=>by
  rcases BT h with ⟨i,t,rfl,rfl⟩|⟨x,t,rfl,rfl⟩<;>rfl
 pyHash:=λhv h=>by
  rcases BT hv with ⟨i,t,rfl,rfl⟩|⟨x,t,rfl,rfl⟩
  ·exact wpAny_pyHash_int h
  ·exact wpAny_pyHash_str h
 eqBool:=λhu hv h=>by
  rcases BT hu with ⟨i,t,rfl,rfl⟩|⟨x,t,rfl,rfl⟩
  ·rcases BT hv with ⟨j,u,rfl,rfl⟩|⟨y,u,rfl,rfl⟩
   ·rw[key_ll]at h;exact wpAny_eqBool_int h
   ·rw[key_lr]at h;exact SeqAt.EqAt.int_str i t y u _ _ _ _ h
  ·rcases BT hv with ⟨j,u,rfl,rfl⟩|⟨y,u,rfl,rfl⟩
   ·rw[key_rl]at h;exact SeqAt.EqAt.str_int x t j u _ _ _ _ h
   ·rw[key_rr]at h;exact wpAny_eqBool_str h
 «strs»:=λk x t v h=>by
  rcases BT h with ⟨i,u,rfl,e⟩|⟨y,u,rfl,e⟩
  ·exact nomatch e
  ·injection e with e1 _
   subst e1;cases v<;>rfl
theorem QZ(prog:Program)(w:World)(i:Int)(t:Tok):(BS prog w).is (.inl i) (.int i t)=true:=UJ i t
theorem QY(prog:Program)(w:World)(x:Str)(t:Tok):(BS prog w).is (.inr x) (.str x t)=true:=UI x t
inductive V where
 |non|bl (b:Bool)|int (i:Int)|str (x:Str)|byt (b:Array UInt8)|flt (b:UInt64)|ref (a:Addr)|ty (n:String)
 deriving DecidableEq
def AO:V->Value->Prop
 |.non,u=>u=Value.none
 |.bl b,u=>u=Value.bool b
 |.int i,u=>∃t,u=Value.int i t
 |.str x,u=>∃t,u=Value.str x t
 |.byt b,u=>∃t,u=Value.bytes b t
 |.flt b,u=>∃t,u=Value.float b t
 |.ref a,u=>u=Value.ref a
 |.ty n,u=>u=Value.type n
abbrev AL:List V->List Value->Prop:=Paired AO
theorem AL.length{xs:List V}{us:List Value}(r:AL xs us):xs.length=us.length:=W9 r
theorem AL.get:∀{xs:List V}{us:List Value}{i:Nat}{x:V},AL xs us->xs[i]?=some x->∃u,us[i]?=some u/\AO x u
 |_,_,_,_,.nil,e=>by simp at e
 |_,_,0,_,.cons r _,e=>by simp at e;subst e;exact⟨_,rfl,r⟩
 |_,_,i+1,x,.cons _ t,e=>by
  obtain⟨u,h1,h2⟩:=AL.get (i:=i) (x:=x) t (by simpa using e);exact⟨u,by simpa using h1,h2⟩
theorem AL.set{x:V}{u:Value}(r:AO x u):∀{xs:List V}{us:List Value}(i:Nat),AL xs us->AL (xs.set i x) (us.set i u)
 |_,_,_,.nil=>.nil
 |_,_,0,.cons _ t=>.cons r t
 |_,_,i+1,.cons q t=>.cons q (AL.set r i t)
theorem AL.append:∀{xs ys:List V}{us ws:List Value},AL xs us->AL ys ws->AL (xs++ys) (us++ws)
 |_,_,_,_,.nil,s=>s
 |_,_,_,_,.cons r t,s=>.cons r (AL.append t s)
theorem AL.take:∀{xs:List V}{us:List Value}(n:Nat),AL xs us->AL (xs.take n) (us.take n)
 |_,_,0,_=>.nil
 |_,_,_+1,.nil=>.nil
 |_,_,n+1,.cons r t=>.cons r (AL.take n t)
theorem AL.drop:∀{xs:List V}{us:List Value}(n:Nat),AL xs us->AL (xs.drop n) (us.drop n)
 |_,_,0,r=>r
 |_,_,_+1,.nil=>.nil
 |_,_,n+1,.cons _ t=>AL.drop n t
theorem AL.none_of:∀{xs:List V}{us:List Value}{i:Nat},AL xs us->xs[i]?=none->us[i]?=none:=λ{xs us i} r e=>by
 have h1:=r.length;have h2:xs.length<=i:=List.getElem?_eq_none_iff.mp e;exact List.getElem?_eq_none_iff.mpr A0
def GW:Option V->Option Value->Prop
 |some v,some u=>AO v u
 |none,none=>True
 |_,_=>False
def KV{κ:Type}:List (κ×V)->List (κ×Value)->Prop:=Paired λ(p:κ×V)(q:κ×Value)=>p.1=q.1/\AO p.2 q.2
def kV:Key->V
 |.inl i=>.int i
 |.inr x=>.str x
inductive HO where
 |lst (xs:List V)
 |tup (xs:List V)
 |dK (kvs:List (Key×V))|dT (kvs:List (List Key×V))
 |set (S:Int->Bool) (n:Nat)
 |ins (C dx:Addr) (fs:List (Str×V))
 |own (x:Addr)
 |xd (fs:List (Str×V))
 |met (f x:Addr)
 |rng (lo hi:Int)
 |frz (o:Obj) (u:HO)
 |tbl (ps:Array Value)
 |ext (φ:Heap->Prop)
abbrev Hp:=Addr->Option HO
def upd(H:Hp)(a:Addr)(o:HO):Hp:=λb=>if b=a then some o else H b
theorem Af{H:Hp}{a:Addr}{o:HO}:upd H a o a=some o:=by unfold upd;rw[W2 rfl]
theorem Ao{H:Hp}{a b:Addr}{o:HO}(h:b≠a):upd H a o b=H b:=by unfold upd;rw[V8 h]
theorem Gb{H:Hp}{a:Addr}{o u:HO}:upd (upd H a o) a u=upd H a u:=by
 funext b;unfold upd;split<;>rfl
theorem Ay{H:Hp}{a b:Addr}{o u:HO}(h:H a=some o)(h':H b=some u)(d:o≠u):a≠b:=by
 intro e;subst e;rw[h]at h';exact d (W3 h')
theorem Ar{H:Hp}{a b:Addr}{o:HO}(h:H a=some o)(h':H b=none):a≠b:=by
 intro e;subst e;rw[h]at h';cases h'
section
variable(P:Program)(w:World)
def BF(H:Hp)(h:Heap)(a:Addr):HO->Prop
 |.lst xs=>xs.length<=sizeLine/\∃(its:List Value)(n:Nat),AL xs its/\h.get? a=some {cls:=.type "list",data:=.seq its.toArray n}
 |.tup xs=>xs.length<=sizeLine/\∃its:List Value,AL xs its/\IsTup h a its.toArray
 |.dK kvs=>kvs.length<=sizeLine/\(a==sysModules)=false/\∃vs,KV kvs vs/\h.DictOf (BS P w) a vs
 |.dT kvs=>kvs.length<=sizeLine/\(a==sysModules)=false/\∃xs:List (List Key×Addr×Value),
   Paired (λ(p:List Key×V)(q:List Key×Addr×Value)=>p.1=q.1/\H q.2.1=some (.tup (p.1.map kV))/\AO p.2 q.2.2) kvs xs /\
   ∃o es ep,h.get? a=some o/\o.ExactDict/\o.data=.dict es ep/\es.toList=xs.map (entryOfKey (tupleKind (BS P w)))/\(xs.map (·.1)).Nodup
 |.set S n=>h.SetOf (intKind P w) a S n
 |.ins C dx fs=>H dx=some (.own a)/\fs.length<=1000/\dx≠a/\h.get? a=some (instObj C dx) /\
   ∃mA,h.Ns1 dx mA/\(∀f,GW (fs.lookup f) (mA f))/\PySem.Within mA (fs.map (·.1))
 |.own _=>∃o,h.get? a=some o
 |.xd fs=>∃mA,h.Ns1 a mA/\∀f,GW (fs.lookup f) (mA f)
 |.rng lo hi=>∃t u v,h.get? a=some {cls:=.type "range",data:=.fields #[.int lo t,.int hi u,.int 1 v]}
 |.frz o u=>h.get? a=some o/\BF H h a u
 |.tbl ps=>h.get? a=some {cls:=.none,data:=.fields ps}
 |.met f x=>h.get? a=some (methodObj (.ref f) (.ref x))
 |.ext φ=>φ h/\(∃o,h.get? a=some o)/\∀h1 h2:Heap,φ h1->(∀o,h1.get? a=some o->h2.get? a=some o)->φ h2
def HOk(H:Hp)(h:Heap):Prop:=∀a o,H a=some o->BF P w H h a o
end
section
variable{P:Program}{w:World}{H H':Hp}{h h':Heap}{a:Addr}{o:HO}
theorem BF.lt(x:BF P w H h a o):a<h.objs.size:=by
 cases o with
 |lst xs=>obtain⟨_,_,_,_,e⟩:=x;exact C8 e
 |tup xs=>obtain⟨_,_,_,p⟩:=x;exact p.lt
 |dK kvs=>obtain⟨_,_,_,_,o,_,_,e,_⟩:=x;exact C8 e
 |dT kvs=>obtain⟨_,_,_,_,o,_,_,e,_⟩:=x;exact C8 e
 |set S n=>obtain⟨o,_,_,_,e,_⟩:=x;exact C8 e
 |ins C dx fs=>obtain⟨_,_,_,e,_⟩:=x;exact C8 e
 |own y=>obtain⟨_,e⟩:=x;exact C8 e
 |xd fs=>obtain⟨_,⟨_,_,_,e,_⟩,_⟩:=x;exact C8 e
 |rng lo hi=>obtain⟨_,_,_,e⟩:=x;exact C8 e
 |frz ob u=>obtain⟨e,_⟩:=x;exact C8 e
 |tbl ps=>exact C8 (show h.get? a=some _ from x)
 |met f y=>exact C8 (show h.get? a=some _ from x)
 |ext φ=>obtain⟨_,⟨_,e⟩,_⟩:=x;exact C8 e
theorem Paired.mapP{α β:Type}{F G:α->β->Prop}:∀{l₁:List α}{l₂:List β},Paired F l₁ l₂->(∀a b,F a b->G a b)->Paired G l₁ l₂
 |_,_,.nil,_=>.nil
 |_,_,.cons r t,f=>.cons (f _ _ r) (Paired.mapP t f)
theorem BF.stay(x:BF P w H h a o)(k:∀b u,(b=a\/H b=some (.own a))->h.get? b=some u->h'.get? b=some u)
  (ho:∀b,H b=some (.own a)->H' b=some (.own a)) (ht:∀b xs,H b=some (.tup xs)->H' b=some (.tup xs)):BF P w H' h' a o:=by
 induction o with
 |lst xs=>obtain⟨z,its,n,r,e⟩:=x;exact⟨z,its,n,r,k _ _ (.inl rfl) e⟩
 |tup xs=>obtain⟨z,its,r,ob,e,c⟩:=x;exact⟨z,its,r,ob,k _ _ (.inl rfl) e,c⟩
 |dK kvs=>obtain⟨z,y,vs,r,ob,es,ep,e,c⟩:=x;exact⟨z,y,vs,r,ob,es,ep,k _ _ (.inl rfl) e,c⟩
 |dT kvs =>
  obtain⟨z,y,xs,r,ob,es,ep,e,c⟩:=x;exact⟨z,y,xs,Paired.mapP r λp q z=>⟨z.1,ht _ _ z.2.1,z.2.2⟩,ob,es,ep,k _ _ (.inl rfl) e,c⟩
 |set S n=>obtain⟨ob,es,ep,t,e,c⟩:=x;exact⟨ob,es,ep,t,k _ _ (.inl rfl) e,c⟩
 |ins C dx fs =>
  obtain⟨d,z,ne,e,mA,⟨od,es,ep,e2,c⟩,r⟩:=x;exact⟨ho _ d,z,ne,k _ _ (.inl rfl) e,mA,⟨od,es,ep,k _ _ (.inr d) e2,c⟩,r⟩
 |own y=>obtain⟨ob,e⟩:=x;exact⟨ob,k _ _ (.inl rfl) e⟩
 |xd fs=>obtain⟨mA,⟨od,es,ep,e,c⟩,r⟩:=x;exact⟨mA,⟨od,es,ep,k _ _ (.inl rfl) e,c⟩,r⟩
 |rng lo hi=>obtain⟨t,u,v,e⟩:=x;exact⟨t,u,v,k _ _ (.inl rfl) e⟩
 |frz ob u ih=>obtain⟨e,q⟩:=x;exact⟨k _ _ (.inl rfl) e,ih q⟩
 |tbl ps =>
  have e:h.get? a=some {cls:=.none,data:=.fields ps}:=x;show h'.get? a=some {cls:=.none,data:=.fields ps};exact k a _ (.inl rfl) e
 |met f y =>
  have e:h.get? a=some (methodObj (.ref f) (.ref y)):=x;show h'.get? a=some (methodObj (.ref f) (.ref y));exact k a _ (.inl rfl) e
 |ext φ=>obtain⟨p,⟨o,e⟩,st⟩:=x;exact⟨st _ _ p λo q=>k _ _ (.inl rfl) q,⟨o,k _ _ (.inl rfl) e⟩,st⟩
theorem HOk.lt(x:HOk P w H h)(e:H a=some o):a<h.objs.size:=(x a o e).lt
theorem HOk.fresh(x:HOk P w H h)(e:h.objs.size<=a):H a=none:=by
 cases q:H a with
 |none=>rfl
 |some u=>exact absurd (D5 (x.lt q) e) (N2 _)
theorem HOk.kept(x:HOk P w H h)(k:∀b u,h.get? b=some u->h'.get? b=some u):HOk P w H h':=λa o e =>
 (x a o e).stay (λb u _ q=>k b u q) (λ_ q=>q) λ_ _ q=>q
theorem HOk.laid(x:HOk P w H h)(k:∀b u,h.get? b=some u->h'.get? b=some u)(hp:h.objs.size<=a)(new:BF P w (upd H a o) h' a o):HOk P w (upd H a o) h':=λb u e=>by
 have hn:=x.fresh hp;by_cases hb:b=a
 ·subst hb;rw[Af]at e;cases e;exact new
 ·rw[Ao hb]at e;exact(x b u e).stay (λc v _ q=>k c v q) (λc q=>by rw[Ao (Ar q hn)];exact q) λc xs q=>by rw[Ao (Ar q hn)];exact q
end
def Rd(H:Hp)(a:Addr)(u:HO):Prop:=H a=some u\/∃o,H a=some (.frz o u)
theorem Rd.ok{P:Program}{w:World}{H:Hp}{h:Heap}{a:Addr}{u:HO}(r:Rd H a u)(x:HOk P w H h):BF P w H h a u:=by
 rcases r with r|⟨o,r⟩
 ·exact x a u r
 ·obtain⟨_,q⟩:=x a _ r;exact q
def Mut:Option HO->Prop
 |some (.lst _)=>True
 |some (.dK _)=>True
 |some (.dT _)=>True
 |some (.set _ _)=>True
 |some (.ins _ _ _)=>True
 |some (.ext _)=>True
 |_=>False
section
variable{P:Program}{w:World}{H:Hp}{h h':Heap}{x e:Addr}{o':HO}
theorem HOk.write(ok:HOk P w H h)(mu:Mut (H x))(he:e=x\/H e=some (.own x))(k:∀b u,b≠e->h.get? b=some u->h'.get? b=some u)(heo:∃u,h'.get? e=some u)
  (new:BF P w (upd H x o') h' x o'):HOk P w (upd H x o') h':=λb u q=>by
 have nown:∀c y,H c=some (.own y)->c≠x:=λc y r z=>by subst z;rw[r]at mu;exact mu
 have ntup:∀c xs,H c=some (.tup xs)->c≠x:=λc xs r z=>by subst z;rw[r]at mu;exact mu
 by_cases hb:b=x
 ·subst hb;rw[Af]at q;cases q;exact new
 ·rw[Ao hb]at q;by_cases hbe:b=e
  ·have q':H b=some (.own x):=by
    rcases he with z|z
    ·exact absurd (hbe.trans z) hb
    ·rw[hbe];exact z
   rw[q]at q';cases q';obtain⟨v,hv⟩:=heo;exact⟨v,by rw[hbe];exact hv⟩
  ·refine(ok b u q).stay (λc v hc r=>k c v ?_ r) (λc r=>by rw[Ao (nown c b r)];exact r) λc xs r=>by rw[Ao (ntup c xs r)];exact r
   rcases hc with rfl|hc
   ·exact hbe
   ·rintro rfl;rcases he with z|z
    ·exact nown c b hc z
    ·rw[hc]at z;cases z;exact hb rfl
end
structure Un(fs ex:List Addr)(H H':Hp)(h h':Heap):Prop where
 keep:∀b o,h.get? b=some o->H b=none->b∉fs->b∉ex->h'.get? b=some o
 slot:∀b o,h.get? b=some o->H b=none->b∈fs->b∉ex->∃sl,h'.get? b=some {o with slots:=sl}
 free:∀b o,h.get? b=some o->H b=none->b∉ex->H' b=none
 there:∀b o,h.get? b=some o->b∉ex->∃o',h'.get? b=some o'
 tups:∀b xs,H b=some (.tup xs)->H' b=some (.tup xs)
 frzs:∀b o u,H b=some (.frz o u)->H' b=some (.frz o u)
 tbls:∀b ps,H b=some (.tbl ps)->∃more,H' b=some (.tbl (ps++more))
section
variable{fs fs' ex ex':List Addr}{H H1 H2:Hp}{h h1 h2 h':Heap}{a x e:Addr}{o:HO}
theorem Un.any(u:Un fs ex H H1 h h1){b:Addr}{ob:Obj}(q:h.get? b=some ob)(n:H b=none)(hx:b∉ex):∃sl,h1.get? b=some {ob with slots:=sl}:=by
 by_cases hb:b∈fs
 ·exact u.slot b ob q n hb hx
 ·exact⟨ob.slots,u.keep b ob q n hb hx⟩
theorem Un.kept(k:∀b u,h.get? b=some u->h'.get? b=some u):Un fs ex H H h h' :=
 ⟨λb ob q _ _ _=>k b ob q,λb ob q _ _ _=>⟨ob.slots,k b ob q⟩,λ_ _ _ n _=>n,λb ob q _=>⟨ob,k b ob q⟩,λ_ _ q=>q,λ_ _ _ q=>q,λ_ ps q=>⟨#[],by rw[q];simp⟩⟩
theorem Un.refl:Un fs ex H H h h:=Un.kept λ_ _ q=>q
theorem Un.laid(k:∀b u,h.get? b=some u->h'.get? b=some u)(hp:h.objs.size<=a)(hn:H a=none):Un fs ex H (upd H a o) h h' where
 keep:=λb u q _ _ _=>k b u q
 slot:=λb u q _ _ _=>⟨u.slots,k b u q⟩
 free:=λb u q n _=>by rw[Ao (F0 (D5 (C8 q) hp))];exact n
 there:=λb u q _=>⟨u,k b u q⟩
 tups:=λb xs q=>by rw[Ao (Ar q hn)];exact q
 frzs:=λb u xs q=>by rw[Ao (Ar q hn)];exact q
 tbls:=λb ps q=>⟨#[],by rw[Ao (Ar q hn),q];simp⟩
theorem Un.write(mu:Mut (H x))(he:e=x\/H e=some (.own x))(k:∀b u,b≠e->h.get? b=some u->h'.get? b=some u)(heo:∃u,h'.get? e=some u):Un fs ex H (upd H x o) h h':=by
 have hx:∀b,H b=none->b≠x:=λb n z=>by subst z;rw[n]at mu;exact mu
 have hb:∀b,H b=none->b≠e:=λb n z=>by
  subst z;rcases he with r|r
  ·exact hx b n r
  ·rw[n]at r;cases r
 have hm:∀b u,H b=some u->¬Mut (some u)->b≠x:=λb u q nm z=>by subst z;rw[q]at mu;exact nm mu
 refine⟨λb u q n _ _=>k b u (hb b n) q,λb u q n _ _=>⟨u.slots,k b u (hb b n) q⟩,λb u q n _=>by rw[Ao (hx b n)];exact n,λb u q _=>?_,
  λb xs q=>by rw[Ao (hm b _ q λz=>z)];exact q,λb u xs q=>by rw[Ao (hm b _ q λz=>z)];exact q,λb ps q=>⟨#[],by rw[Ao (hm b _ q λz=>z),q];simp⟩⟩
 by_cases hbe:b=e
 ·subst hbe;exact heo
 ·exact⟨u,k b u hbe q⟩
end
def trk(h:Heap)(H:Hp):List Addr:=(List.range h.objs.size).filter λa=>(H a).isSome
def PL(h:Heap)(H:Hp):Heap:=PySem.W.hideAll h (trk h H)
theorem UM(h:Heap)(H:Hp):(PL h H).objs.size=h.objs.size:=PySem.W.hideAll_size _ _
theorem WG{h:Heap}{H:Hp}{b:Addr}{o:Obj}(e:h.get? b=some o)(n:H b=none):(PL h H).get? b=some o :=
 PySem.W.hideAll_get _ e λhm=>by
  have q:(H b).isSome=true:=(List.mem_filter.mp hm).2;rw[n]at q;simp at q
theorem of_hidT{h:Heap}{H:Hp}{b:Addr}{o:Obj}(e:(PL h H).get? b=some o):h.get? b=some o/\H b=none:=by
 have e':h.get? b=some o:=PySem.W.of_hideAll (trk h H) e;refine⟨e',?_⟩;cases q:H b with
 |none=>rfl
 |some x =>
  have hm:b∈trk h H:=List.mem_filter.mpr ⟨J9.mpr (C8 e'),by simp[q]⟩;have z:(PL h H).get? b=none:=PySem.W.hideAll_none (trk h H) hm;rw[z]at e;cases e
structure Mod(K:PySem.W.Frag)(mg:Str->Option Value)(base:Heap):Prop where
 kin:K.In base
 glob:base.Ns mainGlobals mg
 blt:∃mb,base.Ns builtinsNs mb/\∀x:Str,x≠"__name__" -> mb x=bootBuiltins x
 nolimit:base.NoLimit
structure Cx where
 prog:Program
 w:World
 K:PySem.W.Frag
 mg:Str->Option Value
 base:Heap
 A:Around
 N:List Str
 s₀:Shared
 H₀:Hp
 env:Env
 outer:List Env
 stack:List Env
 ex:List Addr
 fn:Str->Bool
 calm:Bool
 pn:List (Addr×Obj)
 xe:Value->Shared->Prop
def frs(l:List Env):List Addr:=l.filterMap (·.frame)
abbrev Cx.fs(X:Cx):List Addr:=frs X.outer
def Vis(sc:Scope)(x:Str):Prop:=sc.names.lookup x=some .local\/sc.names.lookup x=some .cell\/sc.names.lookup x=some .free
def Loc(sc:Scope)(x:Str):Prop:=sc.names.lookup x=some .local\/sc.names.lookup x=some .cell
def Look(env:Env)(h:Heap)(m:Str->Option Value)(x:Str)(u:Value):Prop :=
 (env.kindOf x=some .local/\m x=some u)\/((env.kindOf x=some .cell\/env.kindOf x=some .free)/\∃c,env.cells.lookup x=some c/\h.IsCell c (some u))
structure Cx.Ok(X:Cx):Prop where
 mod:Mod X.K X.mg X.base
 kind:X.env.scope.kind=.function
 glob:X.env.globals=mainGlobals
 blt:X.env.builtins=builtinsNs
 above:X.s₀.heap.objs.size<=X.env.locals
 inj:∀x y c,X.env.cells.lookup x=some c->X.env.cells.lookup y=some c->x=y
 has:∀x,(X.env.kindOf x=some .cell\/X.env.kindOf x=some .free)->∃c,X.env.cells.lookup x=some c
 cab:∀x c,X.fn x=true->X.env.cells.lookup x=some c->X.s₀.heap.objs.size<=c
 hd:X.calm=true->X.A.handled=none
 frames:X.A.frames=some X.stack
 stk:X.stack=X.outer\/(X.stack=X.env::X.outer/\X.env.frame=some X.env.locals)
 exf:∀b∈X.ex,b≠X.env.locals/\∀x c,X.env.cells.lookup x=some c->c≠b
 bs:∀b o,X.base.get? b=some o->X.s₀.heap.get? b=some o/\X.H₀ b=none
 bsz:X.base.objs.size<=X.s₀.heap.objs.size
 noex:∀b o,X.base.get? b=some o->b∉X.ex
 exfs:∀b∈X.ex,b∉X.fs
 funs:X.s₀.heap.FunFrames X.base X.outer
 frf:∀b∈X.fs,X.H₀ b=none
structure Inv(X:Cx)(pins:List (Addr×Obj))(σ:List (Option V))(H:Hp)(s:Shared):Prop where
 ok:X.Ok
 os:s.os=X.s₀.os
 bare:AllBare s.gens
 base:Un X.fs X.ex X.H₀ H X.s₀.heap s.heap
 loc:∃m,s.heap.Ns X.env.locals m/\∀(i:Nat)(x:Str)(v:V),X.N[i]?=some x->σ[i]?=some (some v)->Vis X.env.scope x->∃u,AO v u/\Look X.env s.heap m x u
 cell:∀x c,X.env.cells.lookup x=some c->∃v,s.heap.IsCell c v
 free:H X.env.locals=none
 freeC:∀x c,X.env.cells.lookup x=some c->H c=none
 pin:∀p∈X.pn++pins,s.heap.get? p.1=some p.2/\H p.1=none/\p.1≠X.env.locals/\p.1∉X.fs/\∀v,p.2.data≠.cell v
 hok:HOk X.prog X.w H s.heap
 len:σ.length=X.N.length
section
variable{X:Cx}{pins:List (Addr×Obj)}{σ:List (Option V)}{H H':Hp}{s:Shared}{h':Heap}
theorem Cx.Ok.nofr(ok:X.Ok){b:Addr}{o:Obj}(e:X.base.get? b=some o):b∉X.fs:=λhb=>by
 have:=(ok.funs.mem hb).1;rw[e]at this;cases this
theorem Inv.bs(I:Inv X pins σ H s):∀b o,X.base.get? b=some o->s.heap.get? b=some o/\H b=none:=λb o e =>
 ⟨I.base.keep b o (I.ok.bs b o e).1 (I.ok.bs b o e).2 (I.ok.nofr e) (I.ok.noex b o e),I.base.free b o (I.ok.bs b o e).1 (I.ok.bs b o e).2 (I.ok.noex b o e)⟩
theorem Inv.bk(I:Inv X pins σ H s):∀b o,X.base.get? b=some o->s.heap.get? b=some o:=λb o e=>(I.bs b o e).1
theorem Inv.mod(I:Inv X pins σ H s):Mod X.K X.mg X.base:=I.ok.mod
theorem Inv.kIn(I:Inv X pins σ H s):X.K.In s.heap:=I.ok.mod.kin.keeps I.bk
theorem Inv.lt(I:Inv X pins σ H s):X.env.locals<s.heap.objs.size:=let ⟨_,hn,_⟩:=I.loc;hn.lt
theorem Inv.sz(I:Inv X pins σ H s):X.s₀.heap.objs.size<=s.heap.objs.size:=C2 I.ok.above (Nat.le_of_lt I.lt)
theorem Inv.nofs(I:Inv X pins σ H s){a:Addr}(h:s.heap.objs.size<=a):a∉X.fs:=λhb=>by
 obtain⟨_,o,ho,_⟩:=I.ok.funs.mem hb;exact absurd (D5 (C8 ho) (C2 I.sz h)) (N2 _)
theorem Inv.cne(I:Inv X pins σ H s):∀x c,X.env.cells.lookup x=some c->c≠X.env.locals:=λx c e z=>by
 obtain⟨v,o,ho,hd⟩:=I.cell x c e;obtain⟨m,⟨o',es,ep,ho',hd',_⟩,_⟩:=I.loc;rw[z,ho']at ho;cases ho;rw[hd']at hd;cases hd
theorem Inv.funs (I:Inv X pins σ H s):s.heap.FunFrames X.base X.outer:=by
 have all:∀(l:List Env),(∀b∈frs l,b∈X.fs)->X.s₀.heap.FunFrames X.base l->s.heap.FunFrames X.base l:=by
  intro l;induction l with
  |nil=>intro _ _;trivial
  |cons env r ih =>
   intro hs hl;obtain⟨hk,⟨L,o,hf,hn,ho,hd⟩,hr⟩:=hl;have hL:L∈X.fs:=hs L (by unfold frs;rw[V1,hf];exact C0);obtain⟨sl,e⟩:=I.base.slot L o ho (I.ok.frf L hL) hL λz=>I.ok.exfs L z hL;exact⟨hk,⟨L,_,hf,hn,e,hd⟩,ih (λb hb=>hs b (by unfold frs;rw[V1,hf];exact C1 _ hb)) hr⟩
 exact all X.outer (λ_ hb=>hb) I.ok.funs
theorem Inv.stack(I:Inv X pins σ H s):s.heap.FunFrames X.base X.stack:=by
 rcases I.ok.stk with e|⟨e,hf⟩
 ·rw[e];exact I.funs
 ·rw[e];obtain⟨m,hn,_⟩:=I.loc;refine .cons (by rw[I.ok.kind];decide) hf hn ?_ I.funs;exact O9 (C2 I.ok.bsz I.ok.above)
theorem Inv.stkSub(I:Inv X pins σ H s):∀b∈frs X.stack,b∈X.env.locals::X.fs:=λb hb=>by
 rcases I.ok.stk with e|⟨e,hf⟩
 ·rw[e]at hb;exact C1 _ hb
 ·rw[e]at hb;unfold frs at hb;rw[V1,hf]at hb;exact hb
theorem Inv.stkFree(I:Inv X pins σ H s):∀b∈frs X.stack,H b=none:=λb hb=>by
 rcases B8.mp (I.stkSub b hb)with e|hb
 ·rw[e];exact I.free
 ·obtain⟨_,o,ho,_⟩:=I.ok.funs.mem hb;exact I.base.free b o ho (I.ok.frf b hb) λz=>I.ok.exfs b z hb
theorem Inv.step{g':Array GenState}{t':Nat}{d':Drawn}{ch:List Addr}(I:Inv X pins σ H s)
  (hch:∀b∈ch,(b∈X.ex\/X.s₀.heap.objs.size<=b)/\b≠X.env.locals/\(∀x c,X.env.cells.lookup x=some c->c≠b)/\∀p∈X.pn++pins,p.1≠b)
  (keep:∀b o,b≠X.env.locals->b∉X.fs->b∉ch->s.heap.get? b=some o->H b=none->h'.get? b=some o)
  (slot:∀b o,b≠X.env.locals->b∈X.fs->b∉ch->s.heap.get? b=some o->H b=none->∃sl,h'.get? b=some {o with slots:=sl}) (free:∀b o,b∉ch->s.heap.get? b=some o->H b=none->H' b=none)
  (there:∀b o,b∉ch->s.heap.get? b=some o->∃o',h'.get? b=some o')
  (tups:∀b xs,H b=some (.tup xs)->H' b=some (.tup xs)) (frzs:∀b o u,H b=some (.frz o u)->H' b=some (.frz o u)) (tbls:∀b ps,H b=some (.tbl ps)->∃more,H' b=some (.tbl (ps++more)))
  (ns:∀m,s.heap.Ns X.env.locals m->h'.Ns X.env.locals m) (hok:HOk X.prog X.w H' h') (hg:AllBare g') :
  Inv X pins σ H' {s with heap:=h',gens:=g',drawn:=d',toks:=t'}:=by
 have neL:∀b o,X.s₀.heap.get? b=some o->b≠X.env.locals:=λb o e=>F0 (D5 (C8 e) I.ok.above);have neC:∀b o,X.s₀.heap.get? b=some o->b∉X.ex->b∉ch:=λb o e hx hb=>by
  rcases(hch b hb).1 with z|z
  ·exact hx z
  ·exact absurd (D5 (C8 e) z) (N2 _)
 have cellK:∀x c,X.env.cells.lookup x=some c->∀v,s.heap.IsCell c v->h'.IsCell c v:=λx c e v ⟨o,ho,hd⟩=>by
  have nch:c∉ch:=λz=>(hch c z).2.2.1 x c e rfl;by_cases hc:c∈X.fs
  ·obtain⟨sl,q⟩:=slot c o (I.cne x c e) hc nch ho (I.freeC x c e);exact⟨_,q,hd⟩
  ·exact⟨o,keep c o (I.cne x c e) hc nch ho (I.freeC x c e),hd⟩
 refine⟨I.ok,I.os,hg,⟨λb o e n hb hx=>?_,λb o e n hb hx=>?_,λb o e n hx=>?_,λb o e hx=>?_,λb xs e=>tups b xs (I.base.tups b xs e),λb o xs e=>frzs b o xs (I.base.frzs b o xs e),λb ps e=>?_⟩,?_,λx c e=>?_,?_,λx c e=>?_,λp hp=>?_,hok,I.len⟩
 ·exact keep b o (neL b o e) hb (neC b o e hx) (I.base.keep b o e n hb hx) (I.base.free b o e n hx)
 ·obtain⟨sl,e1⟩:=I.base.slot b o e n hb hx;obtain⟨sl',e2⟩:=slot b _ (neL b o e) hb (neC b o e hx) e1 (I.base.free b o e n hx);exact⟨sl',e2⟩
 ·obtain⟨o',e1⟩:=I.base.there b o e hx;exact free b o' (neC b o e hx) e1 (I.base.free b o e n hx)
 ·obtain⟨o',e1⟩:=I.base.there b o e hx;exact there b o' (neC b o e hx) e1
 ·obtain⟨m1,e1⟩:=I.base.tbls b ps e;obtain⟨m2,e2⟩:=tbls b _ e1;exact⟨m1++m2,by rw[e2,Array.append_assoc]⟩
 ·obtain⟨m,hn,hl⟩:=I.loc;refine⟨m,ns m hn,λi x v e1 e2 e3=>?_⟩;obtain⟨u,r,l⟩:=hl i x v e1 e2 e3;refine⟨u,r,?_⟩;rcases l with l|⟨k,c,e,z⟩
  ·exact .inl l
  ·exact .inr ⟨k,c,e,cellK x c e _ z⟩
 ·obtain⟨v,z⟩:=I.cell x c e;exact⟨v,cellK x c e v z⟩
 ·obtain⟨m,⟨o,_,_,ho,_⟩,_⟩:=I.loc;exact free _ o (λz=>(hch _ z).2.1 rfl) ho I.free
 ·obtain⟨v,o,ho,hd⟩:=I.cell x c e;exact free c o (λz=>(hch c z).2.2.1 x c e rfl) ho (I.freeC x c e)
 ·obtain⟨e,n,ne,nf,d⟩:=I.pin p hp;have nch:p.1∉ch:=λz=>(hch p.1 z).2.2.2 p hp rfl;exact⟨keep p.1 p.2 ne nf nch e n,free p.1 p.2 nch e n,ne,nf,d⟩
theorem Inv.un{t':Nat}(I:Inv X pins σ H s)(u:Un X.fs [] H H' s.heap h')(hok:HOk X.prog X.w H' h'):Inv X pins σ H' {s with heap:=h',toks:=t'}:=by
 obtain⟨m,⟨o,es,ep,ho,r⟩,_⟩:=id I.loc;obtain⟨sl,hL⟩:=u.any ho I.free A4;exact I.step (g':=s.gens) (d':=s.drawn) (ch:=[]) (λ_ z=>nomatch z) (λb o _ hb _ e n=>u.keep b o e n hb A4) (λb o _ hb _ e n=>u.slot b o e n hb A4) (λb o _ e n=>u.free b o e n A4) (λb o _ e=>u.there b o e A4) u.tups u.frzs u.tbls (λm' hm=>by
  obtain⟨o',es',ep',ho',r'⟩:=hm;rw[ho]at ho';cases ho';exact⟨_,es',ep',hL,r'⟩) hok I.bare
theorem Inv.call{g':Array GenState}{t':Nat}{d':Drawn}{ch:List Addr}(I:Inv X pins σ H s)(u:Un (frs X.stack) ch H H' s.heap h')(hok:HOk X.prog X.w H' h')(hg:AllBare g')
  (hch:∀b∈ch,(b∈X.ex\/X.s₀.heap.objs.size<=b)/\b≠X.env.locals/\(∀x c,X.env.cells.lookup x=some c->c≠b)/\∀p∈X.pn++pins,p.1≠b) :
  Inv X pins σ H' {s with heap:=h',gens:=g',drawn:=d',toks:=t'}:=by
 obtain⟨m,⟨o,es,ep,ho,r⟩,_⟩:=id I.loc;obtain⟨sl,hL⟩:=u.any ho I.free λz=>(hch _ z).2.1 rfl;exact I.step (ch:=ch) hch (λb o hL hb hc e n=>u.keep b o e n (λz=>(B8.mp (I.stkSub b z)).elim hL hb) hc) (λb o _ _ hc e n=>u.any e n hc) (λb o hc e n=>u.free b o e n hc) (λb o hc e=>u.there b o e hc) u.tups u.frzs u.tbls (λm' hm=>by
  obtain⟨o',es',ep',ho',r'⟩:=hm;rw[ho]at ho';cases ho';exact⟨_,es',ep',hL,r'⟩) hok hg
theorem Inv.turned{t':Nat}{it:Addr}(I:Inv X pins σ H s)(k:∀b o,b≠it->s.heap.get? b=some o->h'.get? b=some o)(hn:H it=none)(hL:it≠X.env.locals)
  (h1:it∈X.ex\/X.s₀.heap.objs.size<=it) (h2:∀x c,X.env.cells.lookup x=some c->c≠it) (h3:∀p∈X.pn++pins,p.1≠it):Inv X pins σ H {s with heap:=h',toks:=t'}:=by
 have nit:∀b u,H b=some u->b≠it:=λb u e z=>by rw[z,hn]at e;cases e
 refine I.step (g':=s.gens) (d':=s.drawn) (ch:=[it]) (λb hb=>?_) (λb o _ _ hc e _=>k b o (λz=>hc (by simp[z])) e) (λb o _ _ hc e _=>⟨o.slots,k b o (λz=>hc (by simp[z])) e⟩) (λ_ _ _ _ n=>n)
  (λb o hc e=>⟨o,k b o (λz=>hc (by simp[z])) e⟩) (λ_ _ e=>e) (λ_ _ _ e=>e) (λb ps e=>⟨#[],by rw[e];simp⟩) (λm hm=>?_) (λb u e=>?_) I.bare
 ·have e:b=it:=by simpa using hb
  subst e;exact⟨h1,hL,h2,h3⟩
 ·obtain⟨o,es,ep,ho,r⟩:=hm;exact⟨o,es,ep,k _ o (W4 hL) ho,r⟩
 ·refine(I.hok b u e).stay (λc v hc q=>k c v ?_ q) (λ_ q=>q) λ_ _ q=>q;rcases hc with z|z
  ·rw[z];exact nit b u e
  ·exact nit c _ z
theorem Inv.tok(I:Inv X pins σ H s)(t:Nat):Inv X pins σ H {s with toks:=t}:=I.un (h':=s.heap) (t':=t) Un.refl I.hok
theorem Inv.kept{t':Nat}(I:Inv X pins σ H s)(k:∀b u,s.heap.get? b=some u->h'.get? b=some u):Inv X pins σ H {s with heap:=h',toks:=t'}:=I.un (Un.kept k) (I.hok.kept k)
theorem Inv.laid{a:Addr}{o:HO}{t':Nat}(I:Inv X pins σ H s)(k:∀b u,s.heap.get? b=some u->h'.get? b=some u)(hp:s.heap.objs.size<=a)(new:BF X.prog X.w (upd H a o) h' a o) :
  Inv X pins σ (upd H a o) {s with heap:=h',toks:=t'}:=I.un (Un.laid k hp (I.hok.fresh hp)) (I.hok.laid k hp new)
theorem Inv.write{x e:Addr}{o:HO}{t':Nat}(I:Inv X pins σ H s)(mu:Mut (H x))(he:e=x\/H e=some (.own x))(k:∀b u,b≠e->s.heap.get? b=some u->h'.get? b=some u)(heo:∃u,h'.get? e=some u)
  (new:BF X.prog X.w (upd H x o) h' x o):Inv X pins σ (upd H x o) {s with heap:=h',toks:=t'}:=I.un (Un.write mu he k heo) (I.hok.write mu he k heo new)
theorem Inv.weak{σ':List (Option V)}(I:Inv X pins σ H s)(hl:σ'.length=σ.length)(w:∀(i:Nat) v,σ'[i]?=some (some v)->σ[i]?=some (some v)):Inv X pins σ' H s :=
 ⟨I.ok,I.os,I.bare,I.base,let ⟨m,hn,hl'⟩:=I.loc;⟨m,hn,λi x v e1 e2 e3=>hl' i x v e1 (w i v e2) e3⟩,I.cell,I.free,I.freeC,I.pin,I.hok,hl.trans I.len⟩
theorem Inv.pins_of{pins':List (Addr×Obj)}(I:Inv X pins σ H s)(h:∀p∈pins',s.heap.get? p.1=some p.2/\H p.1=none/\p.1≠X.env.locals/\p.1∉X.fs/\∀v,p.2.data≠.cell v):Inv X pins' σ H s :=
 ⟨I.ok,I.os,I.bare,I.base,I.loc,I.cell,I.free,I.freeC,λp hp=>(D4.mp hp).elim (λz=>I.pin p (Q5 _ z)) (h p),I.hok,I.len⟩
theorem QP{N:List Str}(hN:N.Nodup){i j:Nat}{x:Str}(a:N[i]?=some x)(b:N[j]?=some x):i=j:=by
 obtain⟨h1,e1⟩:=B4.mp a;obtain⟨h2,e2⟩:=B4.mp b;exact(S8 hN).mp (e1.trans e2.symm)
theorem Op{M:Model}{A:Around}{E:Value->Shared->Prop}{i:Nat}{x:Str}{v:V}{u:Value}{Q:Unit->Shared->Prop}(I:Inv X pins σ H s)(hN:X.N.Nodup)(hi:X.N[i]?=some x)(hx:Loc X.env.scope x)(r:AO v u)
  (h:∀s',Inv X pins (σ.set i (some v)) H s'->(∃a,Heap.SameBut a s.heap s'.heap/\(a=X.env.locals\/X.env.cells.lookup x=some a))->Q () s') (hf:X.fn x=true\/X.env.scope.names.lookup x=some .local:=by first|exact .inl rfl|exact .inr rfl|assumption):wpAny M A (storeName X.env x u) Q E s:=by
 obtain⟨m,hn,hl⟩:=id I.loc;have hcls:(X.env.scope.kind==.class || (X.env.scope.kind==.module && X.env.locals != X.env.globals))=false:=by rw[I.ok.kind];rfl
 have hiσ:i<σ.length:=by rw[I.len];exact(B4.mp hi).1
 have cne:=I.cne;have tracked:∀{a:Addr}{h':Heap},(∃o,s.heap.get? a=some o/\H a=none)->Heap.SameBut a s.heap h'->HOk X.prog X.w H h':=λ{a h'} ha hs b ob e=>by
  obtain⟨_,_,hfree⟩:=ha;refine(I.hok b ob e).stay (λc w' hc q=>(hs.2 c ?_).trans q) (λ_ q=>q) λ_ _ q=>q;rintro rfl;rcases hc with rfl|hc
  ·rw[hfree]at e;cases e
  ·rw[hfree]at hc;cases hc
 rcases hx with hk|hk
 ·refine wpAny_storeName_local hk hn (λh' hn' hs=>?_) hcls;obtain⟨oL,_,_,hoL,_⟩:=id hn;refine h _ ⟨I.ok,I.os,I.bare,⟨λb o e n hb hx=>?_,λb o e n hb hx=>?_,I.base.free,λb o e hx=>?_,I.base.tups,I.base.frzs,I.base.tbls⟩,⟨_,hn',λj y v' e1 e2 e3=>?_⟩,λy c e=>?_,I.free,I.freeC,λp hp=>?_,tracked ⟨oL,hoL,I.free⟩ hs,by simpa using I.len⟩ ⟨_,hs,.inl rfl⟩
  ·exact(hs.2 b (F0 (D5 (C8 e) I.ok.above))).trans (I.base.keep b o e n hb hx)
  ·obtain⟨sl,e1⟩:=I.base.slot b o e n hb hx;exact⟨sl,(hs.2 b (F0 (D5 (C8 e) I.ok.above))).trans e1⟩
  ·obtain⟨o',e1⟩:=I.base.there b o e hx;exact⟨o',(hs.2 b (F0 (D5 (C8 e) I.ok.above))).trans e1⟩
  ·by_cases hj:j=i
   ·subst hj;rw[hi]at e1;cases e1;rw[List.getElem?_set_self hiσ]at e2;cases e2;exact⟨u,r,.inl ⟨hk,by simp⟩⟩
   ·rw[List.getElem?_set_ne (W4 hj)]at e2;obtain⟨u',r',q⟩:=hl j y v' e1 e2 e3;refine⟨u',r',?_⟩;rcases q with ⟨k,e⟩|⟨k,c,e,z⟩
    ·refine .inl ⟨k,?_⟩;have:y≠x:=λe=>hj (QP hN e1 (e▸hi));simp[this,e]
    ·exact .inr ⟨k,c,e,z.sameBut hs (cne y c e)⟩
  ·obtain⟨w',z⟩:=I.cell y c e;exact⟨w',z.sameBut hs (cne y c e)⟩
  ·obtain⟨e,n,ne,nf,d⟩:=I.pin p hp;exact⟨(hs.2 p.1 ne).trans e,n,ne,nf,d⟩
 ·have hfn:X.fn x=true:=by
   rcases hf with z|z
   ·exact z
   ·rw[z]at hk;cases hk
  obtain⟨c,hc⟩:=I.ok.has x (.inl hk);obtain⟨w',z⟩:=I.cell x c hc;refine wpAny_storeName_cell I.ok.kind hk hc z (λh' hc' hs=>?_);obtain⟨oc,hoc,hocd⟩:=id z;refine h {s with heap:=h'} ⟨I.ok,I.os,I.bare,⟨λb o e n hb hx=>?_,λb o e n hb hx=>?_,I.base.free,λb o e hx=>?_,I.base.tups,I.base.frzs,I.base.tbls⟩,⟨m,hn.sameBut hs (W4 (cne x c hc)),λj y v' e1 e2 e3=>?_⟩,λy c' e=>?_,I.free,I.freeC,λp hp=>?_,tracked ⟨oc,hoc,I.freeC x c hc⟩ hs,by simpa using I.len⟩ ⟨c,hs,.inr hc⟩
  ·exact(hs.2 b (F0 (D5 (C8 e) (I.ok.cab x c hfn hc)))).trans (I.base.keep b o e n hb hx)
  ·obtain⟨sl,e1⟩:=I.base.slot b o e n hb hx;exact⟨sl,(hs.2 b (F0 (D5 (C8 e) (I.ok.cab x c hfn hc)))).trans e1⟩
  ·obtain⟨o',e1⟩:=I.base.there b o e hx;exact⟨o',(hs.2 b (F0 (D5 (C8 e) (I.ok.cab x c hfn hc)))).trans e1⟩
  ·by_cases hj:j=i
   ·subst hj;rw[hi]at e1;cases e1;rw[List.getElem?_set_self hiσ]at e2;cases e2;exact⟨u,r,.inr ⟨.inl hk,c,hc,hc'⟩⟩
   ·rw[List.getElem?_set_ne (W4 hj)]at e2;obtain⟨u',r',q⟩:=hl j y v' e1 e2 e3;refine⟨u',r',?_⟩;rcases q with q|⟨k,c',e,z'⟩
    ·exact .inl q
    ·refine .inr ⟨k,c',e,z'.sameBut hs ?_⟩;rintro rfl;exact hj (QP hN e1 (I.ok.inj _ _ _ e hc▸hi))
  ·by_cases hcc:c'=c
   ·subst hcc;exact⟨_,hc'⟩
   ·obtain⟨w2,z2⟩:=I.cell y c' e;exact⟨w2,z2.sameBut hs hcc⟩
  ·obtain⟨e,n,ne,nf,d⟩:=I.pin p hp;refine⟨(hs.2 p.1 ?_).trans e,n,ne,nf,d⟩;intro q;rw[q,hoc]at e;have q':oc=p.2:=W3 e;exact d w' (by rw[<-q'];exact hocd)
theorem Qr{M:Model}{A:Around}{E:Value->Shared->Prop}{i:Nat}{x:Str}{v:V}{u:Value}{Q:Unit->Shared->Prop}(I:Inv X pins σ H s)(hN:X.N.Nodup)(hi:X.N[i]?=some x)(hx:Loc X.env.scope x)(r:AO v u)
  (h:∀s',Inv X pins (σ.set i (some v)) H s'->Q () s') (hf:X.fn x=true\/X.env.scope.names.lookup x=some .local:=by first|exact .inl rfl|exact .inr rfl|assumption):wpAny M A (storeName X.env x u) Q E s :=
 Op I hN hi hx r (λs' I' _=>h s' I') hf
theorem Inv.call'{s':Shared}{ch:List Addr}(I:Inv X pins σ H s)(ho:s'.os=s.os)(u:Un (frs X.stack) ch H H' s.heap s'.heap)(hok:HOk X.prog X.w H' s'.heap)(hg:AllBare s'.gens)
  (hch:∀b∈ch,(b∈X.ex\/X.s₀.heap.objs.size<=b)/\b≠X.env.locals/\(∀x c,X.env.cells.lookup x=some c->c≠b)/\∀p∈X.pn++pins,p.1≠b):Inv X pins σ H' s':=by
 obtain⟨h',g',d',t',o'⟩:=s';have e:o'=s.os:=ho;subst e;exact I.call (g':=g') (t':=t') (d':=d') u hok hg hch
end
abbrev XK:=Value->Option Addr->Hp->Prop
abbrev St:=List (Option V)
abbrev VK:=V->Hp->Prop
abbrev TE:=St->Hp->VK->Prop
abbrev TT:=St->Hp->(Bool->Hp->Prop)->Prop
abbrev TA:=St->Hp->(List V->Hp->Prop)->Prop
structure LM where
 nx:St->Hp->Prop
 rt:VK
 bk:St->Hp->Prop:=λ_ _=>False
 ct:St->Hp->Prop:=λ_ _=>False
abbrev TS:=LM->St->Hp->Prop
def EP(X:Cx)(pins:List (Addr×Obj))(σ:St)(Q:VK)(u:Value)(s':Shared):Prop:=∃v H',Inv X pins σ H' s'/\AO v u/\Q v H'
def TP(X:Cx)(pins:List (Addr×Obj))(σ:St)(Q:Bool->Hp->Prop)(b:Bool)(s':Shared):Prop:=∃H',Inv X pins σ H' s'/\Q b H'
def AP(X:Cx)(pins:List (Addr×Obj))(σ:St)(Q:List V->Hp->Prop)(us:List Value)(s':Shared):Prop:=∃vs H',Inv X pins σ H' s'/\AL vs us/\Q vs H'
def SP(X:Cx)(pins:List (Addr×Obj))(D:LM)(f:Flow)(s':Shared):Prop :=
 match f with
 |.next=>∃σ' H',Inv X pins σ' H' s'/\D.nx σ' H'
 |.brk=>∃σ' H',Inv X pins σ' H' s'/\D.bk σ' H'
 |.cont=>∃σ' H',Inv X pins σ' H' s'/\D.ct σ' H'
 |.ret u=>∃v σ' H',Inv X pins σ' H' s'/\AO v u/\D.rt v H'
def PE(X:Cx)(e:Expr)(t:TE):Prop :=
 ∀(pins:List (Addr×Obj))(s:Shared)(σ:St)(H:Hp)(Q:VK),Inv X pins σ H s->t σ H Q->wpAny (model X.prog X.w) X.A (eval e X.env) (EP X pins σ Q) X.xe s
def PT(X:Cx)(e:Expr)(t:TT):Prop :=
 ∀(pins:List (Addr×Obj))(s:Shared)(σ:St)(H:Hp)(Q:Bool->Hp->Prop),Inv X pins σ H s->t σ H Q->wpAny (model X.prog X.w) X.A (isTrue e X.env (eval e X.env)) (TP X pins σ Q) X.xe s
def PW(X:Cx)(e:Expr)(t:TT):Prop :=
 ∀(whole:Sem Value)(pins:List (Addr×Obj))(s:Shared)(σ:St)(H:Hp)(Q:Bool->Hp->Prop),Inv X pins σ H s->t σ H Q->wpAny (model X.prog X.w) X.A (isTrue e X.env whole) (TP X pins σ Q) X.xe s
theorem PW.pt{X:Cx}{e:Expr}{t:TT}(h:PW X e t):PT X e t:=h _
def PA(X:Cx)(es:List Expr)(t:TA):Prop :=
 ∀(pos:Pos)(pins:List (Addr×Obj))(s:Shared)(σ:St)(H:Hp)(Q:List V->Hp->Prop),Inv X pins σ H s->t σ H Q->wpAny (model X.prog X.w) X.A (spliced (backTo pos (starEach es X.env))) (AP X pins σ Q) X.xe s
def PS(X:Cx)(st:Stmt)(t:TS):Prop :=
 ∀(pins:List (Addr×Obj))(s:Shared)(σ:St)(H:Hp)(D:LM),Inv X pins σ H s->t D σ H->wpAny (model X.prog X.w) X.A (exec st X.env) (SP X pins D) X.xe s
def PSs(X:Cx)(st:List Stmt)(t:TS):Prop :=
 ∀(pins:List (Addr×Obj))(s:Shared)(σ:St)(H:Hp)(D:LM),Inv X pins σ H s->t D σ H->wpAny (model X.prog X.w) X.A (execs st X.env) (SP X pins D) X.xe s
theorem thn{α:Type}{t:Sem α}{Q Q':α->Shared->Prop}{M:Model}{A:Around}{E:Value->Shared->Prop}{s:Shared}(h:wpAny M A t Q E s)(hQ:∀a s,Q a s->Q' a s):wpAny M A t Q' E s:=Z9 h hQ λ_ _ x=>x
section
variable{X:Cx}
def FO(i:Nat):TE:=fun σ H Q=>∃v,σ[i]?=some (some v)/\Q v H
def tC(v:V):TE:=λ_ H Q=>Q v H
theorem pe_var{i:Nat}{x:Str}{pos:Pos}(hN:X.N[i]?=some x)(hv:Vis X.env.scope x)(hd:(x==("__debug__" : Str))=false:=by decide)(hcd:(x==("__classdict__" : Str))=false:=by decide):PE X (.Name x pos) (FO i):=by
 intro pins s σ H Q I h;obtain⟨v,e,h⟩:=h;obtain⟨m,hn,hl⟩:=I.loc;obtain⟨u,r,l⟩:=hl i x v hN e hv;have fin:EP X pins σ Q u s:=⟨v,H,I,r,h⟩
 rcases l with ⟨hk,hm⟩|⟨hk,c,hc,hcell⟩
 ·exact wpAny_Name (wpAny_loadName_local I.ok.kind hk hn hm fin) hd
 ·rcases hk with hk|hk
  ·exact wpAny_Name (wpAny_loadName_cell I.ok.kind hk hc hcell fin) hd
  ·exact wpAny_Name (wpAny_loadName_free I.ok.kind hk hc hcell fin hcd) hd
theorem Ae{i j pos}:PE X (.Constant (.int i) j pos) (tC (.int i)):=λ_ _ _ H _ I h=>wpAny_Constant_int ⟨.int i,H,I.tok _,⟨_,rfl⟩,h⟩
theorem Ot{b j pos}:PE X (.Constant (.bool b) j pos) (tC (.bl b)):=λ_ _ _ H _ I h=>Constant_bool ⟨.bl b,H,I,rfl,h⟩
theorem DI{j pos}:PE X (.Constant .none j pos) (tC .non):=λ_ _ _ H _ I h=>Constant_none ⟨.non,H,I,rfl,h⟩
theorem Ej{x j pos}:PE X (.Constant (.str x) j pos) (tC (.str x)):=λ_ _ _ H _ I h=>Calls.Constant_str ⟨.str x,H,I.tok _,⟨_,rfl⟩,h⟩
def Gl(X:Cx)(x:Str):Prop:=X.env.kindOf x=some .globalImplicit
theorem Mo{E:Value->Shared->Prop}{pins:List (Addr×Obj)}{s:Shared}{σ:St}{H:Hp}{x:Str}{u:Value}{pos:Pos}{Q:Value->Shared->Prop}(I:Inv X pins σ H s)(hg:Gl X x)(hm:X.mg x=some u)(h:Q u s)
  (hd:(x==("__debug__" : Str))=false:=by decide):wpAny (model X.prog X.w) X.A (eval (.Name x pos) X.env) Q E s :=
 Calls.Name_function_global I.ok.kind hg (Calls.loadGlobal_global (by rw[I.ok.glob];exact I.mod.glob.keeps I.bk) hm h) hd
theorem Jn{E:Value->Shared->Prop}{pins:List (Addr×Obj)}{s:Shared}{σ:St}{H:Hp}{x:Str}{u:Value}{pos:Pos}{Q:Value->Shared->Prop}(I:Inv X pins σ H s)(hg:Gl X x)(hm:X.mg x=none)(hv:bootBuiltins x=some u)(h:Q u s)
  (hn:x≠"__name__" := by decide) (hd:(x==("__debug__" : Str))=false:=by decide):wpAny (model X.prog X.w) X.A (eval (.Name x pos) X.env) Q E s:=by
 obtain⟨mb,h1,h2⟩:=I.mod.blt;exact Calls.Name_function_global I.ok.kind hg (Calls.loadGlobal_builtin (by rw[I.ok.glob];exact I.mod.glob.keeps I.bk) hm (by rw[I.ok.blt];exact h1.keeps I.bk) ((h2 x hn).trans hv) h) hd
theorem Tf{x:Str}{v:V}{u:Value}{pos:Pos}(hg:Gl X x)(hm:X.mg x=some u)(r:AO v u)(hd:(x==("__debug__" : Str))=false:=by decide):PE X (.Name x pos) (tC v) :=
 λ_ _ _ H _ I h=>Mo I hg hm ⟨v,H,I,r,h⟩ hd
theorem IC{x:Str}{v:V}{u:Value}{pos:Pos}(hg:Gl X x)(hm:X.mg x=none)(hv:bootBuiltins x=some u)(r:AO v u)(hn:x≠"__name__" := by decide)(hd:(x==("__debug__" : Str))=false:=by decide):PE X (.Name x pos) (tC v) :=
 λ_ _ _ H _ I h=>Jn I hg hm hv ⟨v,H,I,r,h⟩ hn hd
variable{a b:Expr}{ta tb:TE}{pos:Pos}
def PC(X:Cx)(op:CmpOp)(a b:Expr)(t:TE):Prop :=
 ∀(pins:List (Addr×Obj))(s:Shared)(σ:St)(H:Hp)(Q:VK),Inv X pins σ H s->t σ H Q ->
  wpAny (model X.prog X.w) X.A (eval a X.env) (λv s₁=>wpAny (model X.prog X.w) X.A (eval b X.env) (λu s₂=>wpAny (model X.prog X.w) X.A (compareOp op v u) (EP X pins σ Q) X.xe s₂) X.xe s₁) X.xe s
def tB(t:TE):TT:=fun σ H Q=>t σ H λx H1=>∃c,x=.bl c/\Q c H1
theorem VL{op:CmpOp}{t:TE}(h:PC X op a b t)(h1:behindInMarks op b=false:=by first|exact nobehind _ A3 A3|rfl):PT X (.Compare a [op] [b] pos) (tB t):=by
 intro pins s σ H Q I hw;refine wpAny_isTrue_Compare1 (thn (h pins s σ H _ I hw) λv s1 h1=>thn h1 λu s2 h2=>thn h2 λc s3 ⟨x,H1,I1,r1,q1⟩=>?_) h1;obtain⟨d,rfl,q⟩:=q1;cases r1;exact Y9 ⟨H1,I1,q⟩
theorem DG{e:Expr}{t:TE}(h:PE X e t)(he:∀whole,isTrue e X.env whole=(do let v <-whole;standAt e.pos;holding [v] (truthy v)):=by intro _;rfl):PT X e (tB t):=by
 intro pins s σ H Q I hw;refine isTrue_plain (thn (h pins s σ H _ I hw) λv s1 ⟨x,H1,I1,r1,q1⟩=>?_) (he _);obtain⟨d,rfl,q⟩:=q1;cases r1;exact Y9 ⟨H1,I1,q⟩
variable{tA tB':TT}{rest:List Expr}
def tAnd(t u:TT):TT:=fun σ H Q=>t σ H λc H1=>if c=true then u σ H1 Q else Q false H1
def tOr(t u:TT):TT:=fun σ H Q=>t σ H λc H1=>if c=true then Q true H1 else u σ H1 Q
def tNot(t:TT):TT:=fun σ H Q=>t σ H λc H1=>Q (!c) H1
theorem JB(ha:PT X a tA):PW X (.BoolOp .And [a] pos) tA:=by
 intro wh pins s σ H Q I h;refine isTrue_and (thn (ha pins s σ H Q I h) λc s1 e=>?_);cases c with
 |true=>exact isTrue_and_nil e
 |false=>exact e
theorem Ll(ha:PT X a tA):PW X (.BoolOp .Or [a] pos) tA:=by
 intro wh pins s σ H Q I h;refine isTrue_or (thn (ha pins s σ H Q I h) λc s1 e=>?_);cases c with
 |false=>exact isTrue_or_nil e
 |true=>exact e
theorem MX(ha:PT X a tA)(hb:PW X (.BoolOp .And (b::rest) pos) tB'):PW X (.BoolOp .And (a::b::rest) pos) (tAnd tA tB'):=by
 intro wh pins s σ H Q I h;refine isTrue_and (thn (ha pins s σ H _ I h) λc s1 ⟨H1,I1,q1⟩=>?_);cases c with
 |true=>exact hb wh pins s1 σ H1 Q I1 q1
 |false=>exact⟨H1,I1,q1⟩
theorem MW(ha:PT X a tA)(hb:PW X (.BoolOp .Or (b::rest) pos) tB'):PW X (.BoolOp .Or (a::b::rest) pos) (tOr tA tB'):=by
 intro wh pins s σ H Q I h;refine isTrue_or (thn (ha pins s σ H _ I h) λc s1 ⟨H1,I1,q1⟩=>?_);cases c with
 |true=>exact⟨H1,I1,q1⟩
 |false=>exact hb wh pins s1 σ H1 Q I1 q1
theorem DH(ha:PT X a tA):PT X (.UnaryOp .Not a pos) (tNot tA):=by
 intro pins s σ H Q I h;exact isTrue_not (ha pins s σ H (λc H1=>Q (!c) H1) I h)
def tAndV(ta tb:TE):TE:=fun σ H Q=>ta σ H λx H1=>∃c,x=.bl c/\if c=true then tb σ H1 Q else Q (.bl false) H1
def tOrV(ta tb:TE):TE:=fun σ H Q=>ta σ H λx H1=>∃c,x=.bl c/\if c=true then Q (.bl true) H1 else tb σ H1 Q
def tNotV(ta:TE):TE:=fun σ H Q=>ta σ H λx H1=>∃c,x=.bl c/\Q (.bl (!c)) H1
theorem Jh{op}{t:TE}(h:PE X a t):PE X (.BoolOp op [a] pos) t:=λpins s σ H Q I hw=>BoolOp_one (h pins s σ H Q I hw)
theorem Ii(ha:PE X a ta)(hb:PE X (.BoolOp .And (b::rest) pos) tb):PE X (.BoolOp .And (a::b::rest) pos) (tAndV ta tb):=by
 intro pins s σ H Q I h;refine BoolOp_and (thn (ha pins s σ H _ I h) λv s1 ⟨x,H1,I1,r1,q1⟩=>?_);obtain⟨c,rfl,q1⟩:=q1;cases r1;refine Y9 ?_;cases c with
 |true=>exact hb pins s1 σ H1 Q I1 q1
 |false=>exact⟨.bl false,H1,I1,rfl,q1⟩
theorem pe_or(ha:PE X a ta)(hb:PE X (.BoolOp .Or (b::rest) pos) tb):PE X (.BoolOp .Or (a::b::rest) pos) (tOrV ta tb):=by
 intro pins s σ H Q I h;refine BoolOp_or (thn (ha pins s σ H _ I h) λv s1 ⟨x,H1,I1,r1,q1⟩=>?_);obtain⟨c,rfl,q1⟩:=q1;cases r1;refine Y9 ?_;cases c with
 |false=>exact hb pins s1 σ H1 Q I1 q1
 |true=>exact⟨.bl true,H1,I1,rfl,q1⟩
theorem VQ(ha:PE X a ta):PE X (.UnaryOp .Not a pos) (tNotV ta):=by
 intro pins s σ H Q I h;refine UnaryOp_ (thn (ha pins s σ H _ I h) λv s1 ⟨x,H1,I1,r1,q1⟩=>?_);obtain⟨c,rfl,q1⟩:=q1;cases r1;exact not_of (Y9 ⟨.bl (!c),H1,I1,rfl,q1⟩)
end
def SqL(K:PySem.W.Frag)(H:Hp)(a:Addr)(xs:List V):Prop :=
 Rd H a (.lst xs) \/
  ∃(o:Obj)(its:Array Value)(n:Nat),K.lookup a=some o/\o.cls=.type "list" /\ o.dict=none/\o.data=.seq its n/\its.size<=sizeLine/\AL xs its.toList
def SqT(K:PySem.W.Frag)(H:Hp)(a:Addr)(xs:List V):Prop :=
 Rd H a (.tup xs) \/
  ∃(o:Obj)(its:Array Value)(n:Nat),K.lookup a=some o/\o.cls=.type "tuple" /\ o.data=.seq its n/\its.size<=sizeLine/\AL xs its.toList
def absV:Value->Option V
 |.none=>some .non
 |.bool b=>some (.bl b)
 |.int i _=>some (.int i)
 |.str x _=>some (.str x)
 |.bytes b _=>some (.byt b)
 |.float b _=>some (.flt b)
 |.ref a=>some (.ref a)
 |.type n=>some (.ty n)
 |_=>none
theorem AO.abs{x:V}{u:Value}(r:AO x u):absV u=some x:=by
 cases x with
 |non=>cases r;rfl
 |bl _=>cases r;rfl
 |int _=>obtain⟨t,rfl⟩:=r;rfl
 |str _=>obtain⟨t,rfl⟩:=r;rfl
 |byt _=>obtain⟨t,rfl⟩:=r;rfl
 |flt _=>obtain⟨t,rfl⟩:=r;rfl
 |ref _=>cases r;rfl
 |ty _=>cases r;rfl
theorem AO.inj{x y:V}{u:Value}(r:AO x u)(q:AO y u):x=y:=W3 (r.abs.symm.trans q.abs)
theorem AL.inj:∀{xs ys:List V}{us:List Value},AL xs us->AL ys us->xs=ys
 |_,_,_,.nil,.nil=>rfl
 |_,_,_,.cons r t,.cons r' t'=>by rw[r.inj r',AL.inj t t']
section
variable{X:Cx}{pins:List (Addr×Obj)}{σ:St}{H:Hp}{s:Shared}{a:Addr}{xs ys:List V}
theorem SqL.of{K:PySem.W.Frag}(h:H a=some (.lst xs)):SqL K H a xs:=.inl (.inl h)
theorem SqT.of{K:PySem.W.Frag}(h:H a=some (.tup xs)):SqT K H a xs:=.inl (.inl h)
theorem Inv.list(I:Inv X pins σ H s)(h:SqL X.K H a xs):∃its:List Value,AL xs its/\PlainL s.heap a its.toArray/\xs.length<=sizeLine:=by
 rcases h with h|⟨o,its,n,hk,hc,hd,hs,hz,r⟩
 ·obtain⟨z,its,n,r,e⟩:=h.ok I.hok;exact⟨its,r,⟨_,n,e,rfl,rfl,rfl⟩,z⟩
 ·refine⟨its.toList,r,⟨o,n,I.kIn a o hk,hc,hd,by simpa using hs⟩,?_⟩;have e:=r.length;simp only[Array.length_toList]at e;lia
theorem Inv.tuple(I:Inv X pins σ H s)(h:SqT X.K H a xs):∃its:List Value,AL xs its/\IsTup s.heap a its.toArray/\xs.length<=sizeLine:=by
 rcases h with h|⟨o,its,n,hk,hc,hs,hz,r⟩
 ·obtain⟨z,its,r,p⟩:=h.ok I.hok;exact⟨its,r,p,z⟩
 ·refine⟨its.toList,r,⟨o,I.kIn a o hk,hc,n,by simpa using hs⟩,?_⟩;have e:=r.length;simp only[Array.length_toList]at e;lia
theorem Inv.list_inj(I:Inv X pins σ H s)(h:SqL X.K H a xs)(h':SqL X.K H a ys):xs=ys:=by
 obtain⟨its,r,⟨o,n,e,_,_,d⟩,_⟩:=I.list h;obtain⟨its',r',⟨o',n',e',_,_,d'⟩,_⟩:=I.list h';rw[e]at e';cases e';rw[d]at d';injection d' with d1 _
 have:its=its':=by simpa using W8 Array.toList d1
 subst this;exact r.inj r'
theorem Inv.tuple_inj(I:Inv X pins σ H s)(h:SqT X.K H a xs)(h':SqT X.K H a ys):xs=ys:=by
 obtain⟨its,r,⟨o,e,_,n,d⟩,_⟩:=I.tuple h;obtain⟨its',r',⟨o',e',_,n',d'⟩,_⟩:=I.tuple h';rw[e]at e';cases e';rw[d]at d';injection d' with d1 _
 have:its=its':=by simpa using W8 Array.toList d1
 subst this;exact r.inj r'
end
abbrev Cx.wish(X:Cx)(E:Value->Shared->Prop):Cx:={X with xe:=E}
abbrev Cx.nox(X:Cx):Cx:=X.wish λ_ _=>False
theorem Cx.Ok.wish{X:Cx}(ok:X.Ok)(E:Value->Shared->Prop):(X.wish E).Ok :=
 ⟨ok.mod,ok.kind,ok.glob,ok.blt,ok.above,ok.inj,ok.has,ok.cab,ok.hd,ok.frames,ok.stk,ok.exf,ok.bs,ok.bsz,ok.noex,ok.exfs,ok.funs,ok.frf⟩
theorem Cx.Ok.unwish{X:Cx}{E:Value->Shared->Prop}(ok:(X.wish E).Ok):X.Ok :=
 ⟨ok.mod,ok.kind,ok.glob,ok.blt,ok.above,ok.inj,ok.has,ok.cab,ok.hd,ok.frames,ok.stk,ok.exf,ok.bs,ok.bsz,ok.noex,ok.exfs,ok.funs,ok.frf⟩
section
variable{X:Cx}{pins:List (Addr×Obj)}{σ:St}{H:Hp}{s:Shared}{E:Value->Shared->Prop}
theorem Inv.wish(I:Inv X pins σ H s)(E:Value->Shared->Prop):Inv (X.wish E) pins σ H s:=⟨I.ok.wish E,I.os,I.bare,I.base,I.loc,I.cell,I.free,I.freeC,I.pin,I.hok,I.len⟩
theorem Inv.unwish(I:Inv (X.wish E) pins σ H s):Inv X pins σ H s:=⟨I.ok.unwish,I.os,I.bare,I.base,I.loc,I.cell,I.free,I.freeC,I.pin,I.hok,I.len⟩
theorem SP.unwish{D:LM}{f:Flow}{s':Shared}(h:SP (X.wish E) pins D f s'):SP X pins D f s':=by
 cases f with
 |next=>obtain⟨σ',H',I,q⟩:=h;exact⟨σ',H',I.unwish,q⟩
 |brk=>obtain⟨σ',H',I,q⟩:=h;exact⟨σ',H',I.unwish,q⟩
 |cont=>obtain⟨σ',H',I,q⟩:=h;exact⟨σ',H',I.unwish,q⟩
 |ret u=>obtain⟨v,σ',H',I,r,q⟩:=h;exact⟨v,σ',H',I.unwish,r,q⟩
theorem PSs.nox{st:List Stmt}{t:TS}(h:PSs X.nox st t):PSs X st t:=λpins s σ H D I hw =>
 Z9 (h pins s σ H D (I.wish _) hw) (λ_ _ q=>q.unwish) λ_ _ z=>False.elim z
end
section
variable{X:Cx}{st:Stmt}{rest:List Stmt}{t u:TS}{e:Expr}{te:TE}{pos:Pos}
def tNext:TS:=λD σ H=>D.nx σ H
def tSeq(t u:TS):TS:=λD σ H=>t {D with nx:=u D} σ H
theorem AE:PSs X [] tNext:=λ_ _ σ H _ I h=>A1h ⟨σ,H,I,h⟩
theorem Ab(h1:PS X st t)(h2:PSs X rest u):PSs X (st::rest) (tSeq t u):=by
 intro pins s σ H D I h;refine wpAny_execs_cons (thn (h1 pins s σ H {D with nx:=u D} I h) λf s1 q=>?_);cases f with
 |next =>
  obtain⟨σ',H',I',q⟩:=q;exact h2 pins s1 σ' H' D I' q
 |ret v=>exact q
 |brk=>exact q
 |cont=>exact q
theorem Ag(h1:PS X st t):PSs X [st] t:=by
 intro pins s σ H D I h;refine wpAny_execs_cons (thn (h1 pins s σ H D I h) λf s1 q=>?_);cases f with
 |next=>exact A1h q
 |ret v=>exact q
 |brk=>exact q
 |cont=>exact q
theorem Inv.quiet{pins:List (Addr×Obj)}{σ:St}{H:Hp}{s:Shared}(I:Inv X pins σ H s):interactive X.env=false:=by simp[interactive,I.ok.kind]
def tDrop(te:TE):TS:=λD σ H=>te σ H λ_ H1=>D.nx σ H1
theorem CB(he:PE X e te)(hs:swapsWith e none pos.line X.env=pure false:=by rfl):PS X (.Expr e pos) (tDrop te):=by
 intro pins s σ H D I h;exact wpAny_Expr_any (thn (he pins s σ H _ I h) λv s1 ⟨x,H1,I1,r1,q1⟩=>⟨σ,H1,I1,q1⟩) I.quiet hs
def tRet(te:TE):TS:=λD σ H=>te σ H D.rt
theorem Aw(he:PE X e te):PS X (.Return (some e) pos) (tRet te):=by
 intro pins s σ H D I h;exact wpAny_Return_some (thn (he pins s σ H _ I h) λv s1 ⟨x,H1,I1,r1,q1⟩=>⟨x,σ,H1,I1,r1,q1⟩)
def tIfS(c:TT)(t u:TS):TS:=λD σ H=>c σ H λb H1=>if b=true then t D σ H1 else u D σ H1
theorem AQ{c:Expr}{a b:List Stmt}{tc:TT}(hc:PT X c tc)(ha:PSs X a t)(hb:PSs X b u):PS X (.If c a b pos) (tIfS tc t u):=by
 intro pins s σ H D I h;refine wpAny_If (thn (hc pins s σ H _ I h) λd s1 ⟨H1,I1,q1⟩=>?_);cases d with
 |true=>exact ha pins s1 σ H1 D I1 q1
 |false=>exact hb pins s1 σ H1 D I1 q1
def tNever:TS:=λ_ _ _=>False
theorem AZ:PS X st tNever:=λ_ _ _ _ _ _ h=>h.elim
end
abbrev TG:=V->St->Hp->(St->Hp->Prop)->Prop
abbrev TGs:=List V->St->Hp->(St->Hp->Prop)->Prop
def PG(X:Cx)(target:Expr)(t:TG):Prop :=
 ∀(pins:List (Addr×Obj))(s:Shared)(σ:St)(H:Hp)(v:V)(u:Value)(Q:St->Hp->Prop),Inv X pins σ H s->AO v u->t v σ H Q ->
  wpAny (model X.prog X.w) X.A (assign target X.env u) (λ_ s'=>∃σ' H',Inv X pins σ' H' s'/\Q σ' H') X.xe s
def PGs(X:Cx)(ts:List Expr)(t:TGs):Prop :=
 ∀(pins:List (Addr×Obj))(s:Shared)(σ:St)(H:Hp)(vs:List V)(us:List Value)(Q:St->Hp->Prop),Inv X pins σ H s->AL vs us->t vs σ H Q ->
  wpAny (model X.prog X.w) X.A (assignInOrder ((assignEach ts X.env).map (·.2)) us) (λ_ s'=>∃σ' H',Inv X pins σ' H' s'/\Q σ' H') X.xe s
abbrev TSet:=V->V->V->Hp->(Hp->Prop)->Prop
def PSet(X:Cx)(t:TSet):Prop :=
 ∀(pins:List (Addr×Obj))(s:Shared)(σ:St)(H:Hp)(o i v:V)(ov iv u:Value)(Q:Hp->Prop),Inv X pins σ H s->AO o ov->AO i iv->AO v u->t o i v H Q ->
  wpAny (model X.prog X.w) X.A (setItem ov iv u) (λ_ s'=>∃H',Inv X pins σ H' s'/\Q H') X.xe s
section
variable{X:Cx}{pos:Pos}
def Nt(i:Nat):TG:=λv σ H Q=>Q (σ.set i (some v)) H
theorem BO{i:Nat}{x:Str}(hN:X.N.Nodup)(hi:X.N[i]?=some x)(hx:Loc X.env.scope x)(hf:X.fn x=true\/X.env.scope.names.lookup x=some .local:=by first|exact .inl rfl|exact .inr rfl|assumption):PG X (.Name x pos) (Nt i):=by
 intro pins s σ H v u Q I r h;exact wpAny_assign_Name (Qr I hN hi hx r (λs' I'=>⟨_,H,I',h⟩) hf)
def gNil:TGs:=λvs σ H Q=>vs=[]/\Q σ H
def Rh(t:TG)(u:TGs):TGs:=λvs σ H Q=>∃v r,vs=v::r/\t v σ H fun σ' H'=>u r σ' H' Q
theorem IB:PGs X [] gNil:=by
 intro pins s σ H vs us Q I r h;obtain⟨e,h⟩:=h;subst e;cases r;exact assignInOrder_nil ⟨σ,H,I,h⟩
theorem Cg{e:Expr}{es:List Expr}{t:TG}{u:TGs}(h1:PG X e t)(h2:PGs X es u)
  (hs:(assignEach (e::es) X.env).map (·.2)=assign e X.env::(assignEach es X.env).map (·.2):=by rfl):PGs X (e::es) (Rh t u):=by
 intro pins s σ H vs us Q I r h;obtain⟨v,vr,e1,h⟩:=h;subst e1;cases r with
 |cons r rr =>
  rw[hs];refine assignInOrder_cons (thn (h1 pins s σ H _ _ _ I r h) λ_ s1 ⟨σ1,H1,I1,q1⟩=>?_);exact h2 pins s1 σ1 H1 _ _ Q I1 rr q1
def gTup(K:PySem.W.Frag)(n:Nat)(t:TGs):TG:=λv σ H Q=>∃a xs,v=.ref a/\SqT K H a xs/\xs.length=n/\t xs σ H Q
theorem Lp{es:List Expr}{k:Nat}{t:TGs}{n:Nat}(hc:X.calm=true)(h:PGs X es t)
  (hn:(assignEach es X.env).length=n:=by rfl) (hst:(assignEach es X.env).findIdx? (·.1)=none:=by rfl):PG X (.Tuple es k pos) (gTup X.K n t):=by
 intro pins s σ H v u Q I r hw;obtain⟨a,xs,e1,hq,hl,hw⟩:=hw;subst e1;cases r;obtain⟨its,rv,ht,hz⟩:=I.tuple hq;refine assign_Tuple_tuple (I.ok.hd hc) ht (by simp[hn,<-hl,rv.length]) hst λh' hx=>?_;have I1:Inv X pins σ H {s with heap:=h'}:=I.kept (t':=s.toks) λb o e=>hx b o (F0 (C8 e)) e;exact h pins _ σ H xs _ Q I1 (by simpa using rv) hw
def gSub(to ti:TE)(t:TSet):TG:=λv σ H Q=>to σ H λo H1=>ti σ H1 λi H2=>t o i v H2 λH3=>Q σ H3
theorem MZ{o i:Expr}{to ti:TE}{t:TSet}(ho:PE X o to)(hi:PE X i ti)(hs:PSet X t)
  (ha:∀v,assign (.Subscript o i pos) X.env v=(do
   let ov <-holding [v] (eval o X.env);let iv <-holding [v,ov] (eval i X.env)
   standAt pos
   holding [v,ov,iv] (setItem ov iv v)
   release [v,ov,iv] []):=by intro _;rfl):PG X (.Subscript o i pos) (gSub to ti t):=by
 intro pins s σ H v u Q I r h;rw[ha];refine V7 (K7 (thn (ho pins s σ H _ I h) λov s1 ⟨x,H1,I1,r1,q1⟩=>?_));refine V7 (K7 (thn (hi pins s1 σ H1 _ I1 q1) λiv s2 ⟨y,H2,I2,r2,q2⟩=>?_));refine V7 (wpAny_standAt (V7 (K7 (thn (hs pins s2 σ H2 x y v ov iv u _ I2 r1 r2 r q2) λ_ s3 ⟨H3,I3,q3⟩=>?_))));exact wpAny_release ⟨σ,H3,I3,q3⟩
def tAsg(te:TE)(g:TG):TS:=λD σ H=>te σ H λx H1=>g x σ H1 D.nx
theorem MY{tg e:Expr}{te:TE}{g:TG}(he:PE X e te)(hg:PG X tg g)(hs:swapsWithSole [tg] e pos.line X.env=pure false:=by rfl)(hw:swappedStores [tg] e X.env=pure none:=by rfl)
  (h1:(assignEach [tg] X.env).map (·.2)=[assign tg X.env]:=by rfl):PS X (.Assign [tg] e pos) (tAsg te g):=by
 intro pins s σ H D I h;refine wpAny_Assign_stores (thn (he pins s σ H _ I h) λv s1 ⟨x,H1,I1,r1,q1⟩=>?_) hs hw;rw[h1];exact thn (hg pins s1 σ H1 x v _ I1 r1 q1) λ_ s2 q=>q
theorem Aq{i:Nat}{x:Str}{e:Expr}{te:TE}{pos':Pos}(hN:X.N.Nodup)(hi:X.N[i]?=some x)(hx:Loc X.env.scope x)(he:PE X e te)(hs:swapsWith e (some (.Name x pos')) pos.line X.env=pure false:=by rfl)(hf:X.fn x=true\/X.env.scope.names.lookup x=some .local:=by first|exact .inl rfl|exact .inr rfl|assumption) :
  PS X (.Assign [.Name x pos'] e pos) (tAsg te (Nt i)):=by
 intro pins s σ H D I h;refine wpAny_Assign_Name (thn (he pins s σ H _ I h) λv s1 ⟨y,H1,I1,r1,q1⟩=>?_) hs;exact Qr I1 hN hi hx r1 (λs2 I2=>⟨_,H1,I2,q1⟩) hf
end
section
variable{X:Cx}{pos:Pos}
def tWhile(c:TT)(tb:TS):TS:=λD σ H=>∃W:Nat->St->Hp->Prop,(∃m,W m σ H)/\∀m σ H,W m σ H ->
 c σ H λb H1=>if b=true then ∃N:St->Hp->Prop,(∀σ' H',N σ' H'->∃m',m'<m/\W m' σ' H')/\tb {D with nx:=N,ct:=N,bk:=D.nx} σ H1 else D.nx σ H1
theorem Ig{c:Expr}{body:List Stmt}{tc:TT}{tb:TS}(hp:PassesOwn (model X.prog X.w) X.A X.env X.xe)(hc:PT X c tc)(hb:PSs X body tb):PS X (.While c body [] pos) (tWhile tc tb):=by
 intro pins s σ H D I h;obtain⟨W,⟨m0,w0⟩,turn⟩:=h;refine wpAny_While (codeAny_whileLoop (λn s'=>∃σ' H',Inv X pins σ' H' s'/\W n σ' H') ?_ m0 ⟨σ,H,I,w0⟩);rintro n s1 ⟨σ1,H1,I1,w1⟩;refine K1 hp (thn (hc pins s1 σ1 H1 _ I1 (turn n σ1 H1 w1)) λb s2 ⟨H2,I2,q2⟩=>?_);cases b with
 |true =>
  obtain⟨N,hN,q2⟩:=q2;rw[W2 rfl];refine K1 hp (thn (hb pins s2 σ1 H2 _ I2 q2) λf s3 q3=>?_);cases f with
  |next =>
   obtain⟨σ3,H3,I3,n3⟩:=q3;obtain⟨m',hm,w3⟩:=hN σ3 H3 n3;exact⟨m',hm,σ3,H3,I3,w3⟩
  |cont =>
   obtain⟨σ3,H3,I3,n3⟩:=q3;obtain⟨m',hm,w3⟩:=hN σ3 H3 n3;exact⟨m',hm,σ3,H3,I3,w3⟩
  |brk=>exact q3
  |ret v=>exact q3
 |false =>
  rw[V8 C5];exact A1h ⟨σ1,H2,I2,q2⟩
end
structure It where
 go:Nat->Hp->Prop
 yld:Nat->Hp->V->Hp->Prop
 stop:Nat->Hp->Prop
def Ga(X:Cx)(pins:List (Addr×Obj))(H:Hp)(b:Addr):Prop :=
 H b=none/\b≠X.env.locals/\b∉X.fs/\(b∈X.ex\/X.s₀.heap.objs.size<=b)/\(∀x c,X.env.cells.lookup x=some c->c≠b)/\∀p∈X.pn++pins,p.1≠b
theorem Inv.fpOk{X:Cx}{pins:List (Addr×Obj)}{σ:St}{H H':Hp}{s:Shared}{b:Addr}(I:Inv X pins σ H s)(hb:s.heap.objs.size<=b)(hn:H' b=none):Ga X pins H' b:=by
 refine⟨hn,T4 (D5 I.lt hb),I.nofs hb,.inr (C2 I.sz hb),λx c e z=>?_,λp hp z=>?_⟩
 ·obtain⟨v,q⟩:=I.cell x c e;exact absurd (D5 q.lt (by rw[z];exact hb)) (N2 _)
 ·exact absurd (D5 (C8 (I.pin p hp).1) (by rw[z];exact hb)) (N2 _)
structure Og(P:Program)(w:World)(K:PySem.W.Frag)(tg:Expr)(J:It)(fp:List Addr)(it:Addr)(tn:Nat->Heap->Prop):Prop where
 mem:it∈fp
 obj:∀i h,tn i h->∀b∈fp,∃o,h.get? b=some o/\∀v,o.data≠.cell v
 keep:∀i h h',tn i h->(∀b∈fp,∀o,h.get? b=some o->h'.get? b=some o)->tn i h'
 item:∀(X:Cx),X.prog=P->X.w=w->X.K=K->X.calm=true->∀(i:Nat)(pins:List (Addr×Obj))(s:Shared)(σ:St)(H:Hp)(E:Value->Shared->Prop),Inv X pins σ H s->(∀b∈fp,Ga X pins H b)->tn i s.heap->J.go i H ->
  wpAny (model P w) X.A (pyNext (.ref it)) (λr s1=>∃u,r=some u /\
   wpAny (model P w) X.A (letOwnedTupleGo tg (.ref it) u) (λ_ s2=>∃x H',Inv X pins σ H' s2/\AO x u/\J.yld i H x H'/\tn (i+1) s2.heap/\∀b∈fp,H' b=none) E s1) E s
 done:∀(X:Cx),X.prog=P->X.w=w->X.K=K->X.calm=true->∀(i:Nat)(pins:List (Addr×Obj))(s:Shared)(σ:St)(H:Hp)(E:Value->Shared->Prop),Inv X pins σ H s->(∀b∈fp,Ga X pins H b)->tn i s.heap->J.stop i H ->
  wpAny (model P w) X.A (pyNext (.ref it)) (λr s1=>r=none/\Inv X pins σ H s1) E s
 self:∀(A:Around)(i:Nat)(s:Shared)(Q:Value->Shared->Prop)(E:Value->Shared->Prop),tn i s.heap->Q (.ref it) s->wpAny (model P w) A (pyIter (.ref it)) Q E s
abbrev TI:=St->Hp->(It->Hp->Prop)->Prop
def PIE(X:Cx)(pins:List (Addr×Obj))(σ:St)(tg:Expr)(R:It->Hp->Prop)(itv:Value)(s2:Shared):Prop :=
 ∃(it:Addr)(fp:List Addr)(tn:Nat->Heap->Prop)(J:It)(H':Hp),itv=.ref it/\Inv X pins σ H' s2/\Og X.prog X.w X.K tg J fp it tn/\tn 0 s2.heap/\(∀b∈fp,Ga X pins H' b)/\R J H'
def PI(X:Cx)(tg iter:Expr)(wi:TI):Prop :=
 ∀(pins:List (Addr×Obj))(s:Shared)(σ:St)(H:Hp)(R:It->Hp->Prop),Inv X pins σ H s->wi σ H R ->
  wpAny (model X.prog X.w) X.A (eval iter X.env) (λv s1=>wpAny (model X.prog X.w) X.A (pyIter v) (PIE X pins σ tg R) X.xe s1) X.xe s
theorem Rg{M:Model}{A:Around}{E:Value->Shared->Prop}{s:Shared}{tg:Expr}{it:Addr}{u:Value}{o:Obj}{n:String}{vs:Array Value}{Q:Unit->Shared->Prop}(ho:s.heap.get? it=some o)(hc:o.cls=.type n)(hd:o.data=.fields vs)
    (hn:["enumerate","zip","dict_itemiterator","dict_reverseitemiterator","odict_iterator","itertools.zip_longest","itertools.pairwise"].contains n=false) (hQ:Q () s):wpAny M A (letOwnedTupleGo tg (.ref it) u) Q E s:=by
  unfold letOwnedTupleGo;cases tg<;>first
    |exact W1 hQ
    | (cases u<;>first
        |exact W1 hQ
        | (refine V7 (wpAny_load ho ?_)
           rw[hc,hd];show wpAny M A (if(["enumerate","zip","dict_itemiterator","dict_reverseitemiterator","odict_iterator","itertools.zip_longest","itertools.pairwise"].contains n && vs[0]?==some (rawInt _))=true then _ else _) Q E s;rw[V8 (by intro h;rw[hn,Bool.false_and]at h;cases h)];exact W1 hQ))
def Itl(K:PySem.W.Frag)(a:Addr):It :=
 ⟨λi H=>∃xs x,SqL K H a xs/\xs[i]?=some x,λi H x H'=>H'=H/\∀xs,SqL K H a xs->xs[i]?=some x,λi H=>∃xs,SqL K H a xs/\xs.length<=i⟩
def Itt(K:PySem.W.Frag)(a:Addr):It :=
 ⟨λi H=>∃xs x,SqT K H a xs/\xs[i]?=some x,λi H x H'=>H'=H/\∀xs,SqT K H a xs->xs[i]?=some x,λi H=>∃xs,SqT K H a xs/\xs.length<=i⟩
def Itr(lo:Int)(n:Nat):It:=⟨λi _=>i<n,λi H x H'=>H'=H/\x=.int (lo+i),λi _=>n<=i⟩
theorem Uc{P:Program}{w:World}{K:PySem.W.Frag}{tg:Expr}(a it:Addr):Og P w K tg (Itl K a) [it] it (λi h=>h.IsListIter it a i) where
 mem:=by simp
 obj:=λi h st b hb=>by
  have e:b=it:=by simpa using hb
  subst e;obtain⟨o,e,c,d⟩:=st;exact⟨o,e,λv z=>by rw[d]at z;cases z⟩
 keep:=λi h h' st k=>st.at λo e=>k it A4 o e
 item:=by
  intro X hP hw hK hc i pins s σ H E I hf st hg;subst hP hw hK;obtain⟨xs,x,hq,hx⟩:=hg;obtain⟨its,rv,p,hz⟩:=I.list hq;obtain⟨u,hu,ru⟩:=rv.get hx;obtain⟨f0,f1,f2,f3,f4,f5⟩:=hf it A4;refine wpAny_pyNext_list_item st p.isList (x:=u) (by simpa using hu) λh' st' sb=>?_;have I1:Inv X pins σ H {s with heap:=h'}:=I.turned (t':=s.toks) (λb o hb e=>(sb.2 b hb).trans e) f0 f1 f3 f4 f5;obtain⟨o,e,c,d⟩:=id st';exact⟨u,rfl,Rg (s:={s with heap:=h'}) e c d A3 ⟨x,H,I1,ru,⟨rfl,λys hy=>by rw[I.list_inj hy hq];exact hx⟩,st',λb hb=>(hf b hb).1⟩⟩
 done:=by
  intro X hP hw hK hc i pins s σ H E I hf st hg;subst hP hw hK;obtain⟨xs,hq,hx⟩:=hg;obtain⟨its,rv,p,hz⟩:=I.list hq;obtain⟨f0,f1,f2,f3,f4,f5⟩:=hf it A4;have hl:=rv.length;exact wpAny_pyNext_list_end (I.ok.hd hc) st p.isList (by simp;lia) λh' eb=>⟨rfl,I.turned (t':=s.toks) (λb o hb e=>eb b o hb e) f0 f1 f3 f4 f5⟩
 self:=λ_ _ _ _ _ st h=>wpAny_pyIter_listiter st h
theorem RD{P:Program}{w:World}{K:PySem.W.Frag}{tg:Expr}(a it:Addr):Og P w K tg (Itt K a) [it] it (λi h=>h.IsTupleIter it a i) where
 mem:=by simp
 obj:=λi h st b hb=>by
  have e:b=it:=by simpa using hb
  subst e;obtain⟨o,e,c,d⟩:=st;exact⟨o,e,λv z=>by rw[d]at z;cases z⟩
 keep:=λi h h' st k=>st.at λo e=>k it A4 o e
 item:=by
  intro X hP hw hK hc i pins s σ H E I hf st hg;subst hP hw hK;obtain⟨xs,x,hq,hx⟩:=hg;obtain⟨its,rv,p,hz⟩:=I.tuple hq;obtain⟨u,hu,ru⟩:=rv.get hx;obtain⟨f0,f1,f2,f3,f4,f5⟩:=hf it A4;refine wpAny_pyNext_tuple_item st (show s.heap.IsTuple a its.toArray from p) (x:=u) (by simpa using hu) λh' st' sb=>?_;have I1:Inv X pins σ H {s with heap:=h'}:=I.turned (t':=s.toks) (λb o hb e=>(sb.2 b hb).trans e) f0 f1 f3 f4 f5;obtain⟨o,e,c,d⟩:=id st';exact⟨u,rfl,Rg (s:={s with heap:=h'}) e c d A3 ⟨x,H,I1,ru,⟨rfl,λys hy=>by rw[I.tuple_inj hy hq];exact hx⟩,st',λb hb=>(hf b hb).1⟩⟩
 done:=by
  intro X hP hw hK hc i pins s σ H E I hf st hg;subst hP hw hK;obtain⟨xs,hq,hx⟩:=hg;obtain⟨its,rv,p,hz⟩:=I.tuple hq;obtain⟨f0,f1,f2,f3,f4,f5⟩:=hf it A4;have hl:=rv.length;exact wpAny_pyNext_tuple_end (I.ok.hd hc) st (show s.heap.IsTuple a its.toArray from p) (by simp;lia) λh' eb=>⟨rfl,I.turned (t':=s.toks) (λb o hb e=>eb b o hb e) f0 f1 f3 f4 f5⟩
 self:=λ_ _ _ _ _ st h=>wpAny_pyIter_tupleiter st h
theorem RE{P:Program}{w:World}{K:PySem.W.Frag}{tg:Expr}(it:Addr)(lo:Int)(n:Nat):Og P w K tg (Itr lo n) [it] it (λi h=>IsRangeIter h it (lo+(i:Nat)*1) ((n:Int)-(i:Nat)) 1) where
 mem:=by simp
 obj:=λi h st b hb=>by
  have e:b=it:=by simpa using hb
  subst e;exact⟨_,st,λv z=>by
   have z':Data.fields _=Data.cell v:=z;cases z'⟩
 keep:=λi h h' st k=>k it A4 _ st
 item:=by
  intro X hP hw hK hc i pins s σ H E I hf st hg;subst hP hw hK;obtain⟨f0,f1,f2,f3,f4,f5⟩:=hf it A4;have W:=Walks.range (prog:=X.prog) (w:=X.w) (I.ok.hd hc) it lo 1 n;refine W.item i s _ _ hg st λv h' tk hv st' kk=>?_;obtain⟨t,rfl⟩:=hv;have I1:Inv X pins σ H {s with heap:=h',toks:=tk}:=I.turned (λb o hb e=>kk b o (by simpa using hb) e) f0 f1 f3 f4 f5;refine⟨_,rfl,Rg (s:={s with heap:=h',toks:=tk}) (n:="range_iterator") st' rfl rfl A3 ⟨.int (lo+i),H,I1,⟨t,?_⟩,⟨rfl,rfl⟩,st',λb hb=>(hf b hb).1⟩⟩;rw[Int.mul_one]
 done:=by
  intro X hP hw hK hc i pins s σ H E I hf st hg;subst hP hw hK;obtain⟨f0,f1,f2,f3,f4,f5⟩:=hf it A4;exact wpAny_pyNext_range_end (I.ok.hd hc) st (by have:n<=i:=hg;lia) λh' eb=>⟨rfl,I.turned (t':=s.toks) (λb o hb e=>eb b o hb e) f0 f1 f3 f4 f5⟩
 self:=λ_ _ _ _ _ st h=>wpAny_pyIter_rangeiter st h
section
variable{X:Cx}{tg:Expr}
def iList(K:PySem.W.Frag)(tl:TE):TI:=fun σ H R=>tl σ H λx H1=>∃a,x=.ref a/\(∃xs,SqL K H1 a xs)/\R (Itl K a) H1
def iTup(K:PySem.W.Frag)(tl:TE):TI:=fun σ H R=>tl σ H λx H1=>∃a,x=.ref a/\(∃xs,SqT K H1 a xs)/\R (Itt K a) H1
theorem CC{l:Expr}{tl:TE}(hl:PE X l tl):PI X tg l (iList X.K tl):=by
 intro pins s σ H R I h;refine thn (hl pins s σ H _ I h) λv s1 ⟨x,H1,I1,r1,q1⟩=>?_;obtain⟨a,e,⟨xs,hq⟩,q⟩:=q1;subst e;cases r1;obtain⟨its,rv,p,hz⟩:=I1.list hq;refine A0c p.isList ?_;refine⟨s1.heap.objs.size,[s1.heap.objs.size],_,_,H1,rfl,I1.kept (t':=s1.toks) λb o e=>B9 _ e,Uc a _,⟨_,C6 _ rfl,rfl,rfl⟩,λb hb=>?_,q⟩;have e:b=s1.heap.objs.size:=by simpa using hb
 subst e;exact I1.fpOk (B6 _) (I1.hok.fresh (B6 _))
theorem RO{l:Expr}{tl:TE}(hl:PE X l tl):PI X tg l (iTup X.K tl):=by
 intro pins s σ H R I h;refine thn (hl pins s σ H _ I h) λv s1 ⟨x,H1,I1,r1,q1⟩=>?_;obtain⟨a,e,⟨xs,hq⟩,q⟩:=q1;subst e;cases r1;obtain⟨its,rv,p,hz⟩:=I1.tuple hq;refine wpAny_pyIter_tuple (show s1.heap.IsTuple a its.toArray from p) ?_;refine⟨s1.heap.objs.size,[s1.heap.objs.size],_,_,H1,rfl,I1.kept (t':=s1.toks) λb o e=>B9 _ e,RD a _,⟨_,C6 _ rfl,rfl,rfl⟩,λb hb=>?_,q⟩;have e:b=s1.heap.objs.size:=by simpa using hb
 subst e;exact I1.fpOk (B6 _) (I1.hok.fresh (B6 _))
theorem QG{pins:List (Addr×Obj)}{σ:St}{H:Hp}{s:Shared}{R:It->Hp->Prop}{E:Value->Shared->Prop}{lo hi:Int}{t u v:Tok}{tk:Nat}(I:Inv X pins σ H s)(h1:-(2^62)<=lo)(h2:lo<2^62)(h3:-(2^62)<=hi)(h4:hi<2^62)
  (q:R (Itr lo (hi-lo).toNat) H):wpAny (model X.prog X.w) X.A (pyIter (.ref s.heap.objs.size)) (PIE X pins σ tg R) E {s with heap:=s.heap.push {cls:=.type "range",data:=.fields #[.int lo t,.int hi u,.int 1 v]},toks:=tk}:=by
 refine wpAny_pyIter_range (IsRange.new ..) (small_one h1 h2 h3 h4) ?_;have I1:Inv X pins σ H {s with heap:=s.heap.push {cls:=.type "range",data:=.fields #[.int lo t,.int hi u,.int 1 v]},toks:=tk}:=I.kept λb o e=>B9 _ e;refine⟨(s.heap.push {cls:=.type "range",data:=.fields #[.int lo t,.int hi u,.int 1 v]}).objs.size,[(s.heap.push {cls:=.type "range",data:=.fields #[.int lo t,.int hi u,.int 1 v]}).objs.size],_,_,H,rfl,
  I1.kept (t':=tk) λb o e=>B9 _ e,RE _ lo (hi-lo).toNat,?_,λb hb=>?_,q⟩
 ·have e1:lo+((0:Nat):Int)*1=lo:=by simp
  have e2:(((hi-lo).toNat:Nat):Int)-((0:Nat):Int)=Builtin.Range.rangeSize lo hi 1:=by rw[rangeSize_one];split<;>lia
  show IsRangeIter _ _ (lo+((0:Nat):Int)*1) ((((hi-lo).toNat:Nat):Int)-((0:Nat):Int)) 1;rw[e1,e2];exact C6 _ rfl
 ·have e:b=(s.heap.push {cls:=.type "range",data:=.fields #[.int lo t,.int hi u,.int 1 v]}).objs.size:=by simpa using hb
  subst e;exact I1.fpOk (B6 _) (I1.hok.fresh (B6 _))
def iRng1(ta:TA):TI:=fun σ H R=>ta σ H λvs H1=>∃j:Int,vs=[.int j]/\-(2^62)<=j/\j<2^62/\R (Itr 0 j.toNat) H1
def iRng2(ta:TA):TI:=fun σ H R=>ta σ H λvs H1=>∃i j:Int,vs=[.int i,.int j]/\(-(2^62)<=i/\i<2^62/\-(2^62)<=j/\j<2^62)/\R (Itr i (j-i).toNat) H1
theorem Lo{a:Expr}{ta:TA}{p pos:Pos}(hg:Gl X "range")(hm:X.mg "range" = none)(ha:PA X [a] ta)(hs:starEach [a] X.env=[(false,eval a X.env)]:=by rfl):PI X tg (.Call (.Name "range" p) [a] [] pos) (iRng1 ta):=by
 intro pins s σ H R I h;refine Call_ (Jn I hg hm boot_range (Z5 (thn (ha pos pins s σ H _ I h) λus s1 ⟨vs,H1,I1,r1,q1⟩=>?_) hs rfl));obtain⟨j,e,q1,q2,q⟩:=q1;subst e;cases r1 with
 |cons r rr =>
  cases rr;obtain⟨t,rfl⟩:=r;exact call_range_1 (QG I1 A0 A0 q1 q2 (by simpa using q))
theorem Um{a b:Expr}{ta:TA}{p pos:Pos}(hg:Gl X "range")(hm:X.mg "range" = none)(ha:PA X [a,b] ta)(hs:starEach [a,b] X.env=[(false,eval a X.env),(false,eval b X.env)]:=by rfl)(hs2:starEach [b] X.env=[(false,eval b X.env)]:=by rfl) :
  PI X tg (.Call (.Name "range" p) [a,b] [] pos) (iRng2 ta):=by
 intro pins s σ H R I h;refine Call_ (Jn I hg hm boot_range (Z5 (thn (ha pos pins s σ H _ I h) λus s1 ⟨vs,H1,I1,r1,q1⟩=>?_) (by rw[hs,hs2]) (by rw[hs2];rfl)));obtain⟨i,j,e,⟨q1,q2,q3,q4⟩,q⟩:=q1;subst e;cases r1 with
 |cons r rr =>
  cases rr with
  |cons r' rr =>
   cases rr;obtain⟨t,rfl⟩:=r;obtain⟨t',rfl⟩:=r';exact call_range_2 (QG I1 q1 q2 q3 q4 q)
def tFor(wi:TI)(g:TG)(tb:TS):TS:=λD σ H=>wi σ H λJ H1=>∃W:Nat->Nat->St->Hp->Prop,(∃m,W 0 m σ H1)/\∀i m σ H,W i m σ H ->
 (J.stop i H/\D.nx σ H)\/(J.go i H/\∃N:St->Hp->Prop,(∀σ' H',N σ' H'->∃m',m'<m/\W (i+1) m' σ' H')/\∀x H',J.yld i H x H'->g x σ H' fun σ2 H2=>tb {D with nx:=N,ct:=N,bk:=D.nx} σ2 H2)
def Lm(fp:List Addr)(h:Heap):List (Addr×Obj):=fp.filterMap λb=>(h.get? b).map λo=>(b,o)
theorem GJ{fp:List Addr}{h:Heap}{b:Addr}{o:Obj}(hb:b∈fp)(e:h.get? b=some o):(b,o)∈Lm fp h:=List.mem_filterMap.mpr ⟨b,hb,by rw[e];rfl⟩
theorem Ov{fp:List Addr}{h:Heap}{p:Addr×Obj}(hp:p∈Lm fp h):p.1∈fp/\h.get? p.1=some p.2:=by
 obtain⟨b,hb,e⟩:=List.mem_filterMap.mp hp;cases q:h.get? b with
 |none=>rw[q]at e;cases e
 |some o =>
  rw[q]at e;have e':(b,o)=p:=W3 e;subst e';exact⟨hb,q⟩
theorem Inv.pinned{pins:List (Addr×Obj)}{σ:St}{H:Hp}{s:Shared}{fp:List Addr}(I:Inv X pins σ H s)(hf:∀b∈fp,Ga X pins H b)(ho:∀b∈fp,∃o,s.heap.get? b=some o/\∀v,o.data≠.cell v):Inv X (pins++Lm fp s.heap) σ H s :=
 I.pins_of λp hp=>(D4.mp hp).elim (λz=>I.pin p (F5 _ z)) λz=>by
  obtain⟨hb,e⟩:=Ov z;obtain⟨f0,f1,f2,_⟩:=hf p.1 hb;obtain⟨o,e',d⟩:=ho p.1 hb;rw[e]at e';cases e';exact⟨e,f0,f1,f2,d⟩
theorem Inv.unpinned{pins pl:List (Addr×Obj)}{σ:St}{H:Hp}{s:Shared}(I:Inv X (pins++pl) σ H s):Inv X pins σ H s:=I.pins_of λp hp=>I.pin p (F5 _ (Q5 _ hp))
theorem EH{iter:Expr}{body:List Stmt}{wi:TI}{g:TG}{tb:TS}{pos:Pos}(hp:PassesOwn (model X.prog X.w) X.A X.env X.xe)(hc:X.calm=true)(hi:PI X tg iter wi)(hg:PG X tg g)(hb:PSs X body tb)
  (hs:∀x,foldedSetIterable iter X.env x=pure x:=by intro _;rfl):PS X (.For tg iter body [] pos) (tFor wi g tb):=by
 intro pins s σ H D I h;refine wpAny_For (thn (hi pins s σ H _ I h) λv s1 h1=>thn h1 λitv s2 h2=>?_) hs;obtain⟨it,fp,tn,J,H2,e,I2,T,st2,f2,W,⟨m0,w0⟩,turn⟩:=h2;subst e;have stat:∀{H':Hp},(∀b∈fp,H' b=none)->∀b∈fp,Ga X pins H' b:=λhn b hb=>⟨hn b hb,(f2 b hb).2⟩
 refine codeAny_forLoop_any (λn s'=>∃i σ' H',Inv X pins σ' H' s'/\tn i s'.heap/\(∀b∈fp,H' b=none)/\W i n σ' H') ?_ m0 ⟨0,σ,H2,I2,st2,λb hb=>(f2 b hb).1,w0⟩;rintro n s3 ⟨i,σ3,H3,I3,st3,fr3,w3⟩;rcases turn i n σ3 H3 w3 with ⟨stop,qn⟩|⟨go,N,hN,step⟩
 ·refine K1 hp (thn (T.done X rfl rfl rfl hc i pins s3 σ3 H3 X.xe I3 (stat fr3) st3 stop) λr s4 ⟨hr,I4⟩=>?_);subst hr;exact A1h ⟨σ3,H3,I4,qn⟩
 ·refine K1 hp (thn (T.item X rfl rfl rfl hc i pins s3 σ3 H3 X.xe I3 (stat fr3) st3 go) λr s4 ⟨u,hr,h4⟩=>?_);subst hr;refine K1 hp (thn h4 λ_ s5 ⟨x,H5,I5,r5,y5,st5,fr5⟩=>?_);have I5':=I5.pinned (stat fr5) (T.obj _ _ st5);refine K1 hp (thn (hg _ s5 σ3 H5 x u _ I5' r5 (step x H5 y5)) λ_ s6 ⟨σ6,H6,I6,q6⟩=>?_);refine K1 hp (thn (hb _ s6 σ6 H6 _ I6 q6) λf s7 q7=>?_);have again:∀{σ7:St}{H7:Hp},Inv X (pins++Lm fp s5.heap) σ7 H7 s7->N σ7 H7->∃m,m<n/\∃i σ' H',Inv X pins σ' H' s7/\tn i s7.heap/\(∀b∈fp,H' b=none)/\W i m σ' H':=λ{σ7 H7} I7 n7=>by
   obtain⟨m',hm,w7⟩:=hN σ7 H7 n7;refine⟨m',hm,i+1,σ7,H7,I7.unpinned,T.keep _ _ _ st5 λb hb o e=>(I7.pin (b,o) (F5 _ (F5 _ (GJ hb e)))).1,λb hb=>?_,w7⟩;obtain⟨o,e,d⟩:=T.obj _ _ st5 b hb;exact(I7.pin (b,o) (F5 _ (F5 _ (GJ hb e)))).2.1
  cases f with
  |next=>obtain⟨σ7,H7,I7,n7⟩:=q7;exact again I7 n7
  |cont=>obtain⟨σ7,H7,I7,n7⟩:=q7;exact again I7 n7
  |brk=>obtain⟨σ7,H7,I7,q7⟩:=q7;exact⟨σ7,H7,I7.unpinned,q7⟩
  |ret v=>obtain⟨x7,σ7,H7,I7,r7,q7⟩:=q7;exact⟨x7,σ7,H7,I7.unpinned,r7,q7⟩
end
theorem Ri{K:PySem.W.Frag}{a:Addr}{xs:List V}{g:TG}{tb:TS}{D:LM}{σ:St}{H:Hp}(Pv:Nat->St->Hp->Prop)(h0:Pv 0 σ H)(hl:∀i σ H,i<=xs.length->Pv i σ H->SqL K H a xs)
  (hs:∀i x σ H,xs[i]?=some x->Pv i σ H->g x σ H fun σ2 H2=>tb {D with nx:=Pv (i+1),ct:=Pv (i+1),bk:=D.nx} σ2 H2) (hd:∀σ H,Pv xs.length σ H->D.nx σ H) :
  ∃W:Nat->Nat->St->Hp->Prop,(∃m,W 0 m σ H)/\∀i m σ H,W i m σ H ->
   ((Itl K a).stop i H/\D.nx σ H)\/((Itl K a).go i H/\∃N:St->Hp->Prop,(∀σ' H',N σ' H'->∃m',m'<m/\W (i+1) m' σ' H')/\∀x H',(Itl K a).yld i H x H'->g x σ H' fun σ2 H2=>tb {D with nx:=N,ct:=N,bk:=D.nx} σ2 H2):=by
 refine⟨λi m σ H=>m=xs.length-i/\i<=xs.length/\Pv i σ H,⟨xs.length,by simp,F8 _,h0⟩,?_⟩;rintro i m σ H ⟨rfl,hi,p⟩;have q:=hl i σ H hi p;by_cases hlt:i<xs.length
 ·refine .inr ⟨⟨xs,xs[i],q,by simp[hlt]⟩,Pv (i+1),fun σ' H' p'=>⟨xs.length-(i+1),by lia,rfl,hlt,p'⟩,λx H' y=>?_⟩;obtain⟨e,y⟩:=y;subst e;exact hs i x σ _ (y xs q) p
 ·have e:i=xs.length:=by lia
  subst e;exact .inl ⟨⟨xs,q,B6 _⟩,hd σ H p⟩
theorem LE{lo:Int}{n:Nat}{g:TG}{tb:TS}{D:LM}{σ:St}{H:Hp}(Pv:Nat->St->Hp->Prop)(h0:Pv 0 σ H)
  (hs:∀i σ H,i<n->Pv i σ H->g (.int (lo+i)) σ H fun σ2 H2=>tb {D with nx:=Pv (i+1),ct:=Pv (i+1),bk:=D.nx} σ2 H2) (hd:∀σ H,Pv n σ H->D.nx σ H) :
  ∃W:Nat->Nat->St->Hp->Prop,(∃m,W 0 m σ H)/\∀i m σ H,W i m σ H ->
   ((Itr lo n).stop i H/\D.nx σ H)\/((Itr lo n).go i H/\∃N:St->Hp->Prop,(∀σ' H',N σ' H'->∃m',m'<m/\W (i+1) m' σ' H')/\∀x H',(Itr lo n).yld i H x H'->g x σ H' fun σ2 H2=>tb {D with nx:=N,ct:=N,bk:=D.nx} σ2 H2):=by
 refine⟨λi m σ H=>m=n-i/\i<=n/\Pv i σ H,⟨n,by simp,F8 _,h0⟩,?_⟩;rintro i m σ H ⟨rfl,hi,p⟩;by_cases hlt:i<n
 ·refine .inr ⟨hlt,Pv (i+1),fun σ' H' p'=>⟨n-(i+1),by lia,rfl,hlt,p'⟩,λx H' y=>?_⟩;obtain⟨e,y⟩:=y;subst e y;exact hs i σ _ hlt p
 ·have e:i=n:=by lia
  subst e;exact .inl ⟨B6 _,hd σ H p⟩
abbrev R2:=V->V->Hp->VK->Prop
def OpR(X:Cx)(f:Value->Value->Sem Value)(r:R2):Prop :=
 ∀(pins:List (Addr×Obj))(s:Shared)(σ:St)(H:Hp)(x y:V)(v u:Value)(Q:VK),Inv X pins σ H s->AO x v->AO y u->r x y H Q ->
  wpAny (model X.prog X.w) X.A (f v u) (EP X pins σ Q) X.xe s
def UnR(X:Cx)(f:Value->Sem Value)(r:V->Hp->VK->Prop):Prop :=
 ∀(pins:List (Addr×Obj))(s:Shared)(σ:St)(H:Hp)(x:V)(v:Value)(Q:VK),Inv X pins σ H s->AO x v->r x H Q ->
  wpAny (model X.prog X.w) X.A (f v) (EP X pins σ Q) X.xe s
def Fp(X:Cx)(f:Value)(r:List V->Hp->VK->Prop):Prop :=
 ∀(pins:List (Addr×Obj))(s:Shared)(σ:St)(H:Hp)(xs:List V)(us:List Value)(Q:VK),Inv X pins σ H s->AL xs us->r xs H Q ->
  wpAny (model X.prog X.w) X.A (call f us) (EP X pins σ Q) X.xe s
def tOp(r:R2)(ta tb:TE):TE:=fun σ H Q=>ta σ H λx H1=>tb σ H1 λy H2=>r x y H2 Q
def tUn(r:V->Hp->VK->Prop)(ta:TE):TE:=fun σ H Q=>ta σ H λx H1=>r x H1 Q
def rI(C:Int->Int->Prop)(g:Int->Int->V):R2:=λx y H Q=>∃i j,x=.int i/\y=.int j/\C i j/\Q (g i j) H
def rI0(g:Int->Int->V):R2:=λx y H Q=>∃i j,x=.int i/\y=.int j/\Q (g i j) H
def rU(g:Int->V):V->Hp->VK->Prop:=λx H Q=>∃i,x=.int i/\Q (g i) H
section
variable{X:Cx}{a b c:Expr}{ta tb tc:TE}{pos:Pos}
theorem binT(ha:PE X a ta)(hb:PE X b tb){pins:List (Addr×Obj)}{s:Shared}{σ:St}{H:Hp}{R:V->V->Hp->Prop}(I:Inv X pins σ H s)
  (h:ta σ H λx H1=>tb σ H1 λy H2=>R x y H2) {Q:Value->Shared->Prop} {f:Value->Value->Sem Value}
  (hf:∀v u s2 x y H2,Inv X pins σ H2 s2->AO x v->AO y u->R x y H2->wpAny (model X.prog X.w) X.A (f v u) Q X.xe s2) :
  wpAny (model X.prog X.w) X.A (eval a X.env) (λv s₁=>wpAny (model X.prog X.w) X.A (eval b X.env) (λu s₂=>wpAny (model X.prog X.w) X.A (f v u) Q X.xe s₂) X.xe s₁) X.xe s:=by
 refine thn (ha pins s σ H _ I h) λv s1 ⟨x,H1,I1,r1,q1⟩=>?_;refine thn (hb pins s1 σ H1 _ I1 q1) λu s2 ⟨y,H2,I2,r2,q2⟩=>?_;exact hf v u s2 x y H2 I2 r1 r2 q2
theorem AF{op:Operator}{r:R2}(ho:OpR X (binaryOp op) r)(ha:PE X a ta)(hb:PE X b tb):PE X (.BinOp a op b pos) (tOp r ta tb):=by
 intro pins s σ H Q I h;exact wpAny_BinOp (binT ha hb I h λv u s2 x y H2 I2 rx ry q=>ho pins s2 σ H2 x y v u Q I2 rx ry q)
theorem Fj{op:UnaryOp}{r:V->Hp->VK->Prop}(ho:UnR X (unaryOp op) r)(ha:PE X a ta):PE X (.UnaryOp op a pos) (tUn r ta):=by
 intro pins s σ H Q I h;exact UnaryOp_ (thn (ha pins s σ H _ I h) λv s1 ⟨x,H1,I1,r1,q1⟩=>ho pins s1 σ H1 x v Q I1 r1 q1)
theorem opI{f:Value->Value->Sem Value}{C:Int->Int->Prop}{g:Int->Int->Int}
  (rule:∀(i j:Int)(t u:Tok)(s:Shared)(Q:Value->Shared->Prop)(E:Value->Shared->Prop),C i j->Q (.int (g i j) s.toks) {s with toks:=s.toks+1}->wpAny (model X.prog X.w) X.A (f (.int i t) (.int j u)) Q E s) :
  OpR X f (rI C λi j=>.int (g i j)):=by
 intro pins s σ H x y v u Q I rx ry h;obtain⟨i,j,rfl,rfl,hc,q⟩:=h;obtain⟨t,rfl⟩:=rx;obtain⟨t',rfl⟩:=ry;exact rule i j t t' s _ _ hc ⟨.int (g i j),H,I.tok _,⟨_,rfl⟩,q⟩
theorem opI0{f:Value->Value->Sem Value}{g:Int->Int->Int}
  (rule:∀(i j:Int)(t u:Tok)(s:Shared)(Q:Value->Shared->Prop)(E:Value->Shared->Prop),Q (.int (g i j) s.toks) {s with toks:=s.toks+1}->wpAny (model X.prog X.w) X.A (f (.int i t) (.int j u)) Q E s) :
  OpR X f (rI0 λi j=>.int (g i j)):=by
 intro pins s σ H x y v u Q I rx ry h;obtain⟨i,j,rfl,rfl,q⟩:=h;obtain⟨t,rfl⟩:=rx;obtain⟨t',rfl⟩:=ry;exact rule i j t t' s _ _ ⟨.int (g i j),H,I.tok _,⟨_,rfl⟩,q⟩
theorem opB0{f:Value->Value->Sem Value}{g:Int->Int->Bool}
  (rule:∀(i j:Int)(t u:Tok)(s:Shared)(Q:Value->Shared->Prop)(E:Value->Shared->Prop),Q (.bool (g i j)) s->wpAny (model X.prog X.w) X.A (f (.int i t) (.int j u)) Q E s) :
  OpR X f (rI0 λi j=>.bl (g i j)):=by
 intro pins s σ H x y v u Q I rx ry h;obtain⟨i,j,rfl,rfl,q⟩:=h;obtain⟨t,rfl⟩:=rx;obtain⟨t',rfl⟩:=ry;exact rule i j t t' s _ _ ⟨.bl (g i j),H,I,rfl,q⟩
def CDiv(i j:Int):Prop:=0<j/\j<1073741824
def CPow(i j:Int):Prop:=0<=j/\j<=1000000/\i.natAbs<2^64
def CMul(i j:Int):Prop:=(-(2^64)<i/\i<2^64)\/(-(2^64)<j/\j<2^64)
theorem CMul.ok{i j:Int}(h:CMul i j):IntMulOk i j:=by
 rcases h with ⟨h1,h2⟩|⟨h1,h2⟩
 ·exact .of_left (intBits_le_64 h1 h2)
 ·exact .of_right (intBits_le_64 h1 h2)
theorem Bl:OpR X (binaryOp .Add) (rI0 λi j=>.int (i+j)):=opI0 λ_ _ _ _ _ _ _ q=>add_int q
theorem BG:OpR X (binaryOp .Sub) (rI0 λi j=>.int (i-j)):=opI0 λ_ _ _ _ _ _ _ q=>sub_int q
theorem ET:OpR X (binaryOp .Mult) (rI CMul λi j=>.int (i*j)):=opI λ_ _ _ _ _ _ _ hc q=>mul_int q hc.ok
theorem JK:OpR X (binaryOp .FloorDiv) (rI CDiv λi j=>.int (i/j)):=opI λi j _ _ _ _ _ hc q=>by
 have h1:(0:Int)<j:=hc.1;have h2:j<1073741824:=hc.2;exact floordiv_int A0 (by rw[Int.fdiv_eq_ediv_of_nonneg i A0];exact q) (.inl (PyProof.noPylong_small A0))
theorem Cd:OpR X (binaryOp .Mod) (rI (λ_ j=>0<j) λi j=>.int (i%j)):=opI λi j _ _ _ _ _ hc q=>by
 have h1:(0:Int)<j:=hc;exact mod_int' A0 (by rw[Int.fmod_eq_emod_of_nonneg i A0];exact q)
theorem Db:OpR X (binaryOp .LShift) (rI CPow λi j=>.int (i*2^j.toNat)):=opI λ_ _ _ _ _ _ _ hc q=>lshift_int_small hc.1 hc.2.1 hc.2.2 q
theorem unI{f:Value->Sem Value}{g:Int->Int}
  (rule:∀(i:Int)(t:Tok)(s:Shared)(Q:Value->Shared->Prop)(E:Value->Shared->Prop),Q (.int (g i) s.toks) {s with toks:=s.toks+1}->wpAny (model X.prog X.w) X.A (f (.int i t)) Q E s) :
  UnR X f (rU λi=>.int (g i)):=by
 intro pins s σ H x v Q I rx h;obtain⟨i,rfl,q⟩:=h;obtain⟨t,rfl⟩:=rx;exact rule i t s _ _ ⟨.int (g i),H,I.tok _,⟨_,rfl⟩,q⟩
theorem Di:UnR X (unaryOp .USub) (rU λi=>.int (-i)):=unI λ_ _ _ _ _ q=>neg_int q
end
def scal:V->V->Bool
 |.non,.non=>true|.non,.int _=>true|.int _,.non=>true|.non,.bl _=>true|.bl _,.non=>true|.non,.str _=>true|.str _,.non=>true
 |.int _,.int _=>true|.bl _,.bl _=>true|.str _,.str _=>true|.byt _,.byt _=>true
 |.int _,.str _=>true|.str _,.int _=>true|.bl _,.str _=>true|.str _,.bl _=>true
 |_,_=>false
def rEq:R2:=λx y H Q=>scal x y=true/\Q (.bl (decide (x=y))) H
def rNe:R2:=λx y H Q=>scal x y=true/\Q (.bl (!decide (x=y))) H
theorem Mu{i j:Int}:decide (V.int i=V.int j)=(i==j):=by
 rw[P6];simp
theorem WW{i j:Bool}:decide (V.bl i=V.bl j)=(i==j):=by
 rw[P6];simp
theorem Ty{i j:Str}:decide (V.str i=V.str j)=(i==j):=by
 rw[P6];simp
theorem Tz{i j:Array UInt8}:decide (V.byt i=V.byt j)=(i.toList==j.toList):=by
 rw[P6];cases i;cases j;simp
section
variable{X:Cx}{a b c:Expr}{ta tb tc:TE}{pos:Pos}
theorem AR{pins:List (Addr×Obj)}{σ:St}{H:Hp}{s:Shared}{Q:VK}{k k':Bool}(I:Inv X pins σ H s)(q:Q (.bl k) H)(e:k=k'):EP X pins σ Q (.bool k') s:=by
 subst e;exact⟨.bl k,H,I,rfl,q⟩
theorem Ea:OpR X (compareOp .Eq) rEq:=by
 intro pins s σ H x y v u Q I rx ry h;obtain⟨hs,q⟩:=h;cases x with
 |non =>
  cases rx;cases y with
  |non=>cases ry;exact PySem.EqNone.eq_none_none (AR I q A4)
  |bl j=>cases ry;exact PySem.EqNone.eq_none_bool (AR I q A4)
  |int j=>obtain⟨t',rfl⟩:=ry;exact PySem.EqNone.eq_none_int (AR I q A4)
  |str j=>obtain⟨t',rfl⟩:=ry;exact PySem.EqNone.eq_none_str (AR I q A4)
  |_=>exact absurd (show false=true from hs) C5
 |bl i =>
  cases rx;cases y with
  |non=>cases ry;exact PySem.EqNone.eq_bool_none (AR I q A4)
  |bl j=>cases ry;exact eq_bool (AR I q WW)
  |str j=>obtain⟨t',rfl⟩:=ry;exact PySem.EqMixed.eq_bool_str (AR I q A4)
  |_=>exact absurd (show false=true from hs) C5
 |int i =>
  obtain⟨t,rfl⟩:=rx;cases y with
  |non=>cases ry;exact PySem.EqNone.eq_int_none (AR I q A4)
  |int j=>obtain⟨t',rfl⟩:=ry;exact eq_int (AR I q Mu)
  |str j=>obtain⟨t',rfl⟩:=ry;exact PySem.EqMixed.eq_int_str (AR I q A4)
  |_=>exact absurd (show false=true from hs) C5
 |str i =>
  obtain⟨t,rfl⟩:=rx;cases y with
  |non=>cases ry;exact PySem.EqNone.eq_str_none (AR I q A4)
  |bl j=>cases ry;exact PySem.EqMixed.eq_str_bool (AR I q A4)
  |int j=>obtain⟨t',rfl⟩:=ry;exact PySem.EqMixed.eq_str_int (AR I q A4)
  |str j=>obtain⟨t',rfl⟩:=ry;exact eq_str (AR I q Ty)
  |_=>exact absurd (show false=true from hs) C5
 |byt i =>
  obtain⟨t,rfl⟩:=rx;cases y with
  |byt j=>obtain⟨t',rfl⟩:=ry;exact PySem.W.eq_bytes (AR I q Tz)
  |_=>exact absurd (show false=true from hs) C5
 |_=>cases y<;>exact absurd (show false=true from hs) C5
theorem JI:OpR X (compareOp .NotEq) rNe:=by
 intro pins s σ H x y v u Q I rx ry h;obtain⟨hs,q⟩:=h;cases x with
 |non =>
  cases rx;cases y with
  |non=>cases ry;exact PySem.EqNone.ne_none_none (AR I q A4)
  |bl j=>cases ry;exact PySem.EqNone.ne_none_bool (AR I q A4)
  |int j=>obtain⟨t',rfl⟩:=ry;exact PySem.EqNone.ne_none_int (AR I q A4)
  |str j=>obtain⟨t',rfl⟩:=ry;exact PySem.EqNone.ne_none_str (AR I q A4)
  |_=>exact absurd (show false=true from hs) C5
 |bl i =>
  cases rx;cases y with
  |non=>cases ry;exact PySem.EqNone.ne_bool_none (AR I q A4)
  |bl j=>cases ry;exact ne_bool (AR I q (W8 not WW))
  |str j=>obtain⟨t',rfl⟩:=ry;exact PySem.EqMixed.ne_bool_str (AR I q A4)
  |_=>exact absurd (show false=true from hs) C5
 |int i =>
  obtain⟨t,rfl⟩:=rx;cases y with
  |non=>cases ry;exact PySem.EqNone.ne_int_none (AR I q A4)
  |int j=>obtain⟨t',rfl⟩:=ry;exact ne_int (AR I q (W8 not Mu))
  |str j=>obtain⟨t',rfl⟩:=ry;exact PySem.EqMixed.ne_int_str (AR I q A4)
  |_=>exact absurd (show false=true from hs) C5
 |str i =>
  obtain⟨t,rfl⟩:=rx;cases y with
  |non=>cases ry;exact PySem.EqNone.ne_str_none (AR I q A4)
  |bl j=>cases ry;exact PySem.EqMixed.ne_str_bool (AR I q A4)
  |int j=>obtain⟨t',rfl⟩:=ry;exact PySem.EqMixed.ne_str_int (AR I q A4)
  |str j=>obtain⟨t',rfl⟩:=ry;exact ne_str (AR I q (W8 not Ty))
  |_=>exact absurd (show false=true from hs) C5
 |byt i =>
  obtain⟨t,rfl⟩:=rx;cases y with
  |byt j=>obtain⟨t',rfl⟩:=ry;exact PySem.W.ne_bytes (AR I q (W8 not Tz))
  |_=>exact absurd (show false=true from hs) C5
 |_=>cases y<;>exact absurd (show false=true from hs) C5
theorem Io:OpR X (compareOp .Lt) (rI0 λi j=>.bl (decide (i<j))):=opB0 λ_ _ _ _ _ _ _ q=>lt_int q
theorem JJ:OpR X (compareOp .LtE) (rI0 λi j=>.bl (decide (i<=j))):=opB0 λ_ _ _ _ _ _ _ q=>le_int q
theorem VU:OpR X (compareOp .Gt) (rI0 λi j=>.bl (decide (j<i))):=opB0 λ_ _ _ _ _ _ _ q=>gt_int q
theorem Uq:OpR X (compareOp .In) (λx y H Q=>∃i j,x=.str i/\y=.str j/\Q (.bl (!(Builtin.Str.occurrences j i 0 j.length 1).isEmpty)) H):=by
 intro pins s σ H x y v u Q I rx ry h;obtain⟨i,j,rfl,rfl,q⟩:=h;obtain⟨t,rfl⟩:=rx;obtain⟨t',rfl⟩:=ry;exact in_str (AR I q rfl)
theorem Jk:OpR X (compareOp .Is) (λx y H Q=>y=.non/\Q (.bl (decide (x=.non))) H):=by
 intro pins s σ H x y v u Q I rx ry h;obtain⟨rfl,q⟩:=h;cases ry;refine is_none_gen (AR I q ?_);cases x<;>first
  | (cases rx;rfl)
  | (obtain⟨t,rfl⟩:=rx;rfl)
theorem Ti:OpR X (compareOp .IsNot) (λx y H Q=>y=.non/\Q (.bl (!decide (x=.non))) H):=by
 intro pins s σ H x y v u Q I rx ry h;obtain⟨rfl,q⟩:=h;cases ry;refine isnot_none_gen (AR I q ?_);cases x<;>first
  | (cases rx;rfl)
  | (obtain⟨t,rfl⟩:=rx;rfl)
theorem JH:OpR X (compareOp .NotIn) (λx y H Q=>∃i j,x=.str i/\y=.str j/\Q (.bl (!(!(Builtin.Str.occurrences j i 0 j.length 1).isEmpty))) H):=by
 intro pins s σ H x y v u Q I rx ry h;obtain⟨i,j,rfl,rfl,q⟩:=h;obtain⟨t,rfl⟩:=rx;obtain⟨t',rfl⟩:=ry;exact notIn_str (AR I q rfl)
theorem AI(b:Expr){op:CmpOp}(h:op≠.In:=by decide)(h2:op≠.NotIn:=by decide):behindInMarks op b=false:=by
 have e1:(op==CmpOp.In)=false:=by cases op<;>first|rfl|exact absurd rfl h
 have e2:(op==CmpOp.NotIn)=false:=by cases op<;>first|rfl|exact absurd rfl h2
 cases b<;>simp[behindInMarks,e1,e2]
theorem DW{op:CmpOp}{r:R2}(ho:OpR X (compareOp op) r)(ha:PE X a ta)(hb:PE X b tb)(hm:behindInMarks op b=false):PE X (.Compare a [op] [b] pos) (tOp r ta tb):=by
 intro pins s σ H Q I h;exact wpAny_Compare1 (binT ha hb I h λv u s2 x y H2 I2 rx ry q=>ho pins s2 σ H2 x y v u Q I2 rx ry q) hm
def tTest(t:TE):TT:=fun σ H Q=>t σ H λx H'=>∃k,x=.bl k/\Q k H'
theorem AD{op:CmpOp}{r:R2}(ho:OpR X (compareOp op) r)(ha:PE X a ta)(hb:PE X b tb)(hm:behindInMarks op b=false):PT X (.Compare a [op] [b] pos) (tTest (tOp r ta tb)):=by
 intro pins s σ H Q I h;refine wpAny_isTrue_Compare1 (thn (ha pins s σ H _ I h) λv s1 ⟨x,H1,I1,r1,q1⟩=>thn (hb pins s1 σ H1 _ I1 q1) λu s2 ⟨y,H2,I2,r2,q2⟩ =>
  thn (ho pins s2 σ H2 x y v u _ I2 r1 r2 q2) λc s3 ⟨z,H3,I3,r3,k,e,q3⟩=>?_) hm
 subst e;cases r3;exact Y9 ⟨H3,I3,q3⟩
def Vm(r r':R2)(ta tb tc:TE):TE:=fun σ H Q=>ta σ H λx H1=>tb σ H1 λy H2=>r x y H2 λz H3=>∃k,z=.bl k /\
 (if k=true then tc σ H3 λw' H4=>r' y w' H4 Q else Q (.bl false) H3)
theorem VS{op op':CmpOp}{r r':R2}(ho:OpR X (compareOp op) r)(ho':OpR X (compareOp op') r')(ha:PE X a ta)(hb:PE X b tb)(hc:PE X c tc)
  (hm:lastMarks [op,op'] [b,c]=false:=by with_unfolding_all rfl):PE X (.Compare a [op,op'] [b,c] pos) (Vm r r' ta tb tc):=by
 intro pins s σ H Q I h;refine Compare_chain (thn (ha pins s σ H _ I h) λv s1 ⟨x,H1,I1,r1,q1⟩=>chain_link (thn (hb pins s1 σ H1 _ I1 q1) λu s2 ⟨y,H2,I2,r2,q2⟩ =>
  thn (ho pins s2 σ H2 x y v u _ I2 r1 r2 q2) λd s3 ⟨z,H3,I3,r3,k,e,q3⟩=>?_)) hm
 subst e;cases r3;refine Y9 ?_;cases k with
 |false=>exact ite_ff ⟨.bl false,H3,I3,rfl,q3⟩
 |true=>exact ite_tt (chain_last (thn (hc pins s3 σ H3 _ I3 q3) λw' s4 ⟨z',H4,I4,r4,q4⟩=>ho' pins s4 σ H4 y z' u w' Q I4 r2 r4 q4))
theorem QI{op op':CmpOp}{r r':R2}(ho:OpR X (compareOp op) r)(ho':OpR X (compareOp op') r')(ha:PE X a ta)(hb:PE X b tb)(hc:PE X c tc)
  (hm:lastMarks [op,op'] [b,c]=false:=by with_unfolding_all rfl):PT X (.Compare a [op,op'] [b,c] pos) (tTest (Vm r r' ta tb tc)):=by
 intro pins s σ H Q I h;refine isTrue_chain (thn (ha pins s σ H _ I h) λv s1 ⟨x,H1,I1,r1,q1⟩=>test_link (thn (hb pins s1 σ H1 _ I1 q1) λu s2 ⟨y,H2,I2,r2,q2⟩ =>
  thn (ho pins s2 σ H2 x y v u _ I2 r1 r2 q2) λd s3 ⟨z,H3,I3,r3,k,e,q3⟩=>?_)) hm
 subst e;cases r3;refine Y9 ?_;cases k with
 |false =>
  obtain⟨k',e',q'⟩:=q3;cases e';exact ite_ff ⟨H3,I3,q'⟩
 |true =>
  refine ite_tt (test_last (thn (hc pins s3 σ H3 _ I3 q3) λw' s4 ⟨z',H4,I4,r4,q4⟩=>thn (ho' pins s4 σ H4 y z' u w' _ I4 r2 r4 q4) λd' s5 ⟨z2,H5,I5,r5,k2,e2,q5⟩=>?_));subst e2;cases r5;exact Y9 ⟨H5,I5,q5⟩
theorem Nn:(sizeLine:Nat)<2^63:=by rw[sizeLine_eq];decide
theorem GI:OpR X (binaryOp .Add) (λx y H Q=>∃i j,x=.str i/\y=.str j/\i.length+j.length<=sizeLine/\Q (.str (i++j)) H):=by
 intro pins s σ H x y v u Q I rx ry h;obtain⟨i,j,rfl,rfl,hz,q⟩:=h;obtain⟨t,rfl⟩:=rx;obtain⟨t',rfl⟩:=ry;exact add_str (λt' tk=>⟨.str (i++j),H,I.tok _,⟨_,rfl⟩,q⟩) hz
theorem Mz{x:V}{us:List Value}(r:AL [x] us):∃u,us=[u]/\AO x u:=by
 cases r with
 |cons r1 r2=>cases r2;exact⟨_,rfl,r1⟩
theorem vals2{x y:V}{us:List Value}(r:AL [x,y] us):∃u w',us=[u,w']/\AO x u/\AO y w':=by
 cases r with
 |cons r1 r2 =>
  cases r2 with
  |cons r3 r4=>cases r4;exact⟨_,_,rfl,r1,r3⟩
theorem UX(hc:X.calm=true):Fp X (.builtin "min") (λxs H Q=>∃i j,xs=[.int i,.int j]/\Q (.int (if j<i then j else i)) H):=by
 intro pins s σ H xs us Q I r h;obtain⟨i,j,rfl,q⟩:=h;obtain⟨u,w',rfl,⟨t,rfl⟩,⟨t',rfl⟩⟩:=vals2 r;refine min_two_ints (I.ok.hd hc) λh' tk k=>⟨_,H,I.kept k,?_,q⟩
 by_cases hj:j<i
 ·rw[W2 hj,W2 hj];exact⟨_,rfl⟩
 ·rw[V8 hj,V8 hj];exact⟨_,rfl⟩
theorem UY:Fp X (.type "int") (λxs H Q=>(∃i,xs=[.int i]/\Q (.int i) H)\/∃k,xs=[.bl k]/\Q (.int (if k then 1 else 0)) H):=by
 intro pins s σ H xs us Q I r h;rcases h with ⟨i,rfl,q⟩|⟨k,rfl,q⟩
 ·obtain⟨u,rfl,t,rfl⟩:=Mz r;exact call_int_int ⟨.int i,H,I,⟨_,rfl⟩,q⟩
 ·obtain⟨u,rfl,r1⟩:=Mz r;cases r1;exact call_int_bool ⟨.int (if k then 1 else 0),H,I.tok _,⟨_,rfl⟩,q⟩
theorem JX:Fp X (.type "str") (λxs H Q=>∃i,xs=[.int i]/\i.natAbs.log2<1920/\Q (.str (toString i)) H):=by
 intro pins s σ H xs us Q I r h;obtain⟨i,rfl,hz,q⟩:=h;obtain⟨u,rfl,t,rfl⟩:=Mz r;exact PySem.P.str_of_int hz ⟨.str _,H,I.tok _,⟨_,rfl⟩,q⟩
end
structure SB(h:Heap)(x dx C:Addr)(mA:Str->Option Value):Prop where
 obj:h.get? x=some (instObj C dx)
 ns:h.Ns1 dx mA
 ne:dx≠x
theorem UF{h:Heap}{dx:Addr}{mA:Str->Option Value}(n:h.Ns1 dx mA):∃od,h.get? dx=some od/\∀name,lookIn name od=some (mA name):=by
 obtain⟨o,es,ep,ho,hd,hk,_,hm⟩:=n;refine⟨o,ho,λname=>?_⟩;have e:=hm name;unfold nsFind findBy at e;rw[<-Array.find?_toList]at e;unfold lookIn;rw[hd];dsimp only;split
 ·rename_i y q;rw[q]at e;exact W8 some e
 ·rename_i q;rw[q]at e;have a:es.toList.any (·.refKey)=false:=by
   rw[List.any_eq_false];intro y hy;obtain⟨z,t,hkey⟩:=hk y (Array.mem_toList_iff.mp hy);simp[DictEntry.refKey,hkey]
  have a':¬es.toList.any (·.refKey)=true:=by rw[a];exact C5
  rw[V8 a'];exact W8 some e
theorem SB.look{h:Heap}{x dx C:Addr}{mA:Str->Option Value}(I:SB h x dx C mA):∃od,PySem.W.InstAt h x (instObj C dx) C (some od)/\∀name,lookIn name od=some (mA name) :=
 let ⟨od,ho,hl⟩:=UF I.ns
 ⟨od,⟨I.obj,rfl,rfl,ho⟩,hl⟩
section
variable{prog:Program}{w:World}{A:Around}{E:Value->Shared->Prop}{s:Shared}{K:PySem.W.Frag}{x dx C f:Addr}{mA:Str->Option Value}{name:Str}{v:Value}
theorem get_map{expr:Bool}{Q:Value->Shared->Prop}(X:K.In s.heap)(I:SB s.heap x dx C mA)(hg:plainGet K C name=true)(hh:hasDictIn K C=true)
  (ha:findIn K (.ref C) name=some none) (hv:mA name=some v) (hv':handedIn v=true) (h:Q v {s with toks:=s.toks+1}) :
  wpAny (model prog w) A (getAttr (.ref x) name expr) Q E s:=by
 obtain⟨od,J,hl⟩:=I.look;exact PySem.W.get_value X J (A1f hg).1 (PySem.W.findObj_own hh ha rfl (by rw[hl,hv])) hv' h
theorem WH{pl:Sem Bool}{Q:Value×List Value->Shared->Prop}(X:K.In s.heap)(I:SB s.heap x dx C mA)(hg:plainGet K C name=true)
  (hf:findIn K (.ref C) name=some (some (.ref f))) (ht:isFn K (.ref f)=true) (hv:mA name=none) (h:Q (.ref f,[.ref x]) s) :
  wpAny (model prog w) A (getMethod (.ref x) name pl) Q E s:=by
 obtain⟨od,J,hl⟩:=I.look;exact PySem.W.method_fn X J (A1f hg).1 (A1f hg).2 hf (beq_iff_eq.mp ht) (by show(lookIn name od).map (·.isSome)=some false;rw[hl,hv];rfl) h
theorem set_map{ns:List Str}{Q:Unit->Shared->Prop}(X:K.In s.heap)(I:SB s.heap x dx C mA)
  (hs:findIn K (.ref C) "__setattr__" = some (some (.builtin "object.__setattr__"))) (hp:plainOver K C=true) (ht:takerIn K C name=some none) (hh:hasDictIn K C=true)
  (hw:PySem.Within mA ns) (hsz:ns.length<=sizeLine)
  (h:∀h',SB h' x dx C (λy=>if y=name then some v else mA y)->Heap.SameBut dx s.heap h'->Q () {s with heap:=h',toks:=s.toks+2}) :
  wpAny (model prog w) A (setAttr (.ref x) name v) Q E s:=by
 obtain⟨od,J,hl⟩:=I.look;refine PySem.W.set_plain X J hs (PySem.W.osa_open (s:={s with toks:=s.toks+1}) (r:=none) X J hp ht λb=>?_)
 obtain⟨cd,hc,hd'⟩:=any_some hh;have hx:s.heap.get? x=some ⟨.ref C,some dx,.plain,#[]⟩:=I.obj;refine V7 (W1 (V7 (V7 (wpAny_loadPart hx (V7 (PySem.W.Looks.here (s:={s with toks:=s.toks+1}) (PySem.W.looks_clsIn X hc) ?_))))))
 rw[hd'];refine W1 (a:=some dx) (V7 (W1 (V7 ?_)));refine wpAny_nsSet1 (s:={s with toks:=s.toks+1}) I.ns λh' hn2 hs2=>?_;obtain⟨oD,esD,epD,hoD,hdD,hcD⟩:=hn2.count (PySem.Within.cons name v hw);refine V7 (wpAny_lookBehind hoD (by rw[hdD];exact pastItsLine_dict (C2 hcD (by rw[D8];lia))) ?_);exact W1 (h _ ⟨(hs2.2 _ (W4 I.ne)).trans I.obj,hn2,I.ne⟩ hs2)
theorem Wt{R:Result->Shared->Prop}{vs:List Value}{kw:List (Str×Value)}(X:K.In s.heap)(hm:makesIn K C=true)
  (hi:findIn K (.ref C) "__init__" = some (some (.ref f))) (hf:PySem.W.typeIn K (.ref f)=some (.type "function"))
  (h:codeAny (model prog w) (A.under (.builtin "type.__call__" ⟨.ref C::vs,kw⟩)) (.call (.ref f) ⟨.ref (s.heap.objs.size+1)::vs,kw⟩) (PySem.W.InitBack (s.heap.objs.size+1) R)
   {s with heap:=(s.heap.push emptyDict).push (instObj C s.heap.objs.size)}) :
  codeAny (model prog w) A (.call (.ref C) ⟨vs,kw⟩) R s:=by
 obtain⟨hh,g,d,t,os⟩:=s;exact PySem.W.make_core (PySem.W.makes_of X hm) (PySem.W.looks_findIn X hi) (λself=>PySem.W.bind_fn X self hf) (.inl rfl) h
end
def AM(f:Str)(v:V):List (Str×V)->List (Str×V)
 |[]=>[(f,v)]
 | (g,x)::r=>if g=f then(g,v)::r else(g,x)::AM f v r
theorem Ai(f g:Str)(v:V):∀fs:List (Str×V),(AM f v fs).lookup g=if g=f then some v else fs.lookup g
 |[]=>by
  show List.lookup g [(f,v)]=_;by_cases h:g=f
  ·have hb:(g==f)=true:=beq_iff_eq.mpr h;simp only[List.lookup,hb,W2 h]
  ·have hb:(g==f)=false:=beq_eq_false_iff_ne.mpr h;simp only[List.lookup,hb,V8 h]
 | (k,x)::r=>by
  have ih:=Ai f g v r;rw[show AM f v ((k,x)::r)=(if k=f then(k,v)::r else(k,x)::AM f v r)from rfl];by_cases hk:k=f
  ·rw[W2 hk];by_cases h:g=k
   ·have hb:(g==k)=true:=beq_iff_eq.mpr h;simp only[List.lookup,hb,W2 (h.trans hk)]
   ·have hb:(g==k)=false:=beq_eq_false_iff_ne.mpr h;simp only[List.lookup,hb,V8 (λe:g=f=>h (e.trans hk.symm))]
  ·rw[V8 hk];by_cases h:g=k
   ·have hb:(g==k)=true:=beq_iff_eq.mpr h;simp only[List.lookup,hb,V8 (λe:g=f=>hk (h.symm.trans e))]
   ·have hb:(g==k)=false:=beq_eq_false_iff_ne.mpr h;simp only[List.lookup,hb];exact ih
theorem LC(f:Str)(v:V):∀fs:List (Str×V),f∈(AM f v fs).map (·.1)/\∀g,g∈fs.map (·.1)->g∈(AM f v fs).map (·.1)
 |[]=>⟨by simp[AM],λg h=>by simp at h⟩
 | (k,x)::r=>by
  obtain⟨i1,i2⟩:=LC f v r;rw[show AM f v ((k,x)::r)=(if k=f then(k,v)::r else(k,x)::AM f v r)from rfl];by_cases hk:k=f
  ·rw[W2 hk];subst hk;exact⟨by simp,λg h=>by simpa using h⟩
  ·rw[V8 hk];refine⟨?_,λg h=>?_⟩
   ·rw[F1];exact C1 _ i1
   ·rw[F1]at h⊢;rcases B8.mp h with e|e
    ·exact B8.mpr (.inl e)
    ·exact C1 _ (i2 g e)
theorem Bm(f:Str)(v:V):∀fs:List (Str×V),(AM f v fs).length<=fs.length+1
 |[]=>by simp[AM]
 | (k,x)::r=>by
  have ih:=Bm f v r;rw[show AM f v ((k,x)::r)=(if k=f then(k,v)::r else(k,x)::AM f v r)from rfl];by_cases hk:k=f
  ·rw[W2 hk,D8,D8];lia
  ·rw[V8 hk,D8,D8];lia
theorem GW.some_of{v:V}{o:Option Value}(r:GW (some v) o):∃u,o=some u/\AO v u:=by
 cases o with
 |none=>exact(show False from r).elim
 |some u=>exact⟨u,rfl,r⟩
theorem GW.none_of{o:Option Value}(r:GW none o):o=none:=by
 cases o with
 |none=>rfl
 |some u=>exact(show False from r).elim
theorem UN{v:V}{u:Value}(r:AO v u):handedIn u=true:=by
 cases v with
 |non=>cases(show u=Value.none from r);rfl
 |bl b=>cases(show u=Value.bool b from r);rfl
 |int i=>obtain⟨t,e⟩:=(show ∃t,u=Value.int i t from r);cases e;rfl
 |str x=>obtain⟨t,e⟩:=(show ∃t,u=Value.str x t from r);cases e;rfl
 |byt b=>obtain⟨t,e⟩:=(show ∃t,u=Value.bytes b t from r);cases e;rfl
 |flt b=>obtain⟨t,e⟩:=(show ∃t,u=Value.float b t from r);cases e;rfl
 |ref a=>cases(show u=Value.ref a from r);rfl
 |ty n=>cases(show u=Value.type n from r);rfl
section
variable{P:Program}{w:World}{H H':Hp}{h h':Heap}{a C dx:Addr}{fs fs':List (Str×V)}
theorem Mr(hok:HOk P w H h)(e:H a=some (.ins C dx fs)):∃mA,SB h a dx C mA/\(∀f,GW (fs.lookup f) (mA f))/\PySem.Within mA (fs.map (·.1))/\fs.length<=1000/\H dx=some (.own a):=by
 obtain⟨d,z,ne,ob,mA,n,r,q⟩:=(show BF P w H h a (.ins C dx fs)from hok a _ e)
 exact⟨mA,⟨ob,n,ne⟩,r,q,z,d⟩
end
structure Cls(K:PySem.W.Frag)(C:Addr):Prop where
 pg:plainGet K C Str.empty=true
 hd:hasDictIn K C=true
 po:plainOver K C=true
 sa:findIn K (.ref C) "__setattr__" = some (some (.builtin "object.__setattr__"))
theorem Cls.get{K:PySem.W.Frag}{C:Addr}(c:Cls K C)(f:Str):plainGet K C f=true:=c.pg
def Bp(K:PySem.W.Frag)(C:Addr)(f:Str):Prop:=findIn K (.ref C) f=some none
theorem Bp.taker{K:PySem.W.Frag}{C:Addr}{f:Str}(n:Bp K C f):takerIn K C f=some none:=by
 unfold takerIn;rw[show findIn K (.ref C) f=some none from n];rfl
structure Ol(K:PySem.W.Frag)(C:Addr)(m:Str)(f:Addr):Prop where
 at_:findIn K (.ref C) m=some (some (.ref f))
 fn:isFn K (.ref f)=true
 kp:keepIn K (.ref f)=true
section
variable{X:Cx}{pins:List (Addr×Obj)}{σ:St}{H:Hp}{s:Shared}{a C dx:Addr}{fs:List (Str×V)}{f:Str}{v:V}{A:Around}{E:Value->Shared->Prop}
theorem Sn{b:Bool}{Q:Value->Shared->Prop}(I:Inv X pins σ H s)(e:H a=some (.ins C dx fs))(c:Cls X.K C)(n:Bp X.K C f)(l:fs.lookup f=some v)
  (h:∀u s',Inv X pins σ H s'->AO v u->Q u s'):wpAny (model X.prog X.w) A (getAttr (.ref a) f b) Q E s:=by
 obtain⟨mA,O,r,_,_,_⟩:=Mr I.hok e;obtain⟨u,hu,ru⟩:=GW.some_of (v:=v) (o:=mA f) (by rw[<-l];exact r f);exact get_map I.kIn O (c.get f) c.hd n hu (UN ru) (h u _ (I.tok _) ru)
theorem Sm{m:Str}{g:Addr}{pl:Sem Bool}{Q:Value×List Value->Shared->Prop}(I:Inv X pins σ H s)(e:H a=some (.ins C dx fs))(c:Cls X.K C)(k:Ol X.K C m g)(l:fs.lookup m=none)
  (h:Q (.ref g,[.ref a]) s):wpAny (model X.prog X.w) A (getMethod (.ref a) m pl) Q E s:=by
 obtain⟨mA,O,r,_,_,_⟩:=Mr I.hok e;have hn:mA m=none:=GW.none_of (by rw[<-l];exact r m);exact WH I.kIn O (c.get m) k.at_ k.fn hn h
theorem RK{y:V}{u:Value}{Q:Unit->Shared->Prop}(I:Inv X pins σ H s)(e:H a=some (.ins C dx fs))(c:Cls X.K C)(n:Bp X.K C f)(hl:fs.length<1000)(ry:AO y u)
  (h:∀s',Inv X pins σ (upd H a (.ins C dx (AM f y fs))) s'->Q () s'):wpAny (model X.prog X.w) A (setAttr (.ref a) f u) Q E s:=by
 obtain⟨mA,O,r,wi,_,ho⟩:=Mr I.hok e;have hz:(fs.map (·.1)).length<=sizeLine:=by rw[B5,sizeLine_eq];lia
 refine set_map I.kIn O c.sa c.po n.taker c.hd wi hz λh' O' sb=>h _ ?_;have hd:∃o,h'.get? dx=some o:=let ⟨o,_,_,e',_⟩:=O'.ns;⟨o,e'⟩;refine I.write (x:=a) (e:=dx) (by rw[e];exact True.intro) (.inr ho) (λb q hb z=>(sb.2 b hb).trans z) hd ?_;refine⟨by rw[Ao O.ne];exact ho,?_,O.ne,O'.obj,_,O'.ns,λg=>?_,λg hg=>?_⟩
 ·have:=Bm f y fs;lia
 ·show GW ((AM f y fs).lookup g) (if g=f then some u else mA g);rw[Ai];by_cases q:g=f
  ·rw[W2 q,W2 q];exact ry
  ·rw[V8 q,V8 q];exact r g
 ·by_cases q:g=f
  ·rw[q];exact(LC f y fs).1
  ·refine(LC f y fs).2 g (wi g λz=>hg ?_);show(if g=f then some u else mA g)=none;rw[V8 q];exact z
theorem Inv.made(I:Inv X pins σ H s):Inv X pins σ (upd (upd H s.heap.objs.size (.own (s.heap.objs.size+1))) (s.heap.objs.size+1) (.ins C s.heap.objs.size []))
  {s with heap:=(s.heap.push emptyDict).push (instObj C s.heap.objs.size)}:=by
 have e1:(s.heap.push emptyDict).get? s.heap.objs.size=some emptyDict:=C6 s.heap rfl;have e2:((s.heap.push emptyDict).push (instObj C s.heap.objs.size)).get? (s.heap.objs.size+1)=some (instObj C s.heap.objs.size):=by
  have:=C6 (s.heap.push emptyDict) (o:=instObj C s.heap.objs.size) rfl
  rwa [N9]at this
 have e3:(s.heap.push emptyDict).Ns s.heap.objs.size (λ_=>none):=⟨emptyDict,#[],_,e1,rfl,(λe he=>absurd he A4),λ_=>rfl⟩
 have I1:=I.laid (a:=s.heap.objs.size) (o:=.own (s.heap.objs.size+1)) (h':=s.heap.push emptyDict) (t':=s.toks) (λb u q=>B9 _ q) (B6 _) ⟨_,e1⟩;refine I1.laid (a:=s.heap.objs.size+1) (o:=.ins C s.heap.objs.size []) (t':=s.toks) (λb u q=>B9 _ q) (Nat.le_of_eq (N9 _ _)) ?_;have ne:s.heap.objs.size≠s.heap.objs.size+1:=F0 (S5 _);refine⟨by rw[Ao ne,Af],F8 _,ne,e2,λ_=>none,(Heap.Ns1.of_empty e3).at λo q=>B9 _ q,λ_=>True.intro,λy hy=>absurd rfl hy⟩
theorem attr_of{prog:Program}{w:World}{env:Env}{e:Expr}{f:Str}{pos:Pos}{s:Shared}{Q:Value->Shared->Prop}(hb:attributeBase e f env (eval e env)=eval e env)
  (h:wpAny (model prog w) A (eval e env) (λo s₁=>wpAny (model prog w) A (getAttr o f true) Q E s₁) E s):wpAny (model prog w) A (eval (.Attribute e f pos) env) Q E s :=
 Attribute_any_ h (by rw[arm_eval_Attribute,hb])
end
def tFld(K:PySem.W.Frag)(ta:TE)(f:Str):TE:=fun σ H Q=>ta σ H λx H1=>∃a C dx fs v,x=.ref a/\H1 a=some (.ins C dx fs)/\Cls K C/\Bp K C f/\fs.lookup f=some v/\Q v H1
def sFld(K:PySem.W.Frag)(ta tv:TE)(f:Str):TS:=λD σ H=>tv σ H λy H1=>ta σ H1 λx H2=>∃a C dx fs,x=.ref a/\H2 a=some (.ins C dx fs)/\Cls K C/\Bp K C f/\fs.length<1000 /\
 D.nx σ (upd H2 a (.ins C dx (AM f y fs)))
section
variable{X:Cx}{o e value:Expr}{f:Str}{pos pos' tpos:Pos}{ta tv:TE}
theorem Ax(he:PE X e ta)(hb:attributeBase e f X.env (eval e X.env)=eval e X.env):PE X (.Attribute e f pos) (tFld X.K ta f):=by
 intro pins s σ H Q I h;refine attr_of hb (thn (he pins s σ H _ I h) λu s1 ⟨x,H1,I1,rx,a,C,dx,fs,v,ex,ea,c,n,l,q⟩=>?_);subst ex;obtain rfl:u=Value.ref a:=rx;exact Sn I1 ea c n l λu' s2 I2 ru=>⟨v,H1,I2,ru,q⟩
theorem Cc(ha:PE X o ta)(hv:PE X value tv)(hs:swapsWith value (some (.Attribute o f pos')) pos.line X.env=pure false):PS X (.Assign [.Attribute o f pos'] value pos) (sFld X.K ta tv f):=by
 intro pins s σ H D I h;refine plainObj_wpAny_Assign_Attribute (thn (hv pins s σ H _ I h) λu s1 ⟨y,H1,I1,ry,q⟩=>thn (ha pins s1 σ H1 _ I1 q) λov s2 ⟨x,H2,I2,rx,a,C,dx,fs,ex,ea,c,n,l,q2⟩=>?_) hs;subst ex;obtain rfl:ov=Value.ref a:=rx;exact RK I2 ea c n l ry λs3 I3=>⟨σ,_,I3,q2⟩
end
section
variable{X:Cx}{pins:List (Addr×Obj)}{σ:St}{H:Hp}{s:Shared}{A:Around}{E:Value->Shared->Prop}{Q:Value->Shared->Prop}{c:Value}{b:Bool}
inductive LL(K:PySem.W.Frag)(H:Hp):V->Value->Prop where
 |non:LL K H .non (.type "NoneType")
 |bl (x:Bool):LL K H (.bl x) (.type "bool")
 |int (i:Int):LL K H (.int i) (.type "int")
 |str (x:Str):LL K H (.str x) (.type "str")
 |flt (x:UInt64):LL K H (.flt x) (.type "float")
 |lst {a:Addr} {xs:List V} (e:H a=some (.lst xs)):LL K H (.ref a) (.type "list")
 |frz {a:Addr} {o:Obj} {xs:List V} (e:H a=some (.frz o (.lst xs))):LL K H (.ref a) (.type "list")
 |tup {a:Addr} {xs:List V} (e:H a=some (.tup xs)):LL K H (.ref a) (.type "tuple")
 |dK {a:Addr} {kvs:List (Key×V)} (e:H a=some (.dK kvs)):LL K H (.ref a) (.type "dict")
 |dT {a:Addr} {kvs:List (List Key×V)} (e:H a=some (.dT kvs)):LL K H (.ref a) (.type "dict")
 |ins {a C dx:Addr} {fs:List (Str×V)} (e:H a=some (.ins C dx fs)) (cl:Cls K C) (ha:findIn K (.ref C) "__class__" = some (some (.builtin "object.__class__")))
   (hn:specialIn K (.builtin "object.__class__") "__get__" = some (some (.builtin "getset_descriptor.__get__"))) (htk:takesIn K (.builtin "object.__class__")=some true)
   (hm:mroIn K C (.type "object")=some true):LL K H (.ref a) (.ref C)
theorem UK{x:V}{u t:Value}(I:Inv X pins σ H s)(rx:AO x u)(ty:LL X.K H x t)(e:kitOne X.K t c=some b)(h:∀tk,Q (.bool b) {s with toks:=tk}) :
  wpAny (model X.prog X.w) A (call (.builtin "isinstance") [u,c]) Q E s:=by
 cases ty with
 |non=>cases(show u=Value.none from rx);exact Y6 PySem.W.kitx_none I.kIn True.intro e (λz=>nomatch z) h
 |bl y=>cases(show u=Value.bool y from rx);exact Y6 PySem.W.kitx_bool I.kIn True.intro e (λz=>nomatch z) h
 |int i=>obtain⟨t,q⟩:=(show ∃t,u=Value.int i t from rx);cases q;exact Y6 PySem.W.kitx_int I.kIn True.intro e (λz=>nomatch z) h
 |str y=>obtain⟨t,q⟩:=(show ∃t,u=Value.str y t from rx);cases q;exact Y6 PySem.W.kitx_str I.kIn True.intro e (λz=>nomatch z) h
 |flt y=>obtain⟨t,q⟩:=(show ∃t,u=Value.float y t from rx);cases q;exact Y6 PySem.W.kitx_float I.kIn True.intro e (λz=>nomatch z) h
 |@lst a xs ea =>
  cases(show u=Value.ref a from rx);obtain⟨_,_,n,_,h1⟩:=(show BF X.prog X.w H s.heap a (.lst xs)from I.hok a _ ea)
  exact Y6 kitx_list I.kIn ⟨_,h1,rfl⟩ e (λz=>nomatch z) h
 |@frz a ob xs ea =>
  cases(show u=Value.ref a from rx);obtain⟨_,_,_,n,_,h1⟩:=(show BF X.prog X.w H s.heap a (.frz ob (.lst xs))from I.hok a _ ea)
  exact Y6 kitx_list I.kIn ⟨_,h1,rfl⟩ e (λz=>nomatch z) h
 |@tup a xs ea =>
  cases(show u=Value.ref a from rx);obtain⟨_,_,_,p⟩:=(show BF X.prog X.w H s.heap a (.tup xs)from I.hok a _ ea)
  obtain⟨o,h1,h2,_⟩:=p;exact Y6 PySem.W.kitx_tuple I.kIn ⟨o,h1,h2⟩ e (λz=>nomatch z) h
 |@dK a kvs ea =>
  cases(show u=Value.ref a from rx);obtain⟨_,_,vs,_,p⟩:=(show BF X.prog X.w H s.heap a (.dK kvs)from I.hok a _ ea)
  obtain⟨o,es,ep,h1,h2,_⟩:=p;exact Y6 kitx_dict I.kIn ⟨o,h1,h2.1⟩ e (λz=>nomatch z) h
 |@dT a kvs ea =>
  cases(show u=Value.ref a from rx);obtain⟨_,_,xs,_,o,es,ep,h1,h2,_⟩:=(show BF X.prog X.w H s.heap a (.dT kvs)from I.hok a _ ea)
  exact Y6 kitx_dict I.kIn ⟨o,h1,h2.1⟩ e (λz=>nomatch z) h
 |@ins a C dx fs ea cl ha hn htk hm =>
  cases(show u=Value.ref a from rx);obtain⟨mA,O,_⟩:=Mr I.hok ea;obtain⟨od,J,_⟩:=O.look;exact Y6 (PySem.W.kitx_own (cl.get _) cl.hd ha hn htk hm) I.kIn J e (λz=>nomatch z) h
end
structure Dd(k:Nat)(A:Around):Prop where
 hd:A.handled=none
 dp:A.depth+3*k+5<recursionLimit
 un:A.units+16*k+200<cLine
theorem Dd.mono{j k:Nat}{A:Around}(r:Dd k A)(h:j<=k):Dd j A:=⟨r.hd,by have:=r.dp;lia,by have:=r.un;lia⟩
theorem Dd.deeper{k:Nat}{A:Around}(r:Dd (k+1) A)(env:Env):Dd k (A.deeper env) :=
 ⟨r.hd,by have:=r.dp;show A.depth+1+3*k+5<_;lia,by have:=r.un;show A.units+3+16*k+200<_;lia⟩
theorem Sh{A:Around}{C:Addr}{us:List Value}{kw:List (Str×Value)}:(A.under (.builtin "type.__call__" ⟨.ref C::us,kw⟩)).depth=A.depth+1:=by
 first|rfl|simp[Around.under,Code.weight,Code.isCreation,Code.isGuard,Code.isCaller,Code.frames,Code.isFrame,guardIds]
theorem Sg{A:Around}{C:Addr}{us:List Value}{kw:List (Str×Value)}:(A.under (.builtin "type.__call__" ⟨.ref C::us,kw⟩)).units=A.units+1:=by
 first|rfl|simp[Around.under,Code.cUnits,Code.frames,Code.isFrame]
theorem Dd.make{k:Nat}{A:Around}(r:Dd (k+1) A)(C:Addr)(us:List Value)(kw:List (Str×Value)):Dd k (A.under (.builtin "type.__call__" ⟨.ref C::us,kw⟩)) :=
 ⟨r.hd,by have:=r.dp;rw[Sh];lia,by have:=r.un;rw[Sg];lia⟩
theorem Dd.depth{k:Nat}{A:Around}(r:Dd k A):A.depth<recursionLimit:=by have:=r.dp;lia
theorem Dd.units{k:Nat}{A:Around}(r:Dd k A):A.units+64<cLine:=by have:=r.un;lia
def OS:TA:=λ_ H Q=>Q [] H
def Cr(ta:TE)(tr:TA):TA:=fun σ H Q=>ta σ H λx H1=>tr σ H1 λxs H2=>Q (x::xs) H2
section
variable{X:Cx}{e:Expr}{es:List Expr}{te:TE}{t:TA}{pos:Pos}
theorem Ac:PA X [] OS:=λ_ _ _ _ H Q I h=>Calls.spliced_nil ⟨[],H,I,.nil,h⟩
theorem Aa(ha:PE X e te)(hr:PA X es t)(hs:starEach (e::es) X.env=(false,eval e X.env)::starEach es X.env:=by rfl):PA X (e::es) (Cr te t):=by
 intro pos pins s σ H Q I h;rw[hs];show wpAny _ _ (spliced ((false,eval e X.env)::backTo pos (starEach es X.env))) _ _ s;refine A3a (thn (ha pins s σ H _ I h) λu s1 ⟨x,H1,I1,r1,q1⟩=>?_);exact thn (hr pos pins s1 σ H1 _ I1 q1) λus s2 ⟨xs,H2,I2,r2,q2⟩=>⟨x::xs,H2,I2,.cons r1 r2,q2⟩
def Vk(t:TA):TE:=fun σ H Q=>t σ H λxs H1=>xs.length<=sizeLine/\∀p,H1 p=none->Q (.ref p) (upd H1 p (.tup xs))
def tLst(t:TA):TE:=fun σ H Q=>t σ H λxs H1=>xs.length<=sizeLine/\∀p,H1 p=none->Q (.ref p) (upd H1 p (.lst xs))
theorem Ih{x1}(h:PA X es t):PE X (.Tuple es x1 pos) (Vk t):=by
 intro pins s σ H Q I hq;refine wpAny_Tuple_spliced (thn (h pos pins s σ H _ I hq) λus s1 ⟨xs,H1,I1,r,z,q⟩=>⟨by rw[<-r.length];exact z,?_⟩);have hf:H1 s1.heap.objs.size=none:=I1.hok.fresh (B6 _);refine⟨.ref s1.heap.objs.size,upd H1 s1.heap.objs.size (.tup xs),I1.laid (t':=s1.toks) (λb u e=>B9 _ e) (B6 _) ?_,rfl,q _ hf⟩;exact⟨z,us,r,⟨_,C6 _ rfl,rfl,_,rfl⟩⟩
theorem CY(h:PA X es t):PE X (.List es pos) (tLst t):=by
 intro pins s σ H Q I hq;refine wpAny_List_spliced (thn (h pos pins s σ H _ I hq) λus s1 ⟨xs,H1,I1,r,z,q⟩=>⟨by rw[<-r.length];exact z,?_⟩);have hf:H1 s1.heap.objs.size=none:=I1.hok.fresh (B6 _);refine⟨.ref s1.heap.objs.size,upd H1 s1.heap.objs.size (.lst xs),I1.laid (t':=s1.toks) (λb u e=>B9 _ e) (B6 _) ?_,rfl,q _ hf⟩;exact⟨z,us,0,r,C6 _ rfl⟩
end
abbrev Sp:=List V->Hp->VK->XK->Prop
abbrev CXT:=List Env->Hp->Shared->XK->Value->Shared->Prop
structure SD(P:Program)(w:World)(K:PySem.W.Frag)(mg:Str->Option Value)(base:Heap)(A:Around)(outer:List Env)(s:Shared)(H:Hp):Prop where
 frames:A.frames=some outer
 mod:Mod K mg base
 bs:∀b o,base.get? b=some o->s.heap.get? b=some o/\H b=none
 bsz:base.objs.size<=s.heap.objs.size
 funs:s.heap.FunFrames base outer
 frf:∀b∈frs outer,H b=none
 hok:HOk P w H s.heap
 bare:AllBare s.gens
def CE(outer:List Env)(P:Program)(w:World)(H:Hp)(s:Shared)(Q:VK)(u:Value)(s':Shared):Prop :=
 ∃v H',s'.os=s.os/\AllBare s'.gens/\Un (frs outer) [] H H' s.heap s'.heap/\HOk P w H' s'.heap/\AO v u/\Q v H'
def CR(CX:CXT)(outer:List Env)(P:Program)(w:World)(H:Hp)(s:Shared)(Q:VK)(E:XK)(r:Result)(s':Shared):Prop :=
 match r with
 |.ok (.ret u)=>CE outer P w H s Q u s'
 |.ok _=>False
 |.error e=>CX outer H s E e s'
structure AK(P:Program)(w:World)(K:PySem.W.Frag)(mg:Str->Option Value)(base:Heap)(CX:CXT)(k:Nat)(f:Addr)(fd:FuncData)(ps:List Str)(sp:Sp):Prop where
 len:∀vs H Q E,sp vs H Q E->vs.length=ps.length
 run:∀(A:Around)(outer:List Env)(s:Shared)(H:Hp)(args:Args)(us:List Value)(vs:List V)(Q:VK)(E:XK),Dd k A->SD P w K mg base A outer s H->BindsTo s fd args (ps.zip us)->AL vs us->sp vs H Q E ->
  codeAny (model P w) A (.call (.ref f) args) (CR CX outer P w H s Q E) s
theorem AK.imp{P:Program}{w:World}{K:PySem.W.Frag}{mg:Str->Option Value}{base:Heap}{CX:CXT}{k:Nat}{f:Addr}{fd:FuncData}{ps:List Str}{sp sp':Sp}(F:AK P w K mg base CX k f fd ps sp)
  (h:∀vs H Q E,sp' vs H Q E->sp vs H Q E):AK P w K mg base CX k f fd ps sp' :=
 ⟨λvs H Q E q=>F.len vs H Q E (h _ _ _ _ q),λA outer s H args us vs Q E hr he hb hv hs=>F.run A outer s H args us vs Q E hr he hb hv (h _ _ _ _ hs)⟩
theorem SD.make{P:Program}{w:World}{K:PySem.W.Frag}{mg:Str->Option Value}{base:Heap}{A:Around}{outer:List Env}{s:Shared}{H:Hp}(e:SD P w K mg base A outer s H)(C:Addr)(us:List Value)(kw:List (Str×Value)) :
  SD P w K mg base (A.under (.builtin "type.__call__" ⟨.ref C::us,kw⟩)) outer s H:=⟨by first|exact e.frames|(simpa[Around.under,Code.envs,Code.isFrame,pushEnvs] using e.frames),e.mod,e.bs,e.bsz,e.funs,e.frf,e.hok,e.bare⟩
section
variable{X:Cx}{pins:List (Addr×Obj)}{σ:St}{H:Hp}{s s':Shared}
theorem Inv.env0(I:Inv X pins σ H s):SD X.prog X.w X.K X.mg X.base X.A X.stack s H :=
 ⟨I.ok.frames,I.ok.mod,I.bs,C2 I.ok.bsz I.sz,I.stack,I.stkFree,I.hok,I.bare⟩
theorem Inv.after{Q:VK}{u:Value}(I:Inv X pins σ H s)(h:CE X.stack X.prog X.w H s Q u s'):EP X pins σ Q u s':=by
 obtain⟨v,H',os,bare,un,hok,r,q⟩:=h;obtain⟨hh,g,d,t,os'⟩:=s';obtain rfl:os'=s.os:=os;exact⟨v,H',I.call (h':=hh) (g':=g) (d':=d) (t':=t) (ch:=[]) un hok bare (λb z=>absurd z A4),r,q⟩
end
def tCall(sp:Sp)(dvs:List V)(E:XK)(t:TA):TE:=fun σ H Q=>t σ H λvs H1=>sp (vs++dvs) H1 Q E
def SK(C:Addr)(m:Str)(sp:Sp)(dvs:List V)(E:XK)(ta:TE)(t:TA):TE:=fun σ H Q=>ta σ H λx H1=>∃a dx fs,x=.ref a/\H1 a=some (.ins C dx fs)/\fs.lookup m=none /\
 t σ H1 λvs H2=>sp (x::(vs++dvs)) H2 Q E
def SM(C:Addr)(sp:Sp)(dvs:List V)(E:XK)(t:TA):TE:=fun σ H Q=>t σ H λvs H1=>∀x dx,H1 x=none->H1 dx=none->dx≠x ->
 sp (.ref x::(vs++dvs)) (upd (upd H1 dx (.own x)) x (.ins C dx [])) (λv H2=>v=.non/\Q (.ref x) H2) E
def CH(K:PySem.W.Frag)(fd:FuncData)(ps:List Str)(ds:List Value):Prop :=
 ∀(s:Shared)(us:List Value),K.In s.heap->(us++ds).length=ps.length->BindsTo s fd ⟨us,[]⟩ (ps.zip (us++ds))
theorem CH.all{K:PySem.W.Frag}{fd:FuncData}{ps:List Str}(h:∀us:List Value,us.length=ps.length->bindArgs fd ⟨us,[]⟩=pure (ps.zip us)):CH K fd ps []:=λs us _ hl=>by
 rw[List.append_nil]at hl⊢;exact .of_eq (h us hl)
def EY(CX:CXT)(X:Cx)(E:XK):Prop:=∀(pins:List (Addr×Obj))(σ:St)(H:Hp)(s:Shared)(e:Value)(s':Shared),Inv X pins σ H s->CX X.stack H s E e s'->X.xe e s'
section
variable{X:Cx}{CX:CXT}{k:Nat}{f C:Addr}{fd:FuncData}{ps:List Str}{sp:Sp}{dvs:List V}{ds:List Value}{E:XK}{x m:Str}{p pos apos:Pos}{e o:Expr}{es:List Expr}{ta:TE}{t:TA}
theorem VF{pins:List (Addr×Obj)}{σ:St}{H:Hp}{s:Shared}{Q:VK}{us:List Value}{vs:List V}(F:AK X.prog X.w X.K X.mg X.base CX k f fd ps sp)(hr:Dd k X.A)(hb:CH X.K fd ps ds)(hd:AL dvs ds)(hx:EY CX X E)
  (I:Inv X pins σ H s) (r:AL vs us) (h:sp (vs++dvs) H Q E):wpAny (model X.prog X.w) X.A (call (.ref f) us) (EP X pins σ Q) X.xe s:=by
 have r2:AL (vs++dvs) (us++ds):=r.append hd;have hl:(us++ds).length=ps.length:=by rw[<-r2.length];exact F.len _ _ _ _ h
 refine wpAny_call (codeAny_mono (F.run X.A X.stack s H ⟨us,[]⟩ (us++ds) (vs++dvs) Q E hr I.env0 (hb s us I.kIn hl) r2 h) λr s' hq=>?_);cases r with
 |error e=>exact hx pins σ H s e s' I hq
 |ok fl =>
  cases fl with
  |ret u=>exact I.after hq
  |next=>exact False.elim hq
  |brk=>exact False.elim hq
  |cont=>exact False.elim hq
theorem pe_call(F:AK X.prog X.w X.K X.mg X.base CX k f fd ps sp)(hr:Dd k X.A)(hg:Gl X x)(hm:X.mg x=some (.ref f))(hk:keepIn X.K (.ref f)=true)(hb:CH X.K fd ps ds)(hd:AL dvs ds)(hx:EY CX X E)
  (ha:PA X (e::es) t) (hdb:(x==("__debug__" : Str))=false:=by decide) (he:starEach (e::es) X.env=(false,eval e X.env)::starEach es X.env:=by rfl) (hpl:(backTo pos (starEach es X.env)).any (·.1)=false:=by rfl) :
  PE X (.Call (.Name x p) (e::es) [] pos) (tCall sp dvs E t):=by
 intro pins s σ H Q I h;refine K9 (Mo I hg hm ?_ hdb);refine A2c (h₀:=X.base) I.ok.mod.kin hk (thn (ha pos pins s σ H _ I h) λus s1 ⟨vs,H1,I1,r,q⟩=>⟨I1.kIn,?_⟩) he hpl;exact VF F hr hb hd hx I1 r q
theorem pe_meth{pl:Sem Bool}(he:PE X o ta)(c:Cls X.K C)(hm:Ol X.K C m f)(F:AK X.prog X.w X.K X.mg X.base CX k f fd ps sp)(hr:Dd k X.A)(hb:CH X.K fd ps ds)(hd:AL dvs ds)(hx:EY CX X E)(ha:PA X (e::es) t)
  (hst:starEach (e::es) X.env=(false,eval e X.env)::starEach es X.env:=by rfl) (hpl:(backTo pos (starEach es X.env)).any (·.1)=false:=by rfl)
  (ht:eval (.Call (.Attribute o m apos) (e::es) [] pos) X.env=(do
   let ov <-eval o X.env
   standAt apos.atName
   let (f,first) <-holding [ov] (getMethod ov m pl)
   callWith pos f first (backTo pos (starEach (e::es) X.env)) (backToKw pos (keywordEach [] X.env))):=by rfl) :
  PE X (.Call (.Attribute o m apos) (e::es) [] pos) (SK C m sp dvs E ta t):=by
 intro pins s σ H Q I h;refine PySem.W.methodCall_KW (pl:=pl) (thn (he pins s σ H _ I h) λu s1 ⟨x,H1,I1,rx,a,dx,fs,ex,ea,l,q⟩=>?_) ht;subst ex;obtain rfl:u=Value.ref a:=rx;refine Sm I1 ea c hm l ?_;refine A2c (first:=[.ref a]) (h₀:=X.base) I.ok.mod.kin hm.kp (thn (ha pos pins s1 σ H1 _ I1 q) λus s2 ⟨vs,H2,I2,r,q2⟩=>⟨I2.kIn,?_⟩) hst hpl;exact VF (us:=.ref a::us) (vs:=.ref a::vs) F hr hb hd hx I2 (.cons rfl r) q2
structure Mk(K:PySem.W.Frag)(C f:Addr):Prop where
 makes:makesIn K C=true
 init:findIn K (.ref C) "__init__" = some (some (.ref f))
 fn:isFn K (.ref f)=true
 kp:keepIn K (.ref C)=true
theorem QC{pins:List (Addr×Obj)}{σ:St}{H:Hp}{s:Shared}{Q:VK}{us:List Value}{vs:List V}(M:Mk X.K C f)(F:AK X.prog X.w X.K X.mg X.base CX k f fd ps sp)(hr:Dd (k+1) X.A)(hb:CH X.K fd ps ds)(hd:AL dvs ds)
  (hx:EY CX X E) (I:Inv X pins σ H s) (r:AL vs us)
  (h:∀x dx,H x=none->H dx=none->dx≠x->sp (.ref x::(vs++dvs)) (upd (upd H dx (.own x)) x (.ins C dx [])) (λv H2=>v=.non/\Q (.ref x) H2) E) :
  wpAny (model X.prog X.w) X.A (call (.ref C) us) (EP X pins σ Q) X.xe s:=by
 have hq:=h (s.heap.objs.size+1) s.heap.objs.size (I.hok.fresh (R6 _)) (I.hok.fresh (B6 _)) (F0 (S5 _));have I2:=Inv.made (C:=C) I;have r2:AL (V.ref (s.heap.objs.size+1)::(vs++dvs)) (Value.ref (s.heap.objs.size+1)::(us++ds)):=.cons rfl (r.append hd);have hl:(Value.ref (s.heap.objs.size+1)::us++ds).length=ps.length:=by
  have e:=r2.length;rw[F.len _ _ _ _ hq]at e;exact e.symm
 refine wpAny_call (Wt (f:=f) I.kIn M.makes M.init (beq_iff_eq.mp M.fn) (codeAny_mono (F.run _ X.stack _ _ ⟨Value.ref (s.heap.objs.size+1)::us,[]⟩ (Value.ref (s.heap.objs.size+1)::(us++ds)) _ _ E (hr.make C us [])
  (I2.env0.make C us []) (hb _ (Value.ref (s.heap.objs.size+1)::us) I2.kIn hl) r2 hq) λr s' hq'=>?_))
 cases r with
 |error e=>exact hx pins σ _ _ e s' I2 hq'
 |ok fl =>
  cases fl with
  |ret u =>
   obtain⟨v,H',I3,rv,ev,q3⟩:=I2.after hq';subst ev;exact⟨rv,⟨V.ref (s.heap.objs.size+1),H',I3,rfl,q3⟩⟩
  |next=>exact False.elim hq'
  |brk=>exact False.elim hq'
  |cont=>exact False.elim hq'
theorem pe_make(M:Mk X.K C f)(F:AK X.prog X.w X.K X.mg X.base CX k f fd ps sp)(hr:Dd (k+1) X.A)(hg:Gl X x)(hm:X.mg x=some (.ref C))(hb:CH X.K fd ps ds)(hd:AL dvs ds)(hx:EY CX X E)
  (ha:PA X (e::es) t) (hdb:(x==("__debug__" : Str))=false:=by decide) (he:starEach (e::es) X.env=(false,eval e X.env)::starEach es X.env:=by rfl) (hpl:(backTo pos (starEach es X.env)).any (·.1)=false:=by rfl) :
  PE X (.Call (.Name x p) (e::es) [] pos) (SM C sp dvs E t):=by
 intro pins s σ H Q I h;refine K9 (Mo I hg hm ?_ hdb);refine A2c (h₀:=X.base) I.ok.mod.kin M.kp (thn (ha pos pins s σ H _ I h) λus s1 ⟨vs,H1,I1,r,q⟩=>⟨I1.kIn,?_⟩) he hpl;exact QC M F hr hb hd hx I1 r q
theorem VR(M:Mk X.K C f)(F:AK X.prog X.w X.K X.mg X.base CX k f fd ps sp)(hr:Dd (k+1) X.A)(hg:Gl X x)(hm:X.mg x=some (.ref C))(hb:CH X.K fd ps ds)(hd:AL dvs ds)(hx:EY CX X E)
  (hdb:(x==("__debug__" : Str))=false:=by decide):PE X (.Call (.Name x p) [] [] pos) (SM C sp dvs E OS):=by
 intro pins s σ H Q I h;refine K9 (Mo I hg hm ?_ hdb);exact PySem.W.callWith_K0 I.kIn M.kp (QC (us:=[]) M F hr hb hd hx I .nil h)
end
section
variable{X:Cx}{CX:CXT}{k:Nat}{f C:Addr}{fd:FuncData}{ps ks:List Str}{sp:Sp}{E:XK}{x m:Str}{p pos apos kpos:Pos}{e o:Expr}{es:List Expr}{kws:List Keyword}{te ta:TE}{t tk:TA}{nm:Option Str}
variable{g:List Value->List Value->List Value}{gV:List V->List V->List V}
end
structure As(N P:List Str)(sc:Scope):Prop where
 kind:sc.kind=.function
 co:sc.isCoroutine=false
 gen:sc.isGenerator=false
 nd:N.Nodup
 pre:N.take P.length=P
 par:∀x∈P,sc.names.lookup x=some .local\/sc.names.lookup x=some .cell
 nofree:∀y∈sc.names,y.2≠.free
theorem OJ{kindOf:Str->Option NameKind}{x:Str}:∀{binds:List (Str×Value)}{m:Str->Option Value},(∀v,(x,v)∉binds)->bindL kindOf binds m x=m x
 |[],_,_=>rfl
 | (n,v)::r,m,h=>by
  unfold bindL;rw[OJ λw hw=>h w (C1 _ hw)];split
  ·have:x≠n:=by rintro rfl;exact h v C0
   simp[this]
  ·rfl
theorem OL{kindOf:Str->Option NameKind}{x:Str}:∀{binds:List (Str×Value)}{m:Str->Option Value},(∀v,(x,v)∉binds)->bindC kindOf binds m x=m x
 |[],_,_=>rfl
 | (n,v)::r,m,h=>by
  unfold bindC;rw[OL λw hw=>h w (C1 _ hw)];split
  ·rfl
  ·have:x≠n:=by rintro rfl;exact h v C0
   simp[this]
theorem OK{kindOf:Str->Option NameKind}{x:Str}{v:Value}:∀{P:List Str}{vs:List Value}{i:Nat}{m:Str->Option Value},P.Nodup->P[i]?=some x->vs[i]?=some v->kindOf x=some .local ->
  bindL kindOf (P.zip vs) m x=some v
 |[],_,_,_,_,h,_,_=>by simp at h
 |_::_,[],_,_,_,_,h,_=>by simp at h
 |p::P,w::vs,0,m,nd,h1,h2,hk=>by
  simp at h1 h2;subst h1;subst h2;show bindL kindOf ((p,w)::P.zip vs) m p=_;unfold bindL;rw[OJ λv hv=>(M0.mp nd).1 (List.of_mem_zip hv).1,W2 hk];simp
 |p::P,w::vs,i+1,m,nd,h1,h2,hk=>by
  show bindL kindOf ((p,w)::P.zip vs) m x=_;unfold bindL;exact OK (i:=i) (M0.mp nd).2 (by simpa using h1) (by simpa using h2) hk
theorem OM{kindOf:Str->Option NameKind}{x:Str}{v:Value}:∀{P:List Str}{vs:List Value}{i:Nat}{m:Str->Option Value},P.Nodup->P[i]?=some x->vs[i]?=some v->kindOf x≠some .local ->
  bindC kindOf (P.zip vs) m x=some v
 |[],_,_,_,_,h,_,_=>by simp at h
 |_::_,[],_,_,_,_,h,_=>by simp at h
 |p::P,w::vs,0,m,nd,h1,h2,hk=>by
  simp at h1 h2;subst h1;subst h2;show bindC kindOf ((p,w)::P.zip vs) m p=_;unfold bindC;rw[OL λv hv=>(M0.mp nd).1 (List.of_mem_zip hv).1,V8 hk];simp
 |p::P,w::vs,i+1,m,nd,h1,h2,hk=>by
  show bindC kindOf ((p,w)::P.zip vs) m x=_;unfold bindC;exact OM (i:=i) (M0.mp nd).2 (by simpa using h1) (by simpa using h2) hk
def LO(N:List Str)(vs:List V):St:=vs.map some++List.replicate (N.length-vs.length) none
def UV(CX:CXT)(P:Program)(w:World)(K:PySem.W.Frag)(mg:Str->Option Value)(base:Heap)(N:List Str)(qual:Str)(scope:Scope)(f:Addr)(cd:Value)(A:Around)(outer:List Env)(s:Shared)(H:Hp)(E:XK):Cx where
 prog:=P
 w:=w
 K:=K
 mg:=mg
 base:=base
 A:=A.deeper (envOfC qual scope s.heap.objs.size f cd)
 N:=N
 s₀:=s
 H₀:=H
 env:=envOfC qual scope s.heap.objs.size f cd
 outer:=outer
 stack:=envOfC qual scope s.heap.objs.size f cd::outer
 ex:=[]
 calm:=true
 fn:=λ_=>true
 pn:=[]
 xe:=λe s'=>wpAny (model P w) (A.deeper (envOfC qual scope s.heap.objs.size f cd)) (leaving (envOfC qual scope s.heap.objs.size f cd) e) (λ_ s''=>CX outer H s E e s'') (λe' s''=>CX outer H s E e' s'') s'
theorem Rr{sc:Scope}{n:Nat}{x:Str}(h:sc.names.lookup x=some .cell):∃c,(cellsFrom n sc.names []).lookup x=some c:=by
 have q:=PySem.W.cellsFrom_some sc.names n [] (.inl h);exact Option.isSome_iff_exists.mp q
theorem UL{CX:CXT}{P:Program}{w:World}{K:PySem.W.Frag}{mg:Str->Option Value}{base:Heap}{N ps:List Str}{qual:Str}{scope:Scope}{f:Addr}{cd:Value}{A:Around}{outer:List Env}{s s1:Shared}{H:Hp}{E:XK}{us:List Value}{vs:List V}
  (S:As N ps scope) (hd:A.handled=none) (e0:SD P w K mg base A outer s H) (hl:vs.length=ps.length) (r:AL vs us)
  (x:InCallC s s.heap.objs.size (bindL (envOfC qual scope s.heap.objs.size f cd).kindOf (ps.zip us) λ_=>none) (cellsFrom (s.heap.objs.size+1) scope.names []) (bindC (envOfC qual scope s.heap.objs.size f cd).kindOf (ps.zip us) λ_=>none) s1) :
  Inv (UV CX P w K mg base N qual scope f cd A outer s H E) [] (LO N vs) H s1:=by
 have hpl:ps.length<=N.length:=by have:=W8 List.length S.pre;rw[F9]at this;lia
 obtain⟨h1,tk,rfl,hk⟩:=x.done;have noA:∀b:Addr,b∉(UV CX P w K mg base N qual scope f cd A outer s H E).ex:=λb z=>absurd (show b∈([]:List Addr)from z) A4;refine⟨⟨e0.mod,S.kind,rfl,rfl,B6 _,λy z c h1 h2=>?_,λy hy=>?_,λy c _ h=>?_,λ_=>hd,Around.frames_deeper e0.frames,.inr ⟨rfl,rfl⟩,λb z=>absurd z (noA b),e0.bs,e0.bsz,λb _ _=>noA b,λb z=>absurd z (noA b),e0.funs,e0.frf⟩,
  rfl,e0.bare,Un.kept hk,⟨_,x.toInCall.ns,λi y v h1 h2 h3=>?_⟩,λy c h=>⟨_,x.cell y c h⟩,e0.hok.fresh (B6 _),λy c h=>?_,λp hp=>absurd (show p∈([]:List (Addr×Obj))from hp) A4,e0.hok.kept hk,?_⟩
 ·exact name_of_addr x.apart (Z4 h1) (Z4 h2)
 ·have hy:scope.names.lookup y=some .cell\/scope.names.lookup y=some .free:=hy;rcases hy with hy|hy
  ·exact Rr hy
  ·exact absurd rfl (S.nofree _ (Z4 hy))
 ·exact Nat.le_of_lt (x.above y c (Z4 h))
 ·have hi:i<vs.length:=by
   unfold LO at h2;by_cases hi:i<vs.length
   ·exact hi
   ·rw[F2 (by simpa using hi)]at h2;rw[S9]at h2;split at h2<;>cases h2
  have ha:vs[i]?=some v:=by
   unfold LO at h2;rw[J8 (by simpa using hi),B7]at h2;cases e:vs[i]? with
   |none=>rw[e]at h2;cases h2
   |some a=>rw[e]at h2;cases h2;rfl
  obtain⟨u,hu,rv⟩:=r.get ha;have hp:ps[i]?=some y:=by
   rw[<-S.pre,S0 A0];exact h1
  have ndP:ps.Nodup:=by rw[<-S.pre];exact S.nd.sublist (List.take_sublist _ _)
  refine⟨u,rv,?_⟩;rcases S.par y (D2 hp)with k|k
  ·exact .inl ⟨k,OK ndP hp hu k⟩
  ·obtain⟨c,e⟩:=Rr (n:=s.heap.objs.size+1) k;refine .inr ⟨.inl k,c,e,?_⟩;have q:=x.cell y c e;rw[OM ndP hp hu (by show scope.names.lookup y≠_;rw[k];decide)]at q;exact q
 ·exact e0.hok.fresh (Nat.le_of_lt (x.above y c (Z4 h)))
 ·unfold LO;show _=N.length;rw[C4,B5,O0];lia
theorem fn_of{CX:CXT}{P:Program}{w:World}{K:PySem.W.Frag}{mg:Str->Option Value}{base:Heap}{k:Nat}{f:Addr}{name qual:Str}{params:Arguments}{body:List Stmt}{scope:Scope}{dV kV doc pm cdv ct oc:Value}{an od:Option Addr}
  {osl:Array (Option Value)} {N ps:List Str} {sp:Sp} (lk:K.lookup f=some ⟨oc,od,.func (PySem.W.fnOf name qual params body scope dV kV doc pm an cdv ct),osl⟩) (hcd:PySem.W.codeIn K cdv qual=true) (S:As N ps scope)
  (len:∀vs H Q E,sp vs H Q E->vs.length=ps.length)
  (hbody:∀(A:Around)(outer:List Env)(s:Shared)(H:Hp)(vs:List V)(Q:VK)(E:XK),Dd k (A.deeper (envOfC qual scope s.heap.objs.size f cdv))->sp vs H Q E ->
   ∃t,PSs (UV CX P w K mg base N qual scope f cdv A outer s H E) body t/\t {nx:=λ_ H'=>Q .non H',rt:=Q} (LO N vs) H) :
  AK P w K mg base CX (k+1) f (PySem.W.fnOf name qual params body scope dV kV doc pm an cdv ct) ps sp:=by
 refine⟨len,λA outer s H args us vs Q E hr e0 hb r hsp=>?_⟩;have hl:=len _ _ _ _ hsp;have KX:K.In s.heap:=e0.mod.kin.keeps λb o e=>(e0.bs b o e).1;have lim:s.heap.NoLimit:=e0.mod.nolimit.keeps λb o e=>(e0.bs b o e).1;have hkind:∀y∈ps.zip us,scope.names.lookup y.1=some .local\/(scope.names.lookup y.1=some .cell/\((cellsFrom (s.heap.objs.size+1) scope.names []).lookup y.1).isSome=true):=λ⟨n,v⟩ hy=>by
  rcases S.par n (List.of_mem_zip hy).1 with q|q
  ·exact .inl q
  ·exact .inr ⟨q,PySem.W.cellsFrom_some _ _ _ (.inl q)⟩
 refine codeAny_call_function hr.depth (KX _ _ lk) rfl S.co S.gen rfl (PySem.W.codeRec_of KX hcd) (hb _ _ _ _ ?_);refine wpAny_newFunctionEnv_cells S.kind hkind λenv he s1 x=>?_;subst he;refine⟨lim.keeps x.toInCall.keep,codeAny_func ?_⟩;obtain⟨t,ht,hq⟩:=hbody A outer s H vs Q E (hr.deeper _) hsp;have I:Inv (UV CX P w K mg base N qual scope f cdv A outer s H E) [] (LO N vs) H s1:=UL S hr.hd e0 hl r x;refine Z9 (ht [] s1 (LO N vs) H _ I hq) (λfl s' hs=>?_) λe s' hs=>hs;have fin:∀{σ':St}{H':Hp}{v:V}{u:Value},Inv (UV CX P w K mg base N qual scope f cdv A outer s H E) [] σ' H' s'->AO v u->Q v H'->CE outer P w H s Q u s' :=
  λ{σ' H' v u} J rv q=>⟨v,H',J.os,J.bare,J.base,J.hok,rv,q⟩
 cases fl with
 |ret u =>
  obtain⟨v,σ',H',J,rv,q⟩:=hs;exact fin J rv q
 |next =>
  obtain⟨σ',H',J,q⟩:=hs;exact fin (v:=V.non) (u:=Value.none) J rfl q
 |brk =>
  obtain⟨_,_,_,q⟩:=hs;exact False.elim q
 |cont =>
  obtain⟨_,_,_,q⟩:=hs;exact False.elim q
section
variable{X:Cx}{x:Str}{p pos:Pos}{e:Expr}{es:List Expr}{t:TA}{id T:String}{r:List V->Hp->VK->Prop}
def tCB(r:List V->Hp->VK->Prop)(t:TA):TE:=fun σ H Q=>t σ H λvs H1=>r vs H1 Q
theorem AS(hc:Fp X (.builtin id) r)(hg:Gl X x)(hm:X.mg x=none)(hv:bootBuiltins x=some (.builtin id))(ha:PA X (e::es) t)(hn:x≠"__name__" := by decide)(hdb:(x==("__debug__" : Str))=false:=by decide)
  (he:starEach (e::es) X.env=(false,eval e X.env)::starEach es X.env:=by rfl) (hpl:(backTo pos (starEach es X.env)).any (·.1)=false:=by rfl):PE X (.Call (.Name x p) (e::es) [] pos) (tCB r t):=by
 intro pins s σ H Q I h;refine K9 (Jn I hg hm hv ?_ hn hdb);exact PyProof.Rows.callWith_builtin1 (thn (ha pos pins s σ H _ I h) λus s1 ⟨vs,H1,I1,r1,q1⟩=>hc pins s1 σ H1 vs us Q I1 r1 q1) he hpl
theorem BB(hc:Fp X (.type T) r)(hg:Gl X x)(hm:X.mg x=none)(hv:bootBuiltins x=some (.type T))(ha:PA X (e::es) t)(hn:x≠"__name__" := by decide)(hdb:(x==("__debug__" : Str))=false:=by decide)
  (he:starEach (e::es) X.env=(false,eval e X.env)::starEach es X.env:=by rfl) (hpl:(backTo pos (starEach es X.env)).any (·.1)=false:=by rfl):PE X (.Call (.Name x p) (e::es) [] pos) (tCB r t):=by
 intro pins s σ H Q I h;refine K9 (Jn I hg hm hv ?_ hn hdb);exact Z5 (thn (ha pos pins s σ H _ I h) λus s1 ⟨vs,H1,I1,r1,q1⟩=>hc pins s1 σ H1 vs us Q I1 r1 q1) he hpl
end
end L2
namespace HT
open PySem PyProof.Rows
section
open PySem.SeqAt
open PySem.AutoSeq1 (wpAny_loadPart')
open PySem.MeetsSeq PySem.MeetsSeq2 PySem.MeetsSeq3
end
section
variable{prog:Program}{w:World}{A:Around}{E:Value->Shared->Prop}{s:Shared}
def sIx(n d:Nat):Option Int->Nat
 |none=>d
 |some v=>if v<0 then(v+(n:Int)).toNat else min v.toNat n
end
end HT
namespace L2
open PySem PySem.Spec PyProof.Rows
abbrev TO:=St->Hp->(Option Int->Hp->Prop)->Prop
def PO(X:Cx)(e:Option Expr)(t:TO):Prop :=
 ∀(pins:List (Addr×Obj))(s:Shared)(σ:St)(H:Hp)(Q:Option Int->Hp->Prop),Inv X pins σ H s->t σ H Q ->
  wpAny (model X.prog X.w) X.A (evalPart e X.env) (λu s'=>∃o H',Inv X pins σ H' s'/\IsPart u o/\Q o H') X.xe s
def tNoPart:TO:=λ_ H Q=>Q none H
def tPart(t:TE):TO:=fun σ H Q=>t σ H λx H1=>∃i,x=.int i/\Q (some i) H1
section
variable{X:Cx}{e:Expr}{te:TE}{lo hi:Option Expr}{tl th:TO}{pos p2:Pos}
theorem po_none:PO X none tNoPart:=by
 intro pins s σ H Q I h;rw[evalPart_none];exact W1 ⟨none,H,I,.none,h⟩
theorem Pi(h:PE X e te):PO X (some e) (tPart te):=by
 intro pins s σ H Q I hw;rw[evalPart_some];refine thn (h pins s σ H _ I hw) λu s1 ⟨x,H1,I1,r1,q1⟩=>?_;obtain⟨i,rfl,q⟩:=q1;obtain⟨t,rfl⟩:=r1;exact⟨some i,H1,I1,.int i t,q⟩
def SlR(X:Cx)(r:V->Option Int->Option Int->Hp->VK->Prop):Prop :=
 ∀(pins:List (Addr×Obj))(s:Shared)(σ:St)(H:Hp)(x:V)(v vl vu:Value)(lo hi:Option Int)(sl:Addr)(Q:VK),Inv X pins σ H s->AO x v->s.heap.IsSliceOf sl vl vu .none->IsPart vl lo->IsPart vu hi->r x lo hi H Q ->
  ∃T id,typeLookup (.type T) "__getitem__" = pure (some (.builtin id))/\s.TypeIs v T/\wpAny (model X.prog X.w) X.A (getItem v (.ref sl)) (EP X pins σ Q) X.xe s
def tSl(r:V->Option Int->Option Int->Hp->VK->Prop)(te:TE)(tl th:TO):TE:=fun σ H Q=>te σ H λx H1=>tl σ H1 λl H2=>th σ H2 λu H3=>r x l u H3 Q
theorem QM{r:V->Option Int->Option Int->Hp->VK->Prop}(hr:SlR X r)(he:PE X e te)(hl:PO X lo tl)(hu:PO X hi th):PE X (.Subscript e (.Slice lo hi none p2) pos) (tSl r te tl th):=by
 intro pins s σ H Q I h;refine Subscript_ (thn (he pins s σ H _ I h) λv s1 ⟨x,H1,I1,r1,q1⟩=>?_);refine wpAny_Slice (thn (hl pins s1 σ H1 _ I1 q1) λvl s2 ⟨l,H2,I2,pl,q2⟩=>thn (hu pins s2 σ H2 _ I2 q2) λvu s3 ⟨u,H3,I3,pu,q3⟩=>?_);rw[evalPart_none];refine W1 ?_;have I4:Inv X pins σ H3 {s3 with heap:=s3.heap.push {cls:=.type "slice",data:=.fields #[vl,vu,.none]} }:=I3.kept (t':=s3.toks) λb ob q=>B9 _ q;obtain⟨T,id,hT,ht,hg⟩:=hr pins {s3 with heap:=s3.heap.push {cls:=.type "slice",data:=.fields #[vl,vu,.none]} } σ H3 x v vl vu l u s3.heap.objs.size Q I4 r1 (Heap.IsSliceOf.new ..) pl pu q3;show wpAny (model X.prog X.w) X.A (subscriptTail e (.Slice lo hi none p2) v (.ref s3.heap.objs.size)) (EP X pins σ Q) X.xe {s3 with heap:=s3.heap.push {cls:=.type "slice",data:=.fields #[vl,vu,.none]} };exact tail_any (ops:=[.ref s3.heap.objs.size,v]) ht hT hg (by with_unfolding_all rfl)
def Su(xs:List V)(lo hi:Option Int):List V:=(xs.drop (HT.sIx xs.length 0 lo)).take (HT.sIx xs.length xs.length hi-HT.sIx xs.length 0 lo)
theorem Rl(xs:List V)(lo hi:Option Int):(Su xs lo hi).length<=xs.length:=by
 unfold Su;rw[F9,List.length_drop];lia
end
def ixN(n:Nat)(i:Int):Option Nat:=if 0<=i then(if i<n then some i.toNat else none)else if -(n:Int)<=i then some (i+n).toNat else none
def atI{α:Type}(xs:List α)(i:Int):Option α:=(ixN xs.length i).bind λj=>xs[j]?
theorem Tt{n:Nat}{i:Int}{j:Nat}(h:ixN n i=some j):seqIndex? i n=some j/\j<n/\-(n:Int)<=i/\i<n:=by
 unfold ixN at h;by_cases h0:0<=i
 ·rw[W2 h0]at h;by_cases h1:i<n
  ·rw[W2 h1]at h;have e:i.toNat=j:=W3 h;exact⟨by rw[seqIndex_of h0 h1,e],by lia,by lia,h1⟩
  ·rw[V8 h1]at h;cases h
 ·rw[V8 h0]at h;by_cases h1:-(n:Int)<=i
  ·rw[W2 h1]at h;have e:(i+n).toNat=j:=W3 h;exact⟨by rw[seqIndex_neg A0 h1,e],by lia,h1,by lia⟩
  ·rw[V8 h1]at h;cases h
theorem TH{α:Type}{xs:List α}{i:Int}{v:α}(h:atI xs i=some v):∃j,seqIndex? i xs.length=some j/\xs[j]?=some v/\j<xs.length/\-(xs.length:Int)<=i/\i<xs.length:=by
 unfold atI at h;cases e:ixN xs.length i with
 |none=>rw[e]at h;cases h
 |some j =>
  rw[e]at h;obtain⟨h1,h2,h3,h4⟩:=Tt e;exact⟨j,h1,h,h2,h3,h4⟩
theorem Al{α:Type}{xs:List α}{j:Nat}{v:α}(h:xs[j]?=some v):atI xs (j:Int)=some v:=by
 have hj:j<xs.length:=(B4.mp h).1;have e:ixN xs.length (j:Int)=some j:=by
  unfold ixN;rw[W2 A0,W2 A0];simp
 unfold atI;rw[e];exact h
def PlainIx(b:Expr):Prop:=∀o i,subscripted b false o i=operate [o,i] (getItem o i)
def IxR(X:Cx)(r:R2):Prop :=
 ∀(value slice:Expr)(pins:List (Addr×Obj))(s:Shared)(σ:St)(H:Hp)(x y:V)(v u:Value)(Q:VK),Inv X pins σ H s->AO x v->AO y u->r x y H Q ->
  subscripted slice false v u=operate [v,u] (getItem v u)->wpAny (model X.prog X.w) X.A (subscriptTail value slice v u) (EP X pins σ Q) X.xe s
def MtR(X:Cx)(id:String)(r:V->List V->Hp->VK->Prop):Prop :=
 ∀(pins:List (Addr×Obj))(s:Shared)(σ:St)(H:Hp)(x:V)(xs:List V)(v:Value)(us:List Value)(Q:VK),Inv X pins σ H s->AO x v->AL xs us->r x xs H Q ->
  wpAny (model X.prog X.w) X.A (call (.builtin id) (v::us)) (EP X pins σ Q) X.xe s
section
variable{X:Cx}{a b:Expr}{ta tb:TE}{pos:Pos}
theorem Aj{r:R2}(hr:IxR X r)(ha:PE X a ta)(hb:PE X b tb)(hs:PlainIx b):PE X (.Subscript a b pos) (tOp r ta tb):=by
 intro pins s σ H Q I h;exact Subscript_ (binT ha hb I h λv u s2 x y H2 I2 rx ry q=>hr a b pins s2 σ H2 x y v u Q I2 rx ry q (hs _ _))
def rIxL(K:PySem.W.Frag):R2:=λx y H Q=>∃p xs i v,x=.ref p/\y=.int i/\SqL K H p xs/\atI xs i=some v/\Q v H
def IM(K:PySem.W.Frag):R2:=λx y H Q=>∃p xs i v,x=.ref p/\y=.int i/\SqT K H p xs/\atI xs i=some v/\Q v H
theorem Av:IxR X (rIxL X.K):=by
 intro value slice pins s σ H x y v u Q I rx ry h hs;obtain⟨p,xs,i,z,rfl,rfl,hq,he,q⟩:=h;cases rx;obtain⟨t,rfl⟩:=ry;obtain⟨its,r,pl,hz⟩:=I.list hq;obtain⟨j,h1,h2,h3,h4,h5⟩:=TH he;obtain⟨w,ew,rw'⟩:=r.get h2;have hl:=r.length;have hn:=Nn;have fin:EP X pins σ Q w s:=⟨z,H,I,rw',q⟩
 by_cases h0:0<=i
 ·have hj:i.toNat=j:=by
   rw[seqIndex_of h0 h5]at h1;exact W3 h1
  exact item_listR pl.isList h0 A0 (by rw[hj];simpa using ew) fin hs
 ·have hj:(i+(its.toArray.size:Int)).toNat=j:=by
   rw[seqIndex_neg A0 h4]at h1;rw[D6,<-hl];exact W3 h1
  exact subscriptTail_builtinR (x:=w) pl.isList.typeIs slot_list_getitem.lookup
   (wpAny_getItem_list_neg (Q:=λr s'=>r=w/\EP X pins σ Q r s') pl.isList A0 (by rw[D6]<;>lia) A0 (by rw[hj];simpa using ew) ⟨rfl,fin⟩) hs
theorem Am:IxR X (IM X.K):=by
 intro value slice pins s σ H x y v u Q I rx ry h hs;obtain⟨p,xs,i,z,rfl,rfl,hq,he,q⟩:=h;cases rx;obtain⟨t,rfl⟩:=ry;obtain⟨its,r,pl,hz⟩:=I.tuple hq;obtain⟨j,h1,h2,h3,h4,h5⟩:=TH he;obtain⟨w,ew,rw'⟩:=r.get h2;have hl:=r.length;have hn:=Nn;have fin:EP X pins σ Q w s:=⟨z,H,I,rw',q⟩
 exact subscriptTail_builtinR (x:=w) pl.typeIs slot_tuple_getitem.lookup
  (getItem_tuple (j:=j) (Q:=λr s'=>r=w/\EP X pins σ Q r s') pl A0 A0 (by rw[D6,<-hl];exact h1) (by simpa using ew) ⟨rfl,fin⟩) hs
theorem Sf(its:List Value)(n j:Nat)(u:Value):Obj.mapSeq (·.setIfInBounds j u) {cls:=.type "list",data:=.seq its.toArray n}={cls:=.type "list",data:=.seq (its.set j u).toArray n}:=by
 simp[Obj.mapSeq]
theorem Inv.lst{pins:List (Addr×Obj)}{σ:St}{H:Hp}{s:Shared}{p:Addr}{xs:List V}(I:Inv X pins σ H s)(h:H p=some (.lst xs)) :
  ∃(its:List Value)(n:Nat),AL xs its/\s.heap.get? p=some {cls:=.type "list",data:=.seq its.toArray n}/\xs.length<=sizeLine:=by
 obtain⟨z,its,n,r,e⟩:=I.hok p _ h;exact⟨its,n,r,e,z⟩
theorem Inv.lstUpd{pins:List (Addr×Obj)}{σ:St}{H:Hp}{s:Shared}{p:Addr}{xs ys:List V}{its its':List Value}{n n':Nat}{f:Obj->Obj}(I:Inv X pins σ H s)(h:H p=some (.lst xs))
  (ho:s.heap.get? p=some {cls:=.type "list",data:=.seq its.toArray n}) (hf:f {cls:=.type "list",data:=.seq its.toArray n}={cls:=.type "list",data:=.seq its'.toArray n'}) (r:AL ys its') (hz:ys.length<=sizeLine) (t:Nat) :
  Inv X pins σ (upd H p (.lst ys)) {s with heap:=s.heap.update p f,toks:=t}:=by
 have e:(s.heap.update p f).get? p=some {cls:=.type "list",data:=.seq its'.toArray n'}:=by
  rw[Q4 f ho (by rw[hf]<;>rfl),hf]
 refine I.write (x:=p) (e:=p) (by rw[h];trivial) (.inl rfl) (λb u hb q=>(T8 _ _ (W4 hb)).trans q) ⟨_,e⟩ ?_;exact⟨hz,its',n',r,e⟩
def rSetL:V->V->V->Hp->(Hp->Prop)->Prop:=λo i v H Q=>∃p xs k j,o=.ref p/\i=.int k/\H p=some (.lst xs)/\ixN xs.length k=some j/\Q (upd H p (.lst (xs.set j v)))
theorem GZ:PSet X rSetL:=by
 intro pins s σ H o i v ov iv u Q I ro ri rv h;obtain⟨p,xs,k,j,rfl,rfl,hp,hj,q⟩:=h;cases ro;obtain⟨t,rfl⟩:=ri;obtain⟨its,n,r,ho,hz⟩:=I.lst hp;obtain⟨h1,h2,h3,h4⟩:=Tt hj;have hl:=r.length;have hn:=Nn;have I':Inv X pins σ (upd H p (.lst (xs.set j v))) {s with heap:=s.heap.update p (Obj.mapSeq (·.setIfInBounds j u))} :=
  I.lstUpd hp ho (Sf its n j u) (r.set rv j) (by rw[List.length_set];exact hz) s.toks
 by_cases h0:0<=k
 ·have hk:k.toNat=j:=by
   rw[seqIndex_of h0 h4]at h1;exact W3 h1
  exact PySem.W.ki_setAt ho h0 A0 (by rw[D6,<-hl];exact h4) (by rw[hk];exact⟨_,I',q⟩)
 ·have hk:(k+(its.toArray.size:Int)).toNat=j:=by
   rw[seqIndex_neg A0 h3]at h1;rw[D6,<-hl];exact W3 h1
  exact PySem.W.ki_setBack ho A0 (by rw[D6,<-hl];exact h3) A0 (by rw[hk];exact⟨_,I',q⟩)
theorem Pe(lo hi:Option Int)(n:Nat):(sliceBounds lo hi none n).1=((HT.sIx n 0 lo:Nat):Int)/\(sliceBounds lo hi none n).2.1=((HT.sIx n n hi:Nat):Int)/\(sliceBounds lo hi none n).2.2=1:=by
 refine⟨?_,?_,rfl⟩
 ·cases lo with
  |none=>simp[sliceBounds,HT.sIx]
  |some i =>
   simp only[sliceBounds,HT.sIx,Option.getD_none,show(1:Int) > 0 by decide,A1e];by_cases h:i<0
   ·simp only[h,A1e]<;>lia
   ·simp only[h,A0f]<;>lia
 ·cases hi with
  |none=>simp[sliceBounds,HT.sIx]
  |some i =>
   simp only[sliceBounds,HT.sIx,Option.getD_none,show(1:Int) > 0 by decide,A1e];by_cases h:i<0
   ·simp only[h,A1e]<;>lia
   ·simp only[h,A0f]<;>lia
theorem NO(its:List Value)(lo hi:Option Int):slicePick its.toArray lo hi none=((its.drop (HT.sIx its.length 0 lo)).take (HT.sIx its.length its.length hi-HT.sIx its.length 0 lo)).toArray:=by
 obtain⟨h1,h2,h3⟩:=Pe lo hi its.toArray.size;unfold slicePick;rw[h1,h2,h3];simp only[sliceRange_one,pick_run,D6]<;>rfl
def rSlL(K:PySem.W.Frag):V->Option Int->Option Int->Hp->VK->Prop:=λx lo hi H Q=>∃a xs,x=.ref a/\SqL K H a xs/\∀p,H p=none->Q (.ref p) (upd H p (.lst (Su xs lo hi)))
theorem Ta:SlR X (rSlL X.K):=by
 intro pins s σ H x v vl vu lo hi sl Q I rx hs pl pu h;obtain⟨a,xs,rfl,hx,q⟩:=h;cases rx;obtain⟨its,r,ht,hz⟩:=I.list hx;have hlen:=r.length;refine⟨"list",_,slot_list_getitem.lookup,ht.isList.typeIs,?_⟩;refine wpAny_getItem_list_slice ht.isList hs pl pu .none A4 ?_ (by rw[D6]<;>lia);rw[NO,<-hlen];refine⟨.ref s.heap.objs.size,_,I.laid (t':=s.toks) (o:=.lst (Su xs lo hi)) (λb ob q=>B9 _ q) (B6 _) ?_,rfl,q _ (I.hok.fresh (B6 _))⟩;exact⟨C2 (Rl xs lo hi) hz,_,0,(r.drop (HT.sIx xs.length 0 lo)).take (HT.sIx xs.length xs.length hi-HT.sIx xs.length 0 lo),C6 _ rfl⟩
def JU:V->Bool
 |.non=>true
 |.bl _=>true
 |.int _=>true
 |.str _=>true
 |_=>false
def eqV:V->V->Bool
 |.non,.non=>true
 |.bl a,.bl b=>a==b
 |.bl a,.int b=>(if a then 1 else 0)==b
 |.int a,.bl b=>a==(if b then 1 else 0)
 |.int a,.int b=>a==b
 |.str a,.str b=>a==b
 |_,_=>false
theorem eqAt_V{A:Around}{s:Shared}{y x:V}{u v:Value}(ry:AO y u)(rx:AO x v)(fy:JU y=true)(fx:JU x=true):SeqAt.EqAt A s u v (eqV y x):=by
 cases y with
 |non =>
  cases ry;cases x with
  |non=>cases rx;exact SeqAt.EqAt.same _
  |bl b=>cases rx;exact SeqAt.EqAt.none_bool b
  |int b=>obtain⟨t,rfl⟩:=rx;exact SeqAt.EqAt.none_int b t
  |str b=>obtain⟨t,rfl⟩:=rx;exact SeqAt.EqAt.none_str b t
  |_=>exact absurd (show false=true from fx) C5
 |bl a =>
  cases ry;cases x with
  |non=>cases rx;exact SeqAt.EqAt.bool_none a
  |bl b=>cases rx;exact SeqAt.EqAt.bool_bool a b
  |int b=>obtain⟨t,rfl⟩:=rx;exact SeqAt.EqAt.bool_int a b t
  |str b=>obtain⟨t,rfl⟩:=rx;exact SeqAt.EqAt.bool_str a b t
  |_=>exact absurd (show false=true from fx) C5
 |int a =>
  obtain⟨t',rfl⟩:=ry;cases x with
  |non=>cases rx;exact SeqAt.EqAt.int_none a t'
  |bl b=>cases rx;exact SeqAt.EqAt.int_bool a t' b
  |int b=>obtain⟨t,rfl⟩:=rx;exact SeqAt.EqAt.int_int a t' b t
  |str b=>obtain⟨t,rfl⟩:=rx;exact SeqAt.EqAt.int_str a t' b t
  |_=>exact absurd (show false=true from fx) C5
 |str a =>
  obtain⟨t',rfl⟩:=ry;cases x with
  |non=>cases rx;exact SeqAt.EqAt.str_none a t'
  |bl b=>cases rx;exact SeqAt.EqAt.str_bool a t' b
  |int b=>obtain⟨t,rfl⟩:=rx;exact SeqAt.EqAt.str_int a t' b t
  |str b=>obtain⟨t,rfl⟩:=rx;exact SeqAt.EqAt.str_str a t' b t
  |_=>exact absurd (show false=true from fx) C5
 |_=>exact absurd (show false=true from fy) C5
def eqU(x:V)(u:Value):Bool:=match u with
 |.none=>eqV .non x
 |.bool b=>eqV (.bl b) x
 |.int i _=>eqV (.int i) x
 |.str z _=>eqV (.str z) x
 |_=>false
theorem WR{x y:V}{u:Value}(r:AO y u)(f:JU y=true):eqU x u=eqV y x:=by
 cases y with
 |non=>cases r;rfl
 |bl b=>cases r;rfl
 |int i=>obtain⟨t,rfl⟩:=r;rfl
 |str z=>obtain⟨t,rfl⟩:=r;rfl
 |_=>exact absurd (show false=true from f) C5
theorem Qc{x:V}:∀{xs:List V}{us:List Value},AL xs us->xs.all JU=true->us.any (eqU x)=xs.any λy=>eqV y x
 |_,_,.nil,_=>rfl
 |y::xs,u::us,.cons r t,f=>by
  rw[List.all_cons,O3]at f;rw[S3,S3,WR r f.1,Qc t f.2]
theorem Nm{A:Around}{s:Shared}{x:V}{v:Value}(rx:AO x v)(fx:JU x=true):∀{xs:List V}{us:List Value},AL xs us->xs.all JU=true->∀u∈us,SeqAt.EqAt A s u v (eqU x u)
 |_,_,.nil,_=>λu hu=>by cases hu
 |y::xs,u::us,.cons r t,f=>λu' hu=>by
  rw[List.all_cons,O3]at f;rcases B8.mp hu with rfl|hu
  ·rw[WR r f.1];exact eqAt_V r rx f.1 fx
  ·exact Nm rx fx t f.2 u' hu
def inV(x:V)(xs:List V):Bool:=xs.any λy=>eqV y x
def rIn(K:PySem.W.Frag)(neg:Bool):R2:=λx y H Q=>∃p xs,y=.ref p/\(SqL K H p xs\/SqT K H p xs)/\JU x=true/\xs.all JU=true/\Q (.bl (if neg then !inV x xs else inV x xs)) H
theorem Ur:OpR X (compareOp .In) (rIn X.K false):=by
 intro pins s σ H x y v u Q I rx ry h;obtain⟨p,xs,rfl,hq,fx,fs,q⟩:=h;cases ry;rcases hq with hq|hq
 ·obtain⟨its,r,pl,hz⟩:=I.list hq;refine SeqAt.in_listAt (eqU x) pl.isList (λw hw=>Nm rx fx r fs w (by simpa using hw)) ⟨.bl _,H,I,rfl,?_⟩;rw[show its.toArray.any (eqU x)=its.any (eqU x) by simp,Qc r fs];exact q
 ·obtain⟨its,r,pl,hz⟩:=I.tuple hq;refine SeqAt.in_tupleAt (eqU x) pl (λw hw=>Nm rx fx r fs w (by simpa using hw)) ⟨.bl _,H,I,rfl,?_⟩;rw[show its.toArray.any (eqU x)=its.any (eqU x) by simp,Qc r fs];exact q
theorem CF:Fp X (.builtin "len") (λxs H Q=>∃p ys,xs=[.ref p]/\(SqL X.K H p ys\/SqT X.K H p ys)/\Q (.int ys.length) H):=by
 intro pins s σ H xs us Q I r h;obtain⟨p,ys,rfl,hq,q⟩:=h;obtain⟨u,rfl,rx⟩:=Mz r;cases rx;have hn:=Nn;rcases hq with hq|hq
 ·obtain⟨its,r',pl,hz⟩:=I.list hq;have hlen:=r'.length;exact Calls.call_len_list pl.isList (by simp only[D6]<;>lia) ⟨.int ys.length,H,I.tok _,⟨s.toks+1,by rw[D6,hlen]⟩,q⟩
 ·obtain⟨its,r',pl,hz⟩:=I.tuple hq;have hlen:=r'.length;exact len_tuple pl (by simp only[D6]<;>lia) ⟨.int ys.length,H,I.tok _,⟨s.toks+1,by rw[D6,hlen]⟩,q⟩
theorem GM:Fp X (.builtin "len") (λxs H Q=>∃z,xs=[.str z]/\z.length<=sizeLine/\Q (.int z.length) H):=by
 intro pins s σ H xs us Q I r h;obtain⟨z,rfl,hz,q⟩:=h;obtain⟨u,rfl,t,rfl⟩:=Mz r;have hn:=Nn;exact len_str A0 ⟨.int z.length,H,I.tok _,⟨_,rfl⟩,q⟩
theorem PX:Fp X (.type "list") (λxs H Q=>∃p ys,xs=[.ref p]/\(SqL X.K H p ys\/SqT X.K H p ys)/\∀l,H l=none->Q (.ref l) (upd H l (.lst ys))):=by
 intro pins s σ H xs us Q I r h;obtain⟨p,ys,rfl,hq,q⟩:=h;obtain⟨u,rfl,rx⟩:=Mz r;cases rx;have fin:∀(its:List Value),AL ys its->ys.length<=sizeLine->∀(h':Heap)(c':Nat),(∀b o',s.heap.get? b=some o'->h'.get? b=some o') ->
   h'.get? s.heap.objs.size=some {cls:=.type "list",dict:=none,data:=.seq its.toArray c',slots:=#[]}->EP X pins σ Q (.ref s.heap.objs.size) {s with heap:=h'}:=λits r' hz h' c' kp e =>
  ⟨.ref s.heap.objs.size,_,I.laid (t':=s.toks) kp (B6 _) (show BF X.prog X.w _ h' _ (.lst ys)from⟨hz,its,c',r',e⟩),rfl,q _ (I.hok.fresh (B6 _))⟩
 rcases hq with hq|hq
 ·obtain⟨its,r',pl,hz⟩:=I.list hq;have hlen:=r'.length;obtain⟨o,ho,hc,n,hd⟩:=pl.isList;exact call_list_seq p (.inl rfl) ho hc hd (λh' c' kp e=>fin its r' hz h' c' kp e) (by simp only[D6]<;>lia)
 ·obtain⟨its,r',pl,hz⟩:=I.tuple hq;have hlen:=r'.length;obtain⟨o,ho,hc,n,hd⟩:=pl;exact call_list_seq p (.inr rfl) ho hc hd (λh' c' kp e=>fin its r' hz h' c' kp e) (by simp only[D6]<;>lia)
theorem BV:Fp X (.type "tuple") (λxs H Q=>∃p ys,xs=[.ref p]/\((SqL X.K H p ys/\∀l,H l=none->Q (.ref l) (upd H l (.tup ys)))\/(SqT X.K H p ys/\Q (.ref p) H))):=by
 intro pins s σ H xs us Q I r h;obtain⟨p,ys,rfl,h⟩:=h;obtain⟨u,rfl,rx⟩:=Mz r;cases rx;rcases h with ⟨hq,q⟩|⟨hq,q⟩
 ·obtain⟨its,r',pl,hz⟩:=I.list hq;have hlen:=r'.length;refine call_tuple_list pl.isList (λh' kp=>?_) (by simp only[D6]<;>lia);have I1:Inv X pins σ H {s with heap:=h'}:=I.kept (t':=s.toks) kp
  have I2:Inv X pins σ (upd H h'.objs.size (.tup ys)) {s with heap:=h'.push {cls:=.type "tuple",data:=.seq its.toArray} } :=
   I1.laid (t':=s.toks) (λb o e=>B9 _ e) (B6 _) (show BF X.prog X.w _ _ _ (.tup ys)from⟨hz,its,r',IsTup.new _ _⟩)
  exact⟨.ref h'.objs.size,_,I2,rfl,q _ (I1.hok.fresh (B6 _))⟩
 ·obtain⟨its,r',pl,hz⟩:=I.tuple hq;exact call_tuple_same pl ⟨.ref p,H,I,rfl,q⟩
def tyV(K:PySem.W.Frag)(T:String)(x:V)(H:Hp):Prop:=match x with
 |.str _=>T="str"
 |.int _=>T="int"
 |.ref p=>(T="list" /\ ∃xs,SqL K H p xs)\/(T="tuple" /\ ∃o,K.lookup p=some o/\o.cls=.type "tuple" /\ o.dict=none) \/
   (T="dict" /\ ((∃kvs,H p=some (.dK kvs))\/∃kvs,H p=some (.dT kvs)))\/(T="set" /\ ∃S n,H p=some (.set S n))
 |_=>False
theorem tyV_is{pins:List (Addr×Obj)}{σ:St}{H:Hp}{s:Shared}{T:String}{x:V}{v:Value}(I:Inv X pins σ H s)(r:AO x v)(ty:tyV X.K T x H) :
  s.TypeIs v T/\∀a,v=.ref a->∃ob,s.heap.get? a=some ob/\ob.dict=none:=by
 cases x with
 |str z =>
  obtain⟨t,rfl⟩:=r;cases(show T="str" from ty);exact⟨typeIs_str s z t,λ_ e=>nomatch e⟩
 |int i =>
  obtain⟨t,rfl⟩:=r;cases(show T="int" from ty);exact⟨typeIs_int s i t,λ_ e=>nomatch e⟩
 |ref p =>
  cases r;rcases ty with ⟨rfl,xs,hq⟩|⟨rfl,o,hk,hc,hd⟩|⟨rfl,hk⟩|⟨rfl,S,n,hk⟩
  ·obtain⟨its,_,pl,_⟩:=I.list hq;refine⟨pl.isList.typeIs,λa e=>?_⟩;cases e;obtain⟨o,n,e,c,hd,_⟩:=pl;exact⟨o,e,hd⟩
  ·refine⟨⟨o,I.kIn p o hk,hc⟩,λa e=>?_⟩;cases e;exact⟨o,I.kIn _ o hk,hd⟩
  ·have z:∃o,s.heap.get? p=some o/\o.ExactDict:=by
    rcases hk with ⟨kvs,hk⟩|⟨kvs,hk⟩
    ·obtain⟨_,_,_,_,o,_,_,e,ex,_⟩:=I.hok p _ hk;exact⟨o,e,ex⟩
    ·obtain⟨_,_,_,_,o,_,_,e,ex,_⟩:=I.hok p _ hk;exact⟨o,e,ex⟩
   obtain⟨o,e,ex⟩:=z;refine⟨⟨o,e,ex.1⟩,λa e2=>?_⟩;cases e2;exact⟨o,e,ex.2.1⟩
  ·obtain⟨o,_,_,_,e,ex,_⟩:=I.hok p _ hk;refine⟨⟨o,e,ex.1⟩,λa e2=>?_⟩;cases e2;exact⟨o,e,ex.2.1⟩
 |_=>exact False.elim ty
def tBM(K:PySem.W.Frag)(T:String)(r:V->List V->Hp->VK->Prop)(to:TE)(t:TA):TE:=fun σ H Q=>to σ H λx H1=>tyV K T x H1/\t σ H1 λxs H2=>r x xs H2 Q
variable{o e:Expr}{es:List Expr}{to:TE}{t:TA}{name:Str}{apos cpos:Pos}{T id:String}{r:V->List V->Hp->VK->Prop}
theorem GS(pa:PlainAttrs T)(slot:Slot T name id)(hty:typeOf (.builtin id)=pure (.type "method_descriptor"))(hm:MtR X id r)(ho:PE X o to)(ha:PA X (e::es) t)
  (hbase:attributeBase o name X.env (eval o X.env)=eval o X.env:=by rfl)
  (hfew:((backTo cpos (starEach (e::es) X.env)).all (λx=>!x.1) && (backToKw cpos (keywordEach [] X.env)).all (λx=>x.1.isSome)
   && decide ((e::es).length+([]:List Keyword).length+(if([]:List Keyword).isEmpty then 0 else 1)<30))=true:=by rfl)
  (hline:(apos.endLine==cpos.line)=true:=by rfl) (hs:starEach (e::es) X.env=(false,eval e X.env)::starEach es X.env:=by rfl) (hplain:(backTo cpos (starEach es X.env)).any (·.1)=false:=by rfl) :
  PE X (.Call (.Attribute o name apos) (e::es) [] cpos) (tBM X.K T r to t):=by
 intro pins s σ H Q I h;refine wpAny_Call_method_late hbase hfew hline rfl (thn (ho pins s σ H _ I h) λv s1 ⟨x,H1,I1,r1,ty,q1⟩=>?_);obtain⟨h1,h2⟩:=tyV_is I1 r1 ty;refine⟨T,id,pa,slot,hty,h1,h2,?_⟩;have hA:=ha cpos pins s1 σ H1 _ I1 q1;rw[hs]at hA⊢;refine A1g (by show(false || (backTo cpos (starEach es X.env)).any (·.1))=false;rw[hplain]<;>rfl) (A2d ?_);exact thn hA λus s2 ⟨vs,H2,I2,r2,q2⟩=>hm pins s2 σ H2 x vs v us Q I2 r1 r2 q2
end
def MtM(X:Cx)(id:String)(r:V->List V->Hp->VK->Prop):Prop :=
 ∀(pins:List (Addr×Obj))(s:Shared)(σ:St)(H:Hp)(x:V)(xs:List V)(v:Value)(us:List Value)(Q:VK),Inv X pins σ H s->AO x v->AL xs us->r x xs H Q ->
  wpAny (model X.prog X.w) X.A (call (.builtin id) (v::us)) (EP X pins σ Q) X.xe s
theorem AL.one:∀{x:V}{us:List Value},AL [x] us->∃u,us=[u]/\AO x u
 |_,_,.cons r .nil=>⟨_,rfl,r⟩
theorem AL.two:∀{x y:V}{us:List Value},AL [x,y] us->∃u v,us=[u,v]/\AO x u/\AO y v:=by
 intro x y us h;cases h with
 |cons r t=>cases t with
  |cons q t=>cases t;exact⟨_,_,rfl,r,q⟩
theorem AL.rep{xs:List V}{us:List Value}(h:AL xs us):∀k:Nat,AL (List.replicate k xs).flatten (List.replicate k us).flatten
 |0=>.nil
 |k+1=>by
  rw[P1,P1,R7,R7];exact AL.append h (AL.rep h k)
theorem OD(its:List Value):∀(k:Nat)(acc:List Value),
  List.foldl (λx1 x2=>x1++x2) acc.toArray (List.replicate k its.toArray)=(acc++(List.replicate k its).flatten).toArray
 |0,acc=>by simp
 |k+1,acc=>by
  have e:acc.toArray++its.toArray=(acc++its).toArray:=by simp
  have e2:(acc++its)++(List.replicate k its).flatten=acc++(List.replicate (k+1) its).flatten:=by
   rw[P1,R7,O7]
  rw[<-e2,<-OD its k (acc++its),<-e,P1,U1]
section
variable{X:Cx}{pins:List (Addr×Obj)}{σ:St}{H:Hp}{s:Shared}{l b:Addr}{xs ys zs:List V}
theorem Inv.lset{its its':List Value}{n:Nat}{f:Array Value->Array Value}{t':Nat}(I:Inv X pins σ H s)(hH:H l=some (.lst xs))
  (e:s.heap.get? l=some {cls:=.type "list",data:=.seq its.toArray n}) (hf:f its.toArray=its'.toArray) (hv:AL ys its') (hz:ys.length<=sizeLine) :
  Inv X pins σ (upd H l (.lst ys)) {s with heap:=s.heap.update l (Obj.mapSeq f),toks:=t'}:=by
 have q:=PySem.IsL.update e f;rw[hf]at q;refine I.write (x:=l) (e:=l) (by rw[hH];exact trivial) (.inl rfl) (λb' u hb hu=>(T8 s.heap (Obj.mapSeq f) (W4 hb)).trans hu) ⟨_,q⟩ ?_;exact⟨hz,its',_,hv,q⟩
theorem Inv.lnew{its:List Value}{t':Nat}(I:Inv X pins σ H s)(hv:AL ys its)(hz:ys.length<=sizeLine) :
  Inv X pins σ (upd H s.heap.objs.size (.lst ys)) {s with heap:=s.heap.push {cls:=.type "list",data:=.seq its.toArray},toks:=t'} :=
 I.laid (λ_ _ q=>B9 _ q) (B6 _) ⟨hz,its,0,hv,C6 _ rfl⟩
theorem Inv.fresh(I:Inv X pins σ H s):H s.heap.objs.size=none:=I.hok.fresh (B6 _)
theorem Inv.lstM(I:Inv X pins σ H s)(hH:H l=some (.lst xs)):xs.length<=sizeLine/\∃(its:List Value)(n:Nat),AL xs its/\xs.length=its.length/\s.heap.get? l=some {cls:=.type "list",data:=.seq its.toArray n}:=by
 obtain⟨z,its,n,r,e⟩:=I.hok l _ hH;exact⟨z,its,n,r,r.length,e⟩
theorem Wj{n:Nat}(h:n<=sizeLine):Builtin.List.listTooLong n=false:=by
 unfold Builtin.List.listTooLong;exact W0 A0
end
section
variable{X:Cx}
def Te:V->List V->Hp->VK->Prop:=λx vs H Q=>∃l xs y,x=.ref l/\vs=[y]/\H l=some (.lst xs)/\xs.length<sizeLine/\Q .non (upd H l (.lst (xs++[y])))
theorem Et:MtM X "list.append" Te:=by
 intro pins s σ H x vs v us Q I rx rv h;obtain⟨l,xs,y,rfl,rfl,hH,hz,q⟩:=h;cases rx;obtain⟨u,rfl,ru⟩:=rv.one;obtain⟨z,its,n,r,hl,e⟩:=I.lstM hH;refine A0a F.slot_list_append ⟨_,e,rfl⟩ F.entry_list_append (F.args_list_append_2 _ _) (PySem.list_append l its.toArray n u (by rw[D6];lia)) ⟨e,?_⟩;refine⟨.non,_,I.lset (its':=its++[u]) hH e A4 (r.append (.cons ru .nil)) ?_,rfl,q⟩;rw[C4,M4];lia
def rRep:R2:=λx y H Q=>∃l k xs,x=.ref l/\y=.int k/\H l=some (.lst xs)/\-(2^63)<=k/\k<2^63/\xs.length*k.toNat<=sizeLine /\
 ∀p,H p=none->Q (.ref p) (upd H p (.lst (List.replicate k.toNat xs).flatten))
theorem len_rep{α:Type}(xs:List α)(k:Nat):(List.replicate k xs).flatten.length=k*xs.length:=by
 induction k with
 |zero=>simp
 |succ k ih=>rw[P1,R7,C4,ih,Nat.succ_mul,Nat.add_comm]
theorem op_rep:OpR X (binaryOp .Mult) rRep:=by
 intro pins s σ H x y v u Q I rx ry h;obtain⟨l,k,xs,rfl,rfl,hH,h1,h2,hz,q⟩:=h;cases rx;obtain⟨t,rfl⟩:=ry;obtain⟨z,its,n,r,hl,e⟩:=I.lstM hH;have hlen:its.toArray.size*k.toNat<=sizeLine:=by rw[D6,<-hl];exact hz
 have hcap:¬its.toArray.size*k.toNat > (2^63-1)/8:=by
  have:(sizeLine:Nat)<=(2^63-1)/8:=by decide
  lia
 have hfit:¬(!Builtin.List.listFitsIndex k)=true:=by
  rw[fitsIndex_both h1 h2];exact C5
 have hlong:¬Builtin.List.listTooLong (its.toArray.size*k.toNat)=true:=by
  rw[Wj hlen];exact C5
 have hnew:List.foldl (λx1 x2=>x1++x2) #[] (List.replicate (if its.toArray.isEmpty=true then 0 else k.toNat) its.toArray)=(List.replicate k.toNat its).flatten.toArray:=by
  have f0:∀m:Nat,List.foldl (λx1 x2=>x1++x2) #[] (List.replicate m its.toArray)=(List.replicate m its).flatten.toArray:=λm=>by
   have:=OD its m [];rw[List.nil_append]at this;exact this
  rw[f0];cases its with
  |nil=>simp
  |cons a r'=>rw[V8 A4]
 refine wpAny_binaryOp_repeat_ref (T:="list") (U:="int") A3 ⟨_,e,rfl⟩ (λs'=>typeIs_int s' k t) noFill_list_mul F.fills_int_mul F.slot_int_rmul repeat_list F.slot_int_index.lookup
  (A0a F.slot_int_rmul (typeIs_int s k t) F.entry_int_rmul (F.args_int_rmul_2 _ _) (int___rmul___int_list k t l its.toArray n)
   ⟨e,rfl,⟨_,e,rfl⟩,A0a F.slot_list_mul ⟨_,e,rfl⟩ F.entry_list_mul (F.args_list_mul_2 _ _) (AutoListH.list___mul___list_int_3 l its.toArray n k t hfit hcap hlong) ⟨e,?_⟩⟩)
 rw[hnew];exact⟨.ref _,_,I.lnew (t':=s.toks) (r.rep k.toNat) (by rw[len_rep,Q8];exact hz),rfl,q _ I.fresh⟩
end
section
variable{prog:Program}{w:World}{A:Around}{E:Value->Shared->Prop}{s:Shared}
end
section
variable{X:Cx}
end
end L2
namespace Att
open PySem PySem.W PySem.Calls PyProof.Rows
theorem LZ{P:Params}{h:Heap}:∀(ns:List Int)(vs:List Value),WellAll P h vs (ns.map WData.int)->IntsAre vs ns:=by
 intro ns;induction ns with
 |nil =>
  intro vs w;rw[List.map_nil]at w;cases w;exact .nil
 |cons n ns ih =>
  intro vs w;rw[F1]at w;cases w with
  |cons a b =>
   cases a;exact .cons _ _ (ih _ b)
theorem Uh{l:OpenLaw}{n:Nat}(hn:l.most=some n){P:Params}{h:Heap}{args:List WData}{vals:List Value}
  (hpre:l.row.toRowW.claim.pre args=true) (hwl:WellAll P h vals args) :
  ∃a vs ns,vals=[Value.ref a]/\args=[WData.list (ns.map WData.int)]/\h.get? a=some {cls:=.type "list",data:=.seq vs.toArray}/\IntsAre vs ns/\ns.length<=n:=by
 have hsh:WShape.hasAll [] args [.list .int]=true:=(pre_splitW hpre).1;have hc:l.pre.holds [] {args:=args}=true:=(pre_splitW hpre).2;obtain⟨d,r,rfl,h1,h2⟩:=hasAllW_cons hsh;obtain rfl:=hasAllW_nil h2;obtain⟨xs,rfl,h3⟩:=hasW_list h1;obtain⟨ns,rfl⟩:=items_int h3;have hlen:ns.length<=n:=by
  unfold OpenLaw.pre at hc;have h4:(WTm.not (.lt (.lit (.int (n:Int))) (.len (.arg 0)))).holds [] {args:=[.list (ns.map .int)]}=true:=by
   have h4:=(holds_andW hc).1;rw[hn]at h4;exact h4
  have h5:=condW_of h4 (w_not (w_lt w_lit (w_len_list (w_arg rfl))));rw[B5]at h5;refine N5 λq=>?_;have q':(n:Int)<((ns.length:Nat):Int):=by lia
  first
   | (rw[V9 q']at h5;exact absurd h5 A3)
   | (simp at h5;lia)
 cases hwl with
 |cons w1 w2 =>
  cases w2;cases w1 with
  |list ho hall=>exact⟨_,_,ns,rfl,rfl,ho,LZ ns _ hall,hlen⟩
theorem Ul(l:OpenLaw)(args:List WData):l.row.toRowW.claim.post args (.bool true) args=true :=
 postW_of (r:=l.row.toRowW) (X:=(true==true))
  (show WShape.has [] (.bool true) .bool=true by first|rfl|decide|simp[WShape.has,WShape.arms,WShape.armsAll])
  (show(WTm.eq .res (.lit (.bool true))).value [] {args:=args,res:=some (.bool true),after:=args}=some (.bool (true==true))from w_eq_bool (w_res rfl) w_lit) rfl
theorem Rw{l:OpenLaw}{n:Nat}{q:Program}{loose:List Str}{XP:(Str->Option Value)->Heap->Prop}{YP:World->Heap->Prop}{d:DefRec}
  (hn:l.most=some n) (hdf:d.params.defaults=[])
  (call:∀(w:World)(s₀ s₁:Shared)(mg mb:Str->Option Value)(fa:Addr)(o:Obj)(pm cd doc:Value)(a:Addr)(vs:List Value)(ns:List Int),
   Ground q loose [] XP w s₀ mg mb s₁.heap->YP w s₁.heap ->
   s₁.heap.get? fa=some o->o.data=.func (docDef d.name d.params d.body d.scope pm cd doc)->s₁.heap.CodeRec cd d.name->mg d.name=some (.ref fa) ->
   s₁.heap.get? a=some {cls:=.type "list",data:=.seq vs.toArray}->IntsAre vs ns->ns.length<=n->s₁.gens=#[] ->
   codeAny (model l.prog w) callerA (.call (.ref fa) ⟨[.ref a],[]⟩) (λr s'=>r=.ok (.ret (.bool true))/\OldK s₁.heap s'.heap/\s'.os=s₁.os/\AllBare s'.gens) s₁) :
  WalkO q loose XP YP l.row.toRowW d [] (λf vs=>PySem.call f vs):=by
 intro w s₀ s₁ mg mb G Y fa o pm cd doc dV kV ho hd hcd hD hmg hg args vals as hpre hlay hrd hwl hlo;obtain rfl:dV=.none:=Dflts.none hD hdf;obtain rfl:kV=.none:=Dflts.noKw hD;obtain⟨a,vs,ns,rfl,rfl,hobj,hints,hlen⟩:=Uh hn hpre hwl;refine enter_call (codeAny_mono (call w s₀ s₁ mg mb fa o pm cd doc a vs ns G Y ho (fd_plain hd) hcd hmg hobj hints hlen hg) λr s' hq=>?_);obtain⟨rfl,h2,h3,h4⟩:=hq;exact⟨.inl ⟨.bool true,.bool true,[],rfl,λ_=>rfl,.bool true,Ul l _,λ_=>⟨List.Pairwise.nil,λ_ hm=>(nomatch hm)⟩⟩,h2,h3,h4⟩
section
variable{prog:Program}{w:World}{A:Around}{E:Value->Shared->Prop}{s:Shared}{K:Frag}
end
end Att
namespace L2
open PySem PySem.Spec PyProof.Rows
theorem On:∀{vs:List Value}{ns:List Int},IntsAre vs ns->AL (ns.map V.int) vs
 |_,_,.nil=>.nil
 |_,_,.cons n t h=>.cons ⟨t,rfl⟩ (On h)
def Only(H:Hp):Prop:=∀b,H b=none\/∃o xs,H b=some (.frz o (.lst xs))
theorem Wx{P:Program}{w:World}{K:PySem.W.Frag}{mg mb:Str->Option Value}{CX:CXT}{k:Nat}{fa a:Addr}{fd:FuncData}{x:Str}{sp:Sp}{s₁:Shared}{vs:List Value}{ns:List Int}
  (KX:K.In s₁.heap) (hns:s₁.heap.Ns mainGlobals mg) (hb:s₁.heap.Ns builtinsNs mb) (hbb:∀x:Str,x≠"__name__" -> mb x=bootBuiltins x) (hlim:s₁.heap.NoLimit) (hg:s₁.gens=#[])
  (ha:s₁.heap.get? a=some {cls:=.type "list",data:=.seq vs.toArray}) (hi:IntsAre vs ns) (hl:ns.length<=sizeLine) (hr:Dd k callerA)
  (F:∀base:Heap,K.In base->base.Ns mainGlobals mg->AK P w K mg base CX k fa fd [x] sp) (hbind:∀(s:Shared)(u:Value),BindsTo s fd ⟨[u],[]⟩ [(x,u)])
  (hsp:∀H:Hp,Only H->SqL K H a (ns.map V.int)->sp [.ref a] H (λv _=>v=.bl true) λ_ _ _=>False)
  (hCX:∀H e s',CX [] H s₁ (λ_ _ _=>False) e s'->False) :
  codeAny (model P w) callerA (.call (.ref fa) ⟨[.ref a],[]⟩) (λr s'=>r=.ok (.ret (.bool true))/\OldK s₁.heap s'.heap/\s'.os=s₁.os/\AllBare s'.gens) s₁:=by
 have rv:=On hi;have lenV:=hi.length;have core:∀H:Hp,Only H->SqL K H a (ns.map V.int)->HOk P w H s₁.heap->(∀b,H b≠none->b=a)->(H a≠none->K.lookup a=none) ->
   codeAny (model P w) callerA (.call (.ref fa) ⟨[.ref a],[]⟩) (λr s'=>r=.ok (.ret (.bool true))/\OldK s₁.heap s'.heap/\s'.os=s₁.os/\AllBare s'.gens) s₁:=by
  intro H hO hS hok hA hK;have base_of:∀{b:Addr}{o:Obj},s₁.heap.get? b=some o->H b=none->(PL s₁.heap H).get? b=some o:=λe n=>WG e n;have noA:∀{b:Addr}{o:Obj}{es:Array DictEntry}{ep:Nat},s₁.heap.get? b=some o->o.data=.dict es ep->H b=none:=λ{b o es ep} e d=>by
   cases q:H b with
   |none=>rfl
   |some u =>
    have e':b=a:=hA b (by rw[q];simp);subst e';rw[ha]at e;cases e;have d':Data.seq vs.toArray _=Data.dict es ep:=d;cases d'
  have nsK:∀{b:Addr}{m:Str->Option Value},s₁.heap.Ns b m->(PL s₁.heap H).Ns b m:=λ{b m} ⟨o,es,ep,e,d,r⟩=>⟨o,es,ep,base_of e (noA e d),d,r⟩
  have hKb:K.In (PL s₁.heap H):=λb o e=>base_of (KX b o e) (by
   cases q:H b with
   |none=>rfl
   |some u =>
    have e':b=a:=hA b (by rw[q];simp);subst e';rw[hK (by rw[q];simp)]at e;cases e)
  have hM:Mod K mg (PL s₁.heap H):=⟨hKb,nsK hns,⟨mb,nsK hb,hbb⟩,let ⟨mc,h1,h2⟩:=hlim;⟨mc,nsK h1,h2⟩⟩
  have e0:SD P w K mg (PL s₁.heap H) callerA [] s₁ H:=⟨rfl,hM,λb o e=>of_hidT e,Nat.le_of_eq (UM _ _),trivial,λb hb=>absurd (show b∈([]:List Addr)from hb) A4,hok,.of_eq hg⟩
  refine codeAny_mono ((F _ hKb (nsK hns)).run callerA [] s₁ H ⟨[.ref a],[]⟩ [.ref a] [.ref a] _ _ hr e0 (hbind s₁ (.ref a)) (.cons rfl .nil) (hsp H hO hS)) λr s' h=>?_;cases r with
  |error e=>exact(hCX H e s' h).elim
  |ok fl =>
   cases fl with
   |next=>exact False.elim h
   |brk=>exact False.elim h
   |cont=>exact False.elim h
   |ret u =>
    obtain⟨v,H',os,bare,un,hok',r',q⟩:=h;have q':v=.bl true:=q;subst q';obtain rfl:u=Value.bool true:=r';refine⟨rfl,OldK.of_keep λb o e=>?_,os,bare⟩;cases q:H b with
    |none=>exact un.keep b o e q (by intro z;exact absurd (show b∈([]:List Addr)from z) A4) A4
    |some u =>
     rcases hO b with z|⟨ob,xs,z⟩
     ·rw[q]at z;cases z
     ·have z2:=un.frzs b ob _ z;obtain⟨e1,_⟩:=hok b _ z;obtain⟨e2,_⟩:=hok' b _ z2;rw[e]at e1;cases e1;exact e2
 cases hk:K.lookup a with
 |some o =>
  have e:=KX a o hk;rw[ha]at e;cases e;refine core (λ_=>none) (λ_=>.inl rfl) (.inr ⟨_,vs.toArray,_,hk,rfl,rfl,rfl,by rw[D6,lenV];exact hl,by simpa using rv⟩) (λb u z=>by have z':(none:Option HO)=some u:=z;cases z') (λb z=>absurd rfl z) λz=>absurd rfl z
 |none =>
  refine core (λb=>if b=a then some (.frz {cls:=.type "list",data:=.seq vs.toArray} (.lst (ns.map V.int)))else none) (λb=>?_) (.inl (.inr ⟨{cls:=.type "list",data:=.seq vs.toArray},W2 rfl⟩)) (λb u z=>?_) (λb z=>?_) λ_=>hk
  ·by_cases hb:b=a
   ·exact .inr ⟨_,_,W2 hb⟩
   ·exact .inl (V8 hb)
  ·by_cases hb:b=a
   ·have z':=(W2 hb).symm.trans z;cases z';subst hb;exact⟨ha,by rw[B5];exact hl,vs,_,rv,ha⟩
   ·have z':=(V8 hb).symm.trans z;cases z'
  ·by_cases hb:b=a
   ·exact hb
   ·exact absurd (V8 hb) z
theorem SH{l:PySem.W.OpenLaw}{n k:Nat}{q:Program}{loose:List Str}{XP:(Str->Option Value)->Heap->Prop}{YP:World->Heap->Prop}{d:DefRec}{K:Params->PySem.W.Frag}{CX:World->CXT}{sp:World->Sp}{x:Str}
  (hn:l.most=some n) (hn2:n<=sizeLine) (hdf:d.params.defaults=[]) (hr:Dd k callerA)
  (hY:∀(w:World)(h:Heap),YP w h->(K w.params).In h)
  (F:∀(w:World)(mg:Str->Option Value)(fa:Addr)(h:Heap),(K w.params).In h->h.Ns mainGlobals mg->mg d.name=some (.ref fa) ->
   ∃fd:FuncData,(∀(s:Shared)(u:Value),BindsTo s fd ⟨[u],[]⟩ [(x,u)]) /\
    ∀base:Heap,(K w.params).In base->base.Ns mainGlobals mg->AK l.prog w (K w.params) mg base (CX w) k fa fd [x] (sp w))
  (hsp:∀(w:World)(H:Hp)(a:Addr)(ns:List Int),ns.length<=n->Only H->SqL (K w.params) H a (ns.map V.int)->sp w [.ref a] H (λv _=>v=.bl true) λ_ _ _=>False)
  (hCX:∀(w:World)(H:Hp)(s:Shared)(e:Value)(s':Shared),CX w [] H s (λ_ _ _=>False) e s'->False) :
  PySem.W.WalkO q loose XP YP l.row.toRowW d [] (λf vs=>PySem.call f vs):=by
 refine Att.Rw hn hdf λw s₀ s₁ mg mb fa o pm cd doc a vs ns G Y ho hd hcd hmg hobj hints hlen hg=>?_;have KX:=hY w _ Y;obtain⟨fd,hb,hF⟩:=F w mg fa _ KX G.T.g hmg;exact Wx KX G.T.g G.T.b G.T.builtins G.T.nolimit hg hobj hints (C2 hlen hn2) hr hF hb (λH hO hS=>hsp w H a ns hlen hO hS) λH e s'=>hCX w H s₁ e s'
end L2
/- THE LAST THEOREM (shape;LID,My.* are yours):
 My.Adr: a structure of the addresses that your layer names (classes,functions);My.Txt K t: a structure (Prop) of the equations over K;
 My.txt_mk:{K} {implicit addresses ..} (e1:nsIn K mainGlobals "law" = some (some (.ref f))) (e2:K.lookup f=some ⟨oc,od,.func (fnOf "law" "law" params body scope dV kV doc pm an cdv ct),sl⟩) (e3:codeIn K cdv "law" = true) ..:∃t,My.Txt K t
set_option maxRecDepth 100000 in
set_option maxHeartbeats 0 in
theorem PySem.Challenge.cw_LID_holds:PySem.Challenge.rw_LID.Holds:=by
 w_on;o_law;k_head;(case hw=>w_witness2)
 k_fill
 refine L2.SH (l:=PySem.Challenge.rw_LID) (n:=63) (k:=40) (x:="script") (CX:=λw=>..) (sp:=λ_=>My.sp_law) rfl A3 rfl ⟨rfl,by decide,by decide⟩ (λw h Y=>PySem.W.kIn_of Y) ?F ?S ?C
 case F =>
  intro w mg fa h KX G hmg;have T:∃t,My.Txt (L2.KOf KX) t:=by
   dsimp only[L2.KOf]                          
   (case e1=>PySem.W.k_is)                    
   (case e2=>PySem.W.k_is)
   ..
  obtain⟨t,T⟩:=T;have e0:=hmg.symm.trans (W7 KX G T.law);cases e0                                       
 case S=>exact λw H a ns hl hO hS=>..
 case C=>exact ..
(the tactic k_is has no namespace: write k_is) -/
namespace L2
open PySem PySem.Spec PyProof.Rows
def AV(s:Stmt)(j:Nat):Stmt:=match s with
 |.ClassDef _ _ _ body _ _ _ _ _ _ _=>body.getD j (.Pass ⟨0,0,0,0⟩)
 |_=>.Pass ⟨0,0,0,0⟩
def JV(s:Stmt):Arguments:=match s with
 |.FunctionDef _ a _ _ _ _ _ _ _ _=>a
 |_=>{posonlyargs:=[],args:=[],vararg:=none,kwonlyargs:=[],kw_defaults:=[],kwarg:=none,defaults:=[]}
def IH(s:Stmt):List Stmt:=match s with
 |.FunctionDef _ _ b _ _ _ _ _ _ _=>b
 |_=>[]
def Ah(s:Stmt):Scope:=match s with
 |.FunctionDef _ _ _ _ _ _ sc _ _ _=>sc
 |_=>{kind:=.function,names:=[],isGenerator:=false,isCoroutine:=false}
abbrev CX0:CXT:=λ_ _ _ _ _ _=>False
abbrev E0:XK:=λ_ _ _=>False
theorem An{X:Cx}:EY CX0 X E0:=λ_ _ _ _ _ _ _ h=>h.elim
structure Fun(K:PySem.W.Frag)(x qual:Str)(st:Stmt)(f:Addr)(fd:FuncData):Prop where
 ex:∃(oc:Value)(od:Option Addr)(kV doc pm:Value)(an:Option Addr)(cdv ct:Value)(osl:Array (Option Value)),
  fd=PySem.W.fnOf x qual (JV st) (IH st) (Ah st) .none kV doc pm an cdv ct/\K.lookup f=some ⟨oc,od,.func fd,osl⟩/\PySem.W.codeIn K cdv qual=true
 kp:keepIn K (.ref f)=true
section
variable{P:Program}{w:World}{K:PySem.W.Frag}{mg:Str->Option Value}{base:Heap}
theorem Fun.ok{x qual:Str}{st:Stmt}{f:Addr}{fd:FuncData}{N ps:List Str}{k:Nat}{sp:Sp}(F:Fun K x qual st f fd)(S:As N ps (Ah st))(len:∀vs H Q E,sp vs H Q E->vs.length=ps.length)
  (hbody:∀(cdv:Value)(A:Around)(outer:List Env)(s:Shared)(H:Hp)(vs:List V)(Q:VK)(E:XK),Dd k (A.deeper (envOfC qual (Ah st) s.heap.objs.size f cdv))->sp vs H Q E ->
   ∃t,PSs (UV CX0 P w K mg base N qual (Ah st) f cdv A outer s H E).nox (IH st) t/\t {nx:=λ_ H'=>Q .non H',rt:=Q} (LO N vs) H):AK P w K mg base CX0 (k+1) f fd ps sp:=by
 obtain⟨oc,od,kV,doc,pm,an,cdv,ct,osl,rfl,lk,hcd⟩:=F.ex;refine fn_of lk hcd S len λA outer s H vs Q E hr hsp=>?_;obtain⟨t,h,q⟩:=hbody cdv A outer s H vs Q E hr hsp;exact⟨t,h.nox,q⟩
theorem Fun.binds{x qual:Str}{st:Stmt}{f:Addr}{fd:FuncData}{ps:List Str}(F:Fun K x qual st f fd)
  (h:∀(kV doc pm:Value)(an:Option Addr)(cdv ct:Value)(us:List Value),us.length=ps.length->bindArgs (PySem.W.fnOf x qual (JV st) (IH st) (Ah st) .none kV doc pm an cdv ct) ⟨us,[]⟩=pure (ps.zip us)):CH K fd ps []:=by
 obtain⟨oc,od,kV,doc,pm,an,cdv,ct,osl,rfl,lk,hcd⟩:=F.ex;exact .all (h kV doc pm an cdv ct)
theorem Sr {x qual:Str} {st:Stmt} {f:Addr} {oc:Value} {od an:Option Addr} {osl:Array (Option Value)} {kV doc pm cdv ct:Value} (l:K.lookup f=some ⟨oc,od,.func (PySem.W.fnOf x qual (JV st) (IH st) (Ah st) .none kV doc pm an cdv ct),osl⟩)
  (c:PySem.W.codeIn K cdv qual=true) (k:keepIn K (.ref f)=true):Fun K x qual st f (PySem.W.fnOf x qual (JV st) (IH st) (Ah st) .none kV doc pm an cdv ct):=⟨⟨oc,od,kV,doc,pm,an,cdv,ct,osl,rfl,l,c⟩,k⟩
end
theorem Ec{A:Around}{k:Nat}(hr:Dd k A):A.units+1<cLine:=J3 (Nat.add_le_add_left (by decide:1<=64) _) hr.units
section
variable{X:Cx}
theorem pv(i:Nat){x:Str}{pos:Pos}(hN:X.N[i]?=some x:=by rfl)(hv:Vis X.env.scope x:=by first|exact Or.inl rfl|exact Or.inr (Or.inl rfl)|exact Or.inr (Or.inr rfl))(hd:(x==("__debug__" : Str))=false:=by decide)
  (hcd:(x==("__classdict__" : Str))=false:=by decide):PE X (.Name x pos) (FO i):=pe_var hN hv hd hcd
end
theorem Bw{A B:Prop}(h:B):if false=true then A else B:=by
 rw[V8 C5];exact h
theorem CK{A B:Prop}(h:A):if true=true then A else B:=by
 rw[W2 rfl];exact h
theorem LY{c A B:Prop}[Decidable c](h1:c->A)(h2:¬c->B):if c then A else B:=by
 by_cases h:c
 ·rw[W2 h];exact h1 h
 ·rw[V8 h];exact h2 h
theorem Tu{c A B:Prop}[Decidable c](hc:c)(h:B):if(!decide c)=true then A else B:=by
 rw[V9 hc];exact Bw h
def AA(H H':Hp):Prop:=∀b o,H b=some o->H' b=some o
theorem AA.refl(H:Hp):AA H H:=λ_ _ h=>h
theorem AA.trans{H H1 H2:Hp}(a:AA H H1)(b:AA H1 H2):AA H H2:=λc o h=>b c o (a c o h)
theorem AA.seq{K:PySem.W.Frag}{H H':Hp}{a:Addr}{xs:List V}(e:AA H H')(h:SqL K H a xs):SqL K H' a xs:=by
 rcases h with (h|⟨o,h⟩)|h
 ·exact .inl (.inl (e _ _ h))
 ·exact .inl (.inr ⟨o,e _ _ h⟩)
 ·exact .inr h
def TZ(a D:Addr)(h:Heap):Prop:=∃o,h.get? a=some o/\o.cls=.ref D/\∃vs,o.data=.fields vs/\vs[2]?=some .none
theorem TZ.not{a D:Addr}{h:Heap}(x:TZ a D h):∃o,h.get? a=some o/\o.cls=.ref D/\notCls o=true:=by
 obtain⟨o,e,c,vs,d,_⟩:=x;exact⟨o,e,c,by unfold notCls;rw[d]⟩
section
variable{M:Model}{A:Around}{E:Value->Shared->Prop}{s:Shared}{b0:Heap}{env:Env}{outer:List Env}{L a T:Addr}{cls fl:Value}{Q:Unit->Shared->Prop}
end
section
variable{P:Program}{w:World}{K:PySem.W.Frag}{mg:Str->Option Value}{base:Heap}{N:List Str}{qual:Str}{scope:Scope}{f:Addr}{cd:Value}{A:Around}{outer:List Env}{s:Shared}{H:Hp}{E:XK}
end
section
variable{X:Cx}{C:Addr}{x:Str}{np cpos pos:Pos}{e:Expr}{es:List Expr}{t:TA}{E:XK}
end
section
variable{X:Cx}{CX:CXT}{k:Nat}{f:Addr}{fd:FuncData}{ps:List Str}{sp:Sp}{dvs:List V}{ds:List Value}{E:XK}{x:Str}{p pos:Pos}{e:Expr}{es:List Expr}{t:TA}{S:St->Prop}
end
def isExc(a D:Addr):HO:=.ext (TZ a D)
theorem Inv.track{X:Cx}{pins:List (Addr×Obj)}{σ:St}{H:Hp}{s:Shared}{a:Addr}{o:HO}(I:Inv X pins σ H s)(ha:H a=none)(h0:X.s₀.heap.get? a=none)(hb:X.base.get? a=none)(hL:X.env.locals≠a)(hc:∀x c,X.env.cells.lookup x=some c->c≠a)
  (hp:∀p,p∈X.pn++pins->p.1≠a) (hs:∀b,b∈X.fs->b≠a) (new:BF X.prog X.w (upd H a o) s.heap a o):Inv X pins σ (upd H a o) s:=by
 have ne:∀b u,H b=some u->b≠a:=λb u q z=>by rw[z,ha]at q;cases q
 refine⟨I.ok,I.os,I.bare,⟨I.base.keep,I.base.slot,λb u q n x=>?_,I.base.there,λb xs q=>?_,λb u v q=>?_,λb ps q=>?_⟩,I.loc,I.cell,?_,λx c q=>?_,λp z=>?_,λb u q=>?_,I.len⟩
 ·rw[Ao (λz=>by rw[z,h0]at q;cases q)];exact I.base.free b u q n x
 ·have z:=I.base.tups b xs q;rw[Ao (ne _ _ z)];exact z
 ·have z:=I.base.frzs b u v q;rw[Ao (ne _ _ z)];exact z
 ·obtain⟨m,z⟩:=I.base.tbls b ps q;exact⟨m,by rw[Ao (ne _ _ z)];exact z⟩
 ·rw[Ao hL];exact I.free
 ·rw[Ao (hc x c q)];exact I.freeC x c q
 ·obtain⟨e,n,r⟩:=I.pin p z;exact⟨e,by rw[Ao (hp p z)];exact n,r⟩
 ·by_cases z:b=a
  ·subst z;rw[Af]at q;cases q;exact new
  ·rw[Ao z]at q;exact(I.hok b u q).stay (λc v _ r=>r) (λc r=>by rw[Ao (ne _ _ r)];exact r) λc xs r=>by rw[Ao (ne _ _ r)];exact r
section
variable{X:Cx}{C:Addr}{x n:Str}{np hpos pos:Pos}{i:Nat}{b₀:Stmt}{suite body:List Stmt}{S:St->Prop}{tb:XK->TS}{th:TS}
end
section
variable{P:Program}{w:World}{K:PySem.W.Frag}{mg:Str->Option Value}{base:Heap}
end
section
variable{X:Cx}{k:Nat}{f:Addr}{fd:FuncData}{ps:List Str}{sp:Sp}{x:Str}{p pos:Pos}{e:Expr}{es:List Expr}{t:TA}
end
section
variable{X:Cx}{tg:Expr}
def Its(x:Str):It:=⟨λi _=>i<x.cps.size,λi H v H'=>H'=H/\∃c,x.cps[i]?=some c/\v=.str ⟨#[c]⟩,λi _=>i=x.cps.size⟩
theorem Qi{P:Program}{w:World}{K:PySem.W.Frag}(it:Addr)(x:Str)(t:Tok)(T:String)(hn:["enumerate","zip","dict_itemiterator","dict_reverseitemiterator","odict_iterator","itertools.zip_longest","itertools.pairwise"].contains T=false)
  (W:∀A:Around,A.handled=none->Walks P w A it [it] [it] x.cps.size (SignAt x) (λi h=>h.IsStrIter it T x t i))
  (hself:∀(A:Around)(i:Nat)(s:Shared)(Q:Value->Shared->Prop)(E:Value->Shared->Prop),s.heap.IsStrIter it T x t i->Q (.ref it) s->wpAny (model P w) A (pyIter (.ref it)) Q E s):Og P w K tg (Its x) [it] it (λi h=>h.IsStrIter it T x t i) where
 mem:=by simp
 obj:=λi h st b hb=>by
  have e:b=it:=by simpa using hb
  subst e;obtain⟨o,e,c,d⟩:=st;exact⟨o,e,λv z=>by rw[d]at z;cases z⟩
 keep:=λi h h' ⟨o,e,r⟩ k=>⟨o,k it A4 o e,r⟩
 item:=by
  intro X hP hw hK hc i pins s σ H E I hf st hg;subst hP hw hK;obtain⟨f0,f1,f2,f3,f4,f5⟩:=hf it A4;refine(W X.A (I.ok.hd hc)).item i s _ _ hg st λv h' tk hv st' kk=>?_;obtain⟨c,u,hc',rfl⟩:=hv;have I1:Inv X pins σ H {s with heap:=h',toks:=tk}:=I.turned (λb o hb e=>kk b o (by simpa using hb) e) f0 f1 f3 f4 f5;obtain⟨o,e,oc,od⟩:=id st';exact⟨_,rfl,Rg (s:={s with heap:=h',toks:=tk}) e oc od hn ⟨.str ⟨#[c]⟩,H,I1,⟨u,rfl⟩,⟨rfl,c,hc',rfl⟩,st',λb hb=>(hf b hb).1⟩⟩
 done:=by
  intro X hP hw hK hc i pins s σ H E I hf st hg;subst hP hw hK;obtain⟨f0,f1,f2,f3,f4,f5⟩:=hf it A4;have z:i=x.cps.size:=hg;subst z;exact(W X.A (I.ok.hd hc)).done s _ _ st λh' tk kk=>⟨rfl,I.turned (λb o hb e=>kk b o (by simpa using hb) e) f0 f1 f3 f4 f5⟩
 self:=hself
def iStr(tl:TE):TI:=fun σ H R=>tl σ H λv H1=>∃x,v=.str x/\R (Its x) H1
theorem VO{l:Expr}{tl:TE}(hl:PE X l tl):PI X tg l (iStr tl):=by
 intro pins s σ H R I h;refine thn (hl pins s σ H _ I h) λv s1 ⟨y,H1,I1,r1,q1⟩=>?_;obtain⟨x,rfl,q⟩:=q1;obtain⟨t,rfl⟩:=r1;have fp:∀b,b∈[s1.heap.objs.size]->Ga X pins H1 b:=λb hb=>by
  have e:b=s1.heap.objs.size:=by simpa using hb
  subst e;exact I1.fpOk (B6 _) (I1.hok.fresh (B6 _))
 cases ha:x.cps.all (· < 128)with
 |true =>
  refine wpAny_pyIter_ascii ha ?_;refine⟨s1.heap.objs.size,[s1.heap.objs.size],_,_,H1,rfl,I1.kept (t':=s1.toks) λb o e=>B9 _ e,Qi _ x t "str_ascii_iterator" A3 (λA hA=>Walks.strAscii hA _ x t) (λ_ _ _ _ _ st h=>wpAny_pyIter_striter_ascii st h),⟨_,C6 _ rfl,rfl,rfl⟩,fp,q⟩
 |false =>
  refine wpAny_pyIter_wide ha ?_;refine⟨s1.heap.objs.size,[s1.heap.objs.size],_,_,H1,rfl,I1.kept (t':=s1.toks) λb o e=>B9 _ e,Qi _ x t "str_iterator" A3 (λA hA=>Walks.strWide hA _ x t) (λ_ _ _ _ _ st h=>wpAny_pyIter_striter_wide st h),⟨_,C6 _ rfl,rfl,rfl⟩,fp,q⟩
theorem for_str{x:Str}{g:TG}{tb:TS}{D:LM}{σ:St}{H:Hp}(Pv:Nat->St->Hp->Prop)(h0:Pv 0 σ H)
  (hs:∀i c σ H,x.cps[i]?=some c->Pv i σ H->g (.str ⟨#[c]⟩) σ H fun σ2 H2=>tb {D with nx:=Pv (i+1),ct:=Pv (i+1),bk:=D.nx} σ2 H2) (hd:∀σ H,Pv x.cps.size σ H->D.nx σ H) :
  ∃W:Nat->Nat->St->Hp->Prop,(∃m,W 0 m σ H)/\∀i m σ H,W i m σ H ->
   ((Its x).stop i H/\D.nx σ H)\/((Its x).go i H/\∃N:St->Hp->Prop,(∀σ' H',N σ' H'->∃m',m'<m/\W (i+1) m' σ' H')/\∀v H',(Its x).yld i H v H'->g v σ H' fun σ2 H2=>tb {D with nx:=N,ct:=N,bk:=D.nx} σ2 H2):=by
 refine⟨λi m σ H=>m=x.cps.size-i/\i<=x.cps.size/\Pv i σ H,⟨x.cps.size,by simp,F8 _,h0⟩,?_⟩;rintro i m σ H ⟨rfl,hi,p⟩;by_cases hlt:i<x.cps.size
 ·refine .inr ⟨hlt,Pv (i+1),fun σ' H' p'=>⟨x.cps.size-(i+1),by lia,rfl,hlt,p'⟩,λv H' y=>?_⟩;obtain⟨e,c,hc,rfl⟩:=y;subst e;exact hs i c σ _ hc p
 ·have e:i=x.cps.size:=by lia
  subst e;exact .inl ⟨rfl,hd σ H p⟩
theorem FM:Fp X (.type "int") (λxs H Q=>∃x n,xs=[.str x]/\PySem.intText? x=some n/\x.length<=640/\Q (.int n) H):=by
 intro pins s σ H xs us Q I r h;obtain⟨x,n,rfl,hn,hl,q⟩:=h;cases r with
 |cons r1 r2 =>
  cases r2;obtain⟨t,rfl⟩:=r1;exact PySem.W.KIN.call_text hn hl ⟨.int n,H,I.tok _,⟨_,rfl⟩,q⟩
theorem Ru(hc:X.calm=true):Fp X (.builtin "all") (λxs H Q=>∃(p:Addr)(bs:List Bool),xs=[.ref p]/\SqL X.K H p (bs.map V.bl)/\Q (.bl (bs.all id)) H):=by
 intro pins s σ H xs us Q I r h;obtain⟨p,bs,rfl,hq,q⟩:=h;cases r with
 |cons r1 r2 =>
  cases r2;cases(show _=Value.ref p from r1);obtain⟨its,rv,pl,hz⟩:=I.list hq;have hne:p≠s.heap.objs.size:=F0 (by obtain⟨o,n,e,_⟩:=pl;exact C8 e);refine call_all_walk (A0c pl.isList ?_);have vals:∀(i:Nat) v,its[i]?=some v->∃b,bs[i]?=some b/\v=.bool b:=λi v e=>by
   cases eb:bs[i]? with
   |none =>
    have:its[i]?=none:=rv.none_of (by rw[B7,eb];rfl);rw[e]at this;cases this
   |some b =>
    obtain⟨u,hu,ru⟩:=rv.get (i:=i) (x:=V.bl b) (by rw[B7,eb];rfl);rw[e]at hu;cases hu;exact⟨b,rfl,ru⟩
  refine⟨s.heap.objs.size,_,_,_,_,_,λi=>bs.getD i true,rfl,Walks.list (A:=X.A.in1) (I.ok.hd hc) s.heap.objs.size p hne its.toArray,⟨⟨_,C6 _ rfl,rfl,rfl⟩,?_⟩,?_,?_⟩
  ·exact pl.isList.at λo e=>B9 _ e
  ·intro i v s2 Q2 E2 hP hQ;obtain⟨b,eb,rfl⟩:=vals i v (by simpa using hP);have e2:bs.getD i true=b:=by rw[D9,eb];rfl
   have hQ:Q2 (bs.getD i true) s2:=hQ;rw[e2]at hQ;exact Y9 hQ
  ·intro h' tk kk;have I2:Inv X pins σ H {s with heap:=h',toks:=tk}:=I.kept λb o e=>kk b o (by intro z;exact F0 (C8 e) (by simpa using z)) (B9 _ e);have len:its.toArray.size=bs.length:=by rw[D6,<-rv.length,B5]
   have e3:(List.range its.toArray.size).all (λi=>bs.getD i true)=bs.all id:=by
    rw[len,P6,T1,T1];constructor
    ·intro z b hb;obtain⟨i,hi,e⟩:=U7.mp hb;have:=z i (J9.mpr hi);rw[D9,D3 hi,e]at this;exact this
    ·intro z i hi;have hi':=J9.mp hi;rw[D9,D3 hi'];exact z _ (List.getElem_mem hi')
   rw[e3];exact⟨.bl _,H,I2,rfl,q⟩
end
section
variable{X:Cx}{iter:Expr}{ti:TE}{x G:Str}{px px1 px2 cpos pos:Pos}{scope:Scope}{g:Str}
end
structure Yu(K:PySem.W.Frag)(D:Addr):Prop where
 hd:hasDictIn K D=true
 ga:findIn K (.ref D) "__getattribute__" = some (some (.builtin "BaseException.__getattribute__"))
 gt:findIn K (.ref D) "__getattr__" = some none
 cl:findIn K (.ref D) "__class__" = some (some (.builtin "object.__class__"))
 sp:specialIn K (.builtin "object.__class__") "__get__" = some (some (.builtin "getset_descriptor.__get__"))
 tk:takesIn K (.builtin "object.__class__")=some true
 mo:mroIn K D (.type "object")=some true
 mb:mroIn K D (.type "BaseException")=some true
section
variable{K:PySem.W.Frag}{prog:Program}{w:World}{A:Around}{E:Value->Shared->Prop}{s:Shared}{a D:Addr}{o:Obj}
open PySem.W Builtin Builtin.ObjectAttr Builtin.Getset_descriptor
theorem WQ{M:Model}{h:Heap}(X:K.In h)(f:Yu K D):Looks M h (find (.ref a) (.ref D) "__class__") (.bind (.builtin "getset_descriptor.__get__") (.builtin "object.__class__")) :=
 (looks_findIn X f.cl).andThen ((looks_specialIn X f.sp).andThen ((show Looks M h (dataDescriptor? (some (.builtin "object.__class__")) (some (.builtin "getset_descriptor.__get__"))) (some (.builtin "getset_descriptor.__get__",.builtin "object.__class__"))from(looks_takesIn X f.tk).andThen .now).andThen (Looks.tag .now)))
theorem exc_get{R:Result->Shared->Prop}{tp:Value}(X:K.In s.heap)(f:Yu K D)(he:s.heap.get? a=some o)(hc:o.cls=.ref D)(hq:R (.ok (.ret (.ref D))) s) :
  codeAny (model prog w) A (.call (.builtin "getset_descriptor.__get__") ⟨[.builtin "object.__class__",.ref a,tp],[]⟩) R s:=by
 obtain⟨h,g,d,t,os⟩:=s;have L0:Looks (model prog w) h (typeOf (.ref a)) (.ref D):=hc▸(Looks.ld he).andThen .now;have L1:=looks_mroIn (M:=model prog w) X f.mo;refine codeAny_call_builtin KF.slot_gs.plain KF.entry_gs (KF.slot_gs.check _ _ _ _ _ _ _ _ KF.type_class (KF.args_gs _ _ _) ?_);unfold Builtin.«getset_descriptor.__get__» descrGet;rw[dga_obj];refine V7 (W1 ?_);unfold descrGetter descrCheckInstance descrNameAndClass isInstance;simp only[KF.owner_class]
 repeat lk
 refine⟨Code.quiet_builtin _ A1,codeAny_builtin KF.entry_class ?_⟩;unfold Builtin.«object.__class__» shownTypeOf
 repeat lk
 exact hq
theorem UR{Q:Option Value->Shared->Prop}(X:K.In s.heap)(f:Yu K D)(he:s.heap.get? a=some o)(hc:o.cls=.ref D)(hq:Q (some (.ref D)) {s with toks:=s.toks+1}) :
  wpAny (model prog w) A (getAttr? (.ref a) "__class__") Q E s:=by
 obtain⟨h,g,d,t,os⟩:=s;have L0:Looks (model prog w) h (typeOf (.ref a)) (.ref D):=hc▸(Looks.ld he).andThen .now;have L1:=looks_findIn (M:=model prog w) X f.ga;have L2:=looks_findIn (M:=model prog w) X f.gt;have L3:=WQ (M:=model prog w) (a:=a) X f;have L4:Looks (model prog w) h (isInstance (.ref a) (.type "BaseException")) true:=L0.andThen (looks_mroIn X f.mb);unfold getAttr? getAttrBy? getAttrBy;refine V7 (wpAny_mkText (V7 (A0e (K7 (V7 (L0.at (V7 (L1.at ?_))))))));dsimp only;have n0:(Value.builtin "BaseException.__getattribute__" == Value.builtin "object.__getattribute__")=false:=by decide +kernel
 rw[V8 (by rw[n0,Bool.and_false];exact C5)];unfold getAttrByItsOwn hookBefore;rw[W2 (by rfl)];refine V7 (L2.at ?_);refine V7 (A0e (K7 ?_));unfold callGetattribute;rw[V8 A3];unfold boundAndCalled;refine V7 (wpAny_of_eq (PySem.F.excAttr_ValueError.ga.bind (.ref a)) ?_);dsimp only;refine wpAny_call (codeAny_call_builtin PySem.F.excAttr_ValueError.ga.plain PySem.F.entry_bexc_ga ?_);have hk:builtinKind "BaseException.__getattribute__" = some .slot:=by decide +kernel
 have hsp:splitId "BaseException.__getattribute__" = some ("BaseException","__getattribute__"):=by decide +kernel
 have har:=PySem.F.args_bexc_ga (.ref a) (.str "__class__" t);simp only[checkBuiltinCall,hk,hsp];refine V7 (L4.at ?_);rw[V8 A3];refine wpAny_of_eq (a:=()) har ?_;unfold Builtin.«object.__getattribute__»;dsimp only at L3
 repeat ((fail_if_success (with_reducible show wpAny _ _ (call _ _) _ _ _));lk)
 refine wpAny_call (exc_get (s:=⟨h,g,d,t+1,os⟩) X f he hc ?_);dsimp only
 repeat lk
 exact hq
end
inductive TyX(K:PySem.W.Frag)(H:Hp):V->Value->Prop where
 |of {x:V} {t:Value} (h:LL K H x t):TyX K H x t
 |exc {a D:Addr} (e:H a=some (isExc a D)) (f:Yu K D):TyX K H (.ref a) (.ref D)
theorem Wy{K:PySem.W.Frag}{a D:Addr}(f:Yu K D):PySem.W.KitX K (.ref a) (.ref D) (λh=>∃o,h.get? a=some o/\o.cls=.ref D/\notCls o=true) where
 ty:=λM h X ⟨o,e,c,_⟩=>c▸(PySem.W.Looks.ld e).andThen .now
 it:=λM h X _=>by
  obtain⟨cd,hc,_⟩:=any_some f.hd;unfold clsIn at hc;split at hc
  ·rename_i c' d' cd' sl' ho;intro A' Q' E' s' k q;unfold isType loadHead;exact V7 (wpAny_loadPart (k _ _ (X _ _ ho)) (W1 q))
  ·cases hc
 ne:=λh tp dd its n sl X htp=>by
  obtain⟨cd,hc,_⟩:=any_some f.hd;refine R8.mpr λq=>?_;have e:D=tp:=Value.ref.inj (beq_iff_eq.mp q);subst e;unfold clsIn at hc;split at hc
  ·rename_i c' d' cd' sl' ho;have z:=(X _ _ ho).symm.trans htp;cases z
  ·cases hc
 ca:=λX ⟨o,e,c,_⟩ k=>UR X f e c k
def clsV:V->Option Value
 |.ty n=>some (.type n)
 |.ref C=>some (.ref C)
 |_=>none
theorem FW{X:Cx}:Fp X (.builtin "isinstance") (λxs H Q=>∃x c cv t b,xs=[x,c]/\clsV c=some cv/\TyX X.K H x t/\kitOne X.K t cv=some b/\Q (.bl b) H):=by
 intro pins s σ H xs us Q I r h;obtain⟨x,c,cv,t,b,rfl,hc,ty,hk,q⟩:=h;cases r with
 |@cons _ u _ _ rx rr =>
  cases rr with
  |@cons _ v _ _ rc rn =>
   cases rn;have ev:v=cv:=by
    cases c with
    |ty n=>cases hc;exact rc
    |ref C=>cases hc;exact rc
    |_=>cases hc
   subst ev;cases ty with
   |of ty=>exact UK I rx ty hk λtk=>⟨.bl b,H,I.tok tk,rfl,q⟩
   |@exc a D e f =>
    cases(show u=Value.ref a from rx);obtain⟨p,_,_⟩:=(show BF X.prog X.w H s.heap a (isExc a D)from I.hok a _ e)
    exact Y6 (Wy f) I.kIn (TZ.not p) hk (λz=>nomatch z) λtk=>⟨.bl b,H,I.tok tk,rfl,q⟩
section
variable{X:Cx}{c:Expr}{a b:List Stmt}{tc:TT}{t u:TS}{pos:Pos}
end
def FL(env:Env)(a:List (Str×Addr))(x:Str×NameKind):List (Str×Addr):=if(x.2==NameKind.free)=true then(x.1,(env.cells.lookup x.1).getD 0)::a else a
def Sx(env:Env)(l:List (Str×NameKind)):List (Str×Addr):=l.foldl (FL env) []
theorem Ss{α β:Type}{l:List α}{f:α->β->Sem (ForInStep β)}{g:β->α->β}(h:∀x∈l,∀b,f x b=pure (.yield (g b x))):∀b,forIn l b f=pure (l.foldl g b):=by
 induction l with
 |nil=>intro b;rfl
 |cons x l ih =>
  intro b;rw[List.forIn_cons,h x C0,pure_bind];exact ih (λy hy=>h y (C1 _ hy)) _
theorem NE{scope:Scope}{env:Env}(h:∀y∈scope.names,y.2=.free->∃c,env.cells.lookup y.1=some c):closureFor scope env=pure (Sx env scope.names):=by
 simp only[closureFor];rw[Ss (g:=FL env) (λx hx c=>by
  obtain⟨n,k⟩:=x;by_cases hk:k=.free
  ·subst hk;obtain⟨a,ha⟩:=h _ hx rfl;have e:cellOf env n=pure a:=by unfold cellOf;rw[show env.cells.lookup n=some a from ha]
   simp only[FL,beq_self_eq_true,A1e,e,show env.cells.lookup n=some a from ha,Option.getD_some];rfl
  ·have hb:(k==NameKind.free)=false:=by simpa using hk
   simp only[FL,hb,P7,A0f])]
 rfl
theorem OG(env:Env){y:Str}{c:Addr}:∀(l:List (Str×NameKind))(a:List (Str×Addr)),(l.foldl (FL env) a).lookup y=some c->a.lookup y=some c\/((y,NameKind.free)∈l/\c=(env.cells.lookup y).getD 0)
 |[],a,h=>.inl h
 | (n,k)::r,a,h=>by
  rw[U1]at h;rcases OG env r _ h with z|⟨z,e⟩
  ·unfold FL at z;split at z
   ·rename_i hk;have hk':k=.free:=by simpa using hk
    rw[N7]at z;split at z
    ·rename_i hy;have hy':y=n:=by simpa using hy
     subst hy' hk';exact .inr ⟨C0,(W3 z).symm⟩
    ·exact .inl z
   ·exact .inl z
  ·exact .inr ⟨C1 _ z,e⟩
theorem Rq(env:Env){y:Str}:∀(l:List (Str×NameKind))(a:List (Str×Addr)),(∃c,a.lookup y=some c)->∃c,(l.foldl (FL env) a).lookup y=some c
 |[],_,h=>h
 | (n,k)::r,a,h=>by
  rw[U1];refine Rq env r _ ?_;unfold FL;split
  ·rw[N7];split
   ·exact⟨_,rfl⟩
   ·exact h
  ·exact h
theorem Sw(env:Env){y:Str}:∀(l:List (Str×NameKind))(a:List (Str×Addr)),(y,NameKind.free)∈l->∃c,(l.foldl (FL env) a).lookup y=some c
 |[],_,h=>by simp at h
 | (n,k)::r,a,h=>by
  rw[U1];rcases B8.mp h with e|h
  ·cases e;refine Rq env r _ ⟨(env.cells.lookup y).getD 0,?_⟩;unfold FL;simp only[beq_self_eq_true,A1e,N7]
  ·exact Sw env r _ h
theorem MV{env:Env}{y:Str}:∀{names:List (Str×NameKind)},(∀z∈names,z.2≠.cell) ->
  ((names.map λ(n,k)=>if(k==NameKind.free && env.scope.kind==.function && env.kindOf n==some .cell)then(n,NameKind.cell)else(n,k)).lookup y=some .cell \/
   (names.map λ(n,k)=>if(k==NameKind.free && env.scope.kind==.function && env.kindOf n==some .cell)then(n,NameKind.cell)else(n,k)).lookup y=some .free)->(y,NameKind.free)∈names
 |[],_,h=>by simp at h
 | (n,k)::r,hc,h=>by
  have ih:=@MV env y r (λz hz=>hc z (C1 _ hz));have h':List.lookup y ((if(k==NameKind.free && env.scope.kind==.function && env.kindOf n==some .cell)=true then(n,NameKind.cell)else(n,k))::(r.map λ(n,k)=>if(k==NameKind.free && env.scope.kind==.function && env.kindOf n==some .cell)then(n,NameKind.cell)else(n,k)))=some .cell \/
   List.lookup y ((if(k==NameKind.free && env.scope.kind==.function && env.kindOf n==some .cell)=true then(n,NameKind.cell)else(n,k))::(r.map λ(n,k)=>if(k==NameKind.free && env.scope.kind==.function && env.kindOf n==some .cell)then(n,NameKind.cell)else(n,k)))=some .free:=h
  clear h;by_cases hb:(k==NameKind.free && env.scope.kind==.function && env.kindOf n==some .cell)=true
  ·rw[W2 hb]at h';have hk:k=.free:=by
    simp only[O3,beq_iff_eq]at hb;exact hb.1.1
   simp only[N7]at h';cases hy:y==n with
   |true =>
    have:y=n:=by simpa using hy
    subst this hk;exact C0
   |false =>
    rw[hy]at h';exact C1 _ (ih h')
  ·rw[V8 hb]at h';simp only[N7]at h';cases hy:y==n with
   |true =>
    rw[hy]at h';have:y=n:=by simpa using hy
    subst this;rcases h' with z|z
    ·exact absurd (W3 z) (hc (y,k) C0)
    ·cases W3 z;exact C0
   |false =>
    rw[hy]at h';exact C1 _ (ih h')
theorem JA{env:Env}{y:Str}:∀{names:List (Str×NameKind)},names.lookup y=some .free ->
  ((names.map λ(n,k)=>if(k==NameKind.free && env.scope.kind==.function && env.kindOf n==some .cell)then(n,NameKind.cell)else(n,k)).lookup y=some .cell \/
   (names.map λ(n,k)=>if(k==NameKind.free && env.scope.kind==.function && env.kindOf n==some .cell)then(n,NameKind.cell)else(n,k)).lookup y=some .free)
 |[],h=>by simp at h
 | (n,k)::r,h=>by
  have ih:=@JA env y r;show List.lookup y ((if(k==NameKind.free && env.scope.kind==.function && env.kindOf n==some .cell)=true then(n,NameKind.cell)else(n,k))::(r.map λ(n,k)=>if(k==NameKind.free && env.scope.kind==.function && env.kindOf n==some .cell)then(n,NameKind.cell)else(n,k)))=some .cell \/
   List.lookup y ((if(k==NameKind.free && env.scope.kind==.function && env.kindOf n==some .cell)=true then(n,NameKind.cell)else(n,k))::(r.map λ(n,k)=>if(k==NameKind.free && env.scope.kind==.function && env.kindOf n==some .cell)then(n,NameKind.cell)else(n,k)))=some .free
  rw[N7]at h;by_cases hb:(k==NameKind.free && env.scope.kind==.function && env.kindOf n==some .cell)=true
  ·rw[W2 hb];simp only[N7];cases hy:y==n with
   |true=>exact .inl rfl
   |false=>rw[hy]at h;exact ih h
  ·rw[V8 hb];simp only[N7];cases hy:y==n with
   |true=>rw[hy]at h;exact .inr h
   |false=>rw[hy]at h;exact ih h
section
variable{prog:Program}{w:World}{A:Around}{R:Result->Shared->Prop}{s:Shared}
abbrev SJ(ifs:List Expr)(env:Env):Sem Bool:=forIn ifs true λc r=>if r=true then do let ok <-isTrue c env (eval c env);pure (ForInStep.yield ok)else pure (ForInStep.yield r)
theorem Rm{elt target iter:Expr}{ifs:List Expr}{scope:Scope}{pos:Pos}{it acc:Value}{env:Env}(I:Nat->Shared->Prop)
  (turn:∀n s,I n s->wpAny (model prog w) A (pyNext it) (λr s₁=>match r with
   |none=>R (.ok .next) s₁
   |some v=>wpAny (model prog w) A (letOwnedTupleGo target it v) (λ_ s₀=>wpAny (model prog w) A (assign target env v) (λ_ s₂ =>
     wpAny (model prog w) A (SJ ifs env) (λok s₃ =>
      if ok=true then wpAny (model prog w) A (eval elt env) (λx s₄ =>
       wpAny (model prog w) A (call (.builtin "list.append") [acc,x]) (λ_ s₅=>∃m,m<n/\I m s₅) (λ_ _=>False) s₄) (λ_ _=>False) s₃
      else ∃m,m<n/\I m s₃) (λ_ _=>False) s₂) (λ_ _=>False) s₀) (λ_ _=>False) s₁) (λ_ _=>False) s)
  (n:Nat) (h:I n s):codeAny (model prog w) A (.compLoop (.ListComp elt [⟨target,iter,ifs,0⟩] scope pos) 0 it acc env) R s:=by
 refine codeAny_loop rfl I (λn s hI=>?_) n h;show wpAny _ A ((compTurn (.ListComp elt [⟨target,iter,ifs,0⟩] scope pos) 0 it acc env).onRaise (λx=>do noteFrame x env;theTreesLotGoes x)) _ _ s;refine wpAny_noted ?_;rw[compTurn_list];refine V7 (wpAny_standAt (V7 (Z9 (turn n s hI) (λr s₁ h₁=>?_) λ_ _ h'=>h'.elim)));cases r with
 |none=>exact W1 h₁
 |some v =>
  refine V7 (Z9 h₁ (λ_ s₀ h₀=>?_) λ_ _ h'=>h'.elim);refine V7 (Z9 h₀ (λ_ s₂ h₂=>V7 (Z9 h₂ (λok s₃ h₃=>?_) λ_ _ h'=>h'.elim)) λ_ _ h'=>h'.elim);cases ok with
  |false=>exact W1 ⟨rfl,h₃⟩
  |true =>
   exact V7 (V7 (Z9 h₃ (λx s₄ h₄=>V7 (Z9 h₄ (λ_ s₅ h₅=>W1 (W1 ⟨rfl,h₅⟩)) λ_ _ h'=>h'.elim)) λ_ _ h'=>h'.elim))
end
def Mb(cs:List Nat)(σ:St):St:=cs.map λj=>(σ[j]?).getD none
def cxC(X:Cx)(scope:Scope)(N:List Str)(s:Shared)(H:Hp)(ex:List Addr):Cx :=
 {X with N:=N,s₀:=s,H₀:=H,env:=compEnvC scope (Sx X.env scope.names) s.heap.objs.size X.env,outer:=X.stack,stack:=X.stack,ex:=ex,fn:=λ_=>false,pn:=[],xe:=λ_ _=>False}
def PTs(X:Cx)(ifs:List Expr)(t:TT):Prop :=
 ∀(pins:List (Addr×Obj))(s:Shared)(σ:St)(H:Hp)(Q:Bool->Hp->Prop),Inv X pins σ H s->t σ H Q->wpAny (model X.prog X.w) X.A (SJ ifs X.env) (TP X pins σ Q) X.xe s
def tYes:TT:=λ_ H Q=>Q true H
theorem BL{X:Cx}:PTs X [] tYes:=λ_ _ _ H _ I h=>wpAny_tests_nil ⟨H,I,h⟩
structure BD(X:Cx)(scope:Scope)(N:List Str)(k:Nat)(cs:List Nat):Prop where
 cell:∀y∈scope.names,y.2≠.cell
 kind:scope.kind=.function
 names:∀y∈scope.names,y.2=.local->scope.names.lookup y.1=some .local
 free:∀y∈scope.names,y.2=.free->X.env.scope.names.lookup y.1=some .cell\/X.env.scope.names.lookup y.1=some .free
 len:N.length=k+cs.length
 cap:∀j,j<cs.length->∃x,N[k+j]?=some x/\X.N[cs.getD j 0]?=some x/\scope.names.lookup x=some .free
def Ey(k:Nat)(cs:List Nat)(g:TG)(tc:TT)(te:TE)(J:It)(σ:St)(H1:Hp)(fin:List V->Hp->Prop):Prop :=
 ∃W:Nat->Nat->List V->Hp->Prop,(∃m,W 0 m [] H1)/\∀i m acc H,W i m acc H ->
  (J.stop i H/\fin acc H)\/(J.go i H/\∃Nx:List V->Hp->Prop,(∀acc' H',Nx acc' H'->∃m',m'<m/\W (i+1) m' acc' H')/\∀x H',J.yld i H x H'->g x (List.replicate k none++Mb cs σ) H' fun σ2 H2=>(∃ts:St,ts.length=k/\σ2=ts++Mb cs σ)/\acc.length<sizeLine /\
   tc σ2 H2 λb H3=>if b=true then te σ2 H3 λv H4=>Nx (acc++[v]) H4 else Nx acc H3)
def tComp(k:Nat)(cs:List Nat)(wi:TI)(g:TG)(tc:TT)(te:TE):TE:=fun σ H Q=>wi σ H λJ H1=>Ey k cs g tc te J σ H1 λacc H2=>∀p,H2 p=none->Q (.ref p) (upd H2 p (.lst acc))
section
variable{X:Cx}{tg iter elt:Expr}{ifs:List Expr}{scope:Scope}{pos:Pos}{wi:TI}{g:TG}{tc:TT}{te:TE}{N:List Str}{k:Nat}{cs:List Nat}
theorem Inv.block{pins:List (Addr×Obj)}{σ:St}{H:Hp}{s s':Shared}{ex:List Addr}(S:BD X scope N k cs)(I:Inv X pins σ H s)
  (hex:∀b∈ex,Ga X pins H b/\∃o,s.heap.get? b=some o) (hos:s'.os=s.os) (hg:AllBare s'.gens) (hk:∀b o,s.heap.get? b=some o->s'.heap.get? b=some o) (hn:∃m,s'.heap.Ns s.heap.objs.size m) :
  Inv (cxC X scope N s H ex) [] (List.replicate k none++Mb cs σ) H s':=by
 have lk:∀{x c},(Sx X.env scope.names).lookup x=some c->X.env.cells.lookup x=some c:=λ{x c} h=>by
  rcases OG X.env _ _ h with z|⟨z,e⟩
  ·simp at z
  ·obtain⟨a,ha⟩:=I.ok.has x (S.free _ z rfl);rw[e,ha];rfl
 have nex:∀b,b∈ex->b≠s.heap.objs.size:=λb hb z=>by
  obtain⟨_,o,ho⟩:=hex b hb;exact absurd (C8 ho) (by rw[z];exact N2 _)
 refine⟨⟨I.ok.mod,S.kind,I.ok.glob,I.ok.blt,B6 _,λx y c h1 h2=>I.ok.inj x y c (lk h1) (lk h2),λx hx=>?_,λx c h _=>(nomatch h),I.ok.hd,I.ok.frames,.inl rfl,λb hb=>⟨nex b hb,λx c h=>?_⟩,I.bs,?_,λb o e hb=>?_,λb hb hf=>?_,I.stack,I.stkFree⟩,
  hos,hg,Un.kept hk,?_,λx c h=>?_,I.hok.fresh (B6 _),λx c h=>I.freeC x c (lk h),λp hp=>absurd (show p∈([]:List (Addr×Obj))from hp) A4,I.hok.kept hk,?_⟩
 ·exact Sw X.env _ _ (MV S.cell hx)
 ·exact(hex b hb).1.2.2.2.2.1 x c (lk h)
 ·exact C2 I.ok.bsz I.sz
 ·rcases(hex b hb).1.2.2.2.1 with z|z
  ·exact I.ok.noex b o e z
  ·exact absurd (D5 (C8 e) (C2 I.ok.bsz z)) (N2 _)
 ·rcases B8.mp (I.stkSub b hf)with z|z
  ·exact(hex b hb).1.2.1 z
  ·exact(hex b hb).1.2.2.1 z
 ·obtain⟨m,hm⟩:=hn;obtain⟨mo,hmo,hlo⟩:=I.loc;refine⟨m,hm,λi x v h1 h2 h3=>?_⟩;have hi:k<=i:=by
   by_cases z:i<k
   ·rw[J8 (by simpa using z),S9,W2 z]at h2;cases h2
   ·lia
  obtain⟨j,rfl⟩:∃j,i=k+j:=⟨i-k,by lia⟩
  rw[F2 A4,O0,Nat.add_sub_cancel_left]at h2;unfold Mb at h2;rw[B7]at h2;have hj:j<cs.length:=by
   by_cases z:j<cs.length
   ·exact z
   ·rw[U3 A0]at h2;cases h2
  obtain⟨x',e1,e2,e3⟩:=S.cap j hj;rw[show N[k+j]?=some x from h1]at e1;cases e1;rw[D3 hj]at h2;have h2':(σ[cs[j]]?).getD none=some v:=W3 h2;rw[D9,D3 hj]at e2;have h4:σ[cs[j]]?=some (some v):=by
   cases q:σ[cs[j]]? with
   |none=>rw[q]at h2';cases h2'
   |some w=>rw[q]at h2';rw[show w=some v from h2']
  have kO:=S.free (x,.free) (Z4 e3) rfl;obtain⟨u,ru,l⟩:=hlo _ x v e2 h4 (.inr kO);refine⟨u,ru,?_⟩;rcases l with ⟨z,_⟩|⟨_,c,hc',z⟩
  ·have z':X.env.scope.names.lookup x=some .local:=z;rcases kO with q|q<;>· rw[z']at q;cases q
  ·obtain⟨c',h5⟩:=Sw X.env _ [] (Z4 e3);have h6:=lk h5;rw[hc']at h6;cases h6;obtain⟨o,ho,hd⟩:=z;exact .inr ⟨JA e3,c,h5,o,hk _ _ ho,hd⟩
 ·obtain⟨v,o,ho,hd⟩:=I.cell x c (lk h);exact⟨v,o,hk _ _ ho,hd⟩
 ·show(List.replicate k none++Mb cs σ).length=N.length;rw[C4,O0,S.len];unfold Mb;rw[B5]
end
structure Yg(C:Cx->Prop)(P:Program)(w:World)(K:PySem.W.Frag)(tg:Expr)(J:It)(fp:List Addr)(it:Addr)(tn:Nat->Heap->Prop):Prop where
 obj:∀i h,tn i h->∀b∈fp,∃o,h.get? b=some o/\∀v,o.data≠.cell v
 keep:∀i h h',tn i h->(∀b∈fp,∀o,h.get? b=some o->h'.get? b=some o)->tn i h'
 item:∀(X:Cx),C X->X.prog=P->X.w=w->X.K=K->∀(i:Nat)(pins:List (Addr×Obj))(s:Shared)(σ:St)(H:Hp)(E:Value->Shared->Prop),Inv X pins σ H s->(∀b∈fp,Ga X pins H b)->tn i s.heap->J.go i H ->
  wpAny (model P w) X.A (pyNext (.ref it)) (λr s1=>∃u,r=some u/\wpAny (model P w) X.A (letOwnedTupleGo tg (.ref it) u) (λ_ s2=>∃x H',Inv X pins σ H' s2/\AO x u/\J.yld i H x H'/\tn (i+1) s2.heap/\∀b∈fp,H' b=none) E s1) E s
 done:∀(X:Cx),C X->X.prog=P->X.w=w->X.K=K->∀(i:Nat)(pins:List (Addr×Obj))(s:Shared)(σ:St)(H:Hp)(E:Value->Shared->Prop),Inv X pins σ H s->(∀b∈fp,Ga X pins H b)->tn i s.heap->J.stop i H ->
  wpAny (model P w) X.A (pyNext (.ref it)) (λr s1=>r=none/\Inv X pins σ H s1) E s
 self:∀(A:Around)(i:Nat)(s:Shared)(Q:Value->Shared->Prop)(E:Value->Shared->Prop),tn i s.heap->Q (.ref it) s->wpAny (model P w) A (pyIter (.ref it)) Q E s
theorem Og.q{P:Program}{w:World}{K:PySem.W.Frag}{tg:Expr}{J:It}{fp:List Addr}{it:Addr}{tn:Nat->Heap->Prop}(T:Og P w K tg J fp it tn):Yg (λX=>X.calm=true) P w K tg J fp it tn :=
 ⟨T.obj,T.keep,λX c p w k=>T.item X p w k c,λX c p w k=>T.done X p w k c,T.self⟩
section
variable{X:Cx}{tg iter elt:Expr}{ifs:List Expr}{scope:Scope}{pos:Pos}{wi:TI}{g:TG}{tc:TT}{te:TE}{N:List Str}{k:Nat}{cs:List Nat}{fin:List V->Hp->Prop}
theorem UW{pins:List (Addr×Obj)}{σ:St}{H2:Hp}{sD s1:Shared}{it D:Addr}{fp:List Addr}{tn:Nat->Heap->Prop}{J:It}{n0:Nat}{RR:Result->Shared->Prop}{Cq:Cx->Prop}(hc:∀s H ex,Cq (cxC X scope N s H ex))(S:BD X scope N k cs)
  (hg:∀s H ex,PG (cxC X scope N s H ex) tg g) (ht:∀s H ex,PTs (cxC X scope N s H ex) ifs tc) (he:∀s H ex,PE (cxC X scope N s H ex) elt te)
  (ID:Inv X pins σ H2 sD) (hD:sD.heap.get? D=some {cls:=.type "list",data:=.seq ([]:List Value).toArray n0}) (hD0:X.s₀.heap.objs.size<=D) (fD:Ga X pins H2 D) (nfp:D∉fp)
  (T:Yg Cq X.prog X.w X.K tg J fp it tn) (st:tn 0 sD.heap) (f2:∀b∈fp,Ga X pins H2 b) (hb:Ey k cs g tc te J σ H2 fin)
  (hos:s1.os=sD.os) (hgn:AllBare s1.gens) (hk:∀b o,sD.heap.get? b=some o->s1.heap.get? b=some o) (hn:∃m,s1.heap.Ns sD.heap.objs.size m)
  (hRR:∀(H':Hp)(acc:List V)(s4:Shared),fin acc H'->H' D=none->Inv X pins σ (upd H' D (.lst acc)) s4->(∃m,s4.heap.Ns sD.heap.objs.size m)->Ga X pins (upd H' D (.lst acc)) sD.heap.objs.size->RR (.ok .next) s4) :
  codeAny (model X.prog X.w) X.A (.compLoop (.ListComp elt [⟨tg,iter,ifs,0⟩] scope pos) 0 (.ref it) (.ref D) (compEnvC scope (Sx X.env scope.names) sD.heap.objs.size X.env)) RR s1:=by
 obtain⟨W,⟨m0,w0⟩,turn⟩:=hb;have hobj:∀b,b∈D::fp->∃o,sD.heap.get? b=some o:=λb hb=>by
  rcases B8.mp hb with rfl|z
  ·exact⟨_,hD⟩
  ·obtain⟨o,e,_⟩:=T.obj _ _ st b z;exact⟨o,e⟩
 have hexx:∀b∈D::fp,Ga X pins H2 b/\∃o,sD.heap.get? b=some o:=λb hb=>⟨by
  rcases B8.mp hb with rfl|z
  ·exact fD
  ·exact f2 b z,hobj b hb⟩
 have neC:∀b,b∈D::fp->b≠sD.heap.objs.size:=λb hb z=>by
  obtain⟨o,e⟩:=hobj b hb;exact absurd (C8 e) (by rw[z];exact N2 _)
 have nfr:∀b,b∈D::fp->b∉frs X.stack:=λb hb hf=>by
  rcases B8.mp (ID.stkSub b hf)with z|z
  ·exact(hexx b hb).1.2.1 z
  ·exact(hexx b hb).1.2.2.1 z
 have I0:=ID.block S hexx hos hgn hk hn;have I0ok:=I0.ok;have cells:∀b,b∈D::fp->∀x c,(Sx X.env scope.names).lookup x=some c->c≠b:=λb hb x c h=>(I0ok.exf b hb).2 x c h;have fpok:∀{H':Hp}{pl:List (Addr×Obj)},(∀b∈fp,H' b=none)->(∀p∈pl,p.1=D)->∀b∈fp,Ga (cxC X scope N sD H2 (D::fp)) pl H' b:=λhn hp b hb =>
  ⟨hn b hb,neC b (.tail _ hb),nfr b (.tail _ hb),.inl (.tail _ hb),cells b (.tail _ hb),λp hp' z=>nfp (by
   have:=hp p hp';rw[<-this,z];exact hb)⟩
 refine Rm (λn s'=>∃(i:Nat)(acc:List V)(its:List Value)(nn:Nat)(H':Hp),Inv (cxC X scope N sD H2 (D::fp)) [] (List.replicate k none++Mb cs σ) H' s'/\tn i s'.heap/\(∀b∈fp,H' b=none)/\H' D=none/\acc.length<=sizeLine/\AL acc its /\
  s'.heap.get? D=some {cls:=.type "list",data:=.seq its.toArray nn}/\W i n acc H') ?_ m0
  ⟨0,[],[],n0,H2,I0,T.keep _ _ _ st (λb _ o e=>hk b o e),λb hb=>(f2 b hb).1,fD.1,F8 _,.nil,hk _ _ hD,w0⟩
 rintro n s3 ⟨i,acc,its,nn,H3,I3,st3,fr3,nD3,hl3,v3,e3,w3⟩;have I3p:Inv (cxC X scope N sD H2 (D::fp)) [(D,{cls:=.type "list",data:=.seq its.toArray nn})] (List.replicate k none++Mb cs σ) H3 s3:=I3.pins_of λp hp=>by
  rw[C3]at hp;subst hp;exact⟨e3,nD3,neC D (.head _),nfr D (.head _),λv z=>by cases z⟩
 have one:∀p∈[((D,{cls:=.type "list",data:=.seq its.toArray nn}):Addr×Obj)],p.1=D:=λp hp=>by
  rw[C3]at hp;subst hp;rfl
 rcases turn i n acc H3 w3 with ⟨stop,qf⟩|⟨go,Nx,hNx,step⟩
 ·refine thn (T.done (cxC X scope N sD H2 (D::fp)) (hc _ _ _) rfl rfl rfl i _ s3 _ H3 _ I3p (fpok fr3 one) st3 stop) λr s4 ⟨hr,I4⟩=>?_;subst hr;have IX:Inv X pins σ H3 s4:=ID.call' (ch:=D::fp) I4.os I4.base I4.hok I4.bare λb hb=>⟨(hexx b hb).1.2.2.2.1,(hexx b hb).1.2.1,(hexx b hb).1.2.2.2.2.1,(hexx b hb).1.2.2.2.2.2⟩
  have p4:=(I4.pin (D,{cls:=.type "list",data:=.seq its.toArray nn}) (by show _∈[]++[_];simp)).1;have IY:Inv X pins σ (upd H3 D (.lst acc)) s4:=by
   refine IX.track nD3 (O9 hD0) (O9 (C2 ID.ok.bsz hD0)) (W4 fD.2.1) fD.2.2.2.2.1 fD.2.2.2.2.2 (λb hb z=>fD.2.2.1 (z▸hb)) ?_;exact⟨hl3,its,nn,v3,p4⟩
  refine hRR H3 acc s4 qf nD3 IY ?_ (ID.fpOk (B6 _) ?_)
  ·obtain⟨m,hm,_⟩:=I4.loc;exact⟨m,hm⟩
  ·rw[Ao (W4 (neC D (.head _)))];exact I4.free
 ·refine thn (T.item (cxC X scope N sD H2 (D::fp)) (hc _ _ _) rfl rfl rfl i _ s3 _ H3 (λ_ _=>False) I3p (fpok fr3 one) st3 go) λr s4 ⟨u,hr,h4⟩=>?_;subst hr;refine thn h4 λ_ s5 ⟨x,H5,I5,r5,y5,st5,fr5⟩=>?_;have I5':=I5.pinned (fpok fr5 one) (T.obj _ _ st5);refine thn (hg sD H2 (D::fp) _ s5 _ H5 x u _ I5' r5 (step x H5 y5)) λ_ s6 ⟨σ6,H6,I6,⟨ts,tl,eσ⟩,hz6,q6⟩=>?_;refine thn (ht sD H2 (D::fp) _ s6 σ6 H6 _ I6 q6) λb s7 ⟨H7,I7,q7⟩=>?_;have weak:∀{pl:List (Addr×Obj)}{H':Hp}{s':Shared},Inv (cxC X scope N sD H2 (D::fp)) pl σ6 H' s'->Inv (cxC X scope N sD H2 (D::fp)) [] (List.replicate k none++Mb cs σ) H' s':=λ{pl H' s'} J=>by
   refine(J.weak (σ':=List.replicate k none++Mb cs σ) ?_ λj v e=>?_).pins_of λp hp=>absurd hp A4
   ·rw[eσ,C4,C4,O0,tl]
   ·by_cases z:j<k
    ·rw[J8 (by simpa using z),S9,W2 z]at e;cases e
    ·rw[F2 (by rw[O0];lia),O0]at e;rw[eσ,F2 A0,tl];exact e
  have later:∀{pl:List (Addr×Obj)}{σ':St}{H':Hp}{s':Shared},Inv (cxC X scope N sD H2 (D::fp)) (pl++Lm fp s5.heap) σ' H' s'->tn (i+1) s'.heap/\∀b∈fp,H' b=none:=λ{pl σ' H' s'} J =>
   ⟨T.keep _ _ _ st5 λb hb o e=>(J.pin (b,o) (F5 _ (F5 _ (GJ hb e)))).1,λb hb=>by
    obtain⟨o,e,_⟩:=T.obj _ _ st5 b hb;exact(J.pin (b,o) (F5 _ (F5 _ (GJ hb e)))).2.1⟩
  cases b with
  |false =>
   have q7':Nx acc H7:=by simpa using q7
   obtain⟨m',hm,w7⟩:=hNx _ _ q7';rw[V8 C5];have p7:=I7.pin (D,{cls:=.type "list",data:=.seq its.toArray nn}) (F5 _ (Q5 _ (C3.mpr rfl)));exact⟨m',hm,i+1,acc,its,nn,H7,weak I7,(later I7).1,(later I7).2,p7.2.1,hl3,v3,p7.1,w7⟩
  |true =>
   rw[W2 rfl]at q7;rw[W2 rfl];refine thn (he sD H2 (D::fp) _ s7 σ6 H7 _ I7 q7) λy s8 ⟨v,H8,I8,r8,q8⟩=>?_;obtain⟨m',hm,w8⟩:=hNx _ _ q8;have p8:=I8.pin (D,{cls:=.type "list",data:=.seq its.toArray nn}) (F5 _ (Q5 _ (C3.mpr rfl)));have hlen:=v3.length;refine A0a F.slot_list_append ⟨_,p8.1,rfl⟩ F.entry_list_append (F.args_list_append_2 _ _) (PySem.list_append D its.toArray nn y (by rw[D6];lia)) ⟨p8.1,?_⟩;have q:=PySem.IsL.update p8.1 (·.push y);have eq:its.toArray.push y=(its++[y]).toArray:=by simp
   dsimp only at q;rw[eq]at q;have I8':Inv (cxC X scope N sD H2 (D::fp)) ([]++Lm fp s5.heap) σ6 H8 s8:=I8.pins_of λp hp=>I8.pin p (F5 _ (F5 _ hp));have I9:=I8'.turned (t':=s8.toks) (it:=D) (h':=s8.heap.update D (Obj.mapSeq (·.push y))) (λb o hb e=>(T8 s8.heap (Obj.mapSeq (·.push y)) (W4 hb)).trans e) p8.2.1 (neC D (.head _)) (.inl (.head _)) (cells D (.head _))
    (λp hp z=>nfp (by
     have:=(Ov (fp:=fp) (h:=s5.heap) (p:=p) (by simpa[cxC] using hp)).1;rw[z]at this;exact this))
   refine⟨m',hm,i+1,acc++[v],its++[y],_,H8,weak I9,(later I9).1,(later I9).2,p8.2.1,?_,v3.append (.cons r8 .nil),q,w8⟩;rw[C4,M4];lia
theorem ND{pins:List (Addr×Obj)}{σ:St}{H2:Hp}{s2:Shared}{it:Addr}{fp:List Addr}{tn:Nat->Heap->Prop}{J:It}{RR:Value->Addr->Result->Shared->Prop}{E:Value->Shared->Prop}{Cq:Cx->Prop}(hc:∀s H ex,Cq (cxC X scope N s H ex))(S:BD X scope N k cs)
  (hg:∀s H ex,PG (cxC X scope N s H ex) tg g) (ht:∀s H ex,PTs (cxC X scope N s H ex) ifs tc) (he:∀s H ex,PE (cxC X scope N s H ex) elt te)
  (I2:Inv X pins σ H2 s2) (T:Yg Cq X.prog X.w X.K tg J fp it tn) (st:tn 0 s2.heap) (f2:∀b∈fp,Ga X pins H2 b) (hb:Ey k cs g tc te J σ H2 fin)
  (hRR:∀(D C:Addr)(H':Hp)(acc:List V)(s4:Shared),fin acc H'->H' D=none->Inv X pins σ (upd H' D (.lst acc)) s4->(∃m,s4.heap.Ns C m)->Ga X pins (upd H' D (.lst acc)) C->RR (.ref D) C (.ok .next) s4) :
  wpAny (model X.prog X.w) X.A (newList []) (λacc s₃=>wpAny (model X.prog X.w) X.A (newFunctionEnv scope X.env.globals (Sx X.env scope.names) [] X.env.qual none .none (some X.env)) (λcenv s₄ =>
   codeAny (model X.prog X.w) X.A (.compStart (.ListComp elt [⟨tg,iter,ifs,0⟩] scope pos) 0 (.ref it) acc {cenv with scope:=relabel scope X.env}) (RR acc cenv.locals) s₄) E s₃) E s2:=by
 refine K4 (wpAny_newFunctionEnv S.cell (by intro y hy;simp at hy) (λh₁ hns₁ hsb₁=>?_) S.kind);dsimp only at hns₁ hsb₁⊢;have keepD:∀b o,s2.heap.get? b=some o->(s2.heap.push {cls:=.type "list",dict:=none,data:=.seq ([]:List Value).toArray}).get? b=some o:=λb o e=>B9 _ e;have ID:Inv X pins σ H2 {s2 with heap:=s2.heap.push {cls:=.type "list",dict:=none,data:=.seq ([]:List Value).toArray} }:=I2.kept (t':=s2.toks) keepD;have hD:(s2.heap.push {cls:=.type "list",dict:=none,data:=.seq ([]:List Value).toArray}).get? s2.heap.objs.size=some {cls:=.type "list",data:=.seq ([]:List Value).toArray}:=C6 _ rfl;have nfp:s2.heap.objs.size∉fp:=λz=>by
  obtain⟨o,e,_⟩:=T.obj _ _ st _ z;exact absurd (C8 e) (N2 _)
 have stD:tn 0 (s2.heap.push {cls:=.type "list",dict:=none,data:=.seq ([]:List Value).toArray}):=T.keep _ _ _ st λb _ o e=>keepD b o e;have hk:∀b o,(s2.heap.push {cls:=.type "list",dict:=none,data:=.seq ([]:List Value).toArray}).get? b=some o->h₁.get? b=some o:=λb o e=>hsb₁.extBut b o (F0 (C8 e)) (B9 _ e);have loop:∀s₃:Shared,s₃={s2 with heap:=h₁,toks:=s2.toks+([]:List (Str×Value)).length} ->
   codeAny (model X.prog X.w) X.A (.compLoop (.ListComp elt [⟨tg,iter,ifs,0⟩] scope pos) 0 (.ref it) (.ref s2.heap.objs.size) (compEnvC scope (Sx X.env scope.names) (s2.heap.push {cls:=.type "list",dict:=none,data:=.seq ([]:List Value).toArray}).objs.size X.env))
    (RR (.ref s2.heap.objs.size) (s2.heap.push {cls:=.type "list",dict:=none,data:=.seq ([]:List Value).toArray}).objs.size) s₃:=by
  rintro s₃ rfl;exact UW (sD:={s2 with heap:=s2.heap.push {cls:=.type "list",dict:=none,data:=.seq ([]:List Value).toArray} }) hc S hg ht he ID hD I2.sz (I2.fpOk (B6 _) I2.fresh) nfp T stD f2 hb rfl I2.bare hk ⟨_,hns₁⟩ λH' acc s4=>hRR _ _ H' acc s4
 exact codeAny_compStart_list (loop _ rfl) (T.self _ 0 _ _ _ (T.keep _ _ _ stD λb _ o e=>hk b o e) (loop _ rfl))
theorem Co(hc:X.calm=true)(S:BD X scope N k cs)(hi:PI X tg iter wi)(hg:∀s H ex,PG (cxC X scope N s H ex) tg g)(ht:∀s H ex,PTs (cxC X scope N s H ex) ifs tc)(he:∀s H ex,PE (cxC X scope N s H ex) elt te)
  (hs:∀x,foldedSetIterable iter X.env x=pure x:=by intro _;rfl):PE X (.ListComp elt [⟨tg,iter,ifs,0⟩] scope pos) (tComp k cs wi g tc te):=by
 intro pins s σ H Q I h;rw[eval_ListComp];refine wpAny_comprehension_free (use:=none) rfl hs (NE λy hy hf=>I.ok.has _ (S.free y hy hf)) S.kind S.names (thn (hi pins s σ H _ I h) λv s1 h1=>thn h1 λitv s2 h2=>?_);obtain⟨it,fp,tn,J,H2,rfl,I2,T,st2,f2,hb⟩:=h2;refine ND (RR:=λacc C=>compPost (model X.prog X.w) X.A X.xe none (EP X pins σ Q) acc C) (Cq:=λX=>X.calm=true) (λ_ _ _=>hc) S hg ht he I2 T.q st2 f2 hb λD C H' acc s4 qf nD J4 hn fC=>?_;obtain⟨m,hm⟩:=hn;refine⟨m,hm,λh' sb=>⟨.ref D,upd H' D (.lst acc),?_,rfl,qf D nD⟩⟩;exact J4.turned (t':=s4.toks) (it:=C) (λb o hb e=>(sb.2 b hb).trans e) fC.1 fC.2.1 fC.2.2.2.1 fC.2.2.2.2.1 fC.2.2.2.2.2
def Vl(i k:Nat)(cs:List Nat)(wi:TI)(g:TG)(tc:TT)(te:TE):TS:=λD σ H=>wi σ H λJ H1=>Ey k cs g tc te J σ H1 λacc H2=>∀p,H2 p=none->D.nx (σ.set i (some (.ref p))) (upd H2 p (.lst acc))
theorem Gu{i:Nat}{y:Str}{py spos:Pos}(hc:X.calm=true)(hN:X.N.Nodup)(hi':X.N[i]?=some y)(hy:X.env.scope.names.lookup y=some .local)(S:BD X scope N k cs)(hi:PI X tg iter wi)
  (hg:∀s H ex,PG (cxC X scope N s H ex) tg g) (ht:∀s H ex,PTs (cxC X scope N s H ex) ifs tc) (he:∀s H ex,PE (cxC X scope N s H ex) elt te)
  (hsw:swapsWith (.ListComp elt [⟨tg,iter,ifs,0⟩] scope pos) (some (.Name y py)) spos.line X.env=pure true:=by rfl) (hs:∀x,foldedSetIterable iter X.env x=pure x:=by intro _;rfl) :
  PS X (.Assign [.Name y py] (.ListComp elt [⟨tg,iter,ifs,0⟩] scope pos) spos) (Vl i k cs wi g tc te):=by
 intro pins s σ H D I h;rw[exec_Assign_Name_used _ _ _ _ hsw];refine V7 (wpAny_standAt (V7 ?_));show wpAny _ X.A (do let _ <-comprehension (.ListComp elt [⟨tg,iter,ifs,0⟩] scope pos) scope X.env _ (newList []) false (eval iter X.env) (some (assign (.Name y py) X.env))) _ _ s;refine V7 (Z9 (wpAny_comprehension_free (use:=some (assign (.Name y py) X.env)) (Q:=λ_ s'=>SP X pins D .next s') rfl hs (NE λy hy hf=>I.ok.has _ (S.free y hy hf)) S.kind S.names
  (thn (hi pins s σ H _ I h) λv s1 h1=>thn h1 λitv s2 h2=>?_)) (λ_ s' hq=>W1 (W1 hq)) λ_ _ e=>e)
 obtain⟨it,fp,tn,J,H2,rfl,I2,T,st2,f2,hb⟩:=h2;refine ND (RR:=λacc C=>compPost (model X.prog X.w) X.A X.xe (some (assign (.Name y py) X.env)) (λ_ s'=>SP X pins D .next s') acc C) (Cq:=λX=>X.calm=true) (λ_ _ _=>hc) S hg ht he I2 T.q st2 f2 hb λL C H' acc s4 qf nD J4 hn fC=>?_;obtain⟨m,hm⟩:=hn;show wpAny _ X.A (assign (.Name y py) X.env (.ref L)) _ _ _;refine wpAny_assign_Name (Op J4 hN hi' (.inl hy) (v:=.ref L) rfl (λs5 J5 hsb=>?_) (.inr hy));obtain⟨a,sb,ha⟩:=hsb;have nCa:C≠a:=by
  rcases ha with z|z
  ·rw[z];exact fC.2.1
  ·exact λq=>fC.2.2.2.2.1 y a z q.symm
 refine⟨m,hm.sameBut sb nCa,λh' sb'=>⟨σ.set i (some (.ref L)),upd H' L (.lst acc),?_,qf L nD⟩⟩;exact J5.turned (t':=s5.toks) (it:=C) (λb o hb e=>(sb'.2 b hb).trans e) fC.1 fC.2.1 fC.2.2.2.1 fC.2.2.2.2.1 fC.2.2.2.2.2
end
section
variable{K:PySem.W.Frag}{k:Nat}{cs:List Nat}{g:TG}{tc:TT}{te:TE}{σ:St}{H:Hp}{fin:List V->Hp->Prop}
abbrev Bt(k:Nat)(cs:List Nat)(g:TG)(tc:TT)(te:TE)(σ:St)(x:V)(acc:List V)(H:Hp)(Nx:List V->Hp->Prop):Prop :=
 g x (List.replicate k none++Mb cs σ) H fun σ2 H2=>(∃ts:St,ts.length=k/\σ2=ts++Mb cs σ)/\acc.length<sizeLine/\tc σ2 H2 λb H3=>if b=true then te σ2 H3 λv H4=>Nx (acc++[v]) H4 else Nx acc H3
theorem Ed{a:Addr}{xs:List V}(Pv:Nat->List V->Hp->Prop)(h0:Pv 0 [] H)(hl:∀i acc H,i<=xs.length->Pv i acc H->SqL K H a xs)
  (hs:∀i x acc H,xs[i]?=some x->Pv i acc H->Bt k cs g tc te σ x acc H (Pv (i+1))) (hd:∀acc H,Pv xs.length acc H->fin acc H):Ey k cs g tc te (Itl K a) σ H fin:=by
 refine⟨λi m acc H=>m=xs.length-i/\i<=xs.length/\Pv i acc H,⟨xs.length,by simp,F8 _,h0⟩,?_⟩;rintro i m acc H ⟨rfl,hi,p⟩;have q:=hl i acc H hi p;by_cases hlt:i<xs.length
 ·refine .inr ⟨⟨xs,xs[i],q,by simp[hlt]⟩,Pv (i+1),λacc' H' p'=>⟨xs.length-(i+1),by lia,rfl,hlt,p'⟩,λx H' y=>?_⟩;obtain⟨e,y⟩:=y;subst e;exact hs i x acc _ (y xs q) p
 ·have e:i=xs.length:=by lia
  subst e;exact .inl ⟨⟨xs,q,B6 _⟩,hd acc H p⟩
theorem PY{a:Addr}{xs:List V}(Pv:Nat->List V->Hp->Prop)(h0:Pv 0 [] H)(hl:∀i acc H,i<=xs.length->Pv i acc H->SqT K H a xs)
  (hs:∀i x acc H,xs[i]?=some x->Pv i acc H->Bt k cs g tc te σ x acc H (Pv (i+1))) (hd:∀acc H,Pv xs.length acc H->fin acc H):Ey k cs g tc te (Itt K a) σ H fin:=by
 refine⟨λi m acc H=>m=xs.length-i/\i<=xs.length/\Pv i acc H,⟨xs.length,by simp,F8 _,h0⟩,?_⟩;rintro i m acc H ⟨rfl,hi,p⟩;have q:=hl i acc H hi p;by_cases hlt:i<xs.length
 ·refine .inr ⟨⟨xs,xs[i],q,by simp[hlt]⟩,Pv (i+1),λacc' H' p'=>⟨xs.length-(i+1),by lia,rfl,hlt,p'⟩,λx H' y=>?_⟩;obtain⟨e,y⟩:=y;subst e;exact hs i x acc _ (y xs q) p
 ·have e:i=xs.length:=by lia
  subst e;exact .inl ⟨⟨xs,q,B6 _⟩,hd acc H p⟩
theorem UZ{lo:Int}{n:Nat}(Pv:Nat->List V->Hp->Prop)(h0:Pv 0 [] H)(hs:∀i acc H,i<n->Pv i acc H->Bt k cs g tc te σ (.int (lo+i)) acc H (Pv (i+1)))(hd:∀acc H,Pv n acc H->fin acc H):Ey k cs g tc te (Itr lo n) σ H fin:=by
 refine⟨λi m acc H=>m=n-i/\i<=n/\Pv i acc H,⟨n,by simp,F8 _,h0⟩,?_⟩;rintro i m acc H ⟨rfl,hi,p⟩;by_cases hlt:i<n
 ·refine .inr ⟨hlt,Pv (i+1),λacc' H' p'=>⟨n-(i+1),by lia,rfl,hlt,p'⟩,λx H' y=>?_⟩;obtain⟨e,y⟩:=y;subst e y;exact hs i acc _ hlt p
 ·have e:i=n:=by lia
  subst e;exact .inl ⟨B6 _,hd acc H p⟩
end
section
variable{prog:Program}{w:World}{A:Around}{E:Value->Shared->Prop}{s:Shared}
theorem JM{I t:Addr}{k:Nat}{vs:Array Value}{v:Value}{Q:Value->Shared->Prop}(hI:s.heap.IsTupleIter I t k)(hV:s.heap.IsTuple t vs)(hv:vs[k]?=some v)
  (q:∀g,g.IsTupleIter I t (k+1)->Heap.SameBut I s.heap g->Q v {s with heap:=g}):wpAny (model prog w) A (Builtin.SmallTypes.nextOf (.ref I)) Q E s:=by
 obtain⟨oI,eI,cI,dI⟩:=id hI;obtain⟨oV,eV,_,nV,dV⟩:=hV;unfold Builtin.SmallTypes.nextOf;refine V7 (wpAny_callSpecial?_slot (name:=Str.ofString "__next__") hI.typeIs K5 (X6 K5 hI.typeIs F.entry_tuple_iterator_next ?_ (F.args_tuple_iterator_next_1 _)));show wpAny _ _ (field (.ref I) 0 >>= _) _ _ s;refine V7 (Z8 eI dI (x:=.ref t) rfl ?_);show wpAny _ _ (if(Value.ref t==Value.none)=true then _ else _) _ _ s;rw[V8 (λz:(Value.ref t==Value.none)=true=>C5 z)];show wpAny _ _ (field (.ref I) 1 >>= _) _ _ s;refine V7 (Z8 eI dI (x:=.int k 0) rfl ?_);show wpAny _ _ (seqItems? (.ref t) >>= _) _ _ s;refine V7 (X7 eV dV ?_);simp only[J1,hv];refine V7 (A2e eI dI A4 (W1 ⟨v,rfl,W1 (q _ ?_ (X5 ..))⟩));exact⟨_,Q4 _ eI (Obj.isFreed_of_fields (A0h dI _)),(Obj.cls_mapFields ..).trans cI,by rw[A0h dI];simp[rawInt]⟩
theorem Lr{I t:Addr}{k:Nat}{vs:Array Value}{Q:Value->Shared->Prop}(hA:A.handled=none)(hI:s.heap.IsTupleIter I t k)(hV:s.heap.IsTuple t vs)(hv:vs[k]?=none)
  (q:∀g e,Heap.ExtBut I s.heap g->(∃o,g.get? e=some o/\o.cls=.type "StopIteration")->E (.ref e) {s with heap:=g}):wpAny (model prog w) A (Builtin.SmallTypes.nextOf (.ref I)) Q E s:=by
 obtain⟨oI,eI,cI,dI⟩:=id hI;obtain⟨oV,eV,_,nV,dV⟩:=hV;unfold Builtin.SmallTypes.nextOf;refine V7 (wpAny_callSpecial?_slot (name:=Str.ofString "__next__") hI.typeIs K5 (X6 K5 hI.typeIs F.entry_tuple_iterator_next ?_ (F.args_tuple_iterator_next_1 _)));show wpAny _ _ (field (.ref I) 0 >>= _) _ _ s;refine V7 (Z8 eI dI (x:=.ref t) rfl ?_);show wpAny _ _ (if(Value.ref t==Value.none)=true then _ else _) _ _ s;rw[V8 (λz:(Value.ref t==Value.none)=true=>C5 z)];show wpAny _ _ (field (.ref I) 1 >>= _) _ _ s;refine V7 (Z8 eI dI (x:=.int k 0) rfl ?_);show wpAny _ _ (seqItems? (.ref t) >>= _) _ _ s;refine V7 (X7 eV dV ?_);simp only[J1,hv];refine V7 (wpAny_rule (V7 (A2e eI dI A4 ?_)));show wpAny _ _ (newExc (.type "StopIteration") [] >>= _) _ _ _;refine V7 ?_;simp only[newExc,newTuple];refine V7 (K4 ?_ (by size_fits));refine V7 (m:=firstArgMember _ _) (wpAny_of_eq (a:=Value.none) (by first|rfl|(simp only[firstArgMember];rfl)) (K4 ?_ (by size_fits)));simp only[raiseNew];refine V7 (wpAny_handled ?_)
 first|rw[show A.in1.handled=none from hA]|rw[hA]
 refine V7 (W1 (wpAny_throw (q _ _ (((X5 ..).extBut.push _).push _) ⟨_,C6 _ rfl,rfl⟩)))
def Ca:Bool->Heap->Addr->Addr->Nat->Prop
 |true,h,I,l,k=>h.IsTupleIter I l k
 |false,h,I,l,k=>h.IsListIter I l k
def Dg:Bool->Heap->Addr->Array Value->Prop
 |true,h,l,vs=>h.IsTuple l vs
 |false,h,l,vs=>h.IsList l vs
def SqX(K:PySem.W.Frag):Bool->Hp->Addr->List V->Prop
 |true,H,a,xs=>SqT K H a xs
 |false,H,a,xs=>SqL K H a xs
theorem Ca.move{b:Bool}{h g:Heap}{I l:Addr}{k:Nat}(x:Ca b h I l k)(e:∀o,h.get? I=some o->g.get? I=some o):Ca b g I l k:=by
 cases b with
 |true=>obtain⟨o,ho,r⟩:=x;exact⟨o,e _ ho,r⟩
 |false=>obtain⟨o,ho,r⟩:=x;exact⟨o,e _ ho,r⟩
theorem Ca.there{b:Bool}{h:Heap}{I l:Addr}{k:Nat}(x:Ca b h I l k):∃o,h.get? I=some o/\∀v,o.data≠.cell v:=by
 cases b with
 |true=>obtain⟨o,ho,_,d⟩:=x;exact⟨o,ho,λv z=>by rw[d]at z;cases z⟩
 |false=>obtain⟨o,ho,_,d⟩:=x;exact⟨o,ho,λv z=>by rw[d]at z;cases z⟩
theorem Dg.move{b:Bool}{h g:Heap}{l:Addr}{vs:Array Value}(x:Dg b h l vs)(e:∀o,h.get? l=some o->g.get? l=some o):Dg b g l vs:=by
 cases b with
 |true=>obtain⟨o,ho,r⟩:=x;exact⟨o,e _ ho,r⟩
 |false=>obtain⟨o,ho,r⟩:=x;exact⟨o,e _ ho,r⟩
theorem CU{b:Bool}{I l:Addr}{k:Nat}{vs:Array Value}{v:Value}{Q:Value->Shared->Prop}(hI:Ca b s.heap I l k)(hV:Dg b s.heap l vs)(hv:vs[k]?=some v)
  (q:∀g,Ca b g I l (k+1)->Heap.SameBut I s.heap g->Q v {s with heap:=g}):wpAny (model prog w) A (Builtin.SmallTypes.nextOf (.ref I)) Q E s:=by
 cases b with
 |true=>exact JM hI hV hv q
 |false=>exact wpAny_nextOf_list_item hI hV hv q
theorem EU{b:Bool}{I l:Addr}{k:Nat}{vs:Array Value}{Q:Value->Shared->Prop}(hA:A.handled=none)(hI:Ca b s.heap I l k)(hV:Dg b s.heap l vs)(hv:vs[k]?=none)
  (q:∀g e,Heap.ExtBut I s.heap g->(∃o,g.get? e=some o/\o.cls=.type "StopIteration")->E (.ref e) {s with heap:=g}):wpAny (model prog w) A (Builtin.SmallTypes.nextOf (.ref I)) Q E s:=by
 cases b with
 |true=>exact Lr hA hI hV hv q
 |false=>exact wpAny_nextOf_list_end hA hI hV hv q
theorem EG{b:Bool}{l:Addr}{vs:Array Value}{Q:Value->Shared->Prop}(hV:Dg b s.heap l vs)
  (q:∀g,Ca b g s.heap.objs.size l 0->g.objs.size=s.heap.objs.size+1->(∀c o,s.heap.get? c=some o->g.get? c=some o)->Q (.ref s.heap.objs.size) {s with heap:=g}):wpAny (model prog w) A (pyIter (.ref l)) Q E s:=by
 cases b with
 |true=>exact wpAny_pyIter_tuple hV (q _ ⟨_,C6 _ rfl,rfl,rfl⟩ (N9 ..) λc o e=>B9 _ e)
 |false=>exact A0c hV (q _ ⟨_,C6 _ rfl,rfl,rfl⟩ (N9 ..) λc o e=>B9 _ e)
structure Ua(z U O i j l m:Addr):Prop where
 nd:[z,U,O,i,j].Nodup
 l:l∉[z,O,i,j]
 m:m∉[z,O,i,j]
theorem Vc{b c:Bool}{z U O i j l m:Addr}{k:Nat}{xs ys:Array Value}{x y p q:Value}{Q:Value->Shared->Prop}(D:Ua z U O i j l m)(hZ:IsZip s.heap z U O .none)(hU:IsPair s.heap U (.ref i) (.ref j))(hO:IsPair s.heap O p q)
  (hi:Ca b s.heap i l k) (hj:Ca c s.heap j m k) (hl:Dg b s.heap l xs) (hm:Dg c s.heap m ys) (hx:xs[k]?=some x) (hy:ys[k]?=some y)
  (fin:∀g,IsZip g z U O (rawInt s.heap.objs.size)->IsPair g O x y->Ca b g i l (k+1)->Ca c g j m (k+1)->IsPair g s.heap.objs.size x y->g.objs.size=s.heap.objs.size+1 ->
   (∀a o,a∉[z,O,i,j]->s.heap.get? a=some o->g.get? a=some o)->Q (.ref s.heap.objs.size) {s with heap:=g}) :
  wpAny (model prog w) A (Builtin.«zip.__next__» ⟨[.ref z],[]⟩) (λr s'=>∃v,r=.done (.ret v)/\Q v s') E s:=by
 obtain⟨nd,nl,nm⟩:=D;simp only[M0,B8,D0,Y5,A1c,P9,and_true,A0g]at nd nl nm;obtain⟨⟨zU,zO,zi,zj⟩,⟨UO,Ui,Uj⟩,⟨Oi,Oj⟩,ij⟩:=nd;obtain⟨lz,lO,li,lj⟩:=nl;obtain⟨mz,mO,mi,mj⟩:=nm;show wpAny _ _ (field (.ref z) 2 >>= _) _ _ _;refine V7 (Z8 hZ rfl (x:=.bool false) rfl ?_);show wpAny _ _ (field (.ref z) 3 >>= _) _ _ _;refine V7 (Z8 hZ rfl (x:=.ref U) rfl (V7 (X7 hU rfl ?_)));show wpAny _ _ (Builtin.SmallTypes.ownedTupleIsFree (.ref z) >>= _) _ _ _;refine V7 ?_;unfold Builtin.SmallTypes.ownedTupleIsFree;refine V7 (Z8 hZ rfl (x:=.none) rfl (W1 ?_));simp only[A1e];refine V7 (wpAny_rule (V7 (Z8 hZ rfl (x:=.ref O) rfl (V7 (X9 hZ A4 λh1 hZ1 s1=>?_)))));replace hZ1:IsZip h1 z U O .ellipsis:=hZ1;refine V7 ?_;simp only[List.zipIdx_cons,List.zipIdx_nil,List.forIn_cons,List.forIn_nil];refine V7 (V7 (A2h ?_));show wpAny _ _ (Builtin.SmallTypes.nextOf (.ref i) >>= _) _ _ _;refine V7 (CU (hi.move λo e=>s1.extBut _ _ (W4 zi) e) (hl.move λo e=>s1.extBut _ _ lz e) hx λh2 hi2 s2=>W1 ?_);have hO2:IsPair h2 O p q:=s2.extBut _ _ Oi (s1.extBut _ _ (W4 zO) hO);refine V7 (X7 hO2 rfl (V7 (A2f hO2 λh3 hO3 s3=>?_)));replace hO3:IsPair h3 O x q:=hO3;refine V7 (wpAny_letGo (W1 (V7 (V7 (A2h ?_)))));show wpAny _ _ (Builtin.SmallTypes.nextOf (.ref j) >>= _) _ _ _;refine V7 (CU (hj.move λo e=>s3.extBut _ _ (W4 Oj) (s2.extBut _ _ (W4 ij) (s1.extBut _ _ (W4 zj) e))) (hm.move λo e=>s3.extBut _ _ mO (s2.extBut _ _ mi (s1.extBut _ _ mz e))) hy λh4 hj4 s4=>W1 ?_);have hO4:IsPair h4 O x q:=s4.extBut _ _ Oj hO3;refine V7 (X7 hO4 rfl (V7 (A2f hO4 λh5 hO5 s5=>?_)));replace hO5:IsPair h5 O x y:=hO5;refine V7 (wpAny_letGo (W1 (W1 (V7 (X7 hO5 rfl (V7 (wpAny_newTuple ?_)))))));have sz:h5.objs.size=s.heap.objs.size:=by rw[s5.1,s4.1,s3.1,s2.1,s1.1]
 have hZ5:IsZip h5 z U O .ellipsis:=s5.extBut _ _ zO (s4.extBut _ _ zj (s3.extBut _ _ zO (s2.extBut _ _ zi hZ1)));have kp:∀a o,a∉[z,O,i,j]->s.heap.get? a=some o->h5.get? a=some o:=λa o ha e=>by
  simp only[B8,D0,Y5,A1c]at ha;exact s5.extBut _ _ ha.2.1 (s4.extBut _ _ ha.2.2.2 (s3.extBut _ _ ha.2.1 (s2.extBut _ _ ha.2.2.1 (s1.extBut _ _ ha.1 e))))
 have hi5:Ca b h5 i l (k+1):=hi2.move λo e=>s5.extBut _ _ (W4 Oi) (s4.extBut _ _ ij (s3.extBut _ _ (W4 Oi) e));have hj5:Ca c h5 j m (k+1):=hj4.move λo e=>s5.extBut _ _ (W4 Oj) e;have zlt:z<h5.objs.size:=C8 hZ5;show wpAny _ _ (Builtin.SmallTypes.ownedTupleHandOut (.ref z) (.ref h5.objs.size) >>= _) _ _ _;refine V7 ?_;unfold Builtin.SmallTypes.ownedTupleHandOut;have hZ6:IsZip (h5.push {cls:=.type "tuple",data:=.seq #[x,y]}) z U O .ellipsis:=B9 _ hZ5;refine V7 (X9 hZ6 A4 λh7 hZ7 s7=>?_);replace hZ7:IsZip h7 z U O (rawInt h5.objs.size):=hZ7;refine X9 hZ7 A4 λh8 hZ8 s8=>?_;replace hZ8:IsZip h8 z U O (rawInt h5.objs.size):=hZ8;have up:∀a o,a≠z->h5.get? a=some o->h8.get? a=some o:=λa o na e=>s8.extBut _ _ na (s7.extBut _ _ na (B9 _ e));have hT:IsPair h8 h5.objs.size x y:=s8.extBut _ _ (T4 zlt) (s7.extBut _ _ (T4 zlt) (C6 _ rfl));have sz8:h8.objs.size=h5.objs.size+1:=by rw[s8.1,s7.1,N9]
 rw[sz]at hZ8 hT sz8;refine W1 ⟨_,rfl,?_⟩;show Q (.ref h5.objs.size) _;rw[sz];refine fin h8 hZ8 (up _ _ (W4 zO) hO5) (hi5.move λo e=>up _ o (W4 zi) e) (hj5.move λo e=>up _ o (W4 zj) e) hT sz8 λa o ha e=>up a o ?_ (kp a o ha e);simp only[B8,D0,Y5,A1c]at ha;exact ha.1
theorem Vb{b c:Bool}{z U O i j l m:Addr}{k:Nat}{xs ys:Array Value}{p q:Value}{Q:Fin->Shared->Prop}(hA:A.handled=none)(D:Ua z U O i j l m)(hZ:IsZip s.heap z U O .none)(hU:IsPair s.heap U (.ref i) (.ref j))(hO:IsPair s.heap O p q)
  (hi:Ca b s.heap i l k) (hj:Ca c s.heap j m k) (hl:Dg b s.heap l xs) (hm:Dg c s.heap m ys) (hend:xs[k]?=none\/ys[k]?=none)
  (fin:∀g e,(∀a o,a∉[z,O,i,j]->s.heap.get? a=some o->g.get? a=some o)->(∃o,g.get? e=some o/\o.cls=.type "StopIteration")->E (.ref e) {s with heap:=g}) :
  wpAny (model prog w) A (Builtin.«zip.__next__» ⟨[.ref z],[]⟩) Q E s:=by
 obtain⟨nd,nl,nm⟩:=D;simp only[M0,B8,D0,Y5,A1c,P9,and_true,A0g]at nd nl nm;obtain⟨⟨zU,zO,zi,zj⟩,⟨UO,Ui,Uj⟩,⟨Oi,Oj⟩,ij⟩:=nd;obtain⟨lz,lO,li,lj⟩:=nl;obtain⟨mz,mO,mi,mj⟩:=nm;show wpAny _ _ (field (.ref z) 2 >>= _) _ _ _;refine V7 (Z8 hZ rfl (x:=.bool false) rfl ?_);show wpAny _ _ (field (.ref z) 3 >>= _) _ _ _;refine V7 (Z8 hZ rfl (x:=.ref U) rfl (V7 (X7 hU rfl ?_)));show wpAny _ _ (Builtin.SmallTypes.ownedTupleIsFree (.ref z) >>= _) _ _ _;refine V7 ?_;unfold Builtin.SmallTypes.ownedTupleIsFree;refine V7 (Z8 hZ rfl (x:=.none) rfl (W1 ?_));simp only[A1e];refine V7 (wpAny_rule (V7 (Z8 hZ rfl (x:=.ref O) rfl (V7 (X9 hZ A4 λh1 hZ1 s1=>?_)))));replace hZ1:IsZip h1 z U O .ellipsis:=hZ1;refine V7 ?_;simp only[List.zipIdx_cons,List.zipIdx_nil,List.forIn_cons,List.forIn_nil];refine V7 (V7 (A2h ?_));show wpAny _ _ (Builtin.SmallTypes.nextOf (.ref i) >>= _) _ _ _;have out:∀{a:Addr},a∉[z,O,i,j]->a≠z/\a≠O/\a≠i/\a≠j:=λha=>by simpa only[B8,D0,Y5,A1c] using ha
 cases hx:xs[k]? with
 |none =>
  refine V7 (EU hA (hi.move λo e=>s1.extBut _ _ (W4 zi) e) (hl.move λo e=>s1.extBut _ _ lz e) hx λh2 e s2 he=>?_);obtain⟨oe,hoe,hce⟩:=he;have hZ2:IsZip h2 z U O .ellipsis:=s2 _ _ zi hZ1;have ez:e≠z:=λt=>by subst t;rw[hZ2]at hoe;cases hoe;simp at hce
  exact X9 hZ2 A4 λh3 _ s3=>fin h3 e (λa o ha t=>s3.extBut _ _ (out ha).1 (s2 _ _ (out ha).2.2.1 (s1.extBut _ _ (out ha).1 t))) ⟨oe,s3.extBut _ _ ez hoe,hce⟩
 |some x =>
  have hy:ys[k]?=none:=by
   rcases hend with t|t
   ·rw[hx]at t;cases t
   ·exact t
  refine V7 (CU (hi.move λo e=>s1.extBut _ _ (W4 zi) e) (hl.move λo e=>s1.extBut _ _ lz e) hx λh2 hi2 s2=>W1 ?_);have hO2:IsPair h2 O p q:=s2.extBut _ _ Oi (s1.extBut _ _ (W4 zO) hO);refine V7 (X7 hO2 rfl (V7 (A2f hO2 λh3 hO3 s3=>?_)));refine V7 (wpAny_letGo (W1 (V7 (V7 (A2h ?_)))));show wpAny _ _ (Builtin.SmallTypes.nextOf (.ref j) >>= _) _ _ _;refine V7 (EU hA (hj.move λo e=>s3.extBut _ _ (W4 Oj) (s2.extBut _ _ (W4 ij) (s1.extBut _ _ (W4 zj) e))) (hm.move λo e=>s3.extBut _ _ mO (s2.extBut _ _ mi (s1.extBut _ _ mz e))) hy λh4 e s4 he=>?_);obtain⟨oe,hoe,hce⟩:=he;have hZ4:IsZip h4 z U O .ellipsis:=s4 _ _ zj (s3.extBut _ _ zO (s2.extBut _ _ zi hZ1));have ez:e≠z:=λt=>by subst t;rw[hZ4]at hoe;cases hoe;simp at hce
  exact X9 hZ4 A4 λh5 _ s5=>fin h5 e (λa o ha t=>s5.extBut _ _ (out ha).1 (s4 _ _ (out ha).2.2.2 (s3.extBut _ _ (out ha).2.1 (s2.extBut _ _ (out ha).2.2.1 (s1.extBut _ _ (out ha).1 t))))) ⟨oe,s5.extBut _ _ ez hoe,hce⟩
theorem Vd(g2:Heap)(n:Nat)(e2:g2.objs.size=n+2)(i j:Value):∃g5,g5=((g2.push {cls:=.type "tuple",data:=.seq #[i,j]}).push {cls:=.type "tuple",data:=.seq #[.none,.none]}).push
   {cls:=.type "zip",data:=.fields #[.none,.bool false,.bool false,.ref g2.objs.size,.ref (g2.push {cls:=.type "tuple",data:=.seq #[i,j]}).objs.size]} /\
  IsZip g5 (n+4) (n+2) (n+3) .none/\IsPair g5 (n+2) i j/\IsPair g5 (n+3) .none .none/\(∀a o,g2.get? a=some o->g5.get? a=some o) /\
  ((g2.push {cls:=.type "tuple",data:=.seq #[i,j]}).push {cls:=.type "tuple",data:=.seq #[.none,.none]}).objs.size=n+4:=by
 have e3:(g2.push {cls:=.type "tuple",data:=.seq #[i,j]}).objs.size=n+3:=by rw[N9,e2]
 have e4:((g2.push {cls:=.type "tuple",data:=.seq #[i,j]}).push {cls:=.type "tuple",data:=.seq #[.none,.none]}).objs.size=n+4:=by rw[N9,e3]
 refine⟨_,rfl,?_,?_,?_,λa o e=>B9 _ (B9 _ (B9 _ e)),e4⟩
 ·have q:=C6 ((g2.push {cls:=.type "tuple",data:=.seq #[i,j]}).push {cls:=.type "tuple",data:=.seq #[.none,.none]}) (o:={cls:=.type "zip",data:=.fields #[.none,.bool false,.bool false,.ref g2.objs.size,.ref (g2.push {cls:=.type "tuple",data:=.seq #[i,j]}).objs.size]}) rfl;rw[e4]at q;show _=some _;rw[q,e2,e3]
 ·have q:=B9 {cls:=.type "zip",data:=.fields #[.none,.bool false,.bool false,.ref g2.objs.size,.ref (g2.push {cls:=.type "tuple",data:=.seq #[i,j]}).objs.size]} (B9 {cls:=.type "tuple",data:=.seq #[.none,.none]} (C6 g2 (o:={cls:=.type "tuple",data:=.seq #[i,j]}) rfl));rw[<-e2];exact q
 ·have q:=B9 {cls:=.type "zip",data:=.fields #[.none,.bool false,.bool false,.ref g2.objs.size,.ref (g2.push {cls:=.type "tuple",data:=.seq #[i,j]}).objs.size]} (C6 (g2.push {cls:=.type "tuple",data:=.seq #[i,j]}) (o:={cls:=.type "tuple",data:=.seq #[.none,.none]}) rfl);rw[<-e3];exact q
theorem UE{b c:Bool}(l m:Addr)(xs ys:Array Value):Meets (Builtin.«zip.__new__» ⟨[.type "zip",.ref l,.ref m],[]⟩) (λ_ R s=>Dg b s.heap l xs/\Dg c s.heap m ys /\
   ∀g,IsZip g (s.heap.objs.size+4) (s.heap.objs.size+2) (s.heap.objs.size+3) .none->IsPair g (s.heap.objs.size+2) (.ref s.heap.objs.size) (.ref (s.heap.objs.size+1))->IsPair g (s.heap.objs.size+3) .none .none ->
    Ca b g s.heap.objs.size l 0->Ca c g (s.heap.objs.size+1) m 0->(∀a o,s.heap.get? a=some o->g.get? a=some o)->R (.ok (.ret (.ref (s.heap.objs.size+4)))) {s with heap:=g}) :=
 .of_wp λprog w A R s h=>by
  obtain⟨hp,g,d,tk,os⟩:=s;obtain⟨hl,hm,h⟩:=h;have hsub:=sub_zip
  wp_walk using EG hl
  intro g1 i1 z1 k1;have hm1:Dg c (Shared.heap ⟨g1,g,d,tk,os⟩) m ys:=hm.move λo e=>k1 _ o e
  wp_walk using EG hm1
  intro g2 i2 z2 k2
  wp_walk
  refine⟨_,rfl,?_⟩;have e1:g1.objs.size=hp.objs.size+1:=z1;have e2:g2.objs.size=hp.objs.size+2:=by rw[show g2.objs.size=g1.objs.size+1 from z2,e1]
  obtain⟨g5,e5,a1,a2,a3,k5,s5⟩:=Vd g2 hp.objs.size e2 (.ref hp.objs.size) (.ref g1.objs.size);have a2':IsPair g5 (hp.objs.size+2) (.ref hp.objs.size) (.ref (hp.objs.size+1)):=by rw[<-e1];exact a2
  have i2':Ca c g2 (hp.objs.size+1) m 0:=by rw[<-e1];exact i2
  have key:=h g5 a1 a2' a3 ((i1.move λo e=>k2 _ o e).move λo e=>k5 _ o e) (i2'.move λo e=>k5 _ o e) λa o e=>k5 _ _ (k2 _ _ (k1 _ _ e));dsimp only at key;rw[e5,<-s5]at key;exact key
theorem Inv.turnedL{X:Cx}{pins:List (Addr×Obj)}{σ:St}{H:Hp}{s:Shared}{g:Heap}{tk:Nat}{ch:List Addr}(I:Inv X pins σ H s)(k:∀b o,b∉ch->s.heap.get? b=some o->g.get? b=some o)(hch:∀b∈ch,Ga X pins H b):Inv X pins σ H {s with heap:=g,toks:=tk}:=by
 have nch:∀b u,H b=some u->b∉ch:=λb u e z=>by rw[(hch b z).1]at e;cases e
 refine I.step (g':=s.gens) (d':=s.drawn) (ch:=ch) (λb hb=>⟨(hch b hb).2.2.2.1,(hch b hb).2.1,(hch b hb).2.2.2.2.1,(hch b hb).2.2.2.2.2⟩) (λb o _ _ hc e _=>k b o hc e) (λb o _ _ hc e _=>⟨o.slots,k b o hc e⟩) (λ_ _ _ _ n=>n)
  (λb o hc e=>⟨o,k b o hc e⟩) (λ_ _ e=>e) (λ_ _ _ e=>e) (λb ps e=>⟨#[],by rw[e];simp⟩) (λm hm=>?_) (λb u e=>?_) I.bare
 ·obtain⟨o,es,ep,ho,r⟩:=hm;exact⟨o,es,ep,k _ o (λz=>(hch _ z).2.1 rfl) ho,r⟩
 ·refine(I.hok b u e).stay (λc v hc q=>k c v ?_ q) (λ_ q=>q) λ_ _ q=>q;rcases hc with z|z
  ·rw[z];exact nch b u e
  ·exact nch c _ z
theorem Inv.pair{X:Cx}{pins:List (Addr×Obj)}{σ:St}{H:Hp}{s:Shared}{g:Heap}{tk n:Nat}{ch:List Addr}{x y:V}{u v:Value}(I:Inv X pins σ H s)(k:∀b o,b∉ch->s.heap.get? b=some o->g.get? b=some o)(hch:∀b∈ch,Ga X pins H b)
  (rx:AO x u) (ry:AO y v) (e:g.get? s.heap.objs.size=some {cls:=.type "tuple",data:=.seq #[u,v] n}):H s.heap.objs.size=none/\Inv X pins σ (upd H s.heap.objs.size (.tup [x,y])) {s with heap:=g,toks:=tk}:=by
 have f:=I.fpOk (B6 _) I.fresh;refine⟨f.1,(I.turnedL (tk:=tk) k hch).track f.1 (O9 I.sz) (O9 (C2 I.ok.bsz I.sz)) (W4 f.2.1) f.2.2.2.2.1 f.2.2.2.2.2 (λb hb z=>f.2.2.1 (z▸hb)) ?_⟩;exact⟨by show 2<=sizeLine;decide,[u,v],.cons rx (.cons ry .nil),_,e,rfl,n,rfl⟩
theorem Inv.sq{X:Cx}{pins:List (Addr×Obj)}{σ:St}{H:Hp}{s:Shared}{b:Bool}{a:Addr}{xs:List V}(I:Inv X pins σ H s)(h:SqX X.K b H a xs):∃its:List Value,AL xs its/\Dg b s.heap a its.toArray:=by
 cases b with
 |true =>
  obtain⟨its,r,p,_⟩:=I.tuple h;exact⟨its,r,p⟩
 |false =>
  obtain⟨its,r,p,_⟩:=I.list h;exact⟨its,r,p.isList⟩
theorem Inv.sq_inj{X:Cx}{pins:List (Addr×Obj)}{σ:St}{H:Hp}{s:Shared}{b:Bool}{a:Addr}{xs ys:List V}(I:Inv X pins σ H s)(h:SqX X.K b H a xs)(h':SqX X.K b H a ys):xs=ys:=by
 cases b with
 |true=>exact I.tuple_inj h h'
 |false=>exact I.list_inj h h'
def Itz(K:PySem.W.Frag)(b c:Bool)(l m:Addr):It :=
 ⟨λi H=>∃xs ys x y,SqX K b H l xs/\SqX K c H m ys/\xs[i]?=some x/\ys[i]?=some y,
  λi H v H'=>∃(T:Addr)(x y:V),v=.ref T/\H T=none/\H'=upd H T (.tup [x,y])/\(∀xs,SqX K b H l xs->xs[i]?=some x)/\∀ys,SqX K c H m ys->ys[i]?=some y,
  λi H=>∃xs ys,SqX K b H l xs/\SqX K c H m ys/\(xs.length<=i\/ys.length<=i)⟩
def ZipTn(b c:Bool)(z U O i j l m:Addr)(k:Nat)(h:Heap):Prop:=IsZip h z U O .none/\IsPair h U (.ref i) (.ref j)/\(∃p q,IsPair h O p q)/\Ca b h i l k/\Ca c h j m k
theorem Vh{P:Program}{w:World}{K:PySem.W.Frag}{es:List Expr}{n:Nat}{tpos:Pos}{b c:Bool}{z U O i j l m:Addr}(D:Ua z U O i j l m):Og P w K (.Tuple es n tpos) (Itz K b c l m) [z,U,O,i,j] z (ZipTn b c z U O i j l m) where
 mem:=by simp
 obj:=λk h st a ha=>by
  obtain⟨hZ,hU,⟨p,q,hO⟩,hi,hj⟩:=st;simp only[B8,D0,Y5]at ha;rcases ha with rfl|rfl|rfl|rfl|rfl
  ·exact⟨_,hZ,λv t=>by cases t⟩
  ·exact⟨_,hU,λv t=>by cases t⟩
  ·exact⟨_,hO,λv t=>by cases t⟩
  ·exact hi.there
  ·exact hj.there
 keep:=λk h h' st kp=>by
  obtain⟨hZ,hU,⟨p,q,hO⟩,hi,hj⟩:=st;exact⟨kp z A4 _ hZ,kp U A4 _ hU,⟨p,q,kp O A4 _ hO⟩,hi.move λo e=>kp i A4 o e,hj.move λo e=>kp j A4 o e⟩
 item:=by
  intro X hP hw hK hc k pins s σ H E I hf st hg;subst hP hw hK;obtain⟨hZ,hU,⟨p,q,hO⟩,hi,hj⟩:=st;obtain⟨xs,ys,x,y,sx,sy,hx,hy⟩:=hg;obtain⟨us,ru,ou⟩:=I.sq sx;obtain⟨vs,rv,ov⟩:=I.sq sy;obtain⟨u,hu,rxu⟩:=ru.get hx;obtain⟨v,hv,ryv⟩:=rv.get hy;have hT:s.TypeIs (.ref z) "zip" := ⟨_,hZ,rfl⟩
  unfold pyNext;refine V7 (A0e (wpAny_callSpecial?_slot (name:=Str.ofString "__next__") hT A2a (X6 A2a hT F.entry_zip_next (Vc D hZ hU hO hi hj ou ov (by simpa using hu) (by simpa using hv) λg gZ gO gi gj gT gs gk=>W1 ⟨_,rfl,?_⟩) (F.args_zip_next_1 _))));refine wpAny_letOwnedTupleGo_zip (s:={s with heap:=g}) gZ λg2 gZ2 sb=>?_;obtain⟨nd,nl,nm⟩:=D;simp only[M0,B8,D0,Y5,A1c,P9,and_true,A0g]at nd;obtain⟨⟨zU,zO,zi,zj⟩,⟨UO,Ui,Uj⟩,⟨Oi,Oj⟩,ij⟩:=nd;have zlt:z<s.heap.objs.size:=C8 hZ;have kk:∀a o,a∉[z,O,i,j]->s.heap.get? a=some o->g2.get? a=some o:=λa o ha e=>(sb.2 a (λt=>ha (by simp[t]))).trans (gk a o ha e);have fch:∀a∈[z,O,i,j],Ga X pins H a:=λa ha=>hf a (by
   simp only[B8,D0,Y5]at ha⊢;rcases ha with t|t|t|t<;>simp[t])
  obtain⟨nT,J⟩:=I.pair (tk:=s.toks) kk fch rxu ryv ((sb.2 _ (T4 zlt)).trans gT);refine⟨.ref s.heap.objs.size,_,J,rfl,⟨_,x,y,rfl,nT,rfl,λxs' q'=>by rw[I.sq_inj q' sx];exact hx,λys' q'=>by rw[I.sq_inj q' sy];exact hy⟩,⟨gZ2,kk U _ ?_ hU,⟨u,v,(sb.2 O (W4 zO)).trans gO⟩,gi.move λo e=>(sb.2 i (W4 zi)).trans e,gj.move λo e=>(sb.2 j (W4 zj)).trans e⟩,λa ha=>?_⟩
  ·simp only[B8,D0,Y5,A1c];exact⟨W4 zU,UO,Ui,Uj⟩
  ·have e:=(hf a ha).1;have lt:a≠s.heap.objs.size:=by
    simp only[B8,D0,Y5]at ha;rcases ha with t|t|t|t|t<;>subst t
    ·exact F0 zlt
    ·exact F0 (C8 hU)
    ·exact F0 (C8 hO)
    ·obtain⟨o,e,_⟩:=hi.there;exact F0 (C8 e)
    ·obtain⟨o,e,_⟩:=hj.there;exact F0 (C8 e)
   rw[Ao lt];exact e
 done:=by
  intro X hP hw hK hc k pins s σ H E I hf st hg;subst hP hw hK;obtain⟨hZ,hU,⟨p,q,hO⟩,hi,hj⟩:=st;obtain⟨xs,ys,sx,sy,hend⟩:=hg;obtain⟨us,ru,ou⟩:=I.sq sx;obtain⟨vs,rv,ov⟩:=I.sq sy;have lu:=ru.length;have lv:=rv.length;have hT:s.TypeIs (.ref z) "zip" := ⟨_,hZ,rfl⟩
  have he:us.toArray[k]?=none\/vs.toArray[k]?=none:=hend.imp (λt=>by simp;lia) (λt=>by simp;lia);unfold pyNext;refine V7 (A0e (wpAny_callSpecial?_slot (name:=Str.ofString "__next__") hT A2a (X6 A2a hT F.entry_zip_next (Vb (I.ok.hd hc) D hZ hU hO hi hj ou ov he λg e gk ge=>?_) (F.args_zip_next_1 _))));obtain⟨o,ho,hcl⟩:=ge;refine V7 (wpAny_isInstance (T:="StopIteration") (b:=true) ⟨o,ho,hcl⟩ isSubtype_stop (W1 ⟨rfl,?_⟩));exact I.turnedL (tk:=s.toks) gk λa ha=>hf a (by
   simp only[B8,D0,Y5]at ha⊢;rcases ha with t|t|t|t<;>simp[t])
 self:=λ_ _ _ _ _ st h=>wpAny_pyIter_zip st.1 h
end
theorem Dg.obj{b:Bool}{h:Heap}{l:Addr}{vs:Array Value}(x:Dg b h l vs):∃o,h.get? l=some o:=by
 cases b with
 |true=>obtain⟨o,e,_⟩:=x;exact⟨o,e⟩
 |false=>obtain⟨o,e,_⟩:=x;exact⟨o,e⟩
theorem US(g1:Heap)(n:Nat)(e1:g1.objs.size=n+1):∃g2,g2=g1.push {cls:=.type "enumerate",data:=.fields #[.none,.bool false,.ref n,rawInt 0,.none,.none]}/\IsEnum g2 (n+1) n 0 .none/\∀a o,g1.get? a=some o->g2.get? a=some o:=by
 refine⟨_,rfl,?_,λa o e=>B9 _ e⟩;have q:=C6 g1 (o:={cls:=.type "enumerate",data:=.fields #[.none,.bool false,.ref n,rawInt 0,.none,.none]}) rfl;rw[e1]at q;exact q
set_option maxHeartbeats 1000000 in
theorem Sd{b:Bool}(l:Addr)(xs:Array Value):Meets (Builtin.«enumerate.__new__» ⟨[.type "enumerate",.ref l],[]⟩) (λ_ R s=>Dg b s.heap l xs /\
   ∀g,IsEnum g (s.heap.objs.size+1) s.heap.objs.size 0 .none->Ca b g s.heap.objs.size l 0->(∀a o,s.heap.get? a=some o->g.get? a=some o)->R (.ok (.ret (.ref (s.heap.objs.size+1)))) {s with heap:=g}) :=
 .of_wp λprog w A R s h=>by
  obtain⟨hp,g,d,tk,os⟩:=s;obtain⟨hl,h⟩:=h;obtain⟨ol,eol⟩:=hl.obj;have hsub:=sub_enumerate;have fin:∀g1,Ca b g1 hp.objs.size l 0->g1.objs.size=hp.objs.size+1->(∀c o,hp.get? c=some o->g1.get? c=some o)->∃v,Fin.done (Flow.ret (.ref g1.objs.size))=Fin.done (Flow.ret v)/\R (.ok (.ret v)) ⟨g1.push {cls:=.type "enumerate",data:=.fields #[.none,.bool false,.ref hp.objs.size,rawInt 0,.none,.none]},g,d,tk,os⟩:=λg1 i1 z1 k1=>by
   obtain⟨g2,e2,a1,k2⟩:=US g1 hp.objs.size z1;refine⟨_,rfl,?_⟩;have key:=h g2 a1 (i1.move λo e=>k2 _ o e) λa o e=>k2 _ _ (k1 _ _ e);dsimp only at key;rw[e2,<-z1]at key;exact key
  wp_walk using AutoSeq1.wpAny_loadPart' eol
  refine wpAny_stack_any λst=>W1 ?_;split
  ·rename_i c' _ _ _ _ _;cases(c'==Value.type "enumerate")
   ·wp_walk using AutoSeq1.wpAny_loadPart' eol,EG hl
    intro g1 i1 z1 k1
    wp_walk
    exact fin g1 i1 z1 k1
   ·wp_walk using AutoSeq1.wpAny_loadPart' eol,EG hl
    intro g1 i1 z1 k1
    wp_walk
    exact fin g1 i1 z1 k1
  ·wp_walk using AutoSeq1.wpAny_loadPart' eol,EG hl
   intro g1 i1 z1 k1
   wp_walk
   exact fin g1 i1 z1 k1
theorem OE{prog:Program}{w:World}{A:Around}{b:Bool}(hA:A.handled=none)(I l:Addr)(ne:l≠I)(vs:Array Value) :
  Draws prog w A I [I,l] vs.size (λk v=>vs[k]?=some v) (λk h=>Ca b h I l k/\Dg b h l vs) where
 live:=λ_ _ st=>let ⟨o,ho,_⟩:=st.1.there;⟨o,ho⟩
 frame:=λ_ _ _ st hk=>⟨st.1.move λo e=>hk I A4 o e,st.2.move λo e=>hk l A4 o e⟩
 item:=λk s Q E hi st hQ=>CU st.1 st.2 (v:=vs[k]) (by simp[hi]) λg hI sb=>hQ _ g s.toks (by simp[hi]) ⟨hI,st.2.move λo e=>(sb.2 l ne).trans e⟩ sb
 done:=λs Q E st hE=>EU hA st.1 st.2 A4 hE
def Ite(K:PySem.W.Frag)(b:Bool)(l:Addr):It :=
 ⟨λi H=>∃xs x,SqX K b H l xs/\xs[i]?=some x,
  λi H v H'=>∃(T:Addr)(x:V),v=.ref T/\H T=none/\H'=upd H T (.tup [.int i,x])/\∀xs,SqX K b H l xs->xs[i]?=some x,
  λi H=>∃xs,SqX K b H l xs/\xs.length=i⟩
theorem Ud{P:Program}{w:World}{K:PySem.W.Frag}{es:List Expr}{n:Nat}{tpos:Pos}{b:Bool}{e I l:Addr}(eI:e≠I)(le:l≠e)(lI:l≠I) :
  Og P w K (.Tuple es n tpos) (Ite K b l) [e,I] e (λk h=>(∃old,IsEnum h e I k old)/\Ca b h I l k) where
 mem:=by simp
 obj:=λk h st a ha=>by
  obtain⟨⟨old,he⟩,hI⟩:=st;simp only[B8,D0,Y5]at ha;rcases ha with rfl|rfl
  ·exact⟨_,he,λv t=>by cases t⟩
  ·exact hI.there
 keep:=λk h h' st kp=>by
  obtain⟨⟨old,he⟩,hI⟩:=st;exact⟨⟨old,kp e A4 _ he⟩,hI.move λo t=>kp I A4 o t⟩
 item:=by
  intro X hP hw hK hc k pins s σ H E J hf st hg;subst hP hw hK;obtain⟨⟨old,he⟩,hI⟩:=st;obtain⟨xs,x,sx,hx⟩:=hg;obtain⟨us,ru,ou⟩:=J.sq sx;have lu:=ru.length;have hk:k<xs.length:=(B4.mp hx).1;refine wpAny_pyNext_enum_itemD (OE (b:=b) (A:=X.A.in1) (J.ok.hd hc) I l lI us.toArray) he ⟨hI,ou⟩ (by simp;lia) eI (by simp[eI,W4 le]) λu g tk hu gE gS gT gs gk=>⟨_,rfl,?_⟩
  obtain⟨u',hu',rxu⟩:=ru.get hx;have eu:u=u':=by
   have:us[k]?=some u:=by simpa using hu
   rw[hu']at this;exact(W3 this).symm
  subst eu;refine wpAny_letOwnedTupleGo_enum (s:={s with heap:=g,toks:=tk+1}) gE λg2 gE2 sb=>?_;have elt:e<s.heap.objs.size:=C8 he;have kk:∀a o,a∉[e,I]->s.heap.get? a=some o->g2.get? a=some o:=λa o ha t=>(sb.2 a (λz=>ha (by simp[z]))).trans (gk a o (λz=>ha (by simp[z])) (λz=>ha (by simp[z])) t);obtain⟨nT,J2⟩:=J.pair (tk:=tk+1) (x:=.int k) (u:=.int k tk) kk hf ⟨tk,rfl⟩ rxu ((sb.2 _ (T4 elt)).trans gT);refine⟨.ref s.heap.objs.size,_,J2,rfl,⟨_,x,rfl,nT,rfl,λxs' q'=>by rw[J.sq_inj q' sx];exact hx⟩,⟨⟨_,by simpa using gE2⟩,gS.1.move λo t=>(sb.2 I (W4 eI)).trans t⟩,λa ha=>?_⟩;have t:=(hf a ha).1;have lt:a≠s.heap.objs.size:=by
   simp only[B8,D0,Y5]at ha;rcases ha with z|z<;>subst z
   ·exact F0 elt
   ·obtain⟨o,t,_⟩:=hI.there;exact F0 (C8 t)
  rw[Ao lt];exact t
 done:=by
  intro X hP hw hK hc k pins s σ H E J hf st hg;subst hP hw hK;obtain⟨⟨old,he⟩,hI⟩:=st;obtain⟨xs,sx,hend⟩:=hg;obtain⟨us,ru,ou⟩:=J.sq sx;have lu:=ru.length;have ek:k=us.toArray.size:=by simp;lia
  refine wpAny_pyNext_enum_endD (OE (b:=b) (A:=X.A.in1) (J.ok.hd hc) I l lI us.toArray) he ⟨ek▸hI,ou⟩ λg gk=>⟨rfl,?_⟩
  exact J.turnedL (tk:=s.toks) (ch:=[e,I]) (λa o ha t=>gk a o (λz=>ha (by simp[z])) t) hf
 self:=λA i s Q E st h=>by
  obtain⟨⟨old,he⟩,_⟩:=st;exact wpAny_pyIter_enum he h
section
variable{X:Cx}{es:List Expr}{n:Nat}{tpos p pos:Pos}{e1 e2:Expr}{t:TA}
def iZip(b c:Bool)(K:PySem.W.Frag)(t:TA):TI:=fun σ H R=>t σ H λvs H1=>∃(l m:Addr),vs=[.ref l,.ref m]/\(∃xs,SqX K b H1 l xs)/\(∃ys,SqX K c H1 m ys)/\R (Itz K b c l m) H1
theorem Dg.lt{b:Bool}{h:Heap}{l:Addr}{vs:Array Value}(x:Dg b h l vs):l<h.objs.size:=by
 cases b with
 |true=>obtain⟨o,e,_⟩:=x;exact C8 e
 |false=>obtain⟨o,e,_⟩:=x;exact C8 e
theorem apart5(n l m:Nat)(hl:l<n)(hm:m<n):Ua (n+4) (n+2) (n+3) n (n+1) l m:=by
 refine⟨(show([n+4,n+2,n+3,n,n+1]:List Nat).Nodup from ?_),(show l∉([n+4,n+3,n,n+1]:List Nat)from ?_),(show m∉([n+4,n+3,n,n+1]:List Nat)from ?_)⟩
 ·simp only[M0,B8,D0,Y5,A1c,P9,and_true,A0g];lia
 ·simp only[B8,D0,Y5,A1c];lia
 ·simp only[B8,D0,Y5,A1c];lia
theorem pi_zip(b c:Bool)(hg:Gl X "zip")(hm:X.mg "zip" = none)(ha:PA X [e1,e2] t)(hs:starEach [e1,e2] X.env=[(false,eval e1 X.env),(false,eval e2 X.env)]:=by rfl)(hs2:starEach [e2] X.env=[(false,eval e2 X.env)]:=by rfl) :
  PI X (.Tuple es n tpos) (.Call (.Name "zip" p) [e1,e2] [] pos) (iZip b c X.K t):=by
 intro pins s σ H R I h;refine Call_ (Jn I hg hm PyProof.Rows.boot_zip (Z5 (thn (ha pos pins s σ H _ I h) λus s1 ⟨vs,H1,I1,r1,q1⟩=>?_) (by rw[hs,hs2]) (by rw[hs2];rfl)));obtain⟨l,m,rfl,⟨xs,sx⟩,⟨ys,sy⟩,q⟩:=q1;obtain⟨u,v,rfl,ru,rv⟩:=r1.two;cases(show u=Value.ref l from ru);cases(show v=Value.ref m from rv);obtain⟨ul,_,ol⟩:=I1.sq sx;obtain⟨um,_,om⟩:=I1.sq sy;refine callType_new F.called_zip A3 (F.typeCall_zip_2 _ _) (F.newCall_zip_2 _ _) (λobj=>F.args_object_init_3 obj _ _) F.entry_zip_new (UE (b:=b) (c:=c) l m ul.toArray um.toArray) ⟨ol,om,λg gZ gU gO gi gj gk=>?_⟩;refine⟨⟨_,gZ,rfl⟩,wpAny_pyIter_zip (s:={s1 with heap:=g}) gZ ?_⟩;have ll:=ol.lt;have lm:=om.lt;have hA:=apart5 s1.heap.objs.size l m ll lm;refine⟨s1.heap.objs.size+4,_,_,_,H1,rfl,I1.kept (t':=s1.toks) gk,Vh hA,⟨gZ,gU,⟨_,_,gO⟩,gi,gj⟩,λa ha=>?_,q⟩;have le:s1.heap.objs.size<=a:=by
  simp only[B8,D0,Y5]at ha;rcases ha with t|t|t|t|t<;>rw[t]<;>first|exact B6 _|exact S7 _ _
 exact I1.fpOk le (I1.hok.fresh le)
def iEnum(b:Bool)(K:PySem.W.Frag)(t:TA):TI:=fun σ H R=>t σ H λvs H1=>∃(l:Addr),vs=[.ref l]/\(∃xs,SqX K b H1 l xs)/\R (Ite K b l) H1
theorem Mj(b:Bool)(hg:Gl X "enumerate")(hm:X.mg "enumerate" = none)(ha:PA X [e1] t)(hs:starEach [e1] X.env=[(false,eval e1 X.env)]:=by rfl) :
  PI X (.Tuple es n tpos) (.Call (.Name "enumerate" p) [e1] [] pos) (iEnum b X.K t):=by
 intro pins s σ H R I h;refine Call_ (Jn I hg hm PyProof.Rows.boot_enumerate (Z5 (thn (ha pos pins s σ H _ I h) λus s1 ⟨vs,H1,I1,r1,q1⟩=>?_) hs rfl));obtain⟨l,rfl,⟨xs,sx⟩,q⟩:=q1;obtain⟨u,rfl,ru⟩:=r1.one;cases(show u=Value.ref l from ru);obtain⟨ul,_,ol⟩:=I1.sq sx;refine callType_new F.called_enumerate A3 (F.typeCall_enumerate_1 _) (F.newCall_enumerate_1 _) (λobj=>F.args_object_init_2 obj _) F.entry_enumerate_new (Sd (b:=b) l ul.toArray) ⟨ol,λg gE gi gk=>?_⟩;refine⟨⟨_,gE,rfl⟩,wpAny_pyIter_enum (s:={s1 with heap:=g}) gE ?_⟩;have ll:=ol.lt;refine⟨s1.heap.objs.size+1,_,_,_,H1,rfl,I1.kept (t':=s1.toks) gk,Ud (e:=s1.heap.objs.size+1) (I:=s1.heap.objs.size) (l:=l) (Nat.succ_ne_self _) (F0 (V5 ll)) (F0 ll),⟨⟨_,gE⟩,gi⟩,λa ha=>?_,q⟩;have le:s1.heap.objs.size<=a:=by
  simp only[B8,D0,Y5]at ha;rcases ha with t|t<;>rw[t]<;>first|exact B6 _|exact S7 _ _
 exact I1.fpOk le (I1.hok.fresh le)
end
section
variable{K:PySem.W.Frag}{b c:Bool}{l m:Addr}{xs ys:List V}{σ:St}{H:Hp}
theorem Rf{K:PySem.W.Frag}{i j:Nat}{T:Addr}{x y:V}{σ:St}{H:Hp}{Q:St->Hp->Prop}(h:H T=some (.tup [x,y]))(q:Q ((σ.set i (some x)).set j (some y)) H):gTup K 2 (Rh (Nt i) (Rh (Nt j) gNil)) (.ref T) σ H Q :=
 ⟨T,_,rfl,SqT.of h,rfl,x,_,rfl,y,_,rfl,rfl,q⟩
theorem JT{g:TG}{tb:TS}{D:LM}(Pv:Nat->St->Hp->Prop)(h0:Pv 0 σ H)(hl:∀i σ H,i<=xs.length->Pv i σ H->SqX K b H l xs)
  (hs:∀i x σ H T,xs[i]?=some x->Pv i σ H->H T=none->g (.ref T) σ (upd H T (.tup [.int i,x])) fun σ2 H2=>tb {D with nx:=Pv (i+1),ct:=Pv (i+1),bk:=D.nx} σ2 H2) (hd:∀σ H,Pv xs.length σ H->D.nx σ H) :
  ∃W:Nat->Nat->St->Hp->Prop,(∃m,W 0 m σ H)/\∀i m σ H,W i m σ H ->
   ((Ite K b l).stop i H/\D.nx σ H)\/((Ite K b l).go i H/\∃N:St->Hp->Prop,(∀σ' H',N σ' H'->∃m',m'<m/\W (i+1) m' σ' H')/\∀x H',(Ite K b l).yld i H x H'->g x σ H' fun σ2 H2=>tb {D with nx:=N,ct:=N,bk:=D.nx} σ2 H2):=by
 refine⟨λi m σ H=>m=xs.length-i/\i<=xs.length/\Pv i σ H,⟨xs.length,by simp,F8 _,h0⟩,?_⟩;rintro i m σ H ⟨rfl,hi,p⟩;have q:=hl i σ H hi p;by_cases hlt:i<xs.length
 ·refine .inr ⟨⟨xs,xs[i],q,by simp[hlt]⟩,Pv (i+1),fun σ' H' p'=>⟨xs.length-(i+1),by lia,rfl,hlt,p'⟩,λx H' y=>?_⟩;obtain⟨T,z,rfl,nT,rfl,hz⟩:=y;exact hs i z σ _ T (hz xs q) p nT
 ·have e:i=xs.length:=by lia
  subst e;exact .inl ⟨⟨xs,q,rfl⟩,hd σ H p⟩
variable{k:Nat}{cs:List Nat}{g:TG}{tc:TT}{te:TE}{fin:List V->Hp->Prop}
theorem blk_zip(Pv:Nat->List V->Hp->Prop)(h0:Pv 0 [] H)(hl:∀i acc H,Pv i acc H->SqX K b H l xs/\SqX K c H m ys)
  (hs:∀i x y acc H T,xs[i]?=some x->ys[i]?=some y->Pv i acc H->H T=none->Bt k cs g tc te σ (.ref T) acc (upd H T (.tup [x,y])) (Pv (i+1))) (hd:∀acc H,Pv (min xs.length ys.length) acc H->fin acc H):Ey k cs g tc te (Itz K b c l m) σ H fin:=by
 refine⟨λi n acc H=>n=min xs.length ys.length-i/\i<=min xs.length ys.length/\Pv i acc H,⟨min xs.length ys.length,by simp,F8 _,h0⟩,?_⟩;rintro i n acc H ⟨rfl,hi,p⟩;obtain⟨qx,qy⟩:=hl i acc H p;by_cases hlt:i<min xs.length ys.length
 ·have lx:i<xs.length:=by lia
  have ly:i<ys.length:=by lia
  refine .inr ⟨⟨xs,ys,xs[i],ys[i],qx,qy,by simp[lx],by simp[ly]⟩,Pv (i+1),λacc' H' p'=>⟨min xs.length ys.length-(i+1),by lia,rfl,hlt,p'⟩,λx H' y=>?_⟩;obtain⟨T,z,z',rfl,nT,rfl,hz,hz'⟩:=y;exact hs i z z' acc _ T (hz xs qx) (hz' ys qy) p nT
 ·have e:i=min xs.length ys.length:=by lia
  subst e;exact .inl ⟨⟨xs,ys,qx,qy,by lia⟩,hd acc H p⟩
theorem blk_str{x:Str}(Pv:Nat->List V->Hp->Prop)(h0:Pv 0 [] H)(hs:∀i ch acc H,x.cps.toList[i]?=some ch->Pv i acc H->Bt k cs g tc te σ (.str ⟨#[ch]⟩) acc H (Pv (i+1)))(hd:∀acc H,Pv x.cps.toList.length acc H->fin acc H):Ey k cs g tc te (Its x) σ H fin:=by
 have e0:x.cps.toList.length=x.cps.size:=by simp
 refine⟨λi m acc H=>m=x.cps.size-i/\i<=x.cps.size/\Pv i acc H,⟨x.cps.size,by simp,F8 _,h0⟩,?_⟩;rintro i m acc H ⟨rfl,hi,p⟩;by_cases hlt:i<x.cps.size
 ·refine .inr ⟨hlt,Pv (i+1),λacc' H' p'=>⟨x.cps.size-(i+1),by lia,rfl,hlt,p'⟩,λv H' y=>?_⟩;obtain⟨e,ch,hch,rfl⟩:=y;subst e;exact hs i ch acc _ (by simpa using hch) p
 ·have e:i=x.cps.size:=by lia
  subst e;exact .inl ⟨rfl,hd acc H (by rw[e0];exact p)⟩
end
theorem PE.or{X:Cx}{e:Expr}{t u:TE}(h:PE X e t)(h':PE X e u):PE X e (fun σ H Q=>t σ H Q\/u σ H Q):=by
 intro pins s σ H Q I q;rcases q with q|q
 ·exact h pins s σ H Q I q
 ·exact h' pins s σ H Q I q
theorem rm{a b:Nat}{A:Around}(h:Dd b A)(hle:a<=b:=by first|decide|lia):Dd a A:=h.mono hle
structure Cal(P:Program)(w:World)(K:PySem.W.Frag)(mg:Str->Option Value)(base:Heap)(CX:CXT)(k:Nat)(x:Str)(ps:List Str)(sp:Sp):Prop where
 ex:∃(f:Addr)(fd:FuncData),AK P w K mg base CX k f fd ps sp/\mg x=some (.ref f)/\keepIn K (.ref f)=true/\CH K fd ps []
structure BN(P:Program)(w:World)(K:PySem.W.Frag)(mg:Str->Option Value)(base:Heap)(CX:CXT)(k:Nat)(C:Addr)(m:Str)(ps:List Str)(sp:Sp):Prop where
 ex:∃(f:Addr)(fd:FuncData),AK P w K mg base CX k f fd ps sp/\Ol K C m f/\CH K fd ps []
 cl:Cls K C
structure Qg(P:Program)(w:World)(K:PySem.W.Frag)(mg:Str->Option Value)(base:Heap)(CX:CXT)(k:Nat)(x:Str)(C:Addr)(ps:List Str)(sp:Sp):Prop where
 ex:∃(f:Addr)(fd:FuncData),AK P w K mg base CX k f fd ps sp/\Mk K C f/\mg x=some (.ref C)/\CH K fd ps []
section
variable{X:Cx}{CX:CXT}{k:Nat}{C:Addr}{ps:List Str}{sp:Sp}{E:XK}{x m:Str}{p pos apos:Pos}{e o:Expr}{es:List Expr}{ta:TE}{t:TA}
theorem Au(c:Cal X.prog X.w X.K X.mg X.base CX k x ps sp)(hr:Dd k X.A)(hg:Gl X x)(hx:EY CX X E)(ha:PA X (e::es) t)(hdb:(x==("__debug__" : Str))=false:=by decide)
  (he:starEach (e::es) X.env=(false,eval e X.env)::starEach es X.env:=by rfl) (hpl:(backTo pos (starEach es X.env)).any (·.1)=false:=by rfl):PE X (.Call (.Name x p) (e::es) [] pos) (tCall sp [] E t):=by
 obtain⟨f,fd,F,hm,hk,hb⟩:=c.ex;exact pe_call F hr hg hm hk hb .nil hx ha hdb he hpl
theorem AB{pl:Sem Bool}(he:PE X o ta)(c:BN X.prog X.w X.K X.mg X.base CX k C m ps sp)(hr:Dd k X.A)(hx:EY CX X E)(ha:PA X (e::es) t)
  (hst:starEach (e::es) X.env=(false,eval e X.env)::starEach es X.env:=by rfl) (hpl:(backTo pos (starEach es X.env)).any (·.1)=false:=by rfl)
  (ht:eval (.Call (.Attribute o m apos) (e::es) [] pos) X.env=(do
   let ov <-eval o X.env;standAt apos.atName;let (f,first) <-holding [ov] (getMethod ov m pl);callWith pos f first (backTo pos (starEach (e::es) X.env)) (backToKw pos (keywordEach [] X.env))):=by rfl):PE X (.Call (.Attribute o m apos) (e::es) [] pos) (SK C m sp [] E ta t):=by
 obtain⟨f,fd,F,hm,hb⟩:=c.ex;exact pe_meth he c.cl hm F hr hb .nil hx ha hst hpl ht
theorem JG(c:Qg X.prog X.w X.K X.mg X.base CX k x C ps sp)(hr:Dd (k+1) X.A)(hg:Gl X x)(hx:EY CX X E)(ha:PA X (e::es) t)(hdb:(x==("__debug__" : Str))=false:=by decide)
  (he:starEach (e::es) X.env=(false,eval e X.env)::starEach es X.env:=by rfl) (hpl:(backTo pos (starEach es X.env)).any (·.1)=false:=by rfl):PE X (.Call (.Name x p) (e::es) [] pos) (SM C sp [] E t):=by
 obtain⟨f,fd,F,M,hm,hb⟩:=c.ex;exact pe_make M F hr hg hm hb .nil hx ha hdb he hpl
theorem VT(c:Qg X.prog X.w X.K X.mg X.base CX k x C ps sp)(hr:Dd (k+1) X.A)(hg:Gl X x)(hx:EY CX X E)(hdb:(x==("__debug__" : Str))=false:=by decide):PE X (.Call (.Name x p) [] [] pos) (SM C sp [] E OS):=by
 obtain⟨f,fd,F,M,hm,hb⟩:=c.ex;exact VR M F hr hg hm hb .nil hx hdb
theorem BP{i:Int}(hg:Gl X x)(hm:∃tk,X.mg x=some (.int i tk))(hd:(x==("__debug__" : Str))=false:=by decide):PE X (.Name x pos) (tC (.int i)):=by
 obtain⟨tk,hm⟩:=hm;exact Tf hg hm ⟨tk,rfl⟩ hd
theorem Ml{z:Str}(hg:Gl X x)(hm:∃tk,X.mg x=some (.str z tk))(hd:(x==("__debug__" : Str))=false:=by decide):PE X (.Name x pos) (tC (.str z)):=by
 obtain⟨tk,hm⟩:=hm;exact Tf hg hm ⟨tk,rfl⟩ hd
end
def cOk(So:Scope)(No:List Str)(scope:Scope)(N:List Str)(k:Nat)(cs:List Nat):Bool :=
 scope.names.all (λy=>y.2 != .cell) && (scope.kind==.function && (scope.names.all (λy=>y.2 != .local || scope.names.lookup y.1==some .local) && (scope.names.all (λy=>y.2 != .free || (So.names.lookup y.1==some .cell || So.names.lookup y.1==some .free)) &&
  (N.length==k+cs.length && (List.range cs.length).all λj=>match N[k+j]?,No[cs.getD j 0]? with
   |some x,some y=>x==y && scope.names.lookup x==some .free
   |_,_=>false))))
theorem BD.of{X:Cx}{So:Scope}{No:List Str}{scope:Scope}{N:List Str}{k:Nat}{cs:List Nat}(hS:X.env.scope=So)(hN:X.N=No)(h:cOk So No scope N k cs=true):BD X scope N k cs:=by
 subst hS hN;unfold cOk at h;simp only[O3,T1,bne_iff_ne,ne_eq,Bool.or_eq_true,beq_iff_eq,J9]at h;obtain⟨h1,h2,h3,h4,h5,h6⟩:=h;refine⟨h1,h2,λy hy e=>?_,λy hy e=>?_,h5,λj hj=>?_⟩
 ·rcases h3 y hy with z|z
  ·exact absurd e z
  ·exact z
 ·rcases h4 y hy with z|z
  ·exact absurd e z
  ·exact z
 ·have z:=h6 j hj;split at z
  ·rename_i x y e1 e2;simp only[O3,beq_iff_eq]at z;obtain⟨z1,z2⟩:=z;subst z1;exact⟨x,e1,e2,z2⟩
  ·cases z
theorem GT{σ:St}{H:Hp}{A B:Hp->Prop}(h:A H):tYes σ H λb H3=>if b=true then A H3 else B H3:=by
 show if true=true then A H else B H;exact CK h
theorem Qd{tb:TE}{σ:St}{H:Hp}{Q:VK}{b1 b2:Bool}(h2:b1=true->∀Q':VK,Q' (.bl b2) H->tb σ H Q')(q:Q (.bl (b1 && b2)) H):∃c,V.bl b1=.bl c/\if c=true then tb σ H Q else Q (.bl false) H:=by
 cases b1 with
 |true=>exact⟨true,rfl,CK (h2 rfl Q q)⟩
 |false=>exact⟨false,rfl,Bw q⟩
theorem Vj{u:TT}{σ:St}{H:Hp}{Q:Bool->Hp->Prop}{b1 b2:Bool}(h2:b1=true->∀Q':Bool->Hp->Prop,Q' b2 H->u σ H Q')(q:Q (b1 && b2) H):if b1=true then u σ H Q else Q false H:=by
 cases b1 with
 |true=>exact CK (h2 rfl Q q)
 |false=>exact Bw q
section
variable{X:Cx}{scope:Scope}{N:List Str}{s:Shared}{H:Hp}{ex:List Addr}{x y:Str}{px py pos:Pos}{k:Nat}
theorem Bk{i:Nat}(hN:N.Nodup)(hi:N[i]?=some x)(hl:(relabel scope X.env).names.lookup x=some .local):PG (cxC X scope N s H ex) (.Name x pos) (Nt i):=BO (X:=cxC X scope N s H ex) hN hi (.inl hl) (.inr hl)
theorem VP{i j:Nat}(hc:X.calm=true)(hN:N.Nodup)(hi:N[i]?=some x)(hj:N[j]?=some y)(hl:(relabel scope X.env).names.lookup x=some .local)(hm:(relabel scope X.env).names.lookup y=some .local) :
  PG (cxC X scope N s H ex) (.Tuple [.Name x px,.Name y py] k pos) (gTup X.K 2 (Rh (Nt i) (Rh (Nt j) gNil))) :=
 Lp (X:=cxC X scope N s H ex) hc (Cg (Bk hN hi hl) (Cg (Bk hN hj hm) IB))
end
theorem AL.strs:∀(l:List Str)(k:Nat),AL (l.map V.str) (strsFrom k l)
 |[],_=>.nil
 |x::r,k=>.cons ⟨k,rfl⟩ (AL.strs r (k+1))
section
variable{X:Cx}
theorem QW:MtR X "str.split" (λx xs H Q=>∃a b,x=.str a/\xs=[.str b]/\(b.length==0)=false/\a.length<=100000/\∀p,H p=none->Q (.ref p) (upd H p (.lst ((Txt.split a b).map V.str)))):=by
 intro pins s σ H x xs v us Q I rx r h;obtain⟨a,b,rfl,rfl,hb,ha,q⟩:=h;obtain⟨t,rfl⟩:=rx;obtain⟨u,rfl,hu⟩:=r.one;obtain⟨tb,rfl⟩:=hu;have big:a.length+2<=sizeLine:=C2 (Nat.add_le_add_right ha 2) A3;have fin:∀(its:List Value)(tk:Nat),AL ((Txt.split a b).map V.str) its->EP X pins σ Q (.ref s.heap.objs.size) {s with heap:=s.heap.push {cls:=.type "list",data:=.seq its.toArray},toks:=tk}:=λits tk hv =>
  ⟨.ref _,_,I.lnew (t':=tk) hv (by rw[B5];exact C2 (split_le a b) big),rfl,q _ I.fresh⟩
 by_cases h1:(decide (a.length<b.length) || decide (Builtin.Str.strKind a<Builtin.Str.strKind b))=true
 ·refine A0a F.slot_str_split (typeIs_str _ _ _) F.entry_str_split (A3b _ _) (meets_str_split_cannot_occur a b t tb h1) ?_;refine fin _ s.toks ?_;unfold Txt.split;rw[W2 h1];exact .cons ⟨t,rfl⟩ .nil
 ·have h1':=R8.mpr h1;by_cases h2:(Builtin.Str.occurrences a b 0 a.length (a.length+1)).isEmpty=true
  ·refine A0a F.slot_str_split (typeIs_str _ _ _) F.entry_str_split (A3b _ _) (meets_str_split_not_found a b t tb h1' hb h2) ?_;refine fin _ s.toks ?_;unfold Txt.split;rw[V8 h1,W2 h2];exact .cons ⟨t,rfl⟩ .nil
  ·have e:Txt.split a b=Builtin.Str.partsBetween a (Builtin.Str.occurrences a b 0 a.length (a.length+1)) b.length:=by
    unfold Txt.split;rw[V8 h1,V8 h2]
   refine A0a F.slot_str_split (typeIs_str _ _ _) F.entry_str_split (A3b _ _) (meets_str_split_sep a b t tb h1' hb (R8.mpr h2) A0 (by rw[<-e];exact C2 (split_le a b) big)) ?_;refine fin _ _ ?_;rw[e];exact AL.strs _ _
theorem PB:MtR X "str.partition" (λx xs H Q=>∃a b,x=.str a/\xs=[.str b]/\(b.length==0)=false/\a.length<=100000/\∀p,H p=none->Q (.ref p) (upd H p (.tup [.str (Txt.partition a b).1,.str (Txt.partition a b).2.1,.str (Txt.partition a b).2.2]))):=by
 intro pins s σ H x xs v us Q I rx r h;obtain⟨a,b,rfl,rfl,hb,ha,q⟩:=h;obtain⟨t,rfl⟩:=rx;obtain⟨u,rfl,hu⟩:=r.one;obtain⟨tb,rfl⟩:=hu;have fin:∀(its:List Value)(tk:Nat),AL [.str (Txt.partition a b).1,.str (Txt.partition a b).2.1,.str (Txt.partition a b).2.2] its->EP X pins σ Q (.ref s.heap.objs.size) {s with heap:=s.heap.push {cls:=.type "tuple",data:=.seq its.toArray},toks:=tk}:=λits tk hv =>
  ⟨.ref _,_,I.laid (t':=tk) (o:=.tup [.str (Txt.partition a b).1,.str (Txt.partition a b).2.1,.str (Txt.partition a b).2.2]) (λ_ _ e=>B9 _ e) (B6 _) ⟨by show 3<=sizeLine;decide,its,hv,_,C6 _ rfl,rfl,_,rfl⟩,rfl,q _ I.fresh⟩
 refine A0a F.slot_str_partition (typeIs_str _ _ _) F.entry_str_partition (F.args_str_partition_2 _ _) (meets_str_partition a b t tb hb (C2 ha A3)) ?_;show EP X pins σ Q _ _;cases e:Builtin.Str.occurrences a b 0 a.length 1 with
 |nil =>
  refine fin _ _ ?_;unfold Txt.partition;rw[e];exact .cons ⟨_,rfl⟩ (.cons ⟨_,rfl⟩ (.cons ⟨_,rfl⟩ .nil))
 |cons i l =>
  refine fin _ _ ?_;unfold Txt.partition;rw[e];exact .cons ⟨_,rfl⟩ (.cons ⟨_,rfl⟩ (.cons ⟨_,rfl⟩ .nil))
theorem AL.tstrs:∀{l:List Str}{its:List Value},AL (l.map V.str) its->∃ts:List (Str×Tok),its=strValues ts/\ts.map (·.1)=l
 |[],_,.nil=>⟨[],rfl,rfl⟩
 |x::r,_,.cons ⟨t,e⟩ rr=>by
  obtain⟨ts,e1,e2⟩:=AL.tstrs rr;subst e e1;exact⟨(x,t)::ts,rfl,by rw[F1,e2]⟩
theorem Tn:MtR X "str.join" (λx xs H Q=>∃(sep:Str)(p:Addr)(l:List Str),x=.str sep/\xs=[.ref p]/\SqL X.K H p (l.map V.str)/\JoinOk sep l=true/\Q (.str (Str.join sep l)) H):=by
 intro pins s σ H x xs v us Q I rx r h;obtain⟨sep,p,l,rfl,rfl,hl,hok,q⟩:=h;obtain⟨t,rfl⟩:=rx;obtain⟨u,rfl,hu⟩:=r.one;cases(show u=Value.ref p from hu);obtain⟨its,rv,pl,_⟩:=I.list hl;obtain⟨ts,rfl,e⟩:=AL.tstrs rv;refine SC.join (texts:=l) pl.isList e hok λt' k=>⟨.str _,H,I.tok k,⟨t',rfl⟩,?_⟩
 have:Txt.join sep l=Str.join sep l:=StrLaws.glued_eq_join sep l;rw[this];exact q
theorem Ro(n:Int):∀{ns:List Int}{its:List Value},AL (ns.map V.int) its->its.countP (λy=>match y with|.int i _=>i==n|_=>false)=ns.countP (· == n)
 |[],_,.nil=>rfl
 |x::r,_,.cons ⟨t,e⟩ rr=>by
  subst e;rw[List.countP_cons,List.countP_cons,Ro n rr]
theorem Vg{ns:List Int}{its:List Value}(h:AL (ns.map V.int) its){y:Value}(hy:y∈its):∃i t,y=.int i t:=by
 induction ns generalizing its with
 |nil=>cases h;simp at hy
 |cons n r ih =>
  cases h with
  |cons q qq =>
   obtain⟨t,e⟩:=q;rcases B8.mp hy with z|z
   ·exact⟨n,t,z.trans e⟩
   ·exact ih qq z
theorem Wp:MtR X "list.count" (λx xs H Q=>∃(l:Addr)(ns:List Int)(n:Int),x=.ref l/\xs=[.int n]/\H l=some (.lst (ns.map V.int))/\Q (.int (ns.countP (· == n):Nat)) H):=by
 intro pins s σ H x xs v us Q I rx r h;obtain⟨l,ns,n,rfl,rfl,hH,q⟩:=h;cases rx;obtain⟨u,rfl,hu⟩:=r.one;obtain⟨tk,rfl⟩:=hu;obtain⟨z,its,k,rv,hl,e⟩:=I.lstM hH;refine A0a F.slot_list_count ⟨_,e,rfl⟩ F.entry_list_count (F.args_list_count_2 _ _) (MeetsSeq.list_count l its.toArray k (.int n tk) (λy=>match y with|.int i _=>i==n|_=>false) (λy hy=>?_)) ⟨e,?_⟩
 ·obtain⟨i,t,rfl⟩:=Vg rv (by simpa using hy);exact PySem.MeetsSeq.EqGives.int i n t tk
 ·refine⟨.int _,H,I.tok _,⟨_,rfl⟩,?_⟩;have:(List.countP (λy=>match y with|Value.int i _=>i==n|_=>false) its.toArray.toList)=ns.countP (· == n):=Ro n (by simpa using rv);rw[this];exact q
end
end L2
namespace L2
open PySem
section
variable{X:Cx}{es es':List Expr}{t t':TA}{pos:Pos}
theorem AX{i:Int}{j}(hr:PA X es t):PA X (.Constant (.int i) j pos::es) (Cr (tC (.int i)) t):=Aa Ae hr
theorem Cm{z:Str}{j}(hr:PA X es t):PA X (.Constant (.str z) j pos::es) (Cr (tC (.str z)) t):=Aa Ej hr
theorem Bo{x1}(h:PA X es' t')(hr:PA X es t):PA X (.Tuple es' x1 pos::es) (Cr (Vk t') t):=Aa (Ih h) hr
theorem Bq{op:Operator}{r:R2}{a b:Expr}{ta tb:TE}(ho:OpR X (binaryOp op) r)(ha:PE X a ta)(hb:PE X b tb)(hr:PA X es t):PA X (.BinOp a op b pos::es) (Cr (tOp r ta tb) t):=Aa (AF ho ha hb) hr
theorem Fn{K:PySem.W.Frag}(h:X.K=K):IxR X (IM K):=h▸Am
theorem WE{K:PySem.W.Frag}(h:X.K=K):IxR X (rIxL K):=h▸Av
end
theorem AT{P:Prop}(h:∀G:Prop,(P->G)->G):P:=h P id
theorem xq1{α:Sort _}{a:α}{P Q:α->Prop}(h:P a)(k:Q a):∃x,P x/\Q x:=⟨a,h,k⟩
theorem xq2{α β:Sort _}{a:α}{b:β}{P Q R:α->β->Prop}(h:P a b)(h':Q a b)(k:R a b):∃x y,P x y/\Q x y/\R x y:=⟨a,b,h,h',k⟩
theorem xq3{α β γ:Sort _}{a:α}{b:β}{c:γ}{P Q R S:α->β->γ->Prop}(h:P a b c)(h':Q a b c)(h'':R a b c)(k:S a b c):∃x y z,P x y z/\Q x y z/\R x y z/\S x y z:=⟨a,b,c,h,h',h'',k⟩
theorem xq4{α β γ δ:Sort _}{a:α}{b:β}{c:γ}{d:δ}{P Q R S T:α->β->γ->δ->Prop}(h:P a b c d)(h':Q a b c d)(h'':R a b c d)(h3:S a b c d)(k:T a b c d):∃x y z w,P x y z w/\Q x y z w/\R x y z w/\S x y z w/\T x y z w:=⟨a,b,c,d,h,h',h'',h3,k⟩
theorem xq5{K:PySem.W.Frag}{f:Str}{H:Hp}{a C dx:Addr}{fs:List (Str×V)}{v:V}{Q:V->Prop}(h:H a=some (.ins C dx fs))(h2:Cls K C)(h3:Bp K C f)(h4:fs.lookup f=some v)(k:Q v):∃b C dx fs w,V.ref a=.ref b/\H b=some (.ins C dx fs)/\Cls K C/\Bp K C f/\fs.lookup f=some w/\Q w:=⟨a,C,dx,fs,v,rfl,h,h2,h3,h4,k⟩
theorem xw2{α β:Sort _}{a:α}{b:β}{P:α->Prop}{Q:α->β->Prop}{K:α->β->Prop}(h1:P a)(h2:Q a b)(k:K a b):∃x0,P x0/\∃x1,Q x0 x1/\K x0 x1:=⟨a,h1,b,h2,k⟩
theorem xw3{α β γ:Sort _}{a:α}{b:β}{c:γ}{P:α->Prop}{Q:α->β->Prop}{R:α->β->γ->Prop}{K:α->β->γ->Prop}(h1:P a)(h2:Q a b)(h3:R a b c)(k:K a b c):∃x0,P x0/\∃x1,Q x0 x1/\∃x2,R x0 x1 x2/\K x0 x1 x2:=⟨a,h1,b,h2,c,h3,k⟩
theorem xwb{α β γ:Sort _}{a:α}{b:β}{c:γ}{P:α->Prop}{Q:α->β->γ->Prop}{R:α->β->γ->Prop}{K:α->β->γ->Prop}(h1:P a)(h2:Q a b c)(h3:R a b c)(k:K a b c):∃x0,P x0/\∃x1 x2,Q x0 x1 x2/\R x0 x1 x2/\K x0 x1 x2:=⟨a,h1,b,c,h2,h3,k⟩
theorem xwm{α β γ δ:Sort _}{a:α}{b:β}{c:γ}{d:δ}{P:α->Prop}{Q:α->β->γ->δ->Prop}{R:α->β->γ->δ->Prop}{S:α->β->γ->δ->Prop}{K:α->β->γ->δ->Prop}(h1:P a)(h2:Q a b c d)(h3:R a b c d)(h4:S a b c d)(k:K a b c d):∃x0,P x0/\∃x1 x2 x3,Q x0 x1 x2 x3/\R x0 x1 x2 x3/\S x0 x1 x2 x3/\K x0 x1 x2 x3:=⟨a,h1,b,c,d,h2,h3,h4,k⟩
theorem xwi{α β γ δ ε:Sort _}{a:α}{b:β}{c:γ}{d:δ}{e:ε}{P:α->Prop}{Q:α->β->γ->δ->ε->Prop}{R:α->β->γ->δ->ε->Prop}{S:α->β->γ->δ->ε->Prop}{T:α->β->γ->δ->ε->Prop}{K:α->β->γ->δ->ε->Prop}(h1:P a)(h2:Q a b c d e)(h3:R a b c d e)(h4:S a b c d e)(h5:T a b c d e)(k:K a b c d e):∃x0,P x0/\∃x1 x2 x3 x4,Q x0 x1 x2 x3 x4/\R x0 x1 x2 x3 x4/\S x0 x1 x2 x3 x4/\T x0 x1 x2 x3 x4/\K x0 x1 x2 x3 x4:=⟨a,h1,b,c,d,e,h2,h3,h4,h5,k⟩
theorem xwf{α β γ δ ε ζ:Sort _}{a:α}{b:β}{c:γ}{d:δ}{e:ε}{f:ζ}{P:α->Prop}{Q:α->β->γ->δ->ε->ζ->Prop}{R:α->β->γ->δ->ε->ζ->Prop}{S:α->β->γ->δ->ε->ζ->Prop}{T:α->β->γ->δ->ε->ζ->Prop}{U:α->β->γ->δ->ε->ζ->Prop}{K:α->β->γ->δ->ε->ζ->Prop}(h1:P a)(h2:Q a b c d e f)(h3:R a b c d e f)(h4:S a b c d e f)(h5:T a b c d e f)(h6:U a b c d e f)(k:K a b c d e f):∃x0,P x0/\∃x1 x2 x3 x4 x5,Q x0 x1 x2 x3 x4 x5/\R x0 x1 x2 x3 x4 x5/\S x0 x1 x2 x3 x4 x5/\T x0 x1 x2 x3 x4 x5/\U x0 x1 x2 x3 x4 x5/\K x0 x1 x2 x3 x4 x5:=⟨a,h1,b,c,d,e,f,h2,h3,h4,h5,h6,k⟩
theorem xwn{α β γ δ ε:Sort _}{a:α}{b:β}{c:γ}{d:δ}{e:ε}{P:α->Prop}{Q:α->β->γ->δ->Prop}{R:α->β->γ->δ->Prop}{S:α->β->γ->δ->Prop}{T:α->β->γ->δ->ε->Prop}{K:α->β->γ->δ->ε->Prop}(h1:P a)(h2:Q a b c d)(h3:R a b c d)(h4:S a b c d)(h5:T a b c d e)(k:K a b c d e):∃x0,P x0/\∃x1 x2 x3,Q x0 x1 x2 x3/\R x0 x1 x2 x3/\S x0 x1 x2 x3/\∃x4,T x0 x1 x2 x3 x4/\K x0 x1 x2 x3 x4:=⟨a,h1,b,c,d,h2,h3,h4,e,h5,k⟩
theorem xwj{α β γ δ ε ζ:Sort _}{a:α}{b:β}{c:γ}{d:δ}{e:ε}{f:ζ}{P:α->Prop}{Q:α->β->Prop}{R:α->β->γ->δ->ε->ζ->Prop}{S:α->β->γ->δ->ε->ζ->Prop}{T:α->β->γ->δ->ε->ζ->Prop}{U:α->β->γ->δ->ε->ζ->Prop}{K:α->β->γ->δ->ε->ζ->Prop}(h1:P a)(h2:Q a b)(h3:R a b c d e f)(h4:S a b c d e f)(h5:T a b c d e f)(h6:U a b c d e f)(k:K a b c d e f):∃x0,P x0/\∃x1,Q x0 x1/\∃x2 x3 x4 x5,R x0 x1 x2 x3 x4 x5/\S x0 x1 x2 x3 x4 x5/\T x0 x1 x2 x3 x4 x5/\U x0 x1 x2 x3 x4 x5/\K x0 x1 x2 x3 x4 x5:=⟨a,h1,b,h2,c,d,e,f,h3,h4,h5,h6,k⟩
theorem Br{A B:TS}{D:LM}{σ:St}{H:Hp}(h:let r:=B D;let s:=σ;∀k:St->Hp->Prop,(∀{σ H},r σ H->k σ H)->let E:LM:={D with nx:=k};A E s H):tSeq A B D σ H:=h _ λz=>z
end L2
namespace Nu
open PySem PySem.NumText PyProof.Rows
theorem ext{a b:Str}(h:a.cps.toList=b.cps.toList):a=b:=by
 obtain⟨⟨l⟩⟩:=a;obtain⟨⟨r⟩⟩:=b;cases h;rfl
theorem len(x:Str):x.length=x.cps.toList.length:=by simp[Str.length]
end Nu
namespace Tx
open PySem PySem.Builtin PySem.Builtin.Str PyProof.Rows
theorem Cp(a b:Str):(a++b).cps.toList=a.cps.toList++b.cps.toList:=cps_toList_append a b
def jl(sep:List Nat):List (List Nat)->List Nat
 |[]=>[]
 |[x]=>x
 |x::y::r=>x++sep++jl sep (y::r)
theorem FU(sep:Str):∀ts:List Str,(Str.join sep ts).cps.toList=jl sep.cps.toList (ts.map λt=>t.cps.toList)
 |[]=>rfl
 |[x]=>rfl
 |x::y::r=>by
  have e:Str.join sep (x::y::r)=x++sep++Str.join sep (y::r):=rfl;rw[e,Cp,Cp,FU sep (y::r)];rfl
theorem Qa{c:Nat}:∀{x y A B:List Nat},c∉x->c∉y->x++c::A=y++c::B->x=y/\A=B
 |[],[],A,B,_,_,h=>⟨rfl,by simpa using h⟩
 |[],y::ys,A,B,_,hy,h=>by
  simp at h;exact absurd (by rw[h.1];exact C0) hy
 |x::xs,[],A,B,hx,_,h=>by
  simp at h;exact absurd (by rw[<-h.1];exact C0) hx
 |x::xs,y::ys,A,B,hx,hy,h=>by
  simp at h;obtain⟨e,h⟩:=h;obtain⟨e2,e3⟩:=Qa (x:=xs) (y:=ys) (λz=>hx (C1 _ z)) (λz=>hy (C1 _ z)) h;exact⟨by rw[e,e2],e3⟩
theorem Sl(c:Nat)(s:List Nat):∀(as bs:List (List Nat)),as≠[]->bs≠[]->(∀t∈as,c∉t)->(∀t∈bs,c∉t)->jl (c::s) as=jl (c::s) bs->as=bs
 |[],_,h,_,_,_,_=>absurd rfl h
 |_,[],_,h,_,_,_=>absurd rfl h
 |[x],[y],_,_,_,_,e=>by
  have e':x=y:=e;rw[e']
 |[x],y::z::r,_,_,ha,_,e=>by
  have e':x=y++c::s++jl (c::s) (z::r):=e;exact absurd (by rw[e'];simp) (ha x C0)
 |x::z::r,[y],_,_,_,hb,e=>by
  have e':x++c::s++jl (c::s) (z::r)=y:=e;exact absurd (by rw[<-e'];simp) (hb y C0)
 |x::x2::r,y::y2::r',_,_,ha,hb,e=>by
  have e':x++c::(s++jl (c::s) (x2::r))=y++c::(s++jl (c::s) (y2::r')):=by
   have:x++c::s++jl (c::s) (x2::r)=y++c::s++jl (c::s) (y2::r'):=e
   simpa using this
  obtain⟨e1,e2⟩:=Qa (ha x C0) (hb y C0) e';have e3:=List.append_cancel_left e2;rw[e1,Sl c s (x2::r) (y2::r') A4 A4 (λt ht=>ha t (C1 _ ht)) (λt ht=>hb t (C1 _ ht)) e3]
theorem Oy {as bs:List Str} (h:as.map (λt=>t.cps.toList)=bs.map λt=>t.cps.toList):as=bs:=by
 induction as generalizing bs with
 |nil=>cases bs with|nil=>rfl|cons=>simp at h
 |cons a r ih =>
  cases bs with
  |nil=>simp at h
  |cons b q =>
   simp at h;rw[Nu.ext (a:=a) (b:=b) (by simpa using h.1),ih (by simpa using h.2)]
theorem Qt(c:Nat)(ts:List Str)(hne:ts≠[])(hf:∀t∈ts,c∉t.cps.toList):Txt.split (Str.join ⟨#[c]⟩ ts) ⟨#[c]⟩=ts:=by
 refine Oy (Sl c [] _ _ ?_ ?_ ?_ ?_ ?_)
 ·intro h;have:=split_pos (Str.join ⟨#[c]⟩ ts) ⟨#[c]⟩;have h2:(Txt.split (Str.join ⟨#[c]⟩ ts) ⟨#[c]⟩).length=0:=by simpa using W8 List.length h
  lia
 ·simpa using hne
 ·intro t ht;obtain⟨p,hp,rfl⟩:=D1.mp ht;exact StrLaws.split_free _ c p hp
 ·intro t ht;obtain⟨p,hp,rfl⟩:=D1.mp ht;exact hf p hp
 ·have h:=W8 (λz:Str=>z.cps.toList) (StrLaws.join_split (Str.join ⟨#[c]⟩ ts) ⟨#[c]⟩);rw[FU,FU]at h;exact h
theorem Gw(c:Nat)(a b:Str)(h:c∉a.cps.toList):Txt.partition (a++⟨#[c]⟩++b) ⟨#[c]⟩=(a,⟨#[c]⟩,b):=by
 have hin:c∈(a++⟨#[c]⟩++b).cps.toList:=by rw[Cp,Cp];simp
 have hs:=StrLaws.partition_sum (a++⟨#[c]⟩++b) ⟨#[c]⟩;have hh:=partition_head (a++⟨#[c]⟩++b) ⟨#[c]⟩;have ho:=StrLaws.found_one (a++⟨#[c]⟩++b) c;rw[V9 hin]at ho;have hp2:(Txt.partition (a++⟨#[c]⟩++b) ⟨#[c]⟩).2.1=⟨#[c]⟩:=by
  unfold Txt.partition;cases e:occurrences (a++⟨#[c]⟩++b) ⟨#[c]⟩ 0 (a++⟨#[c]⟩++b).length 1 with
  |nil=>rw[e]at ho;simp at ho
  |cons i l=>rfl
 have hp1:c∉(Txt.partition (a++⟨#[c]⟩++b) ⟨#[c]⟩).1.cps.toList:=by
  rcases hh with ⟨_,no⟩|⟨i,e,hA,no⟩
  ·obtain⟨j,hj⟩:=F4 hin;exact absurd ((StrLaws.subAt_one _ c j).mpr hj) (no j)
  ·rw[e];exact StrLaws.part_free _ c 0 i (by have:i+1<=_:=hA.1;lia) λk _ hk=>no k hk
 have e:(Txt.partition (a++⟨#[c]⟩++b) ⟨#[c]⟩).1.cps.toList++(Txt.partition (a++⟨#[c]⟩++b) ⟨#[c]⟩).2.1.cps.toList++(Txt.partition (a++⟨#[c]⟩++b) ⟨#[c]⟩).2.2.cps.toList=a.cps.toList++[c]++b.cps.toList:=by
  have e0:=W8 (λz:Str=>z.cps.toList) hs;rw[Cp,Cp,Cp,Cp]at e0;exact e0
 rw[hp2]at e;have e':(Txt.partition (a++⟨#[c]⟩++b) ⟨#[c]⟩).1.cps.toList++c::(Txt.partition (a++⟨#[c]⟩++b) ⟨#[c]⟩).2.2.cps.toList=a.cps.toList++c::b.cps.toList:=by simpa using e
 obtain⟨e1,e2⟩:=Qa hp1 h e';exact A1d (Nu.ext e1) (A1d hp2 (Nu.ext e2))
theorem WV{n:Int}(h0:0<=n)(h1:n<=9):(Str.ofString (toString n))=(⟨#[48+n.toNat]⟩:Str):=by
 obtain⟨m,rfl⟩:=F6 h0;exact(show ∀m:Nat,m<10->(Str.ofString (toString (m:Int)))=(⟨#[48+(m:Int).toNat]⟩:Str) by decide +kernel) m A0
end Tx
namespace Tx
open PySem PySem.Builtin PySem.Builtin.Str PyProof.Rows
end Tx
namespace Tx
open PySem PySem.Builtin PySem.Builtin.Str PyProof.Rows
theorem Yd(x:Str)(c d k:Nat)(h1:x.cps.toList[k]?=some c)(h2:x.cps.toList[k+1]?=some d):StrLaws.At x ⟨#[c,d]⟩ x.length k:=by
 have l:k+1<x.cps.toList.length:=(B4.mp h2).1;refine⟨?_,?_⟩
 ·show k+2<=x.length;rw[Nu.len];lia
 ·rw[StrLaws.subAt_eq];show((x.cps.toList.drop k).take 2==[c,d])=true;have e1:x.cps.toList.drop k=c::d::x.cps.toList.drop (k+2):=by
   rw[List.drop_eq_getElem_cons A0,(B4.mp h1).2,List.drop_eq_getElem_cons l,(B4.mp h2).2]
  rw[e1];simp
def Led(c d:Nat)(l:List Nat):Prop:=∀k:Nat,l[k]?=some c->l[k+1]?=some d
theorem Na{x:Str}{c d a b:Nat}(hx:Led c d x.cps.toList)(hb:b<=x.length)(hn:∀k,a<=k->k<b->¬StrLaws.At x ⟨#[c,d]⟩ x.length k):c∉(strSub x a b).cps.toList:=by
 intro hm;rw[StrLaws.strSub_toList]at hm;obtain⟨j,hj⟩:=F4 hm;have hlt:j<b-a:=by
  have h1:j<((x.cps.toList.drop a).take (b-a)).length:=(B4.mp hj).1;rw[F9]at h1;lia
 rw[S0 hlt,List.getElem?_drop]at hj;exact hn (a+j) A0 A0 (Yd x c d (a+j) hj (hx _ hj))
theorem LQ{x:Str}{c d:Nat}(hx:Led c d x.cps.toList):∀(cuts:List Nat)(a f:Nat),StrLaws.ChainG x ⟨#[c,d]⟩ x.length a cuts f->(∀k,f<=k->¬StrLaws.At x ⟨#[c,d]⟩ x.length k)->∀p∈StrLaws.partsFrom x 2 a cuts,c∉p.cps.toList
 |[],a,f,h,hn,p,hp=>by
  have e:f=a:=h;subst e;rw[C3.mp hp];exact Na hx (B6 _) λk h1 _=>hn k h1
 |g::r,a,f,h,hn,p,hp=>by
  rcases B8.mp hp with rfl|hp'
  ·exact Na hx (by have:g+2<=_:=h.2.1.1;lia) h.2.2.1
  ·exact LQ hx r _ f h.2.2.2 hn p hp'
theorem kind_le(x:Str):¬Builtin.Str.strKind x<Builtin.Str.strKind (⟨#[59,32]⟩:Str):=by
 have e:Builtin.Str.strKind (⟨#[59,32]⟩:Str)=1:=by simp[Builtin.Str.strKind]
 rw[e];unfold Builtin.Str.strKind;split
 ·decide
 ·split<;>decide
theorem Qu{x:Str}(hx:Led 59 32 x.cps.toList):∀p∈Txt.split x ⟨#[59,32]⟩,59∉p.cps.toList:=by
 obtain⟨f,hG,hn⟩:=StrLaws.occ_tight x ⟨#[59,32]⟩ A3;have whole:59∈x.cps.toList->∃k,StrLaws.At x ⟨#[59,32]⟩ x.length k:=λhm=>by
  obtain⟨j,hj⟩:=F4 hm;exact⟨j,Yd x 59 32 j hj (hx j hj)⟩
 unfold Txt.split;split
 ·rename_i hc;intro p hp;rw[C3.mp hp];intro hm;obtain⟨k,hk⟩:=whole hm;have h2:k+2<=x.length:=hk.1;rw[Bool.or_eq_true,A2g,A2g]at hc;rcases hc with h|h
  ·have h3:x.length<2:=h;lia
  ·exact kind_le x h
 ·split
  ·rename_i he;intro p hp;rw[C3.mp hp];intro hm;obtain⟨k,hk⟩:=whole hm;rw[List.isEmpty_iff.mp he]at hG;have ef:f=0:=hG;exact hn k A0 hk
  ·rw[StrLaws.partsBetween_eq];exact LQ hx _ 0 f hG hn
theorem Ww{c d:Nat}(hcd:c≠d):∀ts:List (List Nat),(∀t∈ts,c∉t)->Led c d (jl [c,d] ts)
 |[],_=>λk h=>by simp[jl]at h
 |[x],hf=>λk h=>absurd (D2 (show x[k]?=some c from h)) (hf x C0)
 |x::y::r,hf=>λk h=>by
  have ih:=Ww hcd (y::r) λt ht=>hf t (C1 _ ht);have e:jl [c,d] (x::y::r)=x++(c::d::jl [c,d] (y::r)):=by
   show x++[c,d]++jl [c,d] (y::r)=_;simp
  rw[e]at h⊢;by_cases h1:k<x.length
  ·rw[J8 h1]at h;exact absurd (D2 h) (hf x C0)
  ·rw[F2 A0]at h;rw[F2 A0];obtain⟨m,hm⟩:∃m,k-x.length=m:=⟨_,rfl⟩
   rw[show k+1-x.length=m+1 by lia];rw[hm]at h;cases m with
   |zero=>rfl
   |succ m =>
    cases m with
    |zero =>
     have:some d=some c:=h;exact absurd (W3 this).symm hcd
    |succ m =>
     rw[T0,T0]at h⊢;exact ih m h
theorem Qs(ts:List Str)(hne:ts≠[])(hf:∀t∈ts,59∉t.cps.toList):Txt.split (Str.join ⟨#[59,32]⟩ ts) ⟨#[59,32]⟩=ts:=by
 have led:Led 59 32 (Str.join ⟨#[59,32]⟩ ts).cps.toList:=by
  rw[FU];refine Ww A3 _ λt ht=>?_;obtain⟨p,hp,rfl⟩:=D1.mp ht;exact hf p hp
 refine Oy (Sl 59 [32] _ _ ?_ ?_ ?_ ?_ ?_)
 ·intro h;have:=split_pos (Str.join ⟨#[59,32]⟩ ts) ⟨#[59,32]⟩;have h2:(Txt.split (Str.join ⟨#[59,32]⟩ ts) ⟨#[59,32]⟩).length=0:=by simpa using W8 List.length h
  lia
 ·simpa using hne
 ·intro t ht;obtain⟨p,hp,rfl⟩:=D1.mp ht;exact Qu led p hp
 ·intro t ht;obtain⟨p,hp,rfl⟩:=D1.mp ht;exact hf p hp
 ·have h:=W8 (λz:Str=>z.cps.toList) (StrLaws.join_split (Str.join ⟨#[59,32]⟩ ts) ⟨#[59,32]⟩);rw[FU,FU]at h;exact h
end Tx
namespace L2
open PySem PySem.Spec PyProof.Rows
section
variable{κ:Type}[DecidableEq κ]
def Bu(kvs:List (κ×V))(k:κ):Option V:=(kvs.find? λkv=>decide (kv.1=k)).map (·.2)
def Dw(kvs:List (κ×V))(k:κ)(v:V):List (κ×V) :=
 if(kvs.any λkv=>decide (kv.1=k))=true then kvs.map (λkv=>if kv.1=k then(kv.1,v)else kv)else kvs++[(k,v)]
theorem BE{p:κ×V}{r:List (κ×V)}{k:κ}(e:p.1=k):Bu (p::r) k=some p.2:=by simp[Bu,M9,e]
theorem Bh{p:κ×V}{r:List (κ×V)}{k:κ}(e:¬p.1=k):Bu (p::r) k=Bu r k:=by simp[Bu,M9,e]
theorem Ex(k:κ):∀kvs:List (κ×V),(kvs.any λkv=>decide (kv.1=k))=(Bu kvs k).isSome
 |[]=>rfl
 |p::r=>by
  rw[S3];by_cases e:p.1=k
  ·simp only[BE e,V9 e,Bool.true_or,Option.isSome_some]
  ·rw[Bh e,W0 e,Bool.false_or];exact Ex k r
theorem Qh(k j:κ)(y:V):∀kvs:List (κ×V),Bu (kvs.map λkv=>if kv.1=k then(kv.1,y)else kv) j=(Bu kvs j).map λx=>if j=k then y else x
 |[]=>rfl
 |p::r=>by
  have ih:=Qh k j y r;rw[F1];by_cases h:p.1=k
  ·rw[W2 h];by_cases e:p.1=j
   ·rw[BE (p:=(p.1,y)) e,BE e,T9,W2 (e.symm.trans h)]
   ·rw[Bh (p:=(p.1,y)) e,Bh e,ih]
  ·rw[V8 h];by_cases e:p.1=j
   ·rw[BE (p:=p) e,BE e,T9,V8 (λz=>h (e.trans z))]
   ·rw[Bh (p:=p) e,Bh e,ih]
theorem Oo(k j:κ)(y:V):∀kvs:List (κ×V),Bu kvs k=none->Bu (kvs++[(k,y)]) j=if j=k then some y else Bu kvs j
 |[],_=>by
  by_cases e:k=j
  ·rw[W2 e.symm];exact BE (p:=(k,y)) e
  ·rw[V8 (λz=>e z.symm)];exact Bh (p:=(k,y)) e
 |p::r,hn=>by
  rw[List.cons_append];have hk:¬p.1=k:=λz=>by rw[BE z]at hn;cases hn
  rw[Bh hk]at hn;have ih:=Oo k j y r hn;by_cases e:p.1=j
  ·rw[BE e,BE e,V8 (λz=>hk (e.trans z))]
  ·rw[Bh e,Bh e,ih]
theorem Jr(kvs:List (κ×V))(k j:κ)(y:V):Bu (Dw kvs k y) j=if j=k then some y else Bu kvs j:=by
 unfold Dw;by_cases a:(kvs.any λkv=>decide (kv.1=k))=true
 ·rw[W2 a,Qh];rw[Ex]at a;by_cases e:j=k
  ·obtain⟨x,hx⟩:=Option.isSome_iff_exists.mp a;rw[W2 e,e,hx,T9,W2 rfl]
  ·rw[V8 e];cases Bu kvs j with
   |none=>rfl
   |some x=>rw[T9,V8 e]
 ·rw[V8 a];refine Oo k j y kvs ?_;rw[Ex]at a;cases q:Bu kvs k with
  |none=>rfl
  |some x=>rw[q]at a;exact(a rfl).elim
theorem Fl(kvs:List (κ×V))(k:κ)(v:V):(Dw kvs k v).length<=kvs.length+1:=by
 unfold Dw;split
 ·rw[B5];lia
 ·rw[C4,D8,List.length_nil];lia
theorem JC{kvs:List (κ×V)}{k:κ}(v:V)(h:Bu kvs k=none):Dw kvs k v=kvs++[(k,v)]:=by
 unfold Dw;rw[Ex,h];exact V8 A3
theorem GW.isSome_eq{o:Option V}{u:Option Value}(r:GW o u):o.isSome=u.isSome:=by
 cases o with
 |none=>cases u with
  |none=>rfl
  |some _=>exact(show False from r).elim
 |some _=>cases u with
  |none=>exact(show False from r).elim
  |some _=>rfl
theorem GW.getD{o:Option V}{u:Option Value}{d:V}{d':Value}(r:GW o u)(rd:AO d d'):AO (o.getD d) (u.getD d'):=by
 cases o with
 |none=>cases u with
  |none=>exact rd
  |some _=>exact(show False from r).elim
 |some _=>cases u with
  |none=>exact(show False from r).elim
  |some _=>exact r
theorem KV.val{kvs:List (κ×V)}{vs:List (κ×Value)}(r:KV kvs vs)(k:κ):GW (Bu kvs k) (valueAt vs k):=by
 unfold KV at r;induction r with
 |nil=>exact True.intro
 |@cons p q ps qs h t ih =>
  obtain⟨h1,h2⟩:=h;by_cases e:p.1=k
  ·have e':q.1=k:=h1.symm.trans e;have b:valueAt (q::qs) k=some q.2:=by simp[valueAt,M9,e']
   rw[BE e,b];exact h2
  ·have e':¬q.1=k:=λz=>e (h1.trans z);have b:valueAt (q::qs) k=valueAt qs k:=by simp[valueAt,M9,e']
   rw[Bh e,b];exact ih
theorem KV.any{kvs:List (κ×V)}{vs:List (κ×Value)}(r:KV kvs vs)(k:κ):(kvs.any λkv=>decide (kv.1=k))=vs.any λkv=>decide (kv.1=k):=by
 unfold KV at r;induction r with
 |nil=>rfl
 |cons h t ih=>rw[S3,S3,ih,h.1]
theorem KV.repl{kvs:List (κ×V)}{vs:List (κ×Value)}(r:KV kvs vs)(k:κ){y:V}{u:Value}(ry:AO y u) :
  KV (kvs.map λkv=>if kv.1=k then(kv.1,y)else kv) (vs.map λkv=>if kv.1=k then(kv.1,u)else kv):=by
 unfold KV at r⊢;induction r with
 |nil=>exact .nil
 |@cons p q ps qs h t ih =>
  rw[F1,F1];refine .cons ?_ ih;obtain⟨h1,h2⟩:=h;by_cases e:p.1=k
  ·rw[W2 e,W2 (h1.symm.trans e)];exact⟨h1,ry⟩
  ·rw[V8 e,V8 (λz=>e (h1.trans z))];exact⟨h1,h2⟩
theorem KV.put{kvs:List (κ×V)}{vs:List (κ×Value)}(r:KV kvs vs)(k:κ){y:V}{u:Value}(ry:AO y u):KV (Dw kvs k y) (stored vs k u):=by
 unfold Dw stored;rw[r.any k];by_cases e:(vs.any λkv=>decide (kv.1=k))=true
 ·rw[W2 e,W2 e];exact r.repl k ry
 ·rw[V8 e,V8 e];exact K6 r ⟨rfl,ry⟩
theorem KV.length{kvs:List (κ×V)}{vs:List (κ×Value)}(r:KV kvs vs):kvs.length=vs.length:=W9 r
end
theorem OB{P:Program}{w:World}{k:Key}{u:Value}(r:AO (kV k) u):(BS P w).is k u=true:=by
 cases k with
 |inl i=>obtain⟨t,e⟩:=(show ∃t,u=Value.int i t from r);subst e;exact QZ P w i t
 |inr x=>obtain⟨t,e⟩:=(show ∃t,u=Value.str x t from r);subst e;exact QY P w x t
theorem OC{P:Program}{w:World}:∀{ks:List Key}{us:List Value},AL (ks.map kV) us->ItemsAre (BS P w) ks us
 |[],_,r=>by rw[List.map_nil]at r;cases r;exact .nil
 |k::ks,_,r=>by
  rw[F1]at r;cases r with
  |cons h t=>exact .cons (OB h) (OC t)
abbrev KT(H:Hp):List (List Key×V)->List (List Key×Addr×Value)->Prop:=Paired λp q=>p.1=q.1/\H q.2.1=some (.tup (p.1.map kV))/\AO p.2 q.2.2
theorem KT.val{H:Hp}{kvs:List (List Key×V)}{xs:List (List Key×Addr×Value)}(r:KT H kvs xs)(k:List Key):GW (Bu kvs k) ((atKey xs k).map (·.2)):=by
 induction r with
 |nil=>exact True.intro
 |@cons p q ps qs h t ih =>
  obtain⟨h1,_,h2⟩:=h;by_cases e:p.1=k
  ·have e':q.1=k:=h1.symm.trans e;have b:atKey (q::qs) k=some q.2:=by simp[atKey,M9,e']
   rw[BE e,b];exact h2
  ·have e':¬q.1=k:=λz=>e (h1.trans z);have b:atKey (q::qs) k=atKey qs k:=by simp[atKey,M9,e']
   rw[Bh e,b];exact ih
theorem KT.repl{H:Hp}{kvs:List (List Key×V)}{xs:List (List Key×Addr×Value)}(r:KT H kvs xs)(k:List Key){y:V}{u:Value}(ry:AO y u) :
  KT H (kvs.map λkv=>if kv.1=k then(kv.1,y)else kv) (xs.map (putAt k u)):=by
 induction r with
 |nil=>exact .nil
 |@cons p q ps qs h t ih =>
  rw[F1,F1];refine .cons ?_ ih;obtain⟨h1,h2,h3⟩:=h;unfold putAt;by_cases e:p.1=k
  ·rw[W2 e,W2 (h1.symm.trans e)];exact⟨h1,h2,ry⟩
  ·rw[V8 e,V8 (λz=>e (h1.trans z))];exact⟨h1,h2,h3⟩
theorem KT.put{H:Hp}{kvs:List (List Key×V)}{xs:List (List Key×Addr×Value)}(r:KT H kvs xs)(k:List Key){b:Addr}{y:V}{u:Value}(hb:H b=some (.tup (k.map kV)))(ry:AO y u) :
  KT H (Dw kvs k y) (storedH xs k b u):=by
 have e:(kvs.any λkv=>decide (kv.1=k))=(atKey xs k).isSome:=by
  rw[Ex,(r.val k).isSome_eq,V3]
 unfold Dw storedH;rw[e];by_cases q:(atKey xs k).isSome=true
 ·rw[W2 q,W2 q];exact r.repl k ry
 ·rw[V8 q,V8 q];exact K6 r ⟨rfl,hb,ry⟩
theorem KT.keeps{H H':Hp}{kvs:List (List Key×V)}{xs:List (List Key×Addr×Value)}(r:KT H kvs xs)(ht:∀b ys,H b=some (.tup ys)->H' b=some (.tup ys)):KT H' kvs xs :=
 Paired.mapP r λ_ _ z=>⟨z.1,ht _ _ z.2.1,z.2.2⟩
section
variable{P:Program}{w:World}{H:Hp}{h:Heap}{a:Addr}
theorem rd_of{u:HO}(ok:HOk P w H h)(e:Rd H a u):BF P w H h a u:=e.ok ok
theorem NB{kvs:List (Key×V)}(ok:HOk P w H h)(e:Rd H a (.dK kvs)):kvs.length<=sizeLine/\(a==sysModules)=false/\∃vs,KV kvs vs/\h.DictOf (BS P w) a vs :=
 show BF P w H h a (.dK kvs)from rd_of ok e
theorem dk_of{kvs:List (Key×V)}(ok:HOk P w H h)(e:H a=some (.dK kvs)):kvs.length<=sizeLine/\(a==sysModules)=false/\∃vs,KV kvs vs/\h.DictOf (BS P w) a vs:=NB ok (.inl e)
theorem Jo{ks:List Key}(ok:HOk P w H h)(e:H a=some (.tup (ks.map kV))):(tupleKind (BS P w)).is h ks a:=by
 obtain⟨_,its,r,o,h1,h2,n,h3⟩:=(show BF P w H h a (.tup (ks.map kV))from ok a _ e)
 exact⟨o,its.toArray,n,h1,h2,h3,by simpa using OC r⟩
theorem NA{kvs:List (List Key×V)}(ok:HOk P w H h)(e:Rd H a (.dT kvs)):kvs.length<=sizeLine/\(a==sysModules)=false /\
  ∃xs,KT H kvs xs/\h.DictOfH (tupleKind (BS P w)) a xs:=by
 obtain⟨z,y,xs,r,o,es,ep,h1,h2,h3,h4,h5⟩:=(show BF P w H h a (.dT kvs)from rd_of ok e)
 refine⟨z,y,xs,r,o,es,ep,h1,h2,h3,h4,λx hx=>?_,h5⟩;have all:∀{l:List (List Key×V)}{m:List (List Key×Addr×Value)},KT H l m->∀x∈m,(tupleKind (BS P w)).is h x.1 x.2.1:=by
  intro l m q;induction q with
  |nil=>intro x hx;exact nomatch hx
  |@cons p q ps qs hq t ih =>
   intro x hx;rcases B8.mp hx with e|hx
   ·subst e;exact Jo ok (by rw[<-hq.1];exact hq.2.1)
   ·exact ih x hx
 exact all r x hx
theorem dt_of{kvs:List (List Key×V)}(ok:HOk P w H h)(e:H a=some (.dT kvs)):kvs.length<=sizeLine/\(a==sysModules)=false /\
  ∃xs,KT H kvs xs/\h.DictOfH (tupleKind (BS P w)) a xs:=NA ok (.inl e)
end
def EZ(H:Hp)(a:Addr)(y:V)(r:Option V):Prop :=
 (∃kvs k,Rd H a (.dK kvs)/\y=kV k/\r=Bu kvs k)\/∃kvs k b,Rd H a (.dT kvs)/\y=.ref b/\H b=some (.tup (k.map kV))/\r=Bu kvs k
def Jq(H:Hp)(a:Addr)(y v:V)(H':Hp):Prop :=
 (∃kvs k,H a=some (.dK kvs)/\y=kV k/\kvs.length<sizeLine/\H'=upd H a (.dK (Dw kvs k v))) \/
 ∃kvs k b,H a=some (.dT kvs)/\y=.ref b/\H b=some (.tup (k.map kV))/\kvs.length<sizeLine/\H'=upd H a (.dT (Dw kvs k v))
theorem EZ.k{H:Hp}{a:Addr}{kvs:List (Key×V)}{k:Key}(e:H a=some (.dK kvs)):EZ H a (kV k) (Bu kvs k):=.inl ⟨kvs,k,.inl e,rfl,rfl⟩
theorem EZ.t{H:Hp}{a b:Addr}{kvs:List (List Key×V)}{k:List Key}(e:H a=some (.dT kvs))(eb:H b=some (.tup (k.map kV))):EZ H a (.ref b) (Bu kvs k):=.inr ⟨kvs,k,b,.inl e,rfl,eb,rfl⟩
theorem Jq.k{H:Hp}{a:Addr}{kvs:List (Key×V)}{k:Key}{v:V}(e:H a=some (.dK kvs))(hl:kvs.length<sizeLine):Jq H a (kV k) v (upd H a (.dK (Dw kvs k v))):=.inl ⟨kvs,k,e,rfl,hl,rfl⟩
theorem Jq.t{H:Hp}{a b:Addr}{kvs:List (List Key×V)}{k:List Key}{v:V}(e:H a=some (.dT kvs))(eb:H b=some (.tup (k.map kV)))(hl:kvs.length<sizeLine) :
  Jq H a (.ref b) v (upd H a (.dT (Dw kvs k v))):=.inr ⟨kvs,k,b,e,rfl,eb,hl,rfl⟩
section
variable{X:Cx}{pins:List (Addr×Obj)}{σ:St}{H:Hp}{s:Shared}{a:Addr}{y v:V}{u r:Value}{o:Option V}{A:Around}{E:Value->Shared->Prop}
theorem Inv.big(I:Inv X pins σ H s):sysModules<s.heap.objs.size:=by
 have h:mainGlobals<s.heap.objs.size:=(I.mod.glob.keeps I.bk).lt;exact Q9 A3 h
theorem UU{Q:Value->Shared->Prop}(hu:A.units+1<cLine)(I:Inv X pins σ H s)(g:EZ H a y (some v))(ry:AO y u)(h:∀w' s',Inv X pins σ H s'->AO v w'->Q w' s') :
  wpAny (model X.prog X.w) A (getItem (.ref a) u) Q E s:=by
 rcases g with ⟨kvs,k,e,ey,l⟩|⟨kvs,k,b,e,ey,eb,l⟩
 ·subst ey;obtain⟨z,hd,vs,rel,dd⟩:=NB I.hok e;obtain⟨w',hw,rw'⟩:=GW.some_of (v:=v) (o:=valueAt vs k) (by rw[l];exact rel.val k);exact wpAny_getItem_of (OB ry) dd.mapOf hw (h w' _ (I.tok _) rw')
 ·subst ey;cases(show u=Value.ref b from ry);obtain⟨z,hd,xs,rel,dd⟩:=NA I.hok e;obtain⟨w',hw,rw'⟩:=GW.some_of (v:=v) (o:=(atKey xs k).map (·.2)) (by rw[l];exact rel.val k);obtain⟨p,hp,hp2⟩:=C9.mp hw;refine wpAny_getItem_heap (K0 hu) (Jo I.hok eb) dd hp ?_;rw[hp2];exact h w' _ (I.tok _) rw'
theorem d_in{Q:Value->Shared->Prop}(hu:A.units+1<cLine)(I:Inv X pins σ H s)(g:EZ H a y o)(ry:AO y u)(h:∀s',Inv X pins σ H s'->Q (.bool o.isSome) s') :
  wpAny (model X.prog X.w) A (compareOp .In u (.ref a)) Q E s:=by
 rcases g with ⟨kvs,k,e,ey,l⟩|⟨kvs,k,b,e,ey,eb,l⟩
 ·subst ey;obtain⟨z,hd,vs,rel,dd⟩:=NB I.hok e;refine wpAny_in_of (OB ry) hd dd.mapOf ?_;rw[<-(rel.val k).isSome_eq,<-l];exact h _ (I.tok _)
 ·subst ey;cases(show u=Value.ref b from ry);obtain⟨z,hd,xs,rel,dd⟩:=NA I.hok e;refine wpAny_in_heap (K0 hu) (Jo I.hok eb) hd dd ?_;have q:=(rel.val k).isSome_eq;rw[V3]at q;rw[<-q,<-l];exact h _ (I.tok _)
theorem d_notIn{Q:Value->Shared->Prop}(hu:A.units+1<cLine)(I:Inv X pins σ H s)(g:EZ H a y o)(ry:AO y u)(h:∀s',Inv X pins σ H s'->Q (.bool (!o.isSome)) s') :
  wpAny (model X.prog X.w) A (compareOp .NotIn u (.ref a)) Q E s:=by
 rcases g with ⟨kvs,k,e,ey,l⟩|⟨kvs,k,b,e,ey,eb,l⟩
 ·subst ey;obtain⟨z,hd,vs,rel,dd⟩:=NB I.hok e;refine wpAny_notIn_of (OB ry) hd dd.mapOf ?_;rw[<-(rel.val k).isSome_eq,<-l];exact h _ (I.tok _)
 ·subst ey;cases(show u=Value.ref b from ry);obtain⟨z,hd,xs,rel,dd⟩:=NA I.hok e;refine wpAny_notIn_heap (K0 hu) (Jo I.hok eb) hd dd ?_;have q:=(rel.val k).isSome_eq;rw[V3]at q;rw[<-q,<-l];exact h _ (I.tok _)
theorem Mv{h':Heap}{t':Nat}{ob:HO}(I:Inv X pins σ H s)(mu:Mut (H a))(hs:Heap.SameBut a s.heap h')(he:∃q,h'.get? a=some q)(new:BF X.prog X.w (upd H a ob) h' a ob) :
  Inv X pins σ (upd H a ob) {s with heap:=h',toks:=t'} :=
 I.write (x:=a) (e:=a) mu (.inl rfl) (λb q hb z=>(hs.2 b hb).trans z) he new
theorem dk_new{P:Program}{w:World}{H':Hp}{h':Heap}{kvs:List (Key×V)}{vs:List (Key×Value)}(z:kvs.length<=sizeLine)(hd:(a==sysModules)=false)(rel:KV kvs vs)(dd:h'.DictOf (BS P w) a vs) :
  BF P w H' h' a (.dK kvs):=⟨z,hd,vs,rel,dd⟩
theorem UT{H':Hp}{Q:Unit->Shared->Prop}(hu:A.units+1<cLine)(I:Inv X pins σ H s)(g:Jq H a y v H')(ry:AO y u)(rv:AO v r)(h:∀s',Inv X pins σ H' s'->Q () s') :
  wpAny (model X.prog X.w) A (setItem (.ref a) u r) Q E s:=by
 rcases g with ⟨kvs,k,e,ey,l,eH⟩|⟨kvs,k,b,e,ey,eb,l,eH⟩
 ·subst ey eH;obtain⟨z,hd,vs,rel,dd⟩:=dk_of I.hok e;have hz:vs.length<=sizeLine:=by rw[<-rel.length];exact z
  have hl:(Dw kvs k v).length<=sizeLine:=by have:=Fl kvs k v;lia
  refine wpAny_setItem_pairs (hsz:=hz) (OB ry) dd λh' dd' hs=>h _ ?_;have he:∃q,h'.get? a=some q:=let ⟨q,_,_,hq,_⟩:=dd';⟨q,hq⟩;exact Mv I (by rw[e];exact True.intro) hs he (dk_new hl hd (rel.put k rv) dd')
 ·subst ey eH;cases(show u=Value.ref b from ry);obtain⟨z,hd,xs,rel,dd⟩:=dt_of I.hok e;have hz:xs.length<=sizeLine:=by rw[<-W9 rel];exact z
  have hl:(Dw kvs k v).length<=sizeLine:=by have:=Fl kvs k v;lia
  refine wpAny_setItem_heap (hsz:=hz) (K0 hu) (Jo I.hok eb) dd λh' dd' hs=>h _ ?_;obtain⟨q,es,ep,hq,h2,h3,h4,_,h5⟩:=dd';refine Mv I (by rw[e];exact True.intro) hs ⟨q,hq⟩ ⟨hl,hd,_,(rel.put k eb rv).keeps λc ys ec=>?_,q,es,ep,hq,h2,h3,h4,h5⟩;rw[Ao (Ay ec e (λz=>nomatch z))];exact ec
end
section
variable{X:Cx}{pins:List (Addr×Obj)}{σ:St}{H:Hp}{s:Shared}{a:Addr}{kvs:List (Key×V)}{k:Key}{u:Value}{A:Around}{E:Value->Shared->Prop}
end
def NoSl(i:Expr):Prop:=∀ov iv,subscripted i false ov iv=operate [ov,iv] (getItem ov iv)
theorem subD_of{prog:Program}{w:World}{A:Around}{E:Value->Shared->Prop}{s:Shared}{env:Env}{value slice:Expr}{pos:Pos}{T id:String}{Q:Value->Shared->Prop}
  (hl:typeLookup (.type T) "__getitem__" = pure (some (.builtin id))) (hs:NoSl slice)
  (h:wpAny (model prog w) A (eval value env) (λo s₁=>wpAny (model prog w) A (eval slice env) (λi s₂=>s₂.TypeIs o T/\wpAny (model prog w) A (getItem o i) Q E s₂) E s₁) E s) :
  wpAny (model prog w) A (eval (.Subscript value slice pos) env) Q E s:=by
 refine Subscript_ (Z9 h (λo s₁ h₁=>Z9 h₁ (λi s₂ h₂=>?_) λ_ _ x=>x) λ_ _ x=>x);obtain⟨hT,h₂⟩:=h₂;unfold subscriptTail;refine V7 ?_;rw[getitemInPython_of_ne hT.not_modules];refine V7 (wpAny_specialOf hT hl ?_);have fin:wpAny (model prog w) A (subscripted slice false o i) (λr s₃=>wpAny (model prog w) A (letTemporaryGo value o r >>= λ_=>pure r) Q E s₃) E s₂:=by
  rw[hs o i];exact wpAny_operating (Z9 h₂ (λr s₃ h₃=>V7 (wpAny_letTemporaryGo (W1 h₃))) λ_ _ x=>x)
 first
  |exact W1 (V7 fin)
  |exact V7 (W1 (V7 fin))
  |exact V7 fin
theorem Rk{X:Cx}{pins:List (Addr×Obj)}{σ:St}{H:Hp}{s:Shared}{a:Addr}{y:V}{o:Option V}(I:Inv X pins σ H s)(g:EZ H a y o):s.TypeIs (.ref a) "dict" := by
 rcases g with ⟨kvs,k,e,_,_⟩|⟨kvs,k,b,e,_,_,_⟩
 ·obtain⟨_,_,vs,_,dd⟩:=NB I.hok e;exact dd.typeIs
 ·obtain⟨_,_,xs,_,dd⟩:=NA I.hok e;exact dd.typeIs
def tDGet(td ty:TE):TE:=fun σ H Q=>td σ H λx H1=>ty σ H1 λy H2=>∃a v,x=.ref a/\EZ H2 a y (some v)/\Q v H2
def tDIn(ty td:TE):TE:=fun σ H Q=>ty σ H λy H1=>td σ H1 λx H2=>∃a o,x=.ref a/\EZ H2 a y o/\Q (.bl o.isSome) H2
def tDNotIn(ty td:TE):TE:=fun σ H Q=>ty σ H λy H1=>td σ H1 λx H2=>∃a o,x=.ref a/\EZ H2 a y o/\Q (.bl (!o.isSome)) H2
def sDPut(td ty tv:TE):TS:=λD σ H=>tv σ H λv H1=>td σ H1 λx H2=>ty σ H2 λy H3=>∃a H4,x=.ref a/\Jq H3 a y v H4/\D.nx σ H4
section
variable{X:Cx}{o i e value:Expr}{pos pos' tpos:Pos}{td ty tv:TE}
theorem Th(hu:X.A.units+1<cLine)(ho:PE X o td)(hi:PE X i ty)(hs:NoSl i):PE X (.Subscript o i pos) (tDGet td ty):=by
 intro pins s σ H Q I h;refine subD_of PySem.F.slot_dict_getitem.lookup hs (thn (ho pins s σ H _ I h) λu s1 ⟨x,H1,I1,rx,q1⟩=>thn (hi pins s1 σ H1 _ I1 q1) λiv s2 ⟨y,H2,I2,ry,a,v,ex,g,q2⟩=>?_);subst ex;obtain rfl:u=Value.ref a:=rx;exact⟨Rk I2 g,UU hu I2 g ry λw' s3 I3 rw'=>⟨v,H2,I3,rw',q2⟩⟩
theorem pc_din(hu:X.A.units+1<cLine)(hi:PE X i ty)(ho:PE X o td):PC X .In i o (tDIn ty td):=by
 intro pins s σ H Q I h;refine thn (hi pins s σ H _ I h) λiv s1 ⟨y,H1,I1,ry,q1⟩=>thn (ho pins s1 σ H1 _ I1 q1) λu s2 ⟨x,H2,I2,rx,a,ov,ex,g,q2⟩=>?_;subst ex;obtain rfl:u=Value.ref a:=rx;exact d_in hu I2 g ry λs3 I3=>⟨.bl ov.isSome,H2,I3,rfl,q2⟩
theorem Uo(hu:X.A.units+1<cLine)(hi:PE X i ty)(ho:PE X o td):PC X .NotIn i o (tDNotIn ty td):=by
 intro pins s σ H Q I h;refine thn (hi pins s σ H _ I h) λiv s1 ⟨y,H1,I1,ry,q1⟩=>thn (ho pins s1 σ H1 _ I1 q1) λu s2 ⟨x,H2,I2,rx,a,ov,ex,g,q2⟩=>?_;subst ex;obtain rfl:u=Value.ref a:=rx;exact d_notIn hu I2 g ry λs3 I3=>⟨.bl (!ov.isSome),H2,I3,rfl,q2⟩
theorem Fe(hu:X.A.units+1<cLine)(ho:PE X o td)(hi:PE X i ty)(hv:PE X value tv)(hs:swapsWith value (some (.Subscript o i pos')) pos.line X.env=pure false) :
  PS X (.Assign [.Subscript o i pos'] value pos) (sDPut td ty tv):=by
 intro pins s σ H D I h;refine wpAny_Assign_Subscript (thn (hv pins s σ H _ I h) λr s1 ⟨v,H1,I1,rv,q1⟩=>thn (ho pins s1 σ H1 _ I1 q1) λu s2 ⟨x,H2,I2,rx,q2⟩=>thn (hi pins s2 σ H2 _ I2 q2) λiv s3 ⟨y,H3,I3,ry,a,H4,ex,g,q3⟩=>?_) hs;subst ex;obtain rfl:u=Value.ref a:=rx;exact UT hu I3 g ry rv λs4 I4=>⟨σ,H4,I4,q3⟩
end
theorem WU{P:Program}{w:World}{H:Hp}(h:Heap)(hb:sysModules<h.objs.size):BF P w H (h.push {cls:=.type "dict",data:=.dict #[]}) h.objs.size (.dK []) :=
 ⟨F8 _,beq_eq_false_iff_ne.mpr (W4 (F0 hb)),[],.nil,Heap.DictOf.new h⟩
theorem WT{P:Program}{w:World}{H:Hp}(h:Heap)(hb:sysModules<h.objs.size):BF P w H (h.push {cls:=.type "dict",data:=.dict #[]}) h.objs.size (.dT []) :=
 ⟨F8 _,beq_eq_false_iff_ne.mpr (W4 (F0 hb)),[],.nil,_,#[],0,C6 _ rfl,⟨rfl,rfl,rfl⟩,rfl,rfl,P9⟩
def tDNewK:TE:=λ_ H Q=>∀p,H p=none->Q (.ref p) (upd H p (.dK []))
def tDNewT:TE:=λ_ H Q=>∀p,H p=none->Q (.ref p) (upd H p (.dT []))
section
variable{X:Cx}{pos:Pos}
theorem JE:PE X (.Dict [] [] pos) tDNewK:=λpins s σ H Q I h =>
 wpAny_Dict_empty ⟨.ref s.heap.objs.size,_,I.laid (a:=s.heap.objs.size) (o:=.dK []) (t':=s.toks) (λ_ _ q=>B9 _ q) (B6 _) (WU s.heap I.big),rfl,h _ (I.hok.fresh (B6 _))⟩
theorem JD:PE X (.Dict [] [] pos) tDNewT:=λpins s σ H Q I h =>
 wpAny_Dict_empty ⟨.ref s.heap.objs.size,_,I.laid (a:=s.heap.objs.size) (o:=.dT []) (t':=s.toks) (λ_ _ q=>B9 _ q) (B6 _) (WT s.heap I.big),rfl,h _ (I.hok.fresh (B6 _))⟩
end
structure M1(X:Cx)(o:Expr)(m:Str)(apos:Pos)(e:Expr)(cpos:Pos):Prop where
 base:attributeBase o m X.env (eval o X.env)=eval o X.env
 few:((backTo cpos (starEach [e] X.env)).all (λx=>!x.1) && (backToKw cpos (keywordEach [] X.env)).all (λx=>x.1.isSome)
  && decide (([e]:List Expr).length+([]:List Keyword).length+(if([]:List Keyword).isEmpty then 0 else 1)<30))=true
 line:(apos.endLine==cpos.line)=true
 trees:backTo cpos (starEach [e] X.env)=[(false,eval e X.env)]
def IsD(H:Hp)(a:Addr):Prop:=(∃kvs,Rd H a (.dK kvs))\/∃kvs,Rd H a (.dT kvs)
theorem WF{X:Cx}{pins:List (Addr×Obj)}{σ:St}{H:Hp}{s:Shared}{a:Addr}(I:Inv X pins σ H s)(d:IsD H a) :
  s.TypeIs (.ref a) "dict" /\ (∀b,Value.ref a=.ref b->∃ob,s.heap.get? b=some ob/\ob.dict=none)/\(a==sysModules)=false:=by
 rcases d with ⟨kvs,e⟩|⟨kvs,e⟩
 ·obtain⟨_,hd,vs,_,dd⟩:=NB I.hok e;refine⟨dd.typeIs,λb q=>?_,hd⟩;cases q;obtain⟨ob,_,_,h1,h2,_⟩:=dd;exact⟨ob,h1,h2.2.1⟩
 ·obtain⟨_,hd,xs,_,dd⟩:=NA I.hok e;refine⟨dd.typeIs,λb q=>?_,hd⟩;cases q;obtain⟨ob,_,_,h1,h2,_⟩:=dd;exact⟨ob,h1,h2.2.1⟩
section
variable{X:Cx}{pins:List (Addr×Obj)}{σ:St}{H:Hp}{s:Shared}{a:Addr}{y d:V}{u r:Value}{o:Option V}{A:Around}{E:Value->Shared->Prop}
theorem d_get1{Q:Value->Shared->Prop}(hu:A.units+1<cLine)(I:Inv X pins σ H s)(g:EZ H a y o)(ry:AO y u)(h:∀w' s',Inv X pins σ H s'->AO (o.getD .non) w'->Q w' s') :
  wpAny (model X.prog X.w) A (call (.builtin "dict.get") [.ref a,u]) Q E s:=by
 rcases g with ⟨kvs,k,e,ey,l⟩|⟨kvs,k,b,e,ey,eb,l⟩
 ·subst ey;obtain⟨z,hd,vs,rel,dd⟩:=NB I.hok e;refine call_meetsIn A1a dd.typeIs PySem.F.entry_dict_get (PySem.F.args_dict_get_2 _ _) (meets_dict_get (BS X.prog X.w) a (OB ry) hd) ⟨_,dd.mapOf,h _ _ (I.tok _) ?_⟩;rw[l];exact(rel.val k).getD rfl
 ·subst ey;cases(show u=Value.ref b from ry);obtain⟨z,hd,xs,rel,dd⟩:=NA I.hok e;refine call_meetsIn A1a dd.typeIs PySem.F.entry_dict_get (PySem.F.args_dict_get_2 _ _) (meetsH_dict_get (tupleKind (BS X.prog X.w)) a b hd) ⟨K0 hu,k,xs,Jo I.hok eb,dd,h _ _ (I.tok _) ?_⟩;rw[l];exact(rel.val k).getD rfl
end
def tDGet1(td ty:TE):TE:=fun σ H Q=>td σ H λx H1=>∃a,x=.ref a/\IsD H1 a/\ty σ H1 λy H2=>∃o,EZ H2 a y o/\Q (o.getD .non) H2
section
variable{X:Cx}{o e f:Expr}{apos cpos:Pos}{td ty tx:TE}
theorem JF(hu:X.A.units+1<cLine)(ho:PE X o td)(he:PE X e ty)(m:M1 X o "get" apos e cpos):PE X (.Call (.Attribute o "get" apos) [e] [] cpos) (tDGet1 td ty):=by
 intro pins s σ H Q I h;refine wpAny_Call_method m.base m.few m.line PySem.F.plainAttrs_dict A1a PySem.F.type_dict_get (thn (ho pins s σ H _ I h) λu s1 ⟨x,H1,I1,rx,a,ex,d,q1⟩=>?_);subst ex;obtain rfl:u=Value.ref a:=rx;obtain⟨t1,t2,_⟩:=WF I1 d;refine⟨t1,t2,?_⟩;rw[m.trees];refine A1g rfl (A2d (A3a (thn (he pins s1 σ H1 _ I1 q1) λiv s2 ⟨y,H2,I2,ry,ov,g,q2⟩=>Calls.spliced_nil ?_)));exact d_get1 hu I2 g ry λw' s3 I3 rw'=>⟨_,H2,I3,rw',q2⟩
end
section
variable{X:Cx}{pins:List (Addr×Obj)}{σ:St}{H:Hp}{s:Shared}{a:Addr}{kvs:List (Key×V)}{A:Around}{E:Value->Shared->Prop}
end
section
variable{X:Cx}{pins:List (Addr×Obj)}{σ:St}{H:Hp}{s:Shared}{a:Addr}{y:V}{u:Value}{A:Around}{E:Value->Shared->Prop}
end
section
variable{X:Cx}
end
section
variable{κ:Type}[DecidableEq κ]
end
section
variable{X:Cx}
theorem Pj{K:PySem.W.Frag}{e:Expr}{f:Str}{ta:TE}{pos:Pos}(hK:X.K=K)(he:PE X e ta)(hb:attributeBase e f X.env (eval e X.env)=eval e X.env):PE X (.Attribute e f pos) (tFld K ta f):=hK▸Ax he hb
end
section
variable{X:Cx}
theorem JP{ns:List Int}{its:List Value}(rv:AL (ns.map V.int) its):∀(i:Nat) v,its.toArray[i]?=some v->∃t,v=.int (ns.getD i 0) t:=λi v e=>by
 have e:its[i]?=some v:=by simpa using e
 cases eb:ns[i]? with
 |none =>
  have:its[i]?=none:=rv.none_of (by rw[B7,eb];rfl);rw[e]at this;cases this
 |some b =>
  obtain⟨u,hu,ru⟩:=rv.get (i:=i) (x:=V.int b) (by rw[B7,eb];rfl);rw[e]at hu;cases hu;rw[D9,eb];obtain⟨t,rfl⟩:=ru;exact⟨t,rfl⟩
theorem OH(hc:X.calm=true):Fp X (.builtin "min") (λxs H Q=>∃(p:Addr)(ns:List Int),xs=[.ref p]/\SqL X.K H p (ns.map V.int)/\ns≠[]/\∀m∈ns,(∀x∈ns,m<=x)->Q (.int m) H):=by
 intro pins s σ H xs us Q I r h;obtain⟨p,ns,rfl,hq,ne,q⟩:=h;cases r with
 |cons r1 r2 =>
  cases r2;cases(show _=Value.ref p from r1);obtain⟨its,rv,pl,hz⟩:=I.list hq;have hlt:p<s.heap.objs.size:=by obtain⟨o,n,e,_⟩:=pl;exact C8 e
  have hne:p≠s.heap.objs.size:=F0 hlt;have len:its.toArray.size=ns.length:=by rw[D6,<-rv.length,B5]
  have pos:0<ns.length:=Q7.mpr ne;refine call_min_walk (A0c pl.isList ?_);refine⟨s.heap.objs.size,_,_,_,_,_,_,rfl,(Walks.list (A:=X.A.in1) (I.ok.hd hc) s.heap.objs.size p hne its.toArray),⟨⟨_,C6 _ rfl,rfl,rfl⟩,?_⟩,?_,by rw[len];exact pos,CmpOf.ints_lt (λi=>ns.getD i 0) (JP rv),?_⟩
  ·exact pl.isList.at λo e=>B9 _ e
  ·intro b hb;show b<(s.heap.push _).objs.size;rw[N9];rcases B8.mp hb with rfl|hb
   ·exact S5 _
   ·rcases B8.mp hb with rfl|hb
    ·exact V5 hlt
    ·cases hb
  ·intro v h' tk hP kk;have I2:Inv X pins σ H {s with heap:=h',toks:=tk}:=I.kept λb o e=>kk b o (by intro z;exact F0 (C8 e) (by simpa using z)) (B9 _ e);obtain⟨t,rfl⟩:=JP rv _ _ hP;obtain⟨b1,b2⟩:=argBest_lt (λi=>ns.getD i 0) (its.toArray.size-1);generalize argBest (λi j=>decide (ns.getD i 0<ns.getD j 0)) (its.toArray.size-1)=z at b1 b2 hP⊢;rw[len]at b1 b2;have hz2:z<ns.length:=by lia
   have ez:ns.getD z 0=ns[z]:=by rw[D9,D3 hz2];rfl
   refine⟨.int _,H,I2,⟨t,rfl⟩,q _ (by rw[ez];exact List.getElem_mem hz2) λx hx=>?_⟩;obtain⟨j,hj,e⟩:=U7.mp hx;have:=b2 j A0;have ej:ns.getD j 0=x:=by rw[D9,D3 hj,<-e];rfl
   rw[<-ej];exact this
theorem OI(hc:X.calm=true):Fp X (.builtin "max") (λxs H Q=>∃(p:Addr)(ns:List Int),xs=[.ref p]/\SqL X.K H p (ns.map V.int)/\ns≠[]/\∀m∈ns,(∀x∈ns,x<=m)->Q (.int m) H):=by
 intro pins s σ H xs us Q I r h;obtain⟨p,ns,rfl,hq,ne,q⟩:=h;cases r with
 |cons r1 r2 =>
  cases r2;cases(show _=Value.ref p from r1);obtain⟨its,rv,pl,hz⟩:=I.list hq;have hlt:p<s.heap.objs.size:=by obtain⟨o,n,e,_⟩:=pl;exact C8 e
  have hne:p≠s.heap.objs.size:=F0 hlt;have len:its.toArray.size=ns.length:=by rw[D6,<-rv.length,B5]
  have pos:0<ns.length:=Q7.mpr ne;refine call_max_walk (A0c pl.isList ?_);refine⟨s.heap.objs.size,_,_,_,_,_,_,rfl,(Walks.list (A:=X.A.in1) (I.ok.hd hc) s.heap.objs.size p hne its.toArray),⟨⟨_,C6 _ rfl,rfl,rfl⟩,?_⟩,?_,by rw[len];exact pos,CmpOf.ints_gt (λi=>ns.getD i 0) (JP rv),?_⟩
  ·exact pl.isList.at λo e=>B9 _ e
  ·intro b hb;show b<(s.heap.push _).objs.size;rw[N9];rcases B8.mp hb with rfl|hb
   ·exact S5 _
   ·rcases B8.mp hb with rfl|hb
    ·exact V5 hlt
    ·cases hb
  ·intro v h' tk hP kk;have I2:Inv X pins σ H {s with heap:=h',toks:=tk}:=I.kept λb o e=>kk b o (by intro z;exact F0 (C8 e) (by simpa using z)) (B9 _ e);obtain⟨t,rfl⟩:=JP rv _ _ hP;obtain⟨b1,b2⟩:=argBest_gt (λi=>ns.getD i 0) (its.toArray.size-1);generalize argBest (λi j=>decide (ns.getD i 0 > ns.getD j 0)) (its.toArray.size-1)=z at b1 b2 hP⊢;rw[len]at b1 b2;have hz2:z<ns.length:=by lia
   have ez:ns.getD z 0=ns[z]:=by rw[D9,D3 hz2];rfl
   refine⟨.int _,H,I2,⟨t,rfl⟩,q _ (by rw[ez];exact List.getElem_mem hz2) λx hx=>?_⟩;obtain⟨j,hj,e⟩:=U7.mp hx;have:=b2 j A0;have ej:ns.getD j 0=x:=by rw[D9,D3 hj,<-e];rfl
   rw[<-ej];exact this
end
section
variable{X:Cx}
end
section
variable{prog:Program}{w:World}{κ:Type}[DecidableEq κ]{knd:HeapKind prog w κ}{A:Around}{E:Value->Shared->Prop}{s:Shared}
end
section
variable{X:Cx}{pins:List (Addr×Obj)}{σ:St}{H:Hp}{s:Shared}{a:Addr}{y v:V}{u r:Value}{o:Option V}{A:Around}{E:Value->Shared->Prop}
end
section
variable{X:Cx}{o e f:Expr}{apos cpos:Pos}{td ty tx:TE}
end
section
variable{prog:Program}{w:World}{A:Around}{E:Value->Shared->Prop}{s:Shared}{d it:Addr}{o:Obj}{es:Array DictEntry}{ep i:Nat}
theorem QF{Q:Value->Shared->Prop}(hd:(d==sysModules)=false)(ho:s.heap.get? d=some o)(hc:o.ExactDict)(da:o.data=.dict es ep)
  (q:Q (.ref s.heap.objs.size) {s with heap:=s.heap.push {cls:=.type "dict_keyiterator",data:=.fields #[.ref d,.int 0 0,.int es.size 0,.int ep 0]} }):wpAny (model prog w) A (pyIter (.ref d)) Q E s:=by
 have hT:s.TypeIs (.ref d) "dict" := ⟨o,ho,hc.1⟩
 refine wpAny_pyIter_slot hT F.slot_dict_iter (X6 F.slot_dict_iter hT F.entry_dict_iter ?_ (F.args_dict_iter_1 _));unfold Builtin.«dict.__iter__»;refine V7 ?_;unfold Builtin.Dict.dictSlotNone;refine V7 (wpAny_notOrdered_dict hT ?_);show wpAny _ _ (pure (Value.ref d)) _ _ s;refine W1 ?_;show wpAny _ _ (Builtin.Dict.showsAll d >>= _) _ _ s;unfold Builtin.Dict.showsAll;rw[V8 (by rw[hd];exact C5)];refine V7 (W1 ?_);refine V7 (A0d ho da ?_);refine V7 (wpAny_dictEpoch ho da ?_);refine V7 (K4 (W1 ⟨_,rfl,"dict_keyiterator",_,⟨_,C6 _ rfl,rfl⟩,F.slot_dict_keyiterator_next.lookup,?_⟩));simpa[rawInt] using q
theorem VH{Q:Option Value->Shared->Prop}(hit:s.heap.IsKeyIter it d i es.size ep)(ho:s.heap.get? d=some o)(da:o.data=.dict es ep)(hi:i<es.size)
  (q:∀h',h'.IsKeyIter it d (i+1) es.size ep->Heap.SameBut it s.heap h'->Q (some es[i].key) {s with heap:=h'}):wpAny (model prog w) A (pyNext (.ref it)) Q E s:=by
 obtain⟨io,hio,ic,idt⟩:=id hit;unfold pyNext;refine V7 (A0e (wpAny_callSpecial?_slot (name:=Str.ofString "__next__") hit.typeIs K2 (X6 K2 hit.typeIs F.entry_dict_keyiterator_next ?_ (F.args_dict_keyiterator_next_1 _))));refine V7 (W1 ?_);refine V7 ?_;refine V7 ?_
 (first|refine V7 (X8 hit.typeIs (W1 ?_))|refine V7 (K8 hit.typeIs (W1 ?_)));refine V7 (wpAny_fieldsOf hio idt ?_)
 have hown:Builtin.Dict_items.ownsTuple "dict_keyiterator" = false:=A3;simp only[hown,P7,A0f];show wpAny _ _ (if(Value.ref d==Value.none)=true then _ else _) _ _ s;rw[V8 (show ¬((Value.ref d==Value.none)=true)from C5)];refine V7 (W1 ?_);refine V7 (A0d ho da ?_);rw[V8 A4];refine V7 (W1 ?_);refine V7 (wpAny_dictEpoch ho da ?_);rw[V8 A4];refine W1 ?_;simp only[show ¬((i:Int)<0)from by lia,A0f,J1,Array.getElem?_eq_getElem hi];refine V7 ?_
 (first|refine V7 (X8 hit.typeIs (W1 ?_))|refine V7 (K8 hit.typeIs (W1 ?_)));refine V7 (wpAny_isOneOf_keyiter hit.typeIs ?_)
 show wpAny _ _ (setField (.ref it) 1 (rawInt ((i:Int)+1)) >>= _) _ _ s;refine V7 (A2e hio idt A4 ?_);have next:(s.heap.update it (Obj.mapFields (·.setIfInBounds 1 (rawInt ((i:Int)+1))))).IsKeyIter it d (i+1) es.size ep:=⟨_,Q4 _ hio (Obj.isFreed_of_fields (A0h idt _)),(Obj.cls_mapFields ..).trans ic,by rw[A0h idt];simp[rawInt]⟩
 refine V7 (K7 ?_);refine V7 (wpAny_isOneOf_keyiter (s:={s with heap:=s.heap.update it (Obj.mapFields (·.setIfInBounds 1 (rawInt ((i:Int)+1))))}) next.typeIs ?_);show wpAny _ _ (pure es[i].key) _ _ _;exact W1 (W1 ⟨_,rfl,W1 (q _ next (X5 ..))⟩)
theorem raw_end{Q:Option Value->Shared->Prop}(hh:A.handled=none)(hit:s.heap.IsKeyIter it d i es.size ep)(ho:s.heap.get? d=some o)(da:o.data=.dict es ep)(hi:es.size<=i)
  (q:∀h',Heap.ExtBut it s.heap h'->Q none {s with heap:=h'}):wpAny (model prog w) A (pyNext (.ref it)) Q E s:=by
 obtain⟨io,hio,ic,idt⟩:=id hit;unfold pyNext;refine V7 (A0e (wpAny_callSpecial?_slot (name:=Str.ofString "__next__") hit.typeIs K2 (X6 K2 hit.typeIs F.entry_dict_keyiterator_next ?_ (F.args_dict_keyiterator_next_1 _))));refine V7 (W1 ?_);refine V7 ?_;refine V7 ?_
 (first|refine V7 (X8 hit.typeIs (W1 ?_))|refine V7 (K8 hit.typeIs (W1 ?_)));refine V7 (wpAny_fieldsOf hio idt ?_)
 have hown:Builtin.Dict_items.ownsTuple "dict_keyiterator" = false:=A3;simp only[hown,P7,A0f];show wpAny _ _ (if(Value.ref d==Value.none)=true then _ else _) _ _ s;rw[V8 (show ¬((Value.ref d==Value.none)=true)from C5)];refine V7 (W1 ?_);refine V7 (A0d ho da ?_);rw[V8 A4];refine V7 (W1 ?_);refine V7 (wpAny_dictEpoch ho da ?_);rw[V8 A4];refine W1 ?_;simp only[show ¬((i:Int)<0)from by lia,A0f,J1,Array.getElem?_eq_none hi];refine V7 ?_
 (first|refine V7 (X8 hit.typeIs (W1 ?_))|refine V7 (K8 hit.typeIs (W1 ?_)))
 show wpAny _ _ (setField (.ref it) 0 .none >>= _) _ _ s;refine V7 (A2e hio idt A4 ?_);show wpAny _ _ (newExc (.type "StopIteration") [] >>= _) _ _ _;refine V7 ?_;simp only[newExc,newTuple];refine V7 (K4 ?_ (by size_fits));refine V7 (m:=firstArgMember _ _) (wpAny_of_eq (a:=Value.none) (by first|rfl|(simp only[firstArgMember];rfl)) ?_);refine K4 ?_ (by size_fits);simp only[raiseNew];refine V7 (wpAny_handled ?_);rw[show A.in1.handled=none from hh];refine V7 (W1 (wpAny_throw ?_));refine V7 (wpAny_isInstance (T:="StopIteration") (b:=true) ⟨_,C6 _ rfl,rfl⟩ isSubtype_stop ?_);exact W1 (q _ (((X5 ..).extBut.push _).push _))
end
def Itd(a:Addr)(o:Obj)(kvs:List (List Key×V)):It :=
 ⟨λi H=>H a=some (.frz o (.dT kvs))/\i<kvs.length,λi H x H'=>H'=H/\∃b k v,x=.ref b/\kvs[i]?=some (k,v)/\H b=some (.tup (k.map kV)),λi H=>H a=some (.frz o (.dT kvs))/\kvs.length<=i⟩
theorem WK{P:Program}{w:World}{H:Hp}{h:Heap}{a:Addr}{o:Obj}{kvs:List (List Key×V)}(ok:HOk P w H h)(e:H a=some (.frz o (.dT kvs))) :
  h.get? a=some o/\∃(xs:List (List Key×Addr×Value))(es:Array DictEntry)(ep:Nat),KT H kvs xs/\o.data=.dict es ep/\es.toList=xs.map (entryOfKey (tupleKind (BS P w))):=by
 obtain⟨e1,z,y,xs,r,o',es,ep,h1,h2,h3,h4,h5⟩:=(show BF P w H h a (.frz o (.dT kvs))from ok a _ e)
 rw[e1]at h1;cases h1;exact⟨e1,xs,es,ep,r,h3,h4⟩
theorem KT.at_{H:Hp}:∀{kvs:List (List Key×V)}{xs:List (List Key×Addr×Value)}{i:Nat}{x:List Key×Addr×Value},KT H kvs xs->xs[i]?=some x->∃v,kvs[i]?=some (x.1,v)/\H x.2.1=some (.tup (x.1.map kV)):=by
 intro kvs xs i x r;induction r generalizing i with
 |nil=>intro e;simp at e
 |@cons p q ps qs h t ih =>
  intro e;cases i with
  |zero =>
   have e:q=x:=by simpa using e
   subst e;obtain⟨h1,h2,_⟩:=h;exact⟨p.2,by rw[List.getElem?_cons_zero,<-h1],by rw[<-h1];exact h2⟩
  |succ i =>
   obtain⟨v,e1,e2⟩:=ih (i:=i) (by simpa using e);exact⟨v,by simpa using e1,e2⟩
theorem MB{P:Program}{w:World}{K:PySem.W.Frag}{tg:Expr}(a it:Addr)(o:Obj)(kvs:List (List Key×V))(es:Array DictEntry)(ep:Nat)(da:o.data=.dict es ep)(hz:es.size=kvs.length):Og P w K tg (Itd a o kvs) [it] it (λi h=>h.IsKeyIter it a i es.size ep) where
 mem:=by simp
 obj:=λi h st b hb=>by
  obtain rfl:b=it:=by simpa using hb
  obtain⟨o,e,c,d⟩:=st;exact⟨o,e,λv z=>(by rw[d]at z;cases z)⟩
 keep:=λi h h' st k=>st.at λo e=>k it A4 o e
 item:=by
  intro X hP hw hK hc i pins s σ H E I hf st hg;subst hP hw hK;obtain⟨hq,hi⟩:=hg;obtain⟨ga,xs,es',ep',kt,da',el⟩:=WK I.hok hq;rw[da]at da';cases da';have hi':i<es.size:=by lia
  obtain⟨f0,f1,f2,f3,f4,f5⟩:=hf it A4;refine VH st ga da hi' λh' st' sb=>?_;have I1:Inv X pins σ H {s with heap:=h'}:=I.turned (t':=s.toks) (λb o hb e=>(sb.2 b hb).trans e) f0 f1 f3 f4 f5
  have lx:i<xs.length:=by rw[<-A2b el];exact hi'
  obtain⟨v,e1,e2⟩:=KT.at_ kt (D3 lx);have ek:es[i].key=.ref xs[i].2.1:=by
   have:=entry_at el i;rw[Array.getElem?_eq_getElem hi',D3 lx]at this;rw[W3 this];rfl
  obtain⟨q,e,c,d⟩:=id st';exact⟨_,rfl,Rg (s:={s with heap:=h'}) e c d A3 ⟨.ref xs[i].2.1,H,I1,ek,⟨rfl,_,_,v,rfl,e1,e2⟩,st',λb hb=>(hf b hb).1⟩⟩
 done:=by
  intro X hP hw hK hc i pins s σ H E I hf st hg;subst hP hw hK;obtain⟨hq,hi⟩:=hg;obtain⟨ga,_⟩:=WK I.hok hq;obtain⟨f0,f1,f2,f3,f4,f5⟩:=hf it A4;exact raw_end (I.ok.hd hc) st ga da A0 λh' eb=>⟨rfl,I.turned (t':=s.toks) (λb o hb e=>eb b o hb e) f0 f1 f3 f4 f5⟩
 self:=λ_ _ _ _ _ st h=>wpAny_pyIter_keyiter st h
theorem for_dT{a:Addr}{o:Obj}{kvs:List (List Key×V)}{g:TG}{tb:TS}{D:LM}{σ:St}{H:Hp}(Pv:Nat->St->Hp->Prop)(h0:Pv 0 σ H)(hl:∀i σ H,i<=kvs.length->Pv i σ H->H a=some (.frz o (.dT kvs)))
  (hs:∀i b k v σ H,kvs[i]?=some (k,v)->H b=some (.tup (k.map kV))->Pv i σ H->g (.ref b) σ H fun σ2 H2=>tb {D with nx:=Pv (i+1),ct:=Pv (i+1),bk:=D.nx} σ2 H2) (hd:∀σ H,Pv kvs.length σ H->D.nx σ H) :
  ∃W:Nat->Nat->St->Hp->Prop,(∃m,W 0 m σ H)/\∀i m σ H,W i m σ H ->
   ((Itd a o kvs).stop i H/\D.nx σ H)\/((Itd a o kvs).go i H/\∃N:St->Hp->Prop,(∀σ' H',N σ' H'->∃m',m'<m/\W (i+1) m' σ' H')/\∀x H',(Itd a o kvs).yld i H x H'->g x σ H' fun σ2 H2=>tb {D with nx:=N,ct:=N,bk:=D.nx} σ2 H2):=by
 refine⟨λi m σ H=>m=kvs.length-i/\i<=kvs.length/\Pv i σ H,⟨kvs.length,by simp,F8 _,h0⟩,?_⟩;rintro i m σ H ⟨rfl,hi,p⟩;have e:=hl i σ H hi p;by_cases hlt:i<kvs.length
 ·refine .inr ⟨⟨e,hlt⟩,Pv (i+1),fun σ' H' z=>⟨_,by lia,rfl,by lia,z⟩,?_⟩;rintro x H' ⟨rfl,b,k,v,rfl,e1,e2⟩;exact hs i b k v σ _ e1 e2 p
 ·have hi':i=kvs.length:=by lia
  subst hi';exact .inl ⟨⟨e,B6 _⟩,hd σ H p⟩
section
variable{X:Cx}
def CDivB(i j:Int):Prop:=0<j/\j<2^64
theorem QO:OpR X (binaryOp .FloorDiv) (rI CDivB λi j=>.int (i/j)):=opI λi j _ _ _ _ _ hc q=>by
 have h1:(0:Int)<j:=hc.1;have h2:j<2^64:=hc.2;refine floordiv_int A0 (by rw[Int.fdiv_eq_ediv_of_nonneg i A0];exact q) (.inl (PyProof.noPylong_of_log2 ?_));have h3:j.natAbs<2^64:=by lia
 exact D5 ((Nat.log2_lt A0).mpr h3) A3
end
section
variable{X:Cx}
theorem app_e(x:Str):Str.empty++x=x:=Nu.ext (by rw[cps_toList_append];rfl)
end
section
variable{prog:Program}{w:World}{κ:Type}[DecidableEq κ]{knd:HeapKind prog w κ}{A:Around}{E:Value->Shared->Prop}{s:Shared}
theorem JO{α β:Type}(f:α->β):∀(l:List α)(j:Nat),(l.eraseIdx j).map f=(l.map f).eraseIdx j
 |[],_=>rfl
 |_::_,0=>rfl
 |x::l,j+1=>W8 (f x :: ·) (JO f l j)
theorem VM{d a:Addr}{xs:List (κ×Addr×Value)}{k:κ}{q:Addr×Value}{Q:Option DictEntry->Shared->Prop}(hu:knd.room A)(hk:knd.is s.heap k a)(hm:s.heap.DictOfH knd d xs)(sz:xs.length<=sizeLine)(hq:atKey xs k=some q)
  (h:∀j p,xs[j]?=some (k,p)->∀h',h'.DictOfH knd d (xs.eraseIdx j)->Heap.SameBut d s.heap h'->Q (some (entryOfKey knd (k,p))) {s with heap:=h',toks:=s.toks+knd.draws k}) :
  wpAny (model prog w) A (Builtin.Dict.takeOut d (.ref a)) Q E s:=by
 obtain⟨ob,es,ep,go,ex,da,el,ks,nd⟩:=hm;unfold Builtin.Dict.takeOut
 try with_reducible refine K7 ?_
 refine V7 (knd.pyHash hu hk (V7 (wpAny_dictFind_heap (s:={s with toks:=s.toks+knd.draws k}) hu hk go da el ks nd (λno=>?_) (λj p hj=>?_))))
 ·rw[atKey_none_of_get no]at hq;cases hq
 ·refine V7 (A0d (s:={s with toks:=s.toks+knd.draws k}) go da ?_);rw[entry_at el j,hj];refine V7 (wpAny_updateDictKeys (hz:=by have e:=A2b el;lia) (s:={s with toks:=s.toks+knd.draws k}) go da (W1 (h j p hj _ ⟨_,_,ep+1,Q4 _ go (Obj.isFreed_of_dict (Obj.data_mapDictKeys da _)),ex.mapDictKeys _,Obj.data_mapDictKeys da _,?_,λx hx=>knd.keeps (ks x (List.mem_of_mem_eraseIdx hx)) go da (X5 ..),?_⟩ (X5 ..))))
  ·obtain⟨l⟩:=es;simp only[List.eraseIdxIfInBounds_toArray];rw[JO];exact W8 (λz=>z.eraseIdx j) el
  ·rw[JO];exact nd.sublist (List.eraseIdx_sublist ..)
theorem Se(d a:Addr) :
  MeetsIn prog w (Builtin.«dict.pop» ⟨[.ref d,.ref a],[]⟩) (λA R s=>knd.room A.in1/\∃k xs q,knd.is s.heap k a/\s.heap.DictOfH knd d xs/\xs.length<=sizeLine/\atKey xs k=some q /\
   ∀j p,xs[j]?=some (k,p)->∀h',h'.DictOfH knd d (xs.eraseIdx j)->Heap.SameBut d s.heap h'->R (.ok (.ret p.2)) {s with heap:=h',toks:=s.toks+knd.draws k}) :=
 .of_wp λA R s ⟨hu,k,xs,q,hk,hm,sz,hq,h⟩=>by
  obtain⟨ob,es,ep,go,ex,da,el,ks,nd⟩:=id hm;unfold Builtin.«dict.pop»;refine V7 ?_;unfold Builtin.Dict.keyAndDefault;refine V7 (wpAny_notOrdered_dict hm.typeIs ?_);show wpAny _ _ (pure (d,Value.ref a,none)) _ _ s;refine W1 ?_;have ne:es.isEmpty=false:=by
   rw[Array.isEmpty_eq_false_iff];intro z;have e:xs=[]:=by rw[z]at el;simpa using el.symm
   rw[e]at hq;cases hq
  refine V7 (A0d go da (V7 (W1 ?_)));rw[ne];simp only[P7,A0f];refine V7 (VM hu hk hm sz hq λj p hj h' hm' hs'=>?_);simp only[Option.isNone_some,P7,A0f];exact V7 (wpAny_letGo (W1 ⟨p.2,rfl,h j p hj h' hm' hs'⟩))
end
theorem PairedM.erase{α β:Type}{R:α->β->Prop}:∀{l:List α}{m:List β},Paired R l m->∀j,Paired R (l.eraseIdx j) (m.eraseIdx j)
 |[],[],.nil,_=>.nil
 |_::_,_::_,.cons _ t,0=>t
 |_::_,_::_,.cons h t,j+1=>.cons h (PairedM.erase t j)
theorem PairedM.atr{α β:Type}{R:α->β->Prop}:∀{l:List α}{m:List β},Paired R l m->∀{j:Nat}{y:β},m[j]?=some y->∃x,l[j]?=some x/\R x y
 |[],[],.nil,_,_,e=>by cases e
 |_::_,_::_,.cons h _,0,_,e=>⟨_,rfl,by cases e;exact h⟩
 |_::_,_::_,.cons _ t,j+1,y,e=>PairedM.atr t (j:=j) e
def tDPop(td ty:TE):TE:=fun σ H Q=>td σ H λx H1=>∃a,x=.ref a/\IsD H1 a/\ty σ H1 λy H2=>∃b kvs k v,y=.ref b/\H2 b=some (.tup (k.map kV))/\H2 a=some (.dT kvs)/\Bu kvs k=some v/\∀j u,kvs[j]?=some (k,u)->Q u (upd H2 a (.dT (kvs.eraseIdx j)))
section
variable{X:Cx}{o e:Expr}{apos cpos:Pos}{td ty:TE}
theorem pe_dpop(hu:X.A.units+1<cLine)(ho:PE X o td)(he:PE X e ty)(m:M1 X o "pop" apos e cpos):PE X (.Call (.Attribute o "pop" apos) [e] [] cpos) (tDPop td ty):=by
 intro pins s σ H Q I h;refine wpAny_Call_method m.base m.few m.line PySem.F.plainAttrs_dict PySem.F.slot_dict_pop PySem.F.type_dict_pop (thn (ho pins s σ H _ I h) λu s1 ⟨x,H1,I1,rx,a,ex,d,q1⟩=>?_);subst ex;obtain rfl:u=Value.ref a:=rx;obtain⟨t1,t2,_⟩:=WF I1 d;refine⟨t1,t2,?_⟩;rw[m.trees];refine A1g rfl (A2d (A3a (thn (he pins s1 σ H1 _ I1 q1) λiv s2 ⟨y,H2,I2,ry,b,kvs,k,v,ey,eb,ea,ev,q2⟩=>Calls.spliced_nil ?_)));subst ey;cases(show iv=Value.ref b from ry);obtain⟨z,hd,xs,rel,dd⟩:=dt_of I2.hok ea;have hz:xs.length<=sizeLine:=by rw[<-W9 rel];exact z
 obtain⟨q,hq⟩:∃q,atKey xs k=some q:=by
  have r:=rel.val k;rw[ev]at r;cases e:atKey xs k with
  |none=>rw[e]at r;exact r.elim
  |some q=>exact⟨q,rfl⟩
 refine call_meetsIn PySem.F.slot_dict_pop dd.typeIs PySem.F.entry_dict_pop (PySem.F.args_dict_pop_2 _ _) (Se (knd:=tupleKind (BS X.prog X.w)) a b) ⟨K0 hu,k,xs,q,Jo I2.hok eb,dd,hz,hq,λj p hj h' dd' hs=>?_⟩;obtain⟨kv,hkv,e1,e2,e3⟩:=PairedM.atr rel hj;obtain⟨k',v'⟩:=kv;cases(show k'=k from e1);obtain⟨q',es,ep,hq',g2,g3,g4,_,g5⟩:=dd';refine⟨v',upd H2 a (.dT (kvs.eraseIdx j)),Mv I2 (by rw[ea];exact True.intro) hs ⟨q',hq'⟩ ⟨C2 (List.length_eraseIdx_le ..) z,hd,_,(show KT H2 _ _ from PairedM.erase rel j).keeps λc ys ec=>?_,q',es,ep,hq',g2,g3,g4,g5⟩,e3,q2 j v' hkv⟩;rw[Ao (Ay ec ea (λz=>nomatch z))];exact ec
end
def tFstr3(tc ta td:TE):TE:=fun σ H Q=>tc σ H λy H1=>∃z:Str,y=.str z/\z.length<=1000/\ta σ H1 λx H2=>∃i:Int,x=.int i/\i.natAbs.log2<1920/\td σ H2 λy2 H3=>∃z2:Str,y2=.str z2/\z2.length<=1000/\Q (.str (z++Str.ofString (toString i)++z2)) H3
section
variable{X:Cx}
theorem QN{a c d:Expr}{ta tc td:TE}{p pos:Pos}(hc:PE X c tc)(ha:PE X a ta)(hd:PE X d td):PE X (.JoinedStr [c,.FormattedValue a (-1) none p,d] pos) (tFstr3 tc ta td):=by
 intro pins s σ H Q I h;refine JoinedStr_many (joinParts_cons (thn (hc pins s σ H _ I h) λv s2 ⟨y,H2,I2,ry,z,ez,hz2,q2⟩=>?_));subst ez;obtain⟨t',rfl⟩:=ry;have hs:(Str.empty++z).length<=1000:=by rw[app_e];exact hz2
 refine⟨C2 hs A3,?_⟩;refine joinParts_cons (FormattedValue_plain (thn (ha pins _ σ H2 _ I2 q2) λv s3 ⟨x3,H3,I3,rx3,j,ex3,hz3,q3⟩=>?_));subst ex3;obtain⟨t3,rfl⟩:=rx3;have hl3:(Str.ofString (toString j)).length<=1921:=PyProof.Rows.int_text_len_1921 hz3;have hs3:(Str.empty++z++Str.ofString (toString j)).length<=3000:=by
  rw[K3];exact C2 (Nat.add_le_add hs hl3) A3
 refine formatField_int_small hz3 ⟨C2 hs3 A3,?_⟩;refine joinParts_cons (thn (hd pins _ σ H3 _ (I3.tok _) q3) λv s4 ⟨y4,H4,I4,ry4,z4,ez4,hz4,q4⟩=>?_);subst ez4;obtain⟨t4,rfl⟩:=ry4;have hs4:(Str.empty++z++Str.ofString (toString j)++z4).length<=sizeLine:=by
  rw[K3];exact C2 (Nat.add_le_add hs3 hz4) A3
 refine⟨hs4,joinParts_nil ?_ hs4⟩;rw[app_e];exact⟨.str _,H4,I4.tok _,⟨_,rfl⟩,q4⟩
end
end L2
namespace L2
open PySem PySem.W PySem.Spec PyProof.Rows
def iDictF(tl:TE):TI:=fun σ H R=>tl σ H λx H1=>∃a kvs,x=.ref a/\Rd H1 a (.dT kvs)/\∀o H2,H2 a=some (.frz o (.dT kvs))->(∀b u,H1 b=some u->b≠a->H2 b=some u)->R (Itd a o kvs) H2
theorem QL{X:Cx}{tg l:Expr}{tl:TE}(hl:PE X l tl):PI X tg l (iDictF tl):=by
 intro pins s σ H R I h;refine thn (hl pins s σ H _ I h) λv s1 ⟨x,H1,I1,r1,q1⟩=>?_;obtain⟨a,kvs,e,ea,q⟩:=q1;subst e;cases r1;rcases ea with ea|⟨o,ea⟩
 ·obtain⟨z,y,xs,r,o,es,ep,h1,h2,h3,h4,h5⟩:=(show BF X.prog X.w H1 s1.heap a (.dT kvs)from I1.hok a _ ea)
  have hz:es.size=kvs.length:=by rw[A2b h4,<-W9 r]
  have I2:Inv X pins σ (upd H1 a (.frz o (.dT kvs))) s1:=Mv (t':=s1.toks) I1 (by rw[ea];exact True.intro) ⟨rfl,λ_ _=>rfl⟩ ⟨o,h1⟩ ⟨h1,z,y,xs,KT.keeps r λc ys ec=>(by rw[Ao (Ay ec ea (λz=>nomatch z))];exact ec),o,es,ep,h1,h2,h3,h4,h5⟩;refine QF y h1 h2 h3 ?_;refine⟨s1.heap.objs.size,[s1.heap.objs.size],_,_,_,rfl,I2.kept (t':=s1.toks) λb o e=>B9 _ e,MB a _ o kvs es ep h3 hz,⟨_,C6 _ rfl,rfl,rfl⟩,λb hb=>?_,q o _ Af λb u e n=>by rw[Ao n];exact e⟩;obtain rfl:b=s1.heap.objs.size:=by simpa using hb
  exact I2.fpOk (B6 _) (I2.hok.fresh (B6 _))
 ·obtain⟨h1,z,y,xs,r,o',es,ep,h1',h2,h3,h4,h5⟩:=(show BF X.prog X.w H1 s1.heap a (.frz o (.dT kvs))from I1.hok a _ ea)
  have eo:o=o':=W3 (h1.symm.trans h1');subst eo;have hz:es.size=kvs.length:=by rw[A2b h4,<-W9 r]
  refine QF y h1 h2 h3 ?_;refine⟨s1.heap.objs.size,[s1.heap.objs.size],_,_,_,rfl,I1.kept (t':=s1.toks) λb o e=>B9 _ e,MB a _ o kvs es ep h3 hz,⟨_,C6 _ rfl,rfl,rfl⟩,λb hb=>?_,q o _ ea λb u e n=>e⟩;obtain rfl:b=s1.heap.objs.size:=by simpa using hb
  exact I1.fpOk (B6 _) (I1.hok.fresh (B6 _))
end L2
namespace L2
open PySem PySem.W PyProof.Rows
section
variable{rk:Nat->Int}{n:Nat}
end
end L2
namespace L2
open PySem PySem.W PySem.Spec PyProof.Rows
section
variable{prog:Program}{w:World}{A:Around}{E:Value->Shared->Prop}
end
section
variable{X:Cx}
end
section
variable{X:Cx}
end
theorem blk_dT{a:Addr}{ob:Obj}{kvs:List (List Key×V)}{k:Nat}{cs:List Nat}{g:TG}{tc:TT}{te:TE}{σ:St}{H:Hp}{fin:List V->Hp->Prop}(Pv:Nat->List V->Hp->Prop)(h0:Pv 0 [] H)(hl:∀i acc H,i<=kvs.length->Pv i acc H->H a=some (.frz ob (.dT kvs)))
  (hs:∀i b kk v acc H,kvs[i]?=some (kk,v)->H b=some (.tup (kk.map kV))->Pv i acc H->Bt k cs g tc te σ (.ref b) acc H (Pv (i+1))) (hd:∀acc H,Pv kvs.length acc H->fin acc H):Ey k cs g tc te (Itd a ob kvs) σ H fin:=by
 refine⟨λi m acc H=>m=kvs.length-i/\i<=kvs.length/\Pv i acc H,⟨kvs.length,by simp,F8 _,h0⟩,?_⟩;rintro i m acc H ⟨rfl,hi,p⟩;have q:=hl i acc H hi p;by_cases hlt:i<kvs.length
 ·refine .inr ⟨⟨q,hlt⟩,Pv (i+1),λacc' H' p'=>⟨kvs.length-(i+1),by lia,rfl,hlt,p'⟩,λx H' y=>?_⟩;obtain⟨rfl,b,kk,v,rfl,e1,e2⟩:=y;exact hs i b kk v acc _ e1 e2 p
 ·have e:i=kvs.length:=by lia
  subst e;exact .inl ⟨⟨q,B6 _⟩,hd acc H p⟩
end L2
namespace J
open PySem L2
def top(i:Nat):Stmt:=PySem.Challenge.pw_jumpfield_k59_whole_two_copies.main.body.getD i (.Pass ⟨0,0,0,0⟩)
abbrev Ja:Stmt:=top 11
abbrev RX:List Str:=["thing"]
abbrev DL:List Str:=["thing"]
theorem Qz:As RX DL (Ah Ja):=⟨rfl,rfl,rfl,by decide +kernel,rfl,by decide +kernel,by decide +kernel⟩
abbrev Jb:Stmt:=top 18
abbrev RY:List Str:=["thing"]
abbrev Gz:List Str:=["thing"]
theorem QA:As RY Gz (Ah Jb):=⟨rfl,rfl,rfl,by decide +kernel,rfl,by decide +kernel,by decide +kernel⟩
abbrev Pg:Stmt:=top 19
abbrev cW:List Str:=["wanted","state"]
abbrev Mm:List Str:=["wanted","state"]
theorem VD:As cW Mm (Ah Pg):=⟨rfl,rfl,rfl,by decide +kernel,rfl,by decide +kernel,by decide +kernel⟩
abbrev DS:Stmt:=top 23
abbrev IR:List Str:=["text","words","cell","conditions"]
abbrev FD:List Str:=["text"]
theorem Dl:As IR FD (Ah DS):=⟨rfl,rfl,rfl,by decide +kernel,rfl,by decide +kernel,by decide +kernel⟩
abbrev Gh:Stmt:=top 24
abbrev Po:List Str:=["word"]
abbrev Dt:List Str:=["word"]
theorem NQ:As Po Dt (Ah Gh):=⟨rfl,rfl,rfl,by decide +kernel,rfl,by decide +kernel,by decide +kernel⟩
abbrev Fu:Stmt:=top 25
abbrev NZ:List Str:=["word"]
abbrev DX:List Str:=["word"]
theorem MJ:As NZ DX (Ah Fu):=⟨rfl,rfl,rfl,by decide +kernel,rfl,by decide +kernel,by decide +kernel⟩
abbrev DA:Stmt:=top 26
abbrev Lu:List Str:=["word"]
abbrev DJ:List Str:=["word"]
theorem Jv:As Lu DJ (Ah DA):=⟨rfl,rfl,rfl,by decide +kernel,rfl,by decide +kernel,by decide +kernel⟩
abbrev EB:Stmt:=top 27
abbrev Ng:List Str:=["word","parts"]
abbrev EL:List Str:=["word"]
theorem GP:As Ng EL (Ah EB):=⟨rfl,rfl,rfl,by decide +kernel,rfl,by decide +kernel,by decide +kernel⟩
abbrev EA:Stmt:=top 28
abbrev Nf:List Str:=["signs","numbers","sign"]
abbrev EK:List Str:=["signs"]
theorem Eg:As Nf EK (Ah EA):=⟨rfl,rfl,rfl,by decide +kernel,rfl,by decide +kernel,by decide +kernel⟩
abbrev DR:Stmt:=top 29
abbrev IQ:List Str:=["word"]
abbrev FC:List Str:=["word"]
theorem MK:As IQ FC (Ah DR):=⟨rfl,rfl,rfl,by decide +kernel,rfl,by decide +kernel,by decide +kernel⟩
abbrev Ft:Stmt:=top 32
abbrev NY:List Str:=["box","dx","dy"]
abbrev CN:List Str:=["box","dx","dy"]
theorem MI:As NY CN (Ah Ft):=⟨rfl,rfl,rfl,by decide +kernel,rfl,by decide +kernel,by decide +kernel⟩
abbrev Ct:Stmt:=top 33
abbrev Eb:List Str:=["boxes","left","top","right","bottom"]
abbrev Fk:List Str:=["boxes"]
theorem Dm:As Eb Fk (Ah Ct):=⟨rfl,rfl,rfl,by decide +kernel,rfl,by decide +kernel,by decide +kernel⟩
abbrev Fw:Stmt:=top 38
abbrev Oa:List Str:=["box","limit"]
abbrev CO:List Str:=["box","limit"]
theorem ML:As Oa CO (Ah Fw):=⟨rfl,rfl,rfl,by decide +kernel,rfl,by decide +kernel,by decide +kernel⟩
abbrev IZ:Stmt:=top 39
abbrev RW:List Str:=["grove","field"]
abbrev DK:List Str:=["grove","field"]
theorem Qy:As RW DK (Ah IZ):=⟨rfl,rfl,rfl,by decide +kernel,rfl,by decide +kernel,by decide +kernel⟩
abbrev Gk:Stmt:=top 40
abbrev Pr:List Str:=["grove"]
abbrev Eo:List Str:=["grove"]
theorem NR:As Pr Eo (Ah Gk):=⟨rfl,rfl,rfl,by decide +kernel,rfl,by decide +kernel,by decide +kernel⟩
abbrev Lg:Stmt:=top 41
abbrev Uz:List Str:=["grove","square","level","parts","bare"]
abbrev IE:List Str:=["grove","square"]
theorem Gd:As Uz IE (Ah Lg):=⟨rfl,rfl,rfl,by decide +kernel,rfl,by decide +kernel,by decide +kernel⟩
abbrev Lh:Stmt:=top 42
abbrev UA:List Str:=["grove","square","kept"]
abbrev FQ:List Str:=["grove","square"]
theorem IV:As UA FQ (Ah Lh):=⟨rfl,rfl,rfl,by decide +kernel,rfl,by decide +kernel,by decide +kernel⟩
abbrev Fc:Stmt:=top 43
abbrev LR:List Str:=["grove","square","inner"]
abbrev Ik:List Str:=["grove","square"]
theorem Jw:As LR Ik (Ah Fc):=⟨rfl,rfl,rfl,by decide +kernel,rfl,by decide +kernel,by decide +kernel⟩
abbrev DB:Stmt:=top 44
abbrev Lw:List Str:=["grove","square","bare","place","quarter","part_place","part"]
abbrev DM:List Str:=["grove","square"]
theorem Bz:As Lw DM (Ah DB):=⟨rfl,rfl,rfl,by decide +kernel,rfl,by decide +kernel,by decide +kernel⟩
abbrev Ez:Stmt:=top 45
abbrev Nd:List Str:=["grove","field","box","wide"]
abbrev EI:List Str:=["grove","field","box"]
theorem Ef:As Nd EI (Ah Ez):=⟨rfl,rfl,rfl,by decide +kernel,rfl,by decide +kernel,by decide +kernel⟩
abbrev Gf:Stmt:=top 46
abbrev Pm:List Str:=["grove","field","level","wide"]
abbrev Gx:List Str:=["grove","field","level"]
theorem Fs:As Pm Gx (Ah Gf):=⟨rfl,rfl,rfl,by decide +kernel,rfl,by decide +kernel,by decide +kernel⟩
abbrev Li:Stmt:=top 47
abbrev UB:List Str:=["grove","field","x","y","state","place","wide","half"]
abbrev Lq:List Str:=["grove","field","x","y","state"]
theorem Ge:As UB Lq (Ah Li):=⟨rfl,rfl,rfl,by decide +kernel,rfl,by decide +kernel,by decide +kernel⟩
abbrev IW:Stmt:=top 48
abbrev RV:List Str:=["grove","square","x","y","state","level","half","parts","place"]
abbrev EJ:List Str:=["grove","square","x","y","state"]
theorem De:As RV EJ (Ah IW):=⟨rfl,rfl,rfl,by decide +kernel,rfl,by decide +kernel,by decide +kernel⟩
abbrev Jd:Stmt:=top 49
abbrev Sa:List Str:=["grove","cells","field","cell"]
abbrev Ji:List Str:=["grove","cells"]
theorem Fb:As Sa Ji (Ah Jd):=⟨rfl,rfl,rfl,by decide +kernel,rfl,by decide +kernel,by decide +kernel⟩
abbrev MT:Stmt:=top 51
abbrev Wn:List Str:=["grove","field","box","reach"]
abbrev Nb:List Str:=["grove","field"]
theorem Le:As Wn Nb (Ah MT):=⟨rfl,rfl,rfl,by decide +kernel,rfl,by decide +kernel,by decide +kernel⟩
abbrev RN:Stmt:=top 53
abbrev cY:List Str:=["jumps","field","n","tuples"]
abbrev RQ:List Str:=["jumps","field","n"]
theorem Tb:As cY RQ (Ah RN):=⟨rfl,rfl,rfl,by decide +kernel,rfl,by decide +kernel,by decide +kernel⟩
abbrev RM:Stmt:=top 54
abbrev cX:List Str:=["jumps","field","n","grove","told","here","rest","e","square","result"]
abbrev RP:List Str:=["jumps","field","n"]
theorem Dk:As cX RP (Ah RM):=⟨rfl,rfl,rfl,by decide +kernel,rfl,by decide +kernel,by decide +kernel⟩
abbrev Gj:Stmt:=top 55
abbrev Pq:List Str:=["grove","field","n","box"]
abbrev GB:List Str:=["grove","field","n"]
theorem IO:As Pq GB (Ah Gj):=⟨rfl,rfl,rfl,by decide +kernel,rfl,by decide +kernel,by decide +kernel⟩
abbrev Id:Stmt:=top 56
abbrev QU:List Str:=["grove","field","e","reach","level"]
abbrev Il:List Str:=["grove","field","e"]
theorem En:As QU Il (Ah Id):=⟨rfl,rfl,rfl,by decide +kernel,rfl,by decide +kernel,by decide +kernel⟩
abbrev EC:Stmt:=top 60
abbrev Nh:List Str:=["text"]
abbrev EN:List Str:=["text"]
theorem LU:As Nh EN (Ah EC):=⟨rfl,rfl,rfl,by decide +kernel,rfl,by decide +kernel,by decide +kernel⟩
abbrev Ic:Stmt:=top 61
abbrev QT:List Str:=["text","rule"]
abbrev Ij:List Str:=["text"]
theorem Ju:As QT Ij (Ah Ic):=⟨rfl,rfl,rfl,by decide +kernel,rfl,by decide +kernel,by decide +kernel⟩
abbrev Je:Stmt:=top 62
abbrev Sb:List Str:=["rule","cell","around","number","clause"]
abbrev Jj:List Str:=["rule","cell","around"]
theorem Ia:As Sb Jj (Ah Je):=⟨rfl,rfl,rfl,by decide +kernel,rfl,by decide +kernel,by decide +kernel⟩
abbrev Lj:Stmt:=top 63
abbrev UC:List Str:=["rule","cell","around","number"]
abbrev IF:List Str:=["rule","cell","around"]
theorem MN:As UC IF (Ah Lj):=⟨rfl,rfl,rfl,by decide +kernel,rfl,by decide +kernel,by decide +kernel⟩
abbrev Gg:Stmt:=top 64
abbrev Pn:List Str:=["rule"]
abbrev Gy:List Str:=["rule"]
theorem NP:As Pn Gy (Ah Gg):=⟨rfl,rfl,rfl,by decide +kernel,rfl,by decide +kernel,by decide +kernel⟩
abbrev Gi:Stmt:=top 67
abbrev Pp:List Str:=["grove","square","parts","a","b","c","d"]
abbrev Du:List Str:=["grove","square"]
theorem Ch:As Pp Du (Ah Gi):=⟨rfl,rfl,rfl,by decide +kernel,rfl,by decide +kernel,by decide +kernel⟩
abbrev Jc:Stmt:=top 68
abbrev RZ:List Str:=["nine"]
abbrev EM:List Str:=["nine"]
theorem QB:As RZ EM (Ah Jc):=⟨rfl,rfl,rfl,by decide +kernel,rfl,by decide +kernel,by decide +kernel⟩
abbrev CJ:Stmt:=top 69
abbrev IN:List Str:=["grove","four","parts"]
abbrev BX:List Str:=["grove","four"]
theorem DZ:As IN BX (Ah CJ):=⟨rfl,rfl,rfl,by decide +kernel,rfl,by decide +kernel,by decide +kernel⟩
abbrev Lk:Stmt:=top 72
abbrev UD:List Str:=["_law_script","_law_k"]
abbrev IG:List Str:=["_law_script","_law_k"]
theorem RL:As UD IG (Ah Lk):=⟨rfl,rfl,rfl,by decide +kernel,rfl,by decide +kernel,by decide +kernel⟩
abbrev Gm:Stmt:=top 73
abbrev Ps:List Str:=["_law_found"]
abbrev GC:List Str:=["_law_found"]
theorem NS:As Ps GC (Ah Gm):=⟨rfl,rfl,rfl,by decide +kernel,rfl,by decide +kernel,by decide +kernel⟩
abbrev Jf:Stmt:=top 74
abbrev Sc:List Str:=["_law_cell","_law_k","_law_value"]
abbrev GE:List Str:=["_law_cell","_law_k"]
theorem Ib:As Sc GE (Ah Jf):=⟨rfl,rfl,rfl,by decide +kernel,rfl,by decide +kernel,by decide +kernel⟩
abbrev Gn:Stmt:=top 75
abbrev Pt:List Str:=["_law_cell","_law_k","_law_bits"]
abbrev GD:List Str:=["_law_cell","_law_k","_law_bits"]
theorem NT:As Pt GD (Ah Gn):=⟨rfl,rfl,rfl,by decide +kernel,rfl,by decide +kernel,by decide +kernel⟩
abbrev ED:Stmt:=top 76
abbrev Ni:List Str:=["_law_state","_law_at_here","_law_one","_law_two"]
abbrev EO:List Str:=["_law_state","_law_at_here"]
theorem Eh:As Ni EO (Ah ED):=⟨rfl,rfl,rfl,by decide +kernel,rfl,by decide +kernel,by decide +kernel⟩
abbrev Fy:Stmt:=top 77
abbrev Ob:List Str:=["_law_places","_law_dx","_law_dy","_law_due","_law_x","_law_y","_law_place_here"]
abbrev FF:List Str:=["_law_places","_law_dx","_law_dy"]
theorem Cs:As Ob FF (Ah Fy):=⟨rfl,rfl,rfl,by decide +kernel,rfl,by decide +kernel,by decide +kernel⟩
abbrev DT:Stmt:=top 78
abbrev IS:List Str:=["_law_grove","_law_places","_law_state"]
abbrev FE:List Str:=["_law_grove","_law_places","_law_state"]
theorem MO:As IS FE (Ah DT):=⟨rfl,rfl,rfl,by decide +kernel,rfl,by decide +kernel,by decide +kernel⟩
abbrev DC:Stmt:=top 79
abbrev Lx:List Str:=["_law_script","_law_left","_law_top","_law_places","_law_k","_law_value"]
abbrev DN:List Str:=["_law_script"]
theorem AU:As Lx DN (Ah DC):=⟨rfl,rfl,rfl,by decide +kernel,rfl,by decide +kernel,by decide +kernel⟩
abbrev VE:Stmt:=top 80
abbrev n_law:List Str:=["_law_script","_law_state","_law_at_here","_law_dx","_law_dy","_law_most","_law_e","_law_f","_law_places","_law_grove","_law_jumps","_law_field","_law_one","_law_found","_law_two"]
abbrev p_law:List Str:=["_law_script"]
theorem CV:As n_law p_law (Ah VE):=⟨rfl,rfl,rfl,by decide +kernel,rfl,by decide +kernel,by decide +kernel⟩
abbrev EF:Stmt:=AV (top 20) 0
abbrev Nk:List Str:=["self","state","numbers"]
abbrev ES:List Str:=["self","state","numbers"]
theorem LW:As Nk ES (Ah EF):=⟨rfl,rfl,rfl,by decide +kernel,rfl,by decide +kernel,by decide +kernel⟩
abbrev Ei:Stmt:=AV (top 20) 1
abbrev LX:List Str:=["self","around"]
abbrev Ek:List Str:=["self","around"]
theorem Lf:As LX Ek (Ah Ei):=⟨rfl,rfl,rfl,by decide +kernel,rfl,by decide +kernel,by decide +kernel⟩
abbrev Fz:Stmt:=AV (top 21) 0
abbrev Oc:List Str:=["self","wanted"]
abbrev FG:List Str:=["self","wanted"]
theorem MP:As Oc FG (Ah Fz):=⟨rfl,rfl,rfl,by decide +kernel,rfl,by decide +kernel,by decide +kernel⟩
abbrev Dr:Stmt:=AV (top 21) 1
abbrev Ip:List Str:=["self","around"]
abbrev EQ:List Str:=["self","around"]
theorem LV:As Ip EQ (Ah Dr):=⟨rfl,rfl,rfl,by decide +kernel,rfl,by decide +kernel,by decide +kernel⟩
abbrev FB:Stmt:=AV (top 22) 0
abbrev Of:List Str:=["self","cell","conditions","makes"]
abbrev FI:List Str:=["self","cell","conditions","makes"]
theorem MR:As Of FI (Ah FB):=⟨rfl,rfl,rfl,by decide +kernel,rfl,by decide +kernel,by decide +kernel⟩
abbrev DV:Stmt:=AV (top 22) 1
abbrev IT:List Str:=["self","cell","around"]
abbrev FJ:List Str:=["self","cell","around"]
theorem MS:As IT FJ (Ah DV):=⟨rfl,rfl,rfl,by decide +kernel,rfl,by decide +kernel,by decide +kernel⟩
abbrev Gs:Stmt:=AV (top 34) 0
abbrev Pz:List Str:=["self","state","level","bare"]
abbrev GH:List Str:=["self"]
theorem DQ:As Pz GH (Ah Gs):=⟨rfl,rfl,rfl,by decide +kernel,rfl,by decide +kernel,by decide +kernel⟩
abbrev Gr:Stmt:=AV (top 34) 1
abbrev Py:List Str:=["self","parts","level","number"]
abbrev Er:List Str:=["self","parts","level"]
theorem IP:As Py Er (Ah Gr):=⟨rfl,rfl,rfl,by decide +kernel,rfl,by decide +kernel,by decide +kernel⟩
abbrev EE:Stmt:=AV (top 34) 2
abbrev Nj:List Str:=["self","parts","number"]
abbrev AN:List Str:=["self","parts"]
theorem GR:As Nj AN (Ah EE):=⟨rfl,rfl,rfl,by decide +kernel,rfl,by decide +kernel,by decide +kernel⟩
abbrev Cv:Stmt:=AV (top 34) 3
abbrev Iu:List Str:=["self","square"]
abbrev BR:List Str:=["self","square"]
theorem GV:As Iu BR (Ah Cv):=⟨rfl,rfl,rfl,by decide +kernel,rfl,by decide +kernel,by decide +kernel⟩
abbrev Gq:Stmt:=AV (top 34) 4
abbrev Px:List Str:=["self","state"]
abbrev Ep:List Str:=["self","state"]
theorem NW:As Px Ep (Ah Gq):=⟨rfl,rfl,rfl,by decide +kernel,rfl,by decide +kernel,by decide +kernel⟩
abbrev DF:Stmt:=AV (top 34) 7
abbrev LB:List Str:=["self","square"]
abbrev Bb:List Str:=["self","square"]
theorem Jy:As LB Bb (Ah DF):=⟨rfl,rfl,rfl,by decide +kernel,rfl,by decide +kernel,by decide +kernel⟩
abbrev DE:Stmt:=AV (top 34) 9
abbrev Lz:List Str:=["self","square"]
abbrev DO:List Str:=["self","square"]
theorem Jx:As Lz DO (Ah DE):=⟨rfl,rfl,rfl,by decide +kernel,rfl,by decide +kernel,by decide +kernel⟩
abbrev Gp:Stmt:=AV (top 34) 12
abbrev Pw:List Str:=["self","square"]
abbrev GG:List Str:=["self","square"]
theorem NV:As Pw GG (Ah Gp):=⟨rfl,rfl,rfl,by decide +kernel,rfl,by decide +kernel,by decide +kernel⟩
abbrev DU:Stmt:=AV (top 34) 13
abbrev Oe:List Str:=["self","square","box"]
abbrev Cj:List Str:=["self","square"]
theorem Dq:As Oe Cj (Ah DU):=⟨rfl,rfl,rfl,by decide +kernel,rfl,by decide +kernel,by decide +kernel⟩
abbrev CA:Stmt:=AV (top 34) 14
abbrev LA:List Str:=["self","square","level","half","boxes","place","quarter","box"]
abbrev CD:List Str:=["self","square"]
theorem Bj:As LA CD (Ah CA):=⟨rfl,rfl,rfl,by decide +kernel,rfl,by decide +kernel,by decide +kernel⟩
abbrev Fd:Stmt:=AV (top 59) 0
abbrev LS:List Str:=["self","text"]
abbrev Im:List Str:=["self","text"]
theorem Pf:As LS Im (Ah Fd):=⟨rfl,rfl,rfl,by decide +kernel,rfl,by decide +kernel,by decide +kernel⟩
abbrev Go:Stmt:=AV (top 70) 0
abbrev Pu:List Str:=["self","grove","rule"]
abbrev GF:List Str:=["self","grove","rule"]
theorem NU:As Pu GF (Ah Go):=⟨rfl,rfl,rfl,by decide +kernel,rfl,by decide +kernel,by decide +kernel⟩
abbrev Ds:Stmt:=AV (top 70) 1
abbrev Ir:List Str:=["self","rule","text"]
abbrev ER:List Str:=["self","rule"]
theorem GQ:As Ir ER (Ah Ds):=⟨rfl,rfl,rfl,by decide +kernel,rfl,by decide +kernel,by decide +kernel⟩
abbrev FA:Stmt:=AV (top 70) 2
abbrev Od:List Str:=["self","square","e"]
abbrev FH:List Str:=["self","square","e"]
theorem MQ:As Od FH (Ah FA):=⟨rfl,rfl,rfl,by decide +kernel,rfl,by decide +kernel,by decide +kernel⟩
abbrev CW:Stmt:=AV (top 70) 3
abbrev Jm:List Str:=["self","square","e","level"]
abbrev CZ:List Str:=["self","square","e"]
theorem El:As Jm CZ (Ah CW):=⟨rfl,rfl,rfl,by decide +kernel,rfl,by decide +kernel,by decide +kernel⟩
abbrev Cz:Stmt:=AV (top 70) 4
abbrev Ly:List Str:=["self","square","e","result"]
abbrev Ba:List Str:=["self","square","e"]
theorem Dn:As Ly Ba (Ah Cz):=⟨rfl,rfl,rfl,by decide +kernel,rfl,by decide +kernel,by decide +kernel⟩
abbrev BU:Stmt:=AV (top 70) 5
abbrev DY:List Str:=["self","square","e","grove","level","nine"]
abbrev CP:List Str:=["self","square","e"]
theorem Do:As DY CP (Ah BU):=⟨rfl,rfl,rfl,by decide +kernel,rfl,by decide +kernel,by decide +kernel⟩
abbrev AY:Stmt:=AV (top 70) 6
abbrev Cw:List Str:=["self","square","e","nine"]
abbrev Bv:List Str:=["self","square","e"]
theorem Dx:As Cw Bv (Ah AY):=⟨rfl,rfl,rfl,by decide +kernel,rfl,by decide +kernel,by decide +kernel⟩
abbrev Cu:Stmt:=AV (top 70) 7
abbrev Iq:List Str:=["self","square","parts","a","b","c","d"]
abbrev BQ:List Str:=["self","square"]
theorem AW:As Iq BQ (Ah Cu):=⟨rfl,rfl,rfl,by decide +kernel,rfl,by decide +kernel,by decide +kernel⟩
abbrev Cb:Stmt:=AV (top 70) 8
abbrev EV:List Str:=["self","leaves","leaf","states"]
abbrev Da:List Str:=["self","leaves"]
theorem BW:As EV Da (Ah Cb):=⟨rfl,rfl,rfl,by decide +kernel,rfl,by decide +kernel,by decide +kernel⟩
structure Ad where
 c_Amounts:Addr
 c_Places:Addr
 c_Clause:Addr
 c_Grove:Addr
 c_Rule:Addr
 c_Jumps:Addr
structure Top(K:PySem.W.Frag)(mg:Str->Option Value)(a:Ad):Prop where
 b_all:mg "all" = none
 b_bool:mg "bool" = none
 b_enumerate:mg "enumerate" = none
 b_int:mg "int" = none
 b_isinstance:mg "isinstance" = none
 b_len:mg "len" = none
 b_list:mg "list" = none
 b_max:mg "max" = none
 b_min:mg "min" = none
 b_range:mg "range" = none
 b_str:mg "str" = none
 b_tuple:mg "tuple" = none
 b_zip:mg "zip" = none
 k_STATES:∃t,mg "STATES" = some (.int 8 t)
 k_NEIGHBOURS:∃t,mg "NEIGHBOURS" = some (.int 8 t)
 k_STATE_FIGURES:∃t,mg "STATE_FIGURES" = some (.str (Str.ofString "01234567") t)
 k_AMOUNT_FIGURES:∃t,mg "AMOUNT_FIGURES" = some (.str (Str.ofString "012345678") t)
 k_ANY_SIGN:∃t,mg "ANY_SIGN" = some (.str (Str.ofString "*") t)
 k_TOP_LEVEL:∃t,mg "TOP_LEVEL" = some (.int 48 t)
 k_LIMIT:∃t,mg "LIMIT" = some (.int 1099511627776 t)
 k_LEAST_LEVEL:∃t,mg "LEAST_LEVEL" = some (.int 1 t)
 k_CLAUSE_MARK:∃t,mg "CLAUSE_MARK" = some (.str (Str.ofString "; ") t)
 k_LEAST_JUMPED:∃t,mg "LEAST_JUMPED" = some (.int 2 t)
 m_Amounts:mg "Amounts" = some (.ref a.c_Amounts)
 cl_Amounts:Cls K a.c_Amounts
 na_Amounts_state:Bp K a.c_Amounts "state"
 na_Amounts_numbers:Bp K a.c_Amounts "numbers"
 m_Places:mg "Places" = some (.ref a.c_Places)
 cl_Places:Cls K a.c_Places
 na_Places_wanted:Bp K a.c_Places "wanted"
 m_Clause:mg "Clause" = some (.ref a.c_Clause)
 cl_Clause:Cls K a.c_Clause
 na_Clause_cell:Bp K a.c_Clause "cell"
 na_Clause_conditions:Bp K a.c_Clause "conditions"
 na_Clause_makes:Bp K a.c_Clause "makes"
 m_Grove:mg "Grove" = some (.ref a.c_Grove)
 cl_Grove:Cls K a.c_Grove
 na_Grove_levels:Bp K a.c_Grove "levels"
 na_Grove_parts:Bp K a.c_Grove "parts"
 na_Grove_numbers:Bp K a.c_Grove "numbers"
 na_Grove_bares:Bp K a.c_Grove "bares"
 na_Grove_amounts:Bp K a.c_Grove "amounts"
 na_Grove_boxes:Bp K a.c_Grove "boxes"
 m_Rule:mg "Rule" = some (.ref a.c_Rule)
 cl_Rule:Cls K a.c_Rule
 na_Rule_text:Bp K a.c_Rule "text"
 na_Rule_clauses:Bp K a.c_Rule "clauses"
 m_Jumps:mg "Jumps" = some (.ref a.c_Jumps)
 cl_Jumps:Cls K a.c_Jumps
 na_Jumps_grove:Bp K a.c_Jumps "grove"
 na_Jumps_memories:Bp K a.c_Jumps "memories"
 na_Jumps_rule:Bp K a.c_Jumps "rule"
 na_Jumps_known_squares:Bp K a.c_Jumps "known_squares"
 na_Jumps_known_cells:Bp K a.c_Jumps "known_cells"
seal L2.PA L2.PE L2.PS L2.PSs L2.PT L2.PW
inductive Bn where
 |am (s:Int) (ns:List Int)
 |pl (ws:List (Option Int))
structure Be where
 cell:Option Int
 conds:List Bn
 makes:Int
abbrev AC:=List Be
def FK:Option Int->V
 |none=>.non
 |some i=>.int i
def Dj(w:Option Int)(s:Int):Bool:=match w with
 |none=>true
 |some i=>decide (i=s)
def Bn.holds(ar:List Int):Bn->Bool
 |.am s ns=>ns.any λn=>decide (n=((ar.countP (· == s):Nat):Int))
 |.pl ws=>(ws.zip ar).all λp=>Dj p.1 p.2
def Be.fits(cell:Int)(ar:List Int)(c:Be):Bool:=Dj c.cell cell && c.conds.all (Bn.holds ar)
def Ma(r:AC)(cell:Int)(ar:List Int):Option Nat:=r.findIdx? (Be.fits cell ar)
def CQ(r:AC)(cell:Int)(ar:List Int):Int:=match r.find? (Be.fits cell ar)with
 |none=>cell
 |some c=>c.makes
def fl1(f:Str)(a:V):List (Str×V):=AM f a []
def fl2(f g:Str)(a b:V):List (Str×V):=AM g b (AM f a [])
def fl3(f g h:Str)(a b c:V):List (Str×V):=AM h c (AM g b (AM f a []))
theorem fl1_1{f:Str}{a:V}:(fl1 f a).lookup f=some a:=by unfold fl1;rw[Ai,W2 rfl]
theorem PQ{f m:Str}{a:V}(h:¬m=f):(fl1 f a).lookup m=none:=by unfold fl1;rw[Ai,V8 h];rfl
theorem WO{f g:Str}{a b:V}(h:¬f=g):(fl2 f g a b).lookup f=some a:=by unfold fl2;rw[Ai,V8 h,Ai,W2 rfl]
theorem WN{f g:Str}{a b:V}:(fl2 f g a b).lookup g=some b:=by unfold fl2;rw[Ai,W2 rfl]
theorem fl2_no{f g m:Str}{a b:V}(h1:¬m=f)(h2:¬m=g):(fl2 f g a b).lookup m=none:=by unfold fl2;rw[Ai,V8 h2,Ai,V8 h1];rfl
theorem fl3_1{f g h:Str}{a b c:V}(h1:¬f=g)(h2:¬f=h):(fl3 f g h a b c).lookup f=some a:=by unfold fl3;rw[Ai,V8 h2,Ai,V8 h1,Ai,W2 rfl]
theorem fl3_2{f g h:Str}{a b c:V}(h1:¬g=h):(fl3 f g h a b c).lookup g=some b:=by unfold fl3;rw[Ai,V8 h1,Ai,W2 rfl]
theorem fl3_3{f g h:Str}{a b c:V}:(fl3 f g h a b c).lookup h=some c:=by unfold fl3;rw[Ai,W2 rfl]
theorem fl3_no{f g h m:Str}{a b c:V}(h1:¬m=f)(h2:¬m=g)(h3:¬m=h):(fl3 f g h a b c).lookup m=none:=by unfold fl3;rw[Ai,V8 h3,Ai,V8 h2,Ai,V8 h1];rfl
theorem QH(f:Str)(v:V):∀l:List (Str×V),(AM f v l).length<=l.length+1
 |[]=>B6 _
 | (g,w)::r=>by
  unfold AM;split
  ·exact R6 _
  ·rw[D8,D8];exact P0 (QH f v r)
theorem Az{H:Hp}{p:Addr}{o:HO}(h:H p=none):AA H (upd H p o):=λb u e=>by
 rw[Ao (Ar e h)];exact e
theorem alc{H H':Hp}{p:Addr}{o:HO}(h:H p=none)(e:upd H p o=H'):AA H H'/\H' p=some o:=e▸⟨Az h,Af⟩
inductive CL(a:Ad)(H:Hp):Addr->Bn->Prop where
 |am {p t dx:Addr} {s:Int} {ns:List Int} (h:H p=some (.ins a.c_Amounts dx (fl2 "state" "numbers" (.int s) (.ref t)))) (ht:H t=some (.tup (ns.map V.int))):CL a H p (.am s ns)
 |pl {p t dx:Addr} {ws:List (Option Int)} (h:H p=some (.ins a.c_Places dx (fl1 "wanted" (.ref t)))) (ht:H t=some (.tup (ws.map FK))):CL a H p (.pl ws)
structure BK(a:Ad)(H:Hp)(p:Addr)(c:Be):Prop where
 ex:∃(dx t:Addr)(cs:List Addr),H p=some (.ins a.c_Clause dx (fl3 "cell" "conditions" "makes" (FK c.cell) (.ref t) (.int c.makes)))/\H t=some (.tup (cs.map V.ref))/\Paired (CL a H) cs c.conds
structure Cf(a:Ad)(H:Hp)(p:Addr)(x:Str)(r:AC):Prop where
 ex:∃(dx t:Addr)(cs:List Addr),H p=some (.ins a.c_Rule dx (fl2 "text" "clauses" (.str x) (.ref t)))/\H t=some (.tup (cs.map V.ref))/\Paired (BK a H) cs r
theorem Paired.imp{α β:Type}{F G:α->β->Prop}(h:∀x y,F x y->G x y):∀{l:List α}{m:List β},Paired F l m->Paired G l m
 |_,_,.nil=>.nil
 |_,_,.cons r t=>.cons (h _ _ r) (Paired.imp h t)
theorem Paired.get{α β:Type}{F:α->β->Prop}:∀{l:List α}{m:List β}{i:Nat}{x:α},Paired F l m->l[i]?=some x->∃y,m[i]?=some y/\F x y
 |_,_,_,_,.nil,e=>by simp at e
 |_,_,0,_,.cons r _,e=>by simp at e;subst e;exact⟨_,rfl,r⟩
 |_,_,i+1,x,.cons _ t,e=>by
  obtain⟨y,h1,h2⟩:=Paired.get (i:=i) (x:=x) t (by simpa using e);exact⟨y,by simpa using h1,h2⟩
theorem CL.same{a:Ad}{H H':Hp}{p:Addr}{c:Bn}(s:AA H H')(h:CL a H p c):CL a H' p c:=by
 cases h with
 |am h ht=>exact .am (s _ _ h) (s _ _ ht)
 |pl h ht=>exact .pl (s _ _ h) (s _ _ ht)
theorem BK.same{a:Ad}{H H':Hp}{p:Addr}{c:Be}(s:AA H H')(h:BK a H p c):BK a H' p c:=by
 obtain⟨dx,t,cs,h1,h2,h3⟩:=h.ex;exact⟨dx,t,cs,s _ _ h1,s _ _ h2,Paired.imp (λ_ _ z=>z.same s) h3⟩
theorem Cf.same{a:Ad}{H H':Hp}{p:Addr}{x:Str}{r:AC}(s:AA H H')(h:Cf a H p x r):Cf a H' p x r:=by
 obtain⟨dx,t,cs,h1,h2,h3⟩:=h.ex;exact⟨dx,t,cs,s _ _ h1,s _ _ h2,Paired.imp (λ_ _ z=>z.same s) h3⟩
theorem in_ints(n:Int)(ns:List Int):inV (.int n) (ns.map V.int)=ns.any λm=>decide (m=n):=by
 unfold inV;rw[List.any_map];congr 1
theorem UQ(ns:List Int):(ns.map V.int).all JU=true:=by
 rw[List.all_map];exact T1.mpr λ_ _=>rfl
theorem Mu(i j:Int):decide (V.int i=V.int j)=decide (i=j):=by
 by_cases h:i=j
 ·rw[V9 h,V9 (by rw[h])]
 ·rw[W0 h,W0 λz=>h (by injection z)]
section
variable{P:Program}{w:World}{K:PySem.W.Frag}{mg:Str->Option Value}{base:Heap}{a:Ad}
inductive TJ(vs:List V)(H:Hp)(Q:VK):Prop
 |mk (x:Option Int) (s:Int) (_:vs=[FK x,.int s]) (_:Q (.bl (Dj x s)) H):TJ vs H Q
def Md:Sp:=λvs H Q _=>TJ vs H Q
theorem VV{f:Addr}{fd:FuncData}(F:Fun K "takes" "takes" Pg f fd):AK P w K mg base CX0 1 f fd Mm Md:=by
 refine F.ok VD (λvs H Q E h=>?_) (λcdv A outer s H vs Q E hr h=>?_)
 ·obtain⟨x,s,rfl,_⟩:=h;rfl
 ·obtain⟨x,s,rfl,k⟩:=h;refine⟨_,(Ag (Aw (pe_or (DW Jk (pv 0) DI (AI _)) (Jh (DW Ea (pv 0) (pv 1) (AI _)))))),?_⟩
  try dsimp only[cxK]
  refine xq1 rfl ⟨rfl,(xq1 rfl ?_)⟩;cases x with
  |none=>exact CK k
  |some i =>
   have e:decide (FK (some i)=V.int s)=Dj (some i) s:=Mu i s;rw[<-e]at k;exact Bw (xw2 rfl rfl ⟨rfl,k⟩)
inductive RB(a:Ad)(vs:List V)(H:Hp)(Q:VK):Prop
 |mk (p t dx:Addr) (s:Int) (_:vs=[.ref p,.int s,.ref t]) (_:H p=some (.ins a.c_Amounts dx [])) (_:Q .non (upd H p (.ins a.c_Amounts dx (fl2 "state" "numbers" (.int s) (.ref t))))):RB a vs H Q
def MH(a:Ad):Sp:=λvs H Q _=>RB a vs H Q
theorem Uv{f:Addr}{fd:FuncData}(F:Fun K "__init__" "Amounts.__init__" EF f fd)(T:Top K mg a):AK P w K mg base CX0 1 f fd ES (MH a):=by
 refine F.ok LW (λvs H Q E h=>?_) (λcdv A outer s H vs Q E hr h=>?_)
 ·obtain⟨p,t,dx,s,rfl,_⟩:=h;rfl
 ·obtain⟨p,t,dx,s,rfl,hp,k⟩:=h;refine⟨_,(Ab (Cc (pv 0) (pv 1) rfl) (Ag (Cc (pv 0) (pv 2) rfl))),?_⟩
  try dsimp only[cxK]
  refine xw2 rfl rfl ⟨p,_,dx,[],rfl,hp,T.cl_Amounts,T.na_Amounts_state,B0,(xw2 rfl rfl ⟨p,_,dx,(xq1 rfl ⟨Af,T.cl_Amounts,T.na_Amounts_numbers,B1,?_⟩)⟩)⟩;rw[Gb];exact k
inductive Rz(a:Ad)(vs:List V)(H:Hp)(Q:VK):Prop
 |mk (p t dx:Addr) (_:vs=[.ref p,.ref t]) (_:H p=some (.ins a.c_Places dx [])) (_:Q .non (upd H p (.ins a.c_Places dx (fl1 "wanted" (.ref t))))):Rz a vs H Q
def ME(a:Ad):Sp:=λvs H Q _=>Rz a vs H Q
theorem Ut{f:Addr}{fd:FuncData}(F:Fun K "__init__" "Places.__init__" Fz f fd)(T:Top K mg a):AK P w K mg base CX0 1 f fd FG (ME a):=by
 refine F.ok MP (λvs H Q E h=>?_) (λcdv A outer s H vs Q E hr h=>?_)
 ·obtain⟨p,t,dx,rfl,_⟩:=h;rfl
 ·obtain⟨p,t,dx,rfl,hp,k⟩:=h;refine⟨_,(Ag (Cc (pv 0) (pv 1) rfl)),?_⟩
  try dsimp only[cxK]
  exact xw2 rfl rfl ⟨p,_,dx,[],rfl,hp,T.cl_Places,T.na_Places_wanted,B0,k⟩
inductive RA(a:Ad)(vs:List V)(H:Hp)(Q:VK):Prop
 |mk (p t dx:Addr) (c:Option Int) (m:Int) (_:vs=[.ref p,FK c,.ref t,.int m]) (_:H p=some (.ins a.c_Clause dx [])) (_:Q .non (upd H p (.ins a.c_Clause dx (fl3 "cell" "conditions" "makes" (FK c) (.ref t) (.int m))))):RA a vs H Q
def MG(a:Ad):Sp:=λvs H Q _=>RA a vs H Q
theorem Uu{f:Addr}{fd:FuncData}(F:Fun K "__init__" "Clause.__init__" FB f fd)(T:Top K mg a):AK P w K mg base CX0 1 f fd FI (MG a):=by
 refine F.ok MR (λvs H Q E h=>?_) (λcdv A outer s H vs Q E hr h=>?_)
 ·obtain⟨p,t,dx,c,m,rfl,_⟩:=h;rfl
 ·obtain⟨p,t,dx,c,m,rfl,hp,k⟩:=h;refine⟨_,(Ab (Cc (pv 0) (pv 1) rfl) (Ab (Cc (pv 0) (pv 2) rfl) (Ag (Cc (pv 0) (pv 3) rfl)))),?_⟩
  try dsimp only[cxK]
  refine⟨_,rfl,_,rfl,p,_,dx,[],rfl,hp,T.cl_Clause,T.na_Clause_cell,B0,_,rfl,_,rfl,p,_,dx,_,rfl,Af,T.cl_Clause,T.na_Clause_conditions,B1,_,rfl,_,rfl,p,_,dx,_,rfl,Af,T.cl_Clause,T.na_Clause_makes,
   J3 (QH _ _ _) (by show 2<1000;decide),?_⟩
  rw[Gb,Gb];exact k
def Ld(a:Ad):Sp:=λvs H Q E=>(∃(p l t dx:Addr)(s:Int)(ns ar:List Int),vs=[.ref p,.ref l]/\H p=some (.ins a.c_Amounts dx (fl2 "state" "numbers" (.int s) (.ref t)))/\H t=some (.tup (ns.map V.int))/\H l=some (.lst (ar.map V.int))/\Q (.bl (Bn.holds ar (.am s ns))) H)
theorem RT{f:Addr}{fd:FuncData}(F:Fun K "holds" "Amounts.holds" Ei f fd)(T:Top K mg a):AK P w K mg base CX0 1 f fd Ek (Ld a):=by
 refine F.ok Lf (λvs H Q E h=>?_) (λcdv A outer s H vs Q E hr h=>?_)
 ·obtain⟨p,l,t,dx,s,ns,ar,rfl,_⟩:=h;rfl
 ·obtain⟨p,l,t,dx,s,ns,ar,rfl,hp,ht,hl,k⟩:=h;refine⟨_,(Ag (Aw (DW Ur (GS Z0 PySem.F.slot_list_count PySem.F.type_list_count Wp (pv 1) (Aa (Ax (pv 0) rfl) Ac)) (Ax (pv 0) rfl) rfl))),?_⟩
  try dsimp only[cxK]
  refine xq1 rfl ⟨.inl ⟨rfl,_,SqL.of hl⟩,(xwf rfl rfl hp T.cl_Amounts T.na_Amounts_state (WO A1) ⟨l,ar,s,rfl,rfl,hl,(xwf rfl rfl hp T.cl_Amounts T.na_Amounts_numbers WN ⟨t,(xq1 rfl ⟨.inr (SqT.of ht),rfl,UQ ns,?_⟩)⟩)⟩)⟩;show Q (.bl (inV _ _)) H;rw[in_ints];exact k
inductive OP(a:Ad)(vs:List V)(H:Hp)(Q:VK):Prop
 |mk (p l t dx:Addr) (ws:List (Option Int)) (ar:List Int) (_:vs=[.ref p,.ref l]) (_:H p=some (.ins a.c_Places dx (fl1 "wanted" (.ref t)))) (_:H t=some (.tup (ws.map FK))) (_:H l=some (.lst (ar.map V.int))) (_:ws.length<=100) (_:∀H',AA H H'->Q (.bl (Bn.holds ar (.pl ws))) H'):OP a vs H Q
def Lb(a:Ad):Sp:=λvs H Q _=>OP a vs H Q
theorem RS{f:Addr}{fd:FuncData}(F:Fun K "holds" "Places.holds" Dr f fd)(T:Top K mg a)(bX:Cal P w K mg base CX0 1 "takes" Mm Md):AK P w K mg base CX0 2 f fd EQ (Lb a):=by
 refine F.ok LV (λvs H Q E h=>?_) (λcdv A outer s H vs Q E hr h=>?_)
 ·obtain⟨p,l,t,dx,ws,ar,rfl,_⟩:=h;rfl
 ·obtain⟨p,l,t,dx,ws,ar,rfl,hp,ht,hl,hw,k⟩:=h;refine⟨_,(Ag (Aw (AS (Ru rfl) rfl T.b_all PyProof.Rows.boot_all (Aa (Co rfl (BD.of (So:=Ah Dr) (No:=Ip) (N:=["one","state"]) (k:=2) (cs:=[]) rfl rfl A1) (pi_zip true false rfl T.b_zip (Aa (Ax (pv 0) rfl) (Aa (pv 1) Ac))) (λ_ _ _=>(VP (i:=0) (j:=1) rfl A1 rfl rfl rfl rfl)) (λ_ _ _=>BL) (λ_ _ _=>(Au bX (rm hr) rfl An (Aa (pv 0) (Aa (pv 1) Ac))))) Ac)))),?_⟩
  try dsimp only[cxK]
  refine xwf rfl rfl hp T.cl_Places T.na_Places_wanted fl1_1 (xq1 rfl ⟨t,l,rfl,⟨_,SqT.of ht⟩,⟨_,SqL.of hl⟩,?_⟩);refine blk_zip (xs:=ws.map FK) (ys:=ar.map V.int) (λi acc H2=>AA H H2/\acc=(((ws.zip ar).take i).map λp=>V.bl (Dj p.1 p.2))) ⟨AA.refl H,rfl⟩ (λi acc H2 z=>⟨SqT.of (z.1 _ _ ht),SqL.of (z.1 _ _ hl)⟩) ?_ ?_
  ·rintro i x y acc H2 T' hx hy ⟨sm,rfl⟩ nT;rw[B7]at hx hy;obtain⟨o,eo,rfl⟩:=C9.mp hx;obtain⟨m,em,rfl⟩:=C9.mp hy;have ez:(ws.zip ar)[i]?=some (o,m):=by rw[List.getElem?_zip_eq_some];exact⟨eo,em⟩
   refine Rf Af ⟨⟨[some (FK o),some (.int m)],rfl,rfl⟩,?_,?_⟩
   ·have:((((ws.zip ar).take i).map λp=>V.bl (Dj p.1 p.2))).length<=ws.length:=by
     rw[B5,F9,List.length_zip];omega
    exact J3 (C2 this hw) A3
   ·refine GT ?_;refine xw2 rfl rfl ⟨o,m,rfl,sm.trans (Az nT),?_⟩;rw[F7,ez,C7];rfl
  ·rintro acc H2 ⟨sm,rfl⟩ q nq;have len:min (ws.map FK).length (ar.map V.int).length=(ws.zip ar).length:=by rw[B5,B5,List.length_zip]
   rw[len,J0];refine⟨q,(ws.zip ar).map (λp=>Dj p.1 p.2),rfl,SqL.of (by rw[Af,Q0];rfl),?_⟩;have e:((ws.zip ar).map (λp=>Dj p.1 p.2)).all id=Bn.holds ar (.pl ws):=by rw[List.all_map];rfl
   rw[e];exact k _ (sm.trans (Az nq))
inductive Ys(a:Ad)(vs:List V)(H:Hp)(Q:VK):Prop
 |mk (p l:Addr) (c:Be) (cell:Int) (ar:List Int) (_:vs=[.ref p,.int cell,.ref l]) (_:BK a H p c) (_:c.conds.length<=100) (_:(∀d∈c.conds,∀ws,d=Bn.pl ws->ws.length<=100)) (_:H l=some (.lst (ar.map V.int))) (_:∀H',AA H H'->Q (.bl (c.fits cell ar)) H'):Ys a vs H Q
def RJ(a:Ad):Sp:=λvs H Q _=>Ys a vs H Q
theorem ok_Fits{f:Addr}{fd:FuncData}(F:Fun K "fits" "Clause.fits" DV f fd)(T:Top K mg a)(bX:Cal P w K mg base CX0 1 "takes" Mm Md)(M_Am:BN P w K mg base CX0 1 a.c_Amounts "holds" Ek (Ld a))(M_Pl:BN P w K mg base CX0 2 a.c_Places "holds" EQ (Lb a)) :
  AK P w K mg base CX0 3 f fd FJ (RJ a):=by
 refine F.ok MS (λvs H Q E h=>?_) (λcdv A outer s H vs Q E hr h=>?_)
 ·obtain⟨p,l,c,cell,ar,rfl,_⟩:=h;rfl
 ·obtain⟨p,l,c,cell,ar,rfl,hC,hn,hn2,hl,k⟩:=h;obtain⟨dx,t,cs,hp,ht,hcs⟩:=hC.ex;refine⟨_,(Ag (Aw (Ii (Au bX (rm hr) rfl An (Aa (Ax (pv 0) rfl) (Aa (pv 1) Ac))) (Jh (AS (Ru rfl) rfl T.b_all PyProof.Rows.boot_all (Aa (Co rfl (BD.of (So:=Ah DV) (No:=IT) (N:=["condition","around"]) (k:=1) (cs:=[2]) rfl rfl A1) (RO (Ax (pv 0) rfl)) (λ_ _ _=>(Bk (i:=0) A1 rfl rfl)) (λ_ _ _=>BL) (λ_ _ _=>(PE.or (AB (pv 0) M_Am (rm hr) An (Aa (pv 1) Ac)) (AB (pv 0) M_Pl (rm hr) An (Aa (pv 1) Ac))))) Ac)))))),?_⟩
  try dsimp only[cxK]
  refine xwf rfl rfl hp T.cl_Clause T.na_Clause_cell (fl3_1 A1 A1) (xq1 rfl ⟨c.cell,cell,rfl,Dj c.cell cell,rfl,?_⟩);cases et:Dj c.cell cell with
  |false =>
   refine Bw ?_;have:=k H (AA.refl H);unfold Be.fits at this;rw[et]at this;exact this
  |true =>
   refine CK ?_;have ln:cs.length=c.conds.length:=W9 hcs;refine xwf rfl rfl hp T.cl_Clause T.na_Clause_conditions (fl3_2 A1) ⟨t,rfl,⟨_,SqT.of ht⟩,?_⟩;refine PY (xs:=cs.map V.ref) (λi acc H2=>AA H H2/\acc=((c.conds.take i).map λd=>V.bl (Bn.holds ar d))) ⟨AA.refl H,rfl⟩ (λi acc H2 _ z=>SqT.of (z.1 _ _ ht)) ?_ ?_
   ·rintro i x acc H2 hx ⟨sm,rfl⟩;rw[B7]at hx;obtain⟨q,eq,rfl⟩:=C9.mp hx;obtain⟨d,ed,hd⟩:=Paired.get hcs eq;have hd2:=hd.same sm;refine⟨⟨[some (.ref q)],rfl,rfl⟩,?_,?_⟩
    ·have:((c.conds.take i).map λd=>V.bl (Bn.holds ar d)).length<=c.conds.length:=by
      rw[B5,F9];omega
     exact J3 (C2 this hn) A3
    ·refine GT ?_;have nx:∀H4,AA H2 H4->AA H H4/\((c.conds.take i).map λd=>V.bl (Bn.holds ar d))++[V.bl (Bn.holds ar d)]=((c.conds.take (i+1)).map λd=>V.bl (Bn.holds ar d)):=λH4 s4=>⟨sm.trans s4,by
      rw[F7,ed,C7];rfl⟩
     have md:d∈c.conds:=D2 ed;cases hd2 with
     |@am t2 dx2 s ns h1 h2=>exact .inl ⟨_,rfl,q,dx2,_,rfl,h1,fl2_no A1 A1,_,rfl,q,l,t2,dx2,s,ns,ar,rfl,h1,h2,sm _ _ hl,nx H2 (AA.refl H2)⟩
     |@pl t2 dx2 ws h1 h2=>exact .inr ⟨_,rfl,q,dx2,_,rfl,h1,PQ A1,_,rfl,q,l,t2,dx2,ws,ar,rfl,h1,h2,sm _ _ hl,hn2 _ md ws rfl,λH4 s4=>nx H4 s4⟩
   ·rintro acc H2 ⟨sm,rfl⟩ q nq;rw[B5,ln,J0];refine⟨q,c.conds.map (Bn.holds ar),rfl,SqL.of (by rw[Af,Q0];rfl),?_⟩;have e:(c.conds.map (Bn.holds ar)).all id=c.fits cell ar:=by
     unfold Be.fits;rw[et,List.all_map];rfl
    rw[e];exact k _ (sm.trans (Az nq))
def ROk(r:AC):Prop:=r.length<=5000/\∀c∈r,c.conds.length<=100/\∀d∈c.conds,∀ws,d=Bn.pl ws->ws.length<=100
def decV(o:Option Nat):V:=match o with
 |none=>.non
 |some n=>.int n
inductive SpDec(a:Ad)(vs:List V)(H:Hp)(Q:VK):Prop
 |mk (p l:Addr) (z:Str) (r:AC) (cell:Int) (ar:List Int) (_:vs=[.ref p,.int cell,.ref l]) (_:Cf a H p z r) (_:ROk r) (_:H l=some (.lst (ar.map V.int))) (_:∀H',AA H H'->Q (decV (Ma r cell ar)) H'):SpDec a vs H Q
def Vz(a:Ad):Sp:=λvs H Q _=>SpDec a vs H Q
theorem ok_dec{f:Addr}{fd:FuncData}(F:Fun K "deciding" "deciding" Je f fd)(T:Top K mg a)(bL:BN P w K mg base CX0 3 a.c_Clause "fits" FJ (RJ a)):AK P w K mg base CX0 4 f fd Jj (Vz a):=by
 refine F.ok Ia (λvs H Q E h=>?_) (λcdv A outer s H vs Q E hr h=>?_)
 ·obtain⟨p,l,z,r,cell,ar,rfl,_⟩:=h;rfl
 ·obtain⟨p,l,z,r,cell,ar,rfl,hR,hn,hl,k⟩:=h;obtain⟨dx,t,cs,hp,ht,hcs⟩:=hR.ex;have ln:cs.length=r.length:=W9 hcs;refine⟨_,(Ab (EH Y4 rfl (Mj true rfl T.b_enumerate (Aa (Ax (pv 0) rfl) Ac)) (Lp rfl (Cg (BO (i:=3) Ia.nd rfl (Or.inl rfl)) (Cg (BO (i:=4) Ia.nd rfl (Or.inl rfl)) IB))) (Ag (AQ (DG (AB (pv 4) bL (rm hr) An (Aa (pv 1) (Aa (pv 2) Ac)))) (Ag (Aw (pv 3))) AE))) (Ag (Aw DI))),?_⟩
  try dsimp only[cxK]
  refine xwf rfl rfl hp T.cl_Rule T.na_Rule_clauses WN ⟨t,rfl,⟨_,SqT.of ht⟩,?_⟩;refine JT (b:=true) (xs:=cs.map V.ref) (λi σ H2=>AA H H2/\(∃u v,σ=[some (.ref p),some (.int cell),some (.ref l),u,v])/\∀c∈r.take i,c.fits cell ar=false) ⟨AA.refl H,⟨none,none,rfl⟩,λc hc=>by simp at hc⟩ (λi σ H2 _ q=>SqT.of (q.1 _ _ ht)) ?_ ?_
  ·rintro i x σ H2 T' hx ⟨sm,⟨u,v,rfl⟩,no⟩ nT;rw[B7]at hx;obtain⟨q,eq,rfl⟩:=C9.mp hx;obtain⟨c,ec,hc⟩:=Paired.get hcs eq;have s3:=sm.trans (Az (o:=.tup [.int i,.ref q]) nT);have hc3:=hc.same s3;obtain⟨dx2,t2,cs2,h1,_⟩:=hc3.ex;refine Rf Af ?_;have mc:=D2 ec;refine xwn rfl rfl h1 (fl3_no A1 A1 A1) rfl (xq1 rfl ⟨q,l,c,cell,ar,rfl,hc3,(hn.2 c mc).1,(hn.2 c mc).2,s3 _ _ hl,λH4 s4=>(xq1 rfl ?_)⟩);cases ef:c.fits cell ar with
   |true =>
    refine CK ?_;refine xq1 rfl ?_;have e:Ma r cell ar=some i:=by
     unfold Ma;rw[V2];have hi:i<r.length:=(B4.mp ec).1;refine⟨hi,?_,λj hj=>?_⟩
     ·rw[(B4.mp ec).2];exact ef
     ·have:=no r[j] (List.mem_take_iff_getElem.mpr ⟨j,by omega,rfl⟩);rw[this];exact C5
    have:=k H4 (s3.trans s4);rw[e]at this;exact this
   |false =>
    refine Bw ⟨s3.trans s4,⟨_,_,rfl⟩,λd hd=>?_⟩;rw[F7,ec]at hd;rcases D4.mp hd with z|z
    ·exact no d z
    ·have:d=c:=by simpa using z
     rw[this];exact ef
  ·rintro σ H2 ⟨sm,⟨u,v,rfl⟩,no⟩;rw[B5,ln,J0]at no;have e:Ma r cell ar=none:=by
    unfold Ma;rw[List.findIdx?_eq_none_iff];exact no
   have:=k H2 sm;rw[e]at this;exact this
inductive SpBec(a:Ad)(vs:List V)(H:Hp)(Q:VK):Prop
 |mk (p l:Addr) (z:Str) (r:AC) (cell:Int) (ar:List Int) (_:vs=[.ref p,.int cell,.ref l]) (_:Cf a H p z r) (_:ROk r) (_:H l=some (.lst (ar.map V.int))) (_:∀H',AA H H'->Q (.int (CQ r cell ar)) H'):SpBec a vs H Q
def SZ(a:Ad):Sp:=λvs H Q _=>SpBec a vs H Q
theorem NI{r:AC}{cell:Int}{ar:List Int}(h:Ma r cell ar=none):CQ r cell ar=cell:=by
 unfold Ma at h;rw[List.findIdx?_eq_none_iff]at h;unfold CQ;rw[List.find?_eq_none.mpr λc hc=>by rw[h c hc];exact C5]
theorem NH{r:AC}{cell:Int}{ar:List Int}{i:Nat}(h:Ma r cell ar=some i):∃c,r[i]?=some c/\CQ r cell ar=c.makes:=by
 unfold Ma at h;rw[V2]at h;obtain⟨hi,h1,h2⟩:=h;refine⟨r[i],D3 hi,?_⟩;unfold CQ;have:r.find? (Be.fits cell ar)=some r[i]:=by
  rw[List.find?_eq_some_iff_getElem];exact⟨h1,i,hi,rfl,λj hj=>by simpa using h2 j hj⟩
 rw[this]
theorem ok_bec{f:Addr}{fd:FuncData}(F:Fun K "becomes" "becomes" Lj f fd)(T:Top K mg a)(bZ:Cal P w K mg base CX0 4 "deciding" Jj (Vz a)):AK P w K mg base CX0 5 f fd IF (SZ a):=by
 refine F.ok MN (λvs H Q E h=>?_) (λcdv A outer s H vs Q E hr h=>?_)
 ·obtain⟨p,l,z,r,cell,ar,rfl,_⟩:=h;rfl
 ·obtain⟨p,l,z,r,cell,ar,rfl,hR,hn,hl,k⟩:=h;refine⟨_,(Ab (Aq (i:=3) MN.nd rfl (Or.inl rfl) (Au bZ (rm hr) rfl An (Aa (pv 0) (Aa (pv 1) (Aa (pv 2) Ac))))) (Ab (AQ (AD Jk (pv 3) DI (AI _)) (Ag (Aw (pv 1))) AE) (Ag (Aw (Ax (Aj Am (Ax (pv 0) rfl) (pv 3) (λ_ _=>rfl)) rfl))))),?_⟩
  try dsimp only[cxK]
  refine xw3 rfl rfl rfl ⟨p,l,z,r,cell,ar,rfl,hR,hn,hl,λH2 s2=>?_⟩;refine xq1 rfl ⟨rfl,(xq1 rfl ?_)⟩;cases e:Ma r cell ar with
  |none =>
   refine CK (xq1 rfl ?_);have:=k H2 s2;rw[NI e]at this;exact this
  |some i =>
   obtain⟨c,ec,em⟩:=NH e;obtain⟨dx,t,cs,hp,ht,hcs⟩:=hR.ex;obtain⟨q,eq⟩:∃q,cs[i]?=some q:=by
    have ln:cs.length=r.length:=W9 hcs;have:i<cs.length:=by rw[ln];exact(B4.mp ec).1
    exact⟨_,D3 this⟩
   obtain⟨c',ec',hc⟩:=Paired.get hcs eq;rw[ec]at ec';cases ec';obtain⟨dx2,t2,cs2,h1,_⟩:=(hc.same s2).ex;refine Bw (xwf rfl rfl (s2 _ _ hp) T.cl_Rule T.na_Rule_clauses WN (xwi rfl rfl rfl (SqT.of (s2 _ _ ht)) (Al (by rw[B7,eq];rfl)) (xq5 h1 T.cl_Clause T.na_Clause_makes fl3_3 ?_)));have:=k H2 s2;rw[em]at this;exact this
end
def sgD(d:Int):Str:=⟨#[48+d.toNat]⟩
def wC:Option Int->Nat
 |none=>42
 |some d=>48+d.toNat
def wS(x:Option Int):Str:=⟨#[wC x]⟩
def Dz(ns:List Int):Str:=⟨(ns.map λn=>48+n.toNat).toArray⟩
def BM:Bn->Str
 |.am s ns=>sgD s++⟨#[61]⟩++Dz ns
 |.pl ws=>⟨(ws.map wC).toArray⟩
def BY(c:Be):Str:=Str.join ⟨#[32]⟩ (wS c.cell::(c.conds.map BM++[sgD c.makes]))
def Tq:Str:=⟨#[59,32]⟩
def CM(r:AC):Str:=Str.join Tq (r.map BY)
def GY(d:Int):Prop:=0<=d/\d<8
def wOk:Option Int->Prop
 |none=>True
 |some d=>GY d
def Bn.ok:Bn->Prop
 |.am s ns=>GY s/\ns≠[]/\(∀n∈ns,0<=n/\n<=8)/\ns.Pairwise (· < ·)
 |.pl ws=>ws.length=8/\∀w∈ws,wOk w
structure Be.ok(c:Be):Prop where
 cell:wOk c.cell
 makes:GY c.makes
 few:c.conds.length<=50
 conds:∀d∈c.conds,d.ok
theorem eight{d:Int}(h:GY d):d=0\/d=1\/d=2\/d=3\/d=4\/d=5\/d=6\/d=7:=by
 obtain⟨m,rfl⟩:=F6 h.1;have h1:=h.2;exact(show ∀m:Nat,m<8->((m:Int)=0\/(m:Int)=1\/(m:Int)=2\/(m:Int)=3\/(m:Int)=4\/(m:Int)=5\/(m:Int)=6\/(m:Int)=7) by decide) m B3
abbrev figs8:Str:=Str.ofString "01234567"
abbrev figs9:Str:=Str.ofString "012345678"
theorem Vn{d:Int}(h:GY d):PySem.intText? (sgD d)=some d/\(!(Builtin.Str.occurrences figs8 (sgD d) 0 figs8.length 1).isEmpty)=true:=by
 rcases eight h with rfl|rfl|rfl|rfl|rfl|rfl|rfl|rfl<;>exact⟨by decide +kernel,by decide +kernel⟩
theorem nine{d:Int}(h0:0<=d)(h1:d<=8):d=0\/d=1\/d=2\/d=3\/d=4\/d=5\/d=6\/d=7\/d=8:=by
 obtain⟨m,rfl⟩:=F6 h0;exact(show ∀m:Nat,m<9->((m:Int)=0\/(m:Int)=1\/(m:Int)=2\/(m:Int)=3\/(m:Int)=4\/(m:Int)=5\/(m:Int)=6\/(m:Int)=7\/(m:Int)=8) by decide) m B3
theorem Yf{d:Int}(h0:0<=d)(h1:d<=8):PySem.intText? (⟨#[48+d.toNat]⟩:Str)=some d/\(!(Builtin.Str.occurrences figs9 (⟨#[48+d.toNat]⟩:Str) 0 figs9.length 1).isEmpty)=true:=by
 rcases nine h0 h1 with rfl|rfl|rfl|rfl|rfl|rfl|rfl|rfl|rfl<;>exact⟨by decide +kernel,by decide +kernel⟩
theorem star_no{d:Int}(h:GY d):decide (V.str (wS (some d))=V.str (Str.ofString "*"))=false:=by
 rcases eight h with rfl|rfl|rfl|rfl|rfl|rfl|rfl|rfl<;>decide +kernel
theorem Om{x:Option Int}(h:wOk x):wC x≠61/\wC x≠32/\wC x≠59:=by
 cases x with
 |none=>exact⟨by decide,by decide,by decide⟩
 |some d =>
  have:=h.1;have:=h.2;show 48+d.toNat≠61/\48+d.toNat≠32/\48+d.toNat≠59;refine⟨?_,?_,?_⟩<;>omega
theorem OF{d:Bn}(h:d.ok):32∉(BM d).cps.toList/\59∉(BM d).cps.toList:=by
 cases d with
 |am s ns =>
  obtain⟨⟨s0,s1⟩,_,hn,_⟩:=h;have e:(BM (.am s ns)).cps.toList=(48+s.toNat)::61::ns.map λn=>48+n.toNat:=by
   show(sgD s++⟨#[61]⟩++Dz ns).cps.toList=_;rw[Tx.Cp,Tx.Cp];rfl
  rw[e];constructor
  ·intro z;rcases B8.mp z with z|z
   ·omega
   ·rcases B8.mp z with z|z
    ·omega
    ·obtain⟨n,hn',e⟩:=D1.mp z;have:=hn n hn';omega
  ·intro z;rcases B8.mp z with z|z
   ·omega
   ·rcases B8.mp z with z|z
    ·omega
    ·obtain⟨n,hn',e⟩:=D1.mp z;have:=hn n hn';omega
 |pl ws =>
  have e:(BM (.pl ws)).cps.toList=ws.map wC:=rfl;rw[e];constructor
  ·intro z;obtain⟨x,hx,e⟩:=D1.mp z;exact(Om (h.2 x hx)).2.1 e
  ·intro z;obtain⟨x,hx,e⟩:=D1.mp z;exact(Om (h.2 x hx)).2.2 e
theorem PZ:∀(ns:List Int)(lo:Int),lo<=9->(∀n∈ns,lo<=n/\n<=8)->ns.Pairwise (· < ·)->(ns.length:Int)<=9-lo
 |[],lo,h,_,_=>by show(0:Int)<=9-lo;omega
 |n::r,lo,_,hn,hp=>by
  have h1:=hn n C0;have h2:=PZ r (n+1) B3 (λm hm=>⟨by have:=(List.pairwise_cons.mp hp).1 m hm;omega,(hn m (C1 _ hm)).2⟩) (List.pairwise_cons.mp hp).2;rw[D8];omega
theorem NC{d:Bn}(h:d.ok):(BM d).length<=11:=by
 cases d with
 |am s ns =>
  obtain⟨_,_,hn,hp⟩:=h;have hl:=PZ ns 0 A3 hn hp;rw[Nu.len];show(sgD s++⟨#[61]⟩++Dz ns).cps.toList.length<=11;rw[Tx.Cp,Tx.Cp,C4,C4];show 1+1+(ns.map λn=>48+n.toNat).length<=11;rw[B5];omega
 |pl ws =>
  rw[Nu.len];show(ws.map wC).length<=11;rw[B5,h.1];decide
section
variable{P:Program}{w:World}{K:PySem.W.Frag}{mg:Str->Option Value}{base:Heap}{a:Ad}
theorem SR(K:PySem.W.Frag):kitOne K (.type "str") (.type "str")=some true:=by kernel_rfl
inductive SpRS(vs:List V)(H:Hp)(Q:VK):Prop
 |mk (d:Int) (_:vs=[.str (sgD d)]) (_:GY d) (_:Q (.int d) H):SpRS vs H Q
def Vr:Sp:=λvs H Q _=>SpRS vs H Q
theorem ok_rs{f:Addr}{fd:FuncData}(F:Fun K "read_state" "read_state" Gh f fd)(T:Top K mg a):AK P w K mg base CX0 1 f fd Dt Vr:=by
 refine F.ok NQ (λvs H Q E h=>?_) (λcdv A outer s H vs Q E hr h=>?_)
 ·obtain⟨d,rfl,_⟩:=h;rfl
 ·obtain⟨d,rfl,hd,k⟩:=h;obtain⟨e1,e2⟩:=Vn hd;refine⟨_,(Ab (AQ (PW.pt (MW (AD JI (AS GM rfl T.b_len Z6 (Aa (pv 0) Ac)) Ae (AI _)) (Ll (AD JH (pv 0) (Ml rfl T.k_STATE_FIGURES) rfl)))) (Ag AZ) AE) (Ag (Aw (BB FM rfl T.b_int Z7 (Aa (pv 0) Ac))))),?_⟩
  try dsimp only[cxK]
  refine xw2 rfl rfl ⟨(by show 1<=sizeLine;decide),rfl,(xq1 rfl ?_)⟩;refine Tu rfl (xwb rfl rfl rfl (xq1 rfl ?_));rw[e2];exact Bw (xq1 rfl ⟨_,d,rfl,e1,(by show 1<=640;decide),k⟩)
inductive SpRW(vs:List V)(H:Hp)(Q:VK):Prop
 |mk (x:Option Int) (_:vs=[.str (wS x)]) (_:wOk x) (_:Q (FK x) H):SpRW vs H Q
def spRW:Sp:=λvs H Q _=>SpRW vs H Q
theorem ok_rw{f:Addr}{fd:FuncData}(F:Fun K "read_wanted" "read_wanted" Fu f fd)(T:Top K mg a)(aK:Cal P w K mg base CX0 1 "read_state" Dt Vr):AK P w K mg base CX0 2 f fd DX spRW:=by
 refine F.ok MJ (λvs H Q E h=>?_) (λcdv A outer s H vs Q E hr h=>?_)
 ·obtain⟨x,rfl,_⟩:=h;rfl
 ·obtain⟨x,rfl,hx,k⟩:=h;refine⟨_,(Ab (AQ (AD Ea (pv 0) (Ml rfl T.k_ANY_SIGN) (AI _)) (Ag (Aw DI)) AE) (Ag (Aw (Au aK (rm hr) rfl An (Aa (pv 0) Ac))))),?_⟩
  try dsimp only[cxK]
  refine xq1 rfl ⟨rfl,(xq1 rfl ?_)⟩;cases x with
  |none=>exact CK k
  |some d =>
   rw[star_no hx];exact Bw (xq1 rfl ⟨d,rfl,hx,k⟩)
inductive SpRN(vs:List V)(H:Hp)(Q:VK):Prop
 |mk (ns:List Int) (_:vs=[.str (Dz ns)]) (_:ns≠[]) (_:ns.length<=100) (_:(∀n∈ns,0<=n/\n<=8)) (_:ns.Pairwise (· < ·)) (_:∀(t:Addr)(H':Hp),AA H H'->H' t=some (.tup (ns.map V.int))->Q (.ref t) H'):SpRN vs H Q
def spRN:Sp:=λvs H Q _=>SpRN vs H Q
theorem ok_rn{f:Addr}{fd:FuncData}(F:Fun K "read_numbers" "read_numbers" EA f fd)(T:Top K mg a):AK P w K mg base CX0 1 f fd EK spRN:=by
 refine F.ok Eg (λvs H Q E h=>?_) (λcdv A outer s H vs Q E hr h=>?_)
 ·obtain⟨ns,rfl,_⟩:=h;rfl
 ·obtain⟨ns,rfl,hne,hl,hn,hp,k⟩:=h;have el:(Dz ns).length=ns.length:=by rw[Nu.len];show(ns.map _).length=_;rw[B5]
  have ec:(Dz ns).cps.toList=ns.map λn=>48+n.toNat:=rfl;have pos:0<ns.length:=Q7.mpr hne;refine⟨_,(Ab (AQ (AD Ea (AS GM rfl T.b_len Z6 (Aa (pv 0) Ac)) Ae (AI _)) (Ag AZ) AE) (Ab (Aq (i:=1) Eg.nd rfl (Or.inl rfl) (CY Ac)) (Ab (EH Y4 rfl (VO (pv 0)) (BO (i:=2) Eg.nd rfl (Or.inl rfl)) (Ab (AQ (AD JH (pv 2) (Ml rfl T.k_AMOUNT_FIGURES) rfl) (Ag AZ) AE) (Ab (AQ (PW.pt (MX (AD VU (AS CF rfl T.b_len Z6 (Aa (pv 1) Ac)) Ae (AI _)) (JB (AD JJ (BB FM rfl T.b_int Z7 (Aa (pv 2) Ac)) (Aj Av (pv 1) (Fj Di Ae) (λ_ _=>rfl)) (AI _))))) (Ag AZ) AE) (Ag (CB (GS Z0 Z2 Z3 Et (pv 1) (Aa (BB FM rfl T.b_int Z7 (Aa (pv 2) Ac)) Ac))))))) (Ag (Aw (BB BV rfl T.b_tuple Z1 (Aa (pv 1) Ac))))))),?_⟩
  try dsimp only[cxK]
  refine xw2 rfl rfl ⟨(by rw[el];exact C2 hl A3),rfl,(xq1 rfl ?_)⟩;have nz:decide (V.int ((Dz ns).length:Int)=V.int 0)=false:=W0 λz=>by
   injection z with z
   omega
  rw[nz];refine Bw ⟨(by show 0<=sizeLine;decide),λl hl0=>?_⟩;refine xw2 rfl rfl ?_;refine for_str (λi σ H2=>∃v,σ=[some (.str (Dz ns)),some (.ref l),v]/\H2=upd H l (.lst ((ns.take i).map V.int))) ⟨none,rfl,rfl⟩ ?_ ?_
  ·rintro i ch σ H2 hch ⟨v,rfl,rfl⟩;have hch':(ns.map λn=>48+n.toNat)[i]?=some ch:=by rw[<-ec];simpa using hch
   rw[B7]at hch';obtain⟨n,en,rfl⟩:=C9.mp hch';have mn:=D2 en;obtain⟨f1,f2⟩:=Yf (hn n mn).1 (hn n mn).2;have hi:i<ns.length:=(B4.mp en).1;have tl:(ns.take i).length=i:=by rw[F9];omega
   refine xwb rfl rfl rfl (xq1 rfl ?_);rw[f2];refine Bw (xq1 rfl ⟨l,(xq1 rfl ⟨.inl (SqL.of Af),(xq2 rfl rfl (xq1 rfl ?_))⟩)⟩);have nx:∃v,([some (V.str (Dz ns)),some (.ref l),some (.str ⟨#[48+n.toNat]⟩)]:St)=[some (.str (Dz ns)),some (.ref l),v]/\upd (upd H l (.lst ((ns.take i).map V.int))) l (.lst ((ns.take i).map V.int++[V.int n]))=upd H l (.lst ((ns.take (i+1)).map V.int)):=by
    refine xq1 rfl ?_;rw[Gb,F7,en,C7];rfl
   have app:tDrop (tBM K "list" Te (FO 1) (Cr (tCB (λxs H Q=>∃x n,xs=[.str x]/\PySem.intText? x=some n/\x.length<=640/\Q (.int n) H) (Cr (FO 2) OS)) OS))
     {nx:=fun σ H2=>∃v,σ=[some (.str (Dz ns)),some (.ref l),v]/\H2=upd H l (.lst ((ns.take (i+1)).map V.int)),rt:=Q,bk:=λ_ _=>False,ct:=fun σ H2=>∃v,σ=[some (.str (Dz ns)),some (.ref l),v]/\H2=upd H l (.lst ((ns.take (i+1)).map V.int))}
     [some (.str (Dz ns)),some (.ref l),some (.str ⟨#[48+n.toNat]⟩)] (upd H l (.lst ((ns.take i).map V.int))) :=
    ⟨_,rfl,.inl ⟨rfl,_,SqL.of Af⟩,_,rfl,_,n,rfl,f1,(by show 1<=640;decide),l,_,_,rfl,rfl,Af,(by rw[B5,tl];exact D5 hi (C2 hl A3)),nx⟩
   by_cases i0:i=0
   ·subst i0;exact Bw app
   ·have ip:0<i:=by omega
    have lt0:decide ((0:Int)<(((ns.take i).map V.int).length:Int))=true:=V9 (by rw[B5,tl];omega);rw[lt0];have hm:i-1<ns.length:=by omega
    have hlt:ns[i-1]<n:=by
     have:=List.pairwise_iff_getElem.mp hp (i-1) i hm hi B3;rw[(B4.mp en).2]at this;exact this
    have at1:atI ((ns.take i).map V.int) (-1)=some (V.int ns[i-1]):=by
     have:((ns.take i).map V.int)[i-1]?=some (V.int ns[i-1]):=by
      rw[B7,S0 B3,D3 hm];rfl
     have e1:((ns.take i).map V.int).length=i:=by rw[B5,tl]
     unfold atI ixN;rw[e1,V8 A3,W2 B3];show((ns.take i).map V.int)[((-1:Int)+(i:Nat)).toNat]?=_;rw[show((-1:Int)+(i:Nat)).toNat=i-1 by omega];exact this
    refine CK (xq1 rfl ⟨_,n,rfl,f1,(by show 1<=640;decide),(xw2 rfl rfl ⟨l,_,(xq2 rfl rfl ⟨SqL.of Af,at1,(xq2 rfl rfl (xq1 rfl ?_))⟩)⟩)⟩);rw[W0 (by omega:¬n<=ns[i-1])];exact Bw app
  ·rintro σ H2 ⟨v,rfl,rfl⟩;have e:(Dz ns).cps.size=ns.length:=by
    have:(Dz ns).cps.toList.length=ns.length:=by rw[ec,B5]
    simpa using this
   rw[e,J0];refine xq1 rfl ⟨l,(xq1 rfl (.inl ⟨SqL.of Af,λt ht=>?_⟩))⟩;exact k t _ ((Az hl0).trans (Az ht)) Af
end
section
variable{P:Program}{w:World}{K:PySem.W.Frag}{mg:Str->Option Value}{base:Heap}{a:Ad}
theorem eq_in(x:Str):(!(Builtin.Str.occurrences x (Str.ofString "=") 0 x.length 1).isEmpty)=decide (61∈x.cps.toList):=by
 have:Str.ofString "=" = (⟨#[61]⟩:Str):=by decide +kernel
 rw[this];exact StrLaws.found_one x 61
inductive TM(a:Ad)(vs:List V)(H:Hp)(Q:VK):Prop
 |mk (d:Bn) (_:vs=[.str (BM d)]) (_:d.ok) (_:∀(p:Addr)(H':Hp),AA H H'->CL a H' p d->Q (.ref p) H'):TM a vs H Q
def OU(a:Ad):Sp:=λvs H Q _=>TM a vs H Q
inductive SpRAm(a:Ad)(vs:List V)(H:Hp)(Q:VK):Prop
 |mk (s:Int) (ns:List Int) (_:vs=[.str (BM (.am s ns))]) (_:(Bn.am s ns).ok) (_:∀(p:Addr)(H':Hp),AA H H'->CL a H' p (.am s ns)->Q (.ref p) H'):SpRAm a vs H Q
def Vt(a:Ad):Sp:=λvs H Q _=>SpRAm a vs H Q
theorem ok_ram{f:Addr}{fd:FuncData}(F:Fun K "read_amounts" "read_amounts" EB f fd)(T:Top K mg a)(aK:Cal P w K mg base CX0 1 "read_state" Dt Vr)(bG:Cal P w K mg base CX0 1 "read_numbers" EK spRN)
  (cD:Qg P w K mg base CX0 1 "Amounts" a.c_Amounts ES (MH a)):AK P w K mg base CX0 3 f fd EL (Vt a):=by
 refine F.ok GP (λvs H Q E h=>?_) (λcdv A outer s H vs Q E hr h=>?_)
 ·obtain⟨s,ns,rfl,_⟩:=h;rfl
 ·obtain⟨d,ns,rfl,ho,k⟩:=h;have hlen:=NC ho;obtain⟨hd,hne,hn,hp⟩:=ho;have hl:=PZ ns 0 A3 hn hp;have e61:Str.ofString "=" = (⟨#[61]⟩:Str):=by decide +kernel
  have ep:Txt.partition (BM (.am d ns)) (Str.ofString "=")=(sgD d,⟨#[61]⟩,Dz ns):=by
   rw[e61];refine Tx.Gw 61 (sgD d) (Dz ns) ?_;intro z;have:61=48+d.toNat:=by simpa[sgD] using z
   have:=hd.2;omega
  refine⟨_,(Ab (Aq (i:=1) GP.nd rfl (Or.inl rfl) (GS X4 PySem.F.slot_str_partition PySem.F.type_str_partition PB (pv 0) (Cm Ac))) (Ag (Aw (JG cD (rm hr) rfl An (Aa (Au aK (rm hr) rfl An (Aa (Aj Am (pv 1) Ae (λ_ _=>rfl)) Ac)) (Aa (Au bG (rm hr) rfl An (Aa (Aj Am (pv 1) Ae (λ_ _=>rfl)) Ac)) Ac)))))),?_⟩
  try dsimp only[cxK]
  refine xq1 rfl ⟨rfl,(xq2 rfl rfl ⟨A1,B3,λt ht=>?_⟩)⟩;rw[ep];refine xq1 rfl ⟨t,_,0,(xq1 rfl ⟨rfl,SqT.of Af,rfl,d,rfl,hd,(xq1 rfl ⟨t,_,2,(xq1 rfl ⟨rfl,SqT.of Af,rfl,ns,rfl,hne,by omega,hn,hp,λt2 H2 s2 ht2=>?_⟩)⟩)⟩)⟩;intro x dx nx ndx nex;have sx:AA H2 (upd (upd H2 dx (.own x)) x (.ins a.c_Amounts dx [])):=(Az ndx).trans (Az (by rw[Ao (W4 nex)];exact nx));refine⟨x,t2,dx,d,rfl,Af,rfl,?_⟩;have nx2:(upd H2 dx (.own x)) x=none:=by rw[Ao (W4 nex)];exact nx
  rw[Gb];have sy:AA H2 (upd (upd H2 dx (.own x)) x (.ins a.c_Amounts dx (fl2 "state" "numbers" (.int d) (.ref t2)))):=(Az ndx).trans (Az nx2);exact k x _ (((Az ht).trans s2).trans sy) (.am Af (sy _ _ ht2))
inductive SpRPl(a:Ad)(vs:List V)(H:Hp)(Q:VK):Prop
 |mk (ws:List (Option Int)) (_:vs=[.str (BM (.pl ws))]) (_:(Bn.pl ws).ok) (_:∀(p:Addr)(H':Hp),AA H H'->CL a H' p (.pl ws)->Q (.ref p) H'):SpRPl a vs H Q
def Vs(a:Ad):Sp:=λvs H Q _=>SpRPl a vs H Q
theorem ok_rpl{f:Addr}{fd:FuncData}(F:Fun K "read_places" "read_places" DR f fd)(T:Top K mg a)(aQ:Cal P w K mg base CX0 2 "read_wanted" DX spRW)
  (cH:Qg P w K mg base CX0 1 "Places" a.c_Places FG (ME a)):AK P w K mg base CX0 3 f fd FC (Vs a):=by
 refine F.ok MK (λvs H Q E h=>?_) (λcdv A outer s H vs Q E hr h=>?_)
 ·obtain⟨ws,rfl,_⟩:=h;rfl
 ·obtain⟨ws,rfl,ho,k⟩:=h;have hlen:=NC ho;obtain⟨h8,hw⟩:=ho;have el:(BM (.pl ws)).length=8:=by rw[Nu.len];show(ws.map wC).length=8;rw[B5,h8]
  have ec:(BM (.pl ws)).cps.toList=ws.map wC:=rfl;refine⟨_,(Ab (AQ (AD JI (AS GM rfl T.b_len Z6 (Aa (pv 0) Ac)) (BP rfl T.k_NEIGHBOURS) (AI _)) (Ag AZ) AE) (Ag (Aw (JG cH (rm hr) rfl An (Aa (BB BV rfl T.b_tuple Z1 (Aa (Co rfl (BD.of (So:=Ah DR) (No:=IQ) (N:=["sign"]) (k:=1) (cs:=[]) rfl rfl A1) (VO (pv 0)) (λ_ _ _=>(Bk (i:=0) A1 rfl rfl)) (λ_ _ _=>BL) (λ_ _ _=>(Au aQ (rm hr) rfl An (Aa (pv 0) Ac)))) Ac)) Ac))))),?_⟩
  try dsimp only[cxK]
  refine xw2 rfl rfl ⟨C2 hlen A3,rfl,(xq1 rfl ?_)⟩;rw[el];refine Tu rfl (xw2 rfl rfl ?_);refine blk_str (λi acc H2=>H2=H/\acc=(ws.take i).map FK) ⟨rfl,rfl⟩ ?_ ?_
  ·rintro i ch acc H2 hch ⟨rfl,rfl⟩;rw[ec,B7]at hch;obtain⟨x,ex,rfl⟩:=C9.mp hch;refine⟨⟨[some (.str ⟨#[wC x]⟩)],rfl,rfl⟩,?_,?_⟩
   ·rw[B5,F9];exact J3 (S4 _ _) (by rw[h8];decide)
   ·refine GT (xq1 rfl ⟨x,rfl,hw x (D2 ex),rfl,?_⟩);rw[F7,ex,C7];rfl
  ·rintro acc H2 ⟨rfl,rfl⟩ q nq;rw[ec,B5,J0];refine⟨q,(xq1 rfl (.inl ⟨SqL.of Af,λt ht=>?_⟩))⟩;intro x dx nx ndx nex;have nx2:∀o,(upd (upd (upd H2 q (.lst (ws.map FK))) t (.tup (ws.map FK))) dx o) x=none:=λo=>by rw[Ao (W4 nex)];exact nx
   refine⟨x,t,dx,rfl,Af,rfl,?_⟩;rw[Gb];have s1:AA H2 (upd (upd H2 q (.lst (ws.map FK))) t (.tup (ws.map FK))):=(Az nq).trans (Az ht);have s2:AA (upd (upd H2 q (.lst (ws.map FK))) t (.tup (ws.map FK))) (upd (upd (upd (upd H2 q (.lst (ws.map FK))) t (.tup (ws.map FK))) dx (.own x)) x (.ins a.c_Places dx (fl1 "wanted" (.ref t)))):=(Az ndx).trans (Az (nx2 _));exact k x _ (s1.trans s2) (.pl Af (s2 _ _ Af))
theorem VZ{f:Addr}{fd:FuncData}(F:Fun K "read_condition" "read_condition" DA f fd)(T:Top K mg a)(bH:Cal P w K mg base CX0 3 "read_amounts" EL (Vt a))(bM:Cal P w K mg base CX0 3 "read_places" FC (Vs a)) :
  AK P w K mg base CX0 4 f fd DJ (OU a):=by
 refine F.ok Jv (λvs H Q E h=>?_) (λcdv A outer s H vs Q E hr h=>?_)
 ·obtain⟨d,rfl,_⟩:=h;rfl
 ·obtain⟨d,rfl,ho,k⟩:=h;refine⟨_,(Ab (AQ (AD Uq Ej (pv 0) rfl) (Ag (Aw (Au bH (rm hr) rfl An (Aa (pv 0) Ac)))) AE) (Ag (Aw (Au bM (rm hr) rfl An (Aa (pv 0) Ac))))),?_⟩
  try dsimp only[cxK]
  refine xwb rfl rfl rfl (xq1 rfl ?_);rw[eq_in];cases d with
  |am s ns =>
   have m:61∈(BM (.am s ns)).cps.toList:=by
    show 61∈(sgD s++⟨#[61]⟩++Dz ns).cps.toList;rw[Tx.Cp,Tx.Cp];simp
   rw[V9 m];exact CK (xq1 rfl ⟨s,ns,rfl,ho,k⟩)
  |pl ws =>
   have m:¬61∈(BM (.pl ws)).cps.toList:=λz=>by
    obtain⟨x,hx,e⟩:=D1.mp (show 61∈ws.map wC from z);exact(Om (ho.2 x hx)).1 e
   rw[W0 m];exact Bw (xq1 rfl ⟨ws,rfl,ho,k⟩)
inductive SpRC(a:Ad)(vs:List V)(H:Hp)(Q:VK):Prop
 |mk (c:Be) (_:vs=[.str (BY c)]) (_:c.ok) (_:∀(p:Addr)(H':Hp),AA H H'->BK a H' p c->Q (.ref p) H'):SpRC a vs H Q
def spRC(a:Ad):Sp:=λvs H Q _=>SpRC a vs H Q
theorem NF{c:Be}(h:c.ok):(BY c).length<=1000:=by
 have j:=StrLaws.join_length_le ⟨#[32]⟩ (wS c.cell::(c.conds.map BM++[sgD c.makes]));have b:∀l:List Bn,(∀d∈l,d.ok)->((l.map BM).map (·.length)).sum<=11*l.length:=by
  intro l;induction l with
  |nil=>intro _;exact F8 _
  |cons d r ih =>
   intro hd;have h1:=NC (hd d C0);have h2:=ih λe he=>hd e (C1 _ he);simp only[F1,N3,D8];omega
 have b1:=b c.conds h.conds;have h50:=h.few;simp only[F1,C7,List.map_nil,N3,List.sum_append,List.sum_nil,D8,C4,List.length_nil,B5]at j;have l1:(wS c.cell).length=1:=rfl;have l2:(sgD c.makes).length=1:=rfl;have l3:(⟨#[32]⟩:Str).length=1:=rfl;rw[l1,l2,l3]at j;unfold BY;omega
theorem IJ(x:Option Int)(h:wOk x):32∉(wS x).cps.toList/\59∉(wS x).cps.toList:=by
 have:=Om h;constructor
 ·intro z;have:32=wC x:=by simpa[wS] using z
  exact(Om h).2.1 this.symm
 ·intro z;have:59=wC x:=by simpa[wS] using z
  exact(Om h).2.2 this.symm
theorem PU{c:Be}(h:c.ok):Txt.split (BY c) (Str.ofString " ")=wS c.cell::(c.conds.map BM++[sgD c.makes]):=by
 have e:Str.ofString " " = (⟨#[32]⟩:Str):=by decide +kernel
 rw[e];refine Tx.Qt 32 _ A4 λt ht=>?_;rcases B8.mp ht with rfl|ht
 ·exact(IJ _ h.cell).1
 ·rcases D4.mp ht with ht|ht
  ·obtain⟨d,hd,rfl⟩:=D1.mp ht;exact(OF (h.conds d hd)).1
  ·rw[C3.mp ht];exact(IJ (some c.makes) h.makes).1
theorem cut_mid(x z:V)(ys:List V):Su (x::(ys++[z])) (some 1) (some (-1))=ys:=by
 have n:(x::(ys++[z])).length=ys.length+2:=by simp
 unfold Su;rw[n];have h1:HT.sIx (ys.length+2) 0 (some 1)=1:=by
  show(if(1:Int)<0 then((1:Int)+((ys.length+2:Nat):Int)).toNat else min (1:Int).toNat (ys.length+2))=1;rw[V8 A3];show min 1 (ys.length+2)=1;omega
 have h2:HT.sIx (ys.length+2) (ys.length+2) (some (-1))=ys.length+1:=by
  show(if(-1:Int)<0 then((-1:Int)+((ys.length+2:Nat):Int)).toNat else min (-1:Int).toNat (ys.length+2))=ys.length+1;rw[W2 A3];omega
 rw[h1,h2];show(ys++[z]).take (ys.length+1-1)=ys;rw[Nat.add_sub_cancel,List.take_left' rfl]
theorem at_last(x:V)(ys:List V)(z:V):atI (x::(ys++[z])) (-1)=some z:=by
 have n:(x::(ys++[z])).length=ys.length+2:=by simp
 unfold atI ixN;rw[n,V8 A3,W2 B3];show(x::(ys++[z]))[((-1:Int)+((ys.length+2:Nat):Int)).toNat]?=some z;rw[show((-1:Int)+((ys.length+2:Nat):Int)).toNat=ys.length+1 by omega,T0,F2 (B6 _),V4];rfl
theorem ok_rc{f:Addr}{fd:FuncData}(F:Fun K "read_clause" "read_clause" DS f fd)(T:Top K mg a)(aK:Cal P w K mg base CX0 1 "read_state" Dt Vr)(aQ:Cal P w K mg base CX0 2 "read_wanted" DX spRW)
  (aY:Cal P w K mg base CX0 4 "read_condition" DJ (OU a)) (cJ:Qg P w K mg base CX0 1 "Clause" a.c_Clause FI (MG a)):AK P w K mg base CX0 5 f fd FD (spRC a):=by
 refine F.ok Dl (λvs H Q E h=>?_) (λcdv A outer s H vs Q E hr h=>?_)
 ·obtain⟨c,rfl,_⟩:=h;rfl
 ·obtain⟨c,rfl,ho,k⟩:=h;have hlen:=NF ho;have f50:=ho.few;refine⟨_,(Ab (AQ (DH (DG (AS FW rfl T.b_isinstance Y8 (Aa (pv 0) (Aa (IC (v:=.ty "str") rfl T.b_str A0b rfl) Ac))))) (Ag AZ) AE) (Ab (Aq (i:=1) Dl.nd rfl (Or.inl rfl) (GS X4 PySem.F.slot_str_split PySem.F.type_str_split QW (pv 0) (Cm Ac))) (Ab (AQ (AD Io (AS CF rfl T.b_len Z6 (Aa (pv 1) Ac)) Ae (AI _)) (Ag AZ) AE) (Ab (Aq (i:=2) Dl.nd rfl (Or.inl rfl) (Au aQ (rm hr) rfl An (Aa (Aj Av (pv 1) Ae (λ_ _=>rfl)) Ac))) (Ab (Aq (i:=3) Dl.nd rfl (Or.inl rfl) (BB BV rfl T.b_tuple Z1 (Aa (Co rfl (BD.of (So:=Ah DS) (No:=IR) (N:=["word"]) (k:=1) (cs:=[]) rfl rfl A1) (CC (QM Ta (pv 1) (Pi Ae) (Pi (Fj Di Ae)))) (λ_ _ _=>(Bk (i:=0) A1 rfl rfl)) (λ_ _ _=>BL) (λ_ _ _=>(Au aY (rm hr) rfl An (Aa (pv 0) Ac)))) Ac))) (Ag (Aw (JG cJ (rm hr) rfl An (Aa (pv 2) (Aa (pv 3) (Aa (Au aK (rm hr) rfl An (Aa (Aj Av (pv 1) (Fj Di Ae) (λ_ _=>rfl)) Ac)) Ac))))))))))),?_⟩
  try dsimp only[cxK]
  refine xq1 rfl ⟨_,_,_,.type "str",true,rfl,rfl,.of (.str _),SR K,true,rfl,?_⟩;refine Bw (xq1 rfl ⟨rfl,(xq2 rfl rfl ⟨A1,B3,λl hl=>?_⟩)⟩);rw[PU ho];have eW:((wS c.cell::(c.conds.map BM++[sgD c.makes])).map V.str)=V.str (wS c.cell)::((c.conds.map λd=>V.str (BM d))++[V.str (sgD c.makes)]):=by
   rw[F1,C7,Q0];rfl
  rw[eW];have hL:∀o,upd H l o l=some o:=λo=>Af;refine xq1 rfl ⟨l,(xq1 rfl ⟨.inl (SqL.of Af),(xq2 rfl rfl (xq1 rfl ?_))⟩)⟩;rw[W0 (by simp;omega:¬((((V.str (wS c.cell)::((c.conds.map λd=>V.str (BM d))++[V.str (sgD c.makes)])).length:Nat):Int)<2))];refine Bw (xwi rfl rfl rfl (SqL.of Af) (Al (j:=0) rfl) ⟨c.cell,rfl,ho.cell,?_⟩);refine xw3 rfl rfl rfl (xq1 rfl ⟨l,(xq1 rfl ⟨SqL.of Af,λq hq=>⟨q,rfl,⟨_,SqL.of Af⟩,?_⟩⟩)⟩);rw[cut_mid];have s0:AA H (upd (upd H l (.lst (V.str (wS c.cell)::((c.conds.map λd=>V.str (BM d))++[V.str (sgD c.makes)])))) q (.lst (c.conds.map λd=>V.str (BM d)))):=(Az hl).trans (Az hq);have nlq:l≠q:=λz=>by rw[<-z,Af]at hq;cases hq
  generalize hH1:upd (upd H l (.lst (V.str (wS c.cell)::((c.conds.map λd=>V.str (BM d))++[V.str (sgD c.makes)])))) q (.lst (c.conds.map λd=>V.str (BM d)))=H1;rw[hH1]at s0;have hq1:H1 q=some (.lst (c.conds.map λd=>V.str (BM d))):=by rw[<-hH1];exact Af
  have hl1:H1 l=some (.lst (V.str (wS c.cell)::((c.conds.map λd=>V.str (BM d))++[V.str (sgD c.makes)]))):=by rw[<-hH1,Ao nlq];exact Af
  refine Ed (xs:=c.conds.map λd=>V.str (BM d)) (λi acc H2=>∃ps:List Addr,acc=ps.map V.ref/\AA H1 H2/\Paired (CL a H2) ps (c.conds.take i)) ⟨[],rfl,AA.refl H1,.nil⟩ (λi acc H2 _ ⟨ps,_,sm,_⟩=>SqL.of (sm _ _ hq1)) ?_ ?_
  ·rintro i x acc H2 hx ⟨ps,rfl,sm,pr⟩;rw[B7]at hx;obtain⟨d,ed,rfl⟩:=C9.mp hx;refine⟨⟨[some (.str (BM d))],rfl,rfl⟩,?_,?_⟩
   ·have e1:=W9 pr;rw[F9]at e1;rw[B5,e1];exact J3 (S4 _ _) (J3 f50 A3)
   ·refine GT (xq1 rfl ⟨d,rfl,ho.conds d (D2 ed),λp H3 s3 hp=>⟨ps++[p],by rw[C7];rfl,sm.trans s3,?_⟩⟩);rw[F7,ed];exact K6 (Paired.imp (λ_ _ z=>z.same s3) pr) hp
  ·rintro acc H2 ⟨ps,rfl,sm,pr⟩ r nr;rw[B5,J0]at pr;refine⟨r,(xq1 rfl (.inl ⟨SqL.of Af,λt ht=>?_⟩))⟩;have s3:AA H1 (upd (upd H2 r (.lst (ps.map V.ref))) t (.tup (ps.map V.ref))):=(sm.trans (Az nr)).trans (Az ht);generalize hH3:upd (upd H2 r (.lst (ps.map V.ref))) t (.tup (ps.map V.ref))=H3;have ht3:H3 t=some (.tup (ps.map V.ref)):=by rw[<-hH3];exact Af
   have s23:AA H2 H3:=by rw[<-hH3];exact(Az nr).trans (Az ht)
   rw[hH3]at s3;refine xw3 rfl rfl rfl (xq1 rfl ⟨l,_,(xq2 rfl rfl ⟨SqL.of (s3 _ _ hl1),at_last _ _ _,c.makes,rfl,ho.makes,?_⟩)⟩);intro x dx nx ndx nex;have nx2:∀o,(upd H3 dx o) x=none:=λo=>by rw[Ao (W4 nex)];exact nx
   refine⟨x,t,dx,c.cell,c.makes,rfl,Af,rfl,?_⟩;rw[Gb];have s4:AA H3 (upd (upd H3 dx (.own x)) x (.ins a.c_Clause dx (fl3 "cell" "conditions" "makes" (FK c.cell) (.ref t) (.int c.makes)))):=(Az ndx).trans (Az (nx2 _));exact k x _ ((s0.trans s3).trans s4) ⟨dx,t,ps,Af,s4 _ _ ht3,Paired.imp (λ_ _ z=>(z.same s23).same s4) pr⟩
theorem Rp{c:Be}(h:c.ok):59∉(BY c).cps.toList:=by
 intro z;unfold BY at z;rw[PyProof.Rows.mem_join]at z;rcases z with ⟨t,ht,z⟩|⟨_,z⟩
 ·rcases B8.mp ht with rfl|ht
  ·exact(IJ _ h.cell).2 z
  ·rcases D4.mp ht with ht|ht
   ·obtain⟨d,hd,rfl⟩:=D1.mp ht;exact(OF (h.conds d hd)).2 z
   ·rw[C3.mp ht]at z;exact(IJ (some c.makes) h.makes).2 z
 ·have:59=32:=by simpa using z
  omega
end
structure La(r:AC):Prop where
 few:r.length<=50
 ok:∀c∈r,c.ok
theorem La.rok{r:AC}(h:La r):ROk r:=⟨C2 h.few A3,λc hc=>⟨C2 (h.ok c hc).few A3,λd hd ws e=>by
 subst e;rw[((h.ok c hc).conds _ hd).1];decide⟩⟩
theorem QD{r:AC}(h:La r):(CM r).length<=60000:=by
 have j:=StrLaws.join_length_le Tq (r.map BY);have b:∀l:List Be,(∀c∈l,c.ok)->((l.map BY).map (·.length)).sum<=1000*l.length:=by
  intro l;induction l with
  |nil=>intro _;exact F8 _
  |cons d r ih =>
   intro hd;have h1:=NF (hd d C0);have h2:=ih λe he=>hd e (C1 _ he);simp only[F1,N3,D8];omega
 have b1:=b r h.ok;have h50:=h.few;have l3:Tq.length=2:=rfl;rw[l3,B5]at j;unfold CM;omega
theorem rule_ne{r:AC}(h:r≠[]):decide (V.str (CM r)=V.str (Str.ofString ""))=false:=by
 refine W0 λz=>?_;injection z with z
 obtain⟨c,hc⟩:=List.exists_mem_of_ne_nil r h;have h1:=PySem.join_mem_le Tq (r.map BY) (BY c) (D1.mpr ⟨c,hc,rfl⟩);have h2:=PySem.join_mem_le ⟨#[32]⟩ (wS c.cell::(c.conds.map BM++[sgD c.makes])) (wS c.cell) C0;have h3:(wS c.cell).length=1:=rfl;have h4:(CM r).length=0:=by rw[z];decide +kernel
 unfold CM at h4;have h5:(BY c).length=(Str.join ⟨#[32]⟩ (wS c.cell::(c.conds.map BM++[sgD c.makes]))).length:=rfl;omega
theorem CL.put{a:Ad}{H:Hp}{p q:Addr}{o u:HO}{c:Bn}(h:CL a H q c)(hp:H p=some u)(n:∀C d fs,u=HO.ins C d fs->fs.lookup ("state" : Str)=none/\fs.lookup ("wanted" : Str)=none/\fs.lookup ("makes" : Str)=none)(nt:∀xs,u≠.tup xs):CL a (upd H p o) q c:=by
 have other:∀{b v},H b=some v->v≠u->upd H p o b=some v:=λ{b v} e d=>by rw[Ao (Ay e hp d)];exact e
 cases h with
 |am h ht =>
  refine .am (other h λz=>?_) (other ht λz=>nt _ z.symm);have:=(n _ _ _ z.symm).1;rw[WO A1]at this;cases this
 |pl h ht =>
  refine .pl (other h λz=>?_) (other ht λz=>nt _ z.symm);have:=(n _ _ _ z.symm).2.1;rw[fl1_1]at this;cases this
theorem BK.put{a:Ad}{H:Hp}{p q:Addr}{o u:HO}{c:Be}(h:BK a H q c)(hp:H p=some u)(n:∀C d fs,u=HO.ins C d fs->fs.lookup ("state" : Str)=none/\fs.lookup ("wanted" : Str)=none/\fs.lookup ("makes" : Str)=none)(nt:∀xs,u≠.tup xs):BK a (upd H p o) q c:=by
 have other:∀{b v},H b=some v->v≠u->upd H p o b=some v:=λ{b v} e d=>by rw[Ao (Ay e hp d)];exact e
 obtain⟨dx,t,cs,h1,h2,h3⟩:=h.ex;refine⟨dx,t,cs,other h1 λz=>?_,other h2 λz=>nt _ z.symm,Paired.imp (λ_ _ z=>z.put hp n nt) h3⟩;have:=(n _ _ _ z.symm).2.2;rw[fl3_3]at this;cases this
section
variable{P:Program}{w:World}{K:PySem.W.Frag}{mg:Str->Option Value}{base:Heap}{a:Ad}
inductive SpCT(vs:List V)(H:Hp)(Q:VK):Prop
 |mk (r:AC) (_:vs=[.str (CM r)]) (_:La r) (_:∀(l:Addr)(H':Hp),AA H H'->H' l=some (.lst (r.map λc=>V.str (BY c)))->Q (.ref l) H'):SpCT vs H Q
def spCT:Sp:=λvs H Q _=>SpCT vs H Q
theorem ok_ct{f:Addr}{fd:FuncData}(F:Fun K "clause_texts" "clause_texts" EC f fd)(T:Top K mg a):AK P w K mg base CX0 1 f fd EN spCT:=by
 refine F.ok LU (λvs H Q E h=>?_) (λcdv A outer s H vs Q E hr h=>?_)
 ·obtain⟨r,rfl,_⟩:=h;rfl
 ·obtain⟨r,rfl,ho,k⟩:=h;have hlen:=QD ho;refine⟨_,(Ab (AQ (AD Ea (pv 0) Ej (AI _)) (Ag (Aw (CY Ac))) AE) (Ag (Aw (GS X4 PySem.F.slot_str_split PySem.F.type_str_split QW (pv 0) (Aa (Ml rfl T.k_CLAUSE_MARK) Ac))))),?_⟩
  try dsimp only[cxK]
  refine xq1 rfl ⟨rfl,(xq1 rfl ?_)⟩;by_cases hr0:r=[]
  ·subst hr0;refine CK ⟨(by show 0<=sizeLine;decide),λl hl=>?_⟩;exact k l _ (Az hl) Af
  ·rw[rule_ne hr0];refine Bw (xq1 rfl ⟨rfl,(xq2 rfl rfl ⟨A1,B3,λl hl=>?_⟩)⟩);have em:Str.ofString "; " = (⟨#[59,32]⟩:Str):=by decide +kernel
   have e:Txt.split (CM r) (Str.ofString "; ")=r.map BY:=by
    rw[em];refine Tx.Qs _ (by simpa using hr0) λt ht=>?_;obtain⟨c,hc,rfl⟩:=D1.mp ht;exact Rp (ho.ok c hc)
   rw[e,Q0];exact k l _ (Az hl) Af
inductive SpRI(a:Ad)(vs:List V)(H:Hp)(Q:VK):Prop
 |mk (p dx:Addr) (r:AC) (_:vs=[.ref p,.str (CM r)]) (_:H p=some (.ins a.c_Rule dx [])) (_:La r) (_:∀H',(∀b o,H b=some o->b≠p->H' b=some o)->Cf a H' p (CM r) r->Q .non H'):SpRI a vs H Q
def spRI(a:Ad):Sp:=λvs H Q _=>SpRI a vs H Q
theorem ok_ri{f:Addr}{fd:FuncData}(F:Fun K "__init__" "Rule.__init__" Fd f fd)(T:Top K mg a)(bI:Cal P w K mg base CX0 1 "clause_texts" EN spCT)(bN:Cal P w K mg base CX0 5 "read_clause" FD (spRC a)) :
  AK P w K mg base CX0 6 f fd Im (spRI a):=by
 refine F.ok Pf (λvs H Q E h=>?_) (λcdv A outer s H vs Q E hr h=>?_)
 ·obtain⟨p,dx,r,rfl,_⟩:=h;rfl
 ·obtain⟨p,dx,r,rfl,hp,ho,k⟩:=h;have hlen:=QD ho;have f50:=ho.few;refine⟨_,(Ab (Cc (pv 0) (pv 1) rfl) (Ag (Cc (pv 0) (BB BV rfl T.b_tuple Z1 (Aa (Co rfl (BD.of (So:=Ah Fd) (No:=LS) (N:=["part"]) (k:=1) (cs:=[]) rfl rfl A1) (CC (Au bI (rm hr) rfl An (Aa (pv 1) Ac))) (λ_ _ _=>(Bk (i:=0) A1 rfl rfl)) (λ_ _ _=>BL) (λ_ _ _=>(Au bN (rm hr) rfl An (Aa (pv 0) Ac)))) Ac)) rfl))),?_⟩
  try dsimp only[cxK]
  refine xw2 rfl rfl ⟨p,_,dx,[],rfl,hp,T.cl_Rule,T.na_Rule_text,B0,?_⟩;generalize hH1:upd H p (.ins a.c_Rule dx (AM "text" (.str (CM r)) []))=H1;have hp1:H1 p=some (.ins a.c_Rule dx (AM "text" (.str (CM r)) [])):=by rw[<-hH1];exact Af
  have k1:∀b o,H b=some o->b≠p->H1 b=some o:=λb o e n=>by rw[<-hH1,Ao n];exact e
  refine xq1 rfl ⟨r,rfl,ho,λl H2 s2 hl=>⟨l,rfl,⟨_,SqL.of hl⟩,?_⟩⟩;refine Ed (xs:=r.map λc=>V.str (BY c)) (λi acc H3=>∃ps:List Addr,acc=ps.map V.ref/\AA H2 H3/\Paired (BK a H3) ps (r.take i)) ⟨[],rfl,AA.refl H2,.nil⟩ (λi acc H3 _ ⟨ps,_,sm,_⟩=>SqL.of (sm _ _ hl)) ?_ ?_
  ·rintro i x acc H3 hx ⟨ps,rfl,sm,pr⟩;rw[B7]at hx;obtain⟨c,ec,rfl⟩:=C9.mp hx;refine⟨⟨[some (.str (BY c))],rfl,rfl⟩,?_,?_⟩
   ·have e1:=W9 pr;rw[F9]at e1;rw[B5,e1];exact J3 (S4 _ _) (J3 f50 A3)
   ·refine GT (xq1 rfl ⟨c,rfl,ho.ok c (D2 ec),λq H4 s4 hq=>⟨ps++[q],by rw[C7];rfl,sm.trans s4,?_⟩⟩);rw[F7,ec];exact K6 (Paired.imp (λ_ _ z=>z.same s4) pr) hq
  ·rintro acc H3 ⟨ps,rfl,sm,pr⟩ q nq;rw[B5,J0]at pr;refine⟨q,(xq1 rfl (.inl ⟨SqL.of Af,λt ht=>?_⟩))⟩;generalize hH4:upd (upd H3 q (.lst (ps.map V.ref))) t (.tup (ps.map V.ref))=H4;have s34:AA H3 H4:=by rw[<-hH4];exact(Az nq).trans (Az ht)
   have ht4:H4 t=some (.tup (ps.map V.ref)):=by rw[<-hH4];exact Af
   have s14:AA H1 H4:=(s2.trans sm).trans s34;have ntp:t≠p:=λz=>by rw[z,s14 _ _ hp1]at ht4;cases ht4
   refine xq1 rfl ⟨p,_,dx,(xq1 rfl ⟨s14 _ _ hp1,T.cl_Rule,T.na_Rule_clauses,B1,?_⟩)⟩;have up:∀b o,H4 b=some o->b≠p->upd H4 p (.ins a.c_Rule dx (fl2 "text" "clauses" (.str (CM r)) (.ref t))) b=some o:=λb o e n=>by rw[Ao n];exact e
   have cl:∀q' c,BK a H4 q' c->BK a (upd H4 p (.ins a.c_Rule dx (fl2 "text" "clauses" (.str (CM r)) (.ref t)))) q' c:=λq' c hc=>by
    exact hc.put (s14 _ _ hp1) (λC d fs e=>by
     cases e;exact⟨PQ A1,PQ A1,PQ A1⟩) (λxs z=>by cases z)
   exact k _ (λb o e n=>up _ _ (s14 _ _ (k1 b o e n)) n) ⟨dx,t,ps,Af,up _ _ ht4 ntp,Paired.imp (λq' c z=>cl q' c (z.same s34)) pr⟩
def CI:List Int:=[0,0,0,0,0,0,0,0]
inductive SpRR(a:Ad)(vs:List V)(H:Hp)(Q:VK):Prop
 |mk (r:AC) (_:vs=[.str (CM r)]) (_:La r) (_:CQ r 0 CI=0) (_:∀(p:Addr)(H':Hp),AA H H'->Cf a H' p (CM r) r->Q (.ref p) H'):SpRR a vs H Q
def spRR(a:Ad):Sp:=λvs H Q _=>SpRR a vs H Q
theorem ok_rr{f:Addr}{fd:FuncData}(F:Fun K "read_rule" "read_rule" Ic f fd)(T:Top K mg a)(cR:Qg P w K mg base CX0 6 "Rule" a.c_Rule Im (spRI a))(bC:Cal P w K mg base CX0 5 "becomes" IF (SZ a)) :
  AK P w K mg base CX0 8 f fd Ij (spRR a):=by
 refine F.ok Ju (λvs H Q E h=>?_) (λcdv A outer s H vs Q E hr h=>?_)
 ·obtain⟨r,rfl,_⟩:=h;rfl
 ·obtain⟨r,rfl,ho,hz,k⟩:=h;refine⟨_,(Ab (AQ (DH (DG (AS FW rfl T.b_isinstance Y8 (Aa (pv 0) (Aa (IC (v:=.ty "str") rfl T.b_str A0b rfl) Ac))))) (Ag AZ) AE) (Ab (Aq (i:=1) Ju.nd rfl (Or.inl rfl) (JG cR (rm hr) rfl An (Aa (pv 0) Ac))) (Ab (AQ (AD JI (Au bC (rm hr) rfl An (Aa (pv 1) (AX (Bq op_rep (CY (AX Ac)) (BP rfl T.k_NEIGHBOURS) Ac)))) Ae (AI _)) (Ag AZ) AE) (Ag (Aw (pv 1)))))),?_⟩
  try dsimp only[cxK]
  refine xq1 rfl ⟨_,_,_,.type "str",true,rfl,rfl,.of (.str _),SR K,true,rfl,?_⟩;refine Bw (xq1 rfl ?_);intro x dx nx ndx nex;refine⟨x,dx,r,rfl,Af,ho,λH2 kp hR=>⟨rfl,?_⟩⟩;have s2:AA H H2:=λb o e=>kp b o (by rw[Ao (Ar e nx),Ao (Ar e ndx)];exact e) (Ar e nx);refine xq1 rfl ⟨(by show 1<=sizeLine;decide),λl hl=>?_⟩;refine⟨l,8,(xq1 rfl ⟨rfl,Af,A3,A3,A3,λm hm=>?_⟩)⟩;have s3:=(s2.trans (Az (o:=.lst [.int 0]) hl)).trans (Az (o:=.lst (CI.map V.int)) hm);have s23:=(Az (o:=.lst [.int 0]) hl).trans (Az (o:=.lst (CI.map V.int)) hm);refine⟨x,m,_,r,0,CI,rfl,hR.same s23,ho.rok,Af,λH4 s4=>?_⟩;refine⟨rfl,(xq1 rfl ?_)⟩;rw[hz];refine Tu rfl (xq1 rfl ?_);exact k x H4 (s3.trans s4) ((hR.same s23).same s4)
end
end J
namespace J
open PySem L2
structure Sq where
 parts:List Int
 lev:Int
abbrev Gv:=List Sq
structure GA where
 p:Addr
 dx:Addr
 lv:Addr
 pt:Addr
 nm:Addr
 br:Addr
 am:Addr
 bx:Addr
def fl6(g:GA):List (Str×V):=AM "boxes" (.ref g.bx) (AM "amounts" (.ref g.am) (AM "bares" (.ref g.br) (AM "numbers" (.ref g.nm) (AM "parts" (.ref g.pt) (AM "levels" (.ref g.lv) [])))))
theorem EW(g:GA):(fl6 g).lookup ("levels" : Str)=some (V.ref g.lv):=by
 unfold fl6;rw[Ai,V8 A1,Ai,V8 A1,Ai,V8 A1,Ai,V8 A1,Ai,V8 A1,Ai,W2 rfl]
theorem Ce(g:GA):(fl6 g).lookup ("parts" : Str)=some (V.ref g.pt):=by
 unfold fl6;rw[Ai,V8 A1,Ai,V8 A1,Ai,V8 A1,Ai,V8 A1,Ai,W2 rfl]
theorem WL(g:GA):(fl6 g).lookup ("numbers" : Str)=some (V.ref g.nm):=by
 unfold fl6;rw[Ai,V8 A1,Ai,V8 A1,Ai,V8 A1,Ai,W2 rfl]
theorem Iw(g:GA):(fl6 g).lookup ("bares" : Str)=some (V.ref g.br):=by
 unfold fl6;rw[Ai,V8 A1,Ai,V8 A1,Ai,W2 rfl]
theorem fl6_am(g:GA):(fl6 g).lookup ("amounts" : Str)=some (V.ref g.am):=by
 unfold fl6;rw[Ai,V8 A1,Ai,W2 rfl]
theorem WM(g:GA):(fl6 g).lookup ("boxes" : Str)=some (V.ref g.bx):=by
 unfold fl6;rw[Ai,W2 rfl]
theorem GL(g:GA){m:Str}(h1:¬m=("boxes" : Str))(h2:¬m=("amounts" : Str))(h3:¬m=("bares" : Str))(h4:¬m=("numbers" : Str))(h5:¬m=("parts" : Str))(h6:¬m=("levels" : Str)):(fl6 g).lookup m=none:=by
 unfold fl6;rw[Ai,V8 h1,Ai,V8 h2,Ai,V8 h3,Ai,V8 h4,Ai,V8 h5,Ai,V8 h6];rfl
theorem Pk(g:GA):(fl6 g).lookup ("kept" : Str)=none:=GL g A1 A1 A1 A1 A1 A1
theorem BI(g:GA):(fl6 g).lookup ("linked" : Str)=none:=GL g A1 A1 A1 A1 A1 A1
theorem QR(g:GA):(fl6 g).lookup ("check_square" : Str)=none:=GL g A1 A1 A1 A1 A1 A1
theorem Tk(g:GA):(fl6 g).lookup ("leaf" : Str)=none:=GL g A1 A1 A1 A1 A1 A1
theorem DP(g:GA):(fl6 g).lookup ("level_of" : Str)=none:=GL g A1 A1 A1 A1 A1 A1
theorem RU(g:GA):(fl6 g).lookup ("state_of" : Str)=none:=GL g A1 A1 A1 A1 A1 A1
def kOf(ps:List Int):List Key:=ps.map Sum.inl
theorem WA(ps:List Int):(kOf ps).map kV=ps.map V.int:=by unfold kOf;rw[Q0];rfl
theorem Mq:∀{ps qs:List Int},kOf ps=kOf qs->ps=qs
 |[],[],_=>rfl
 |[],_::_,h=>by cases h
 |_::_,[],h=>by cases h
 |x::r,y::t,h=>by
  have h:Sum.inl x::kOf r=(Sum.inl y:Key)::kOf t:=h;injection h with h1 h2
  injection h1 with h1
  rw[h1,Mq h2]
def Iv:Nat->Gv->List (List Key×V)
 |_,[]=>[]
 |n,q::r=>(kOf q.parts,.int (n:Int))::Iv (n+1) r
theorem Re:∀(G:Gv)(n:Nat),(Iv n G).length=G.length
 |[],_=>rfl
 |q::r,n=>by show(Iv (n+1) r).length+1=r.length+1;rw[Re r]
theorem Oz(q:Sq):∀(G:Gv)(n:Nat),Iv n (G++[q])=Iv n G++[(kOf q.parts,.int ((n+G.length:Nat):Int))]
 |[],_=>rfl
 |p::r,n=>by
  show(kOf p.parts,V.int (n:Int))::Iv (n+1) (r++[q])=_;rw[Oz q r (n+1)];show _=(kOf p.parts,V.int (n:Int))::(Iv (n+1) r++[(kOf q.parts,V.int ((n+(r.length+1):Nat):Int))]);rw[show n+1+r.length=n+(r.length+1) by lia]
theorem PH(ps:List Int):∀(G:Gv)(n:Nat),(∃(i:Nat)(q:Sq),G[i]?=some q/\q.parts=ps/\Bu (Iv n G) (kOf ps)=some (.int ((n+i:Nat):Int)))\/(Bu (Iv n G) (kOf ps)=none/\∀q∈G,q.parts≠ps)
 |[],n=>.inr ⟨rfl,λq hq=>by simp at hq⟩
 |p::r,n=>by
  by_cases e:p.parts=ps
  ·exact .inl ⟨0,p,rfl,e,BE (by rw[e])⟩
  ·have ne:¬(kOf p.parts,V.int (n:Int)).1=kOf ps:=λz=>e (Mq z);rcases PH ps r (n+1)with ⟨i,q,h1,h2,h3⟩|⟨h1,h2⟩
   ·refine .inl ⟨i+1,q,h1,h2,?_⟩;show Bu ((kOf p.parts,V.int (n:Int))::Iv (n+1) r) (kOf ps)=_;rw[Bh ne,h3,show n+1+i=n+(i+1) by lia]
   ·refine .inr ⟨?_,λq hq=>?_⟩
    ·show Bu ((kOf p.parts,V.int (n:Int))::Iv (n+1) r) (kOf ps)=_;rw[Bh ne,h1]
    ·rcases B8.mp hq with rfl|hq
     ·exact e
     ·exact h2 q hq
def TupAt(H:Hp)(t:Addr)(q:Sq):Prop:=H t=some (.tup (q.parts.map V.int))
structure AH(a:Ad)(H:Hp)(g:GA)(G:Gv):Prop where
 hp:H g.p=some (.ins a.c_Grove g.dx (fl6 g))
 lv:H g.lv=some (.lst (G.map λq=>.int q.lev))
 pt:∃ts:List Addr,H g.pt=some (.lst (ts.map V.ref))/\Paired (TupAt H) ts G
 nm:H g.nm=some (.dT (Iv 0 G))
 ne:g.lv≠g.pt
def Fr(g:GA)(H H':Hp):Prop:=∀b o,H b=some o->b≠g.lv->b≠g.pt->b≠g.nm->H' b=some o
theorem Fr.refl(g:GA)(H:Hp):Fr g H H:=λ_ _ e _ _ _=>e
theorem Fr.trans{g:GA}{H1 H2 H3:Hp}(h:Fr g H1 H2)(h2:Fr g H2 H3):Fr g H1 H3:=λb o e n1 n2 n3=>h2 b o (h b o e n1 n2 n3) n1 n2 n3
theorem AA.fr{g:GA}{H1 H2:Hp}(h:AA H1 H2):Fr g H1 H2:=λb o e _ _ _=>h b o e
theorem PairedM.imp{α β:Type}{F G:α->β->Prop}(h:∀x y,F x y->G x y):∀{l:List α}{m:List β},Paired F l m->Paired G l m
 |_,_,.nil=>.nil
 |_,_,.cons r t=>.cons (h _ _ r) (PairedM.imp h t)
theorem PairedM.get{α β:Type}{F:α->β->Prop}:∀{l:List α}{m:List β}{i:Nat}{y:β},Paired F l m->m[i]?=some y->∃x,l[i]?=some x/\F x y
 |_,_,_,_,.nil,e=>by simp at e
 |_,_,0,_,.cons r _,e=>by simp at e;subst e;exact⟨_,rfl,r⟩
 |_,_,i+1,y,.cons _ t,e=>by
  obtain⟨x,h1,h2⟩:=PairedM.get (i:=i) (y:=y) t (by simpa using e);exact⟨x,by simpa using h1,h2⟩
theorem AJ{H:Hp}{p:Addr}{o:HO}(h:H p=none):AA H (upd H p o):=λb u e=>by
 rw[Ao (Ar e h)];exact e
theorem AH.same{a:Ad}{H H':Hp}{g:GA}{G:Gv}(s:AA H H')(h:AH a H g G):AH a H' g G:=by
 obtain⟨h1,h2,⟨ts,h3,h4⟩,h5,h6⟩:=h;exact⟨s _ _ h1,s _ _ h2,⟨ts,s _ _ h3,PairedM.imp (λt q z=>s _ _ z) h4⟩,s _ _ h5,h6⟩
theorem AH.put{a:Ad}{H:Hp}{g:GA}{G:Gv}{l:Addr}{xs:List V}{o:HO}(hl:H l=some (.lst xs))(n1:l≠g.lv)(n2:l≠g.pt)(h:AH a H g G):AH a (upd H l o) g G:=by
 obtain⟨h1,h2,⟨ts,h3,h4⟩,h5,h6⟩:=h;have other:∀{b v},H b=some v->v≠.lst xs->upd H l o b=some v:=λ{b v} e n=>by rw[Ao (Ay e hl n)];exact e
 exact⟨other h1 A2,by rw[Ao (W4 n1)];exact h2,⟨ts,by rw[Ao (W4 n2)];exact h3,PairedM.imp (λt q z=>other z A2) h4⟩,other h5 A2,h6⟩
def Ak(G:Gv)(x:Nat)(l:Int):Prop:=∃q,G[x]?=some q/\q.lev=l
structure GOk(G:Gv):Prop where
 leaf:∀s:Nat,s<8->G[s]?=some ⟨[(s:Int)],0⟩
 node:∀(i:Nat) q,G[i]?=some q->8<=i->∃x y z w:Nat,q.parts=[(x:Int),(y:Int),(z:Int),(w:Int)]/\(Ak G x (q.lev-1)/\Ak G y (q.lev-1)/\Ak G z (q.lev-1)/\Ak G w (q.lev-1))/\1<=q.lev/\q.lev<=48
 nd:(G.map Sq.parts).Nodup
theorem Ak.lt{G:Gv}{x:Nat}{l:Int}(h:Ak G x l):x<G.length:=by
 obtain⟨q,h,_⟩:=h;exact(B4.mp h).1
theorem JQ{G r:Gv}{x:Nat}{q:Sq}(h:G[x]?=some q):(G++r)[x]?=some q:=by
 rw[J8 (B4.mp h).1];exact h
theorem Ak.app{G r:Gv}{x:Nat}{l:Int}(h:Ak G x l):Ak (G++r) x l:=by
 obtain⟨q,h,e⟩:=h;exact⟨q,JQ h,e⟩
theorem GOk.lev{G:Gv}(h:GOk G){i:Nat}{q:Sq}(e:G[i]?=some q):0<=q.lev/\q.lev<=48:=by
 by_cases h8:i<8
 ·rw[h.leaf i h8]at e;cases e;exact⟨V0 0,by show(0:Int)<=48;decide⟩
 ·obtain⟨x,y,z,w,_,_,h1,h2⟩:=h.node i q e A0;exact⟨by lia,h2⟩
theorem GOk.snoc{G:Gv}(h:GOk G){x y z w:Nat}{l:Int}(hx:Ak G x l)(hy:Ak G y l)(hz:Ak G z l)(hw:Ak G w l)(h47:l<=47)(new:∀q∈G,q.parts≠[(x:Int),(y:Int),(z:Int),(w:Int)]):GOk (G++[⟨[(x:Int),(y:Int),(z:Int),(w:Int)],l+1⟩]) where
 leaf:=λs hs=>JQ (h.leaf s hs)
 node:=λi q e hi=>by
  by_cases hl:i<G.length
  ·rw[J8 hl]at e;obtain⟨x,y,z,w,h1,⟨a1,a2,a3,a4⟩,h3⟩:=h.node i q e hi;exact⟨x,y,z,w,h1,⟨a1.app,a2.app,a3.app,a4.app⟩,h3⟩
  ·rw[F2 A0]at e;have:i-G.length=0:=by
    by_cases z:i-G.length=0
    ·exact z
    ·rw[U3 (by rw[M4];lia)]at e;cases e
   rw[this]at e;cases e;obtain⟨q0,e0,l0⟩:=hx;have:=(h.lev e0).1;have el:l+1-1=l:=by lia
   refine⟨x,y,z,w,rfl,?_,?_,?_⟩
   ·show Ak _ x (l+1-1)/\Ak _ y (l+1-1)/\Ak _ z (l+1-1)/\Ak _ w (l+1-1);rw[el];exact⟨Ak.app ⟨q0,e0,l0⟩,hy.app,hz.app,hw.app⟩
   ·show 1<=l+1;lia
   ·show l+1<=48;lia
 nd:=by
  rw[C7,O6];refine⟨h.nd,by simp,λp hp p' hp'=>?_⟩;obtain⟨q,hq,rfl⟩:=D1.mp hp;rw[show p'=[(x:Int),(y:Int),(z:Int),(w:Int)] by simpa using hp'];exact new q hq
theorem GOk.one{G:Gv}(h:GOk G){i j:Nat}{p q:Sq}(hi:G[i]?=some p)(hj:G[j]?=some q)(e:p.parts=q.parts):i=j:=by
 have li:=(B4.mp hi).1;have lj:=(B4.mp hj).1;have h1:(G.map Sq.parts)[i]'(by rw[B5];exact li)=(G.map Sq.parts)[j]'(by rw[B5];exact lj):=by
  rw[List.getElem_map,List.getElem_map,(B4.mp hi).2,(B4.mp hj).2,e]
 exact(S8 h.nd).mp h1
seal L2.PA L2.PE L2.PS L2.PSs L2.PT L2.PW
theorem FR{n:Nat}(h:n<10000000):n<sizeLine:=D5 h A3
theorem kit_w(K:PySem.W.Frag):kitOne K (.type "int") (.type "int")=some true/\kitOne K (.type "int") (.type "bool")=some false:=⟨by kernel_rfl,by kernel_rfl⟩
section
variable{P:Program}{w:World}{K:PySem.W.Frag}{mg:Str->Option Value}{base:Heap}{a:Ad}
inductive SpIW(vs:List V)(H:Hp)(Q:VK):Prop
 |mk (i:Int) (_:vs=[.int i]) (_:Q (.bl true) H):SpIW vs H Q
def Uf:Sp:=λvs H Q _=>SpIW vs H Q
theorem ok_iw{f:Addr}{fd:FuncData}(F:Fun K "is_whole" "is_whole" Ja f fd)(T:Top K mg a):AK P w K mg base CX0 1 f fd DL Uf:=by
 refine F.ok Qz (λvs H Q E h=>?_) (λcdv A outer s H vs Q E hr h=>?_)
 ·obtain⟨i,rfl,_⟩:=h;rfl
 ·obtain⟨i,rfl,k⟩:=h;exact⟨_,(Ag (Aw (Ii (AS FW rfl T.b_isinstance Y8 (Aa (pv 0) (Aa (IC (v:=.ty "int") rfl T.b_int Z7 rfl) Ac))) (Jh (VQ (AS FW rfl T.b_isinstance Y8 (Aa (pv 0) (Aa (IC (v:=.ty "bool") rfl T.b_bool PyProof.Rows.boot_bool rfl) Ac)))))))),(xq1 rfl ⟨_,_,_,.type "int",true,rfl,rfl,.of (.int i),(kit_w K).1,true,rfl,CK (xq1 rfl ⟨_,_,_,.type "int",false,rfl,rfl,.of (.int i),(kit_w K).2,false,rfl,k⟩)⟩)⟩
inductive SpIS(vs:List V)(H:Hp)(Q:VK):Prop
 |mk (i:Int) (_:vs=[.int i]) (_:0<=i) (_:i<8) (_:Q (.bl true) H):SpIS vs H Q
def spIS:Sp:=λvs H Q _=>SpIS vs H Q
theorem ok_is{f:Addr}{fd:FuncData}(F:Fun K "is_state" "is_state" Jb f fd)(T:Top K mg a)(aJ:Cal P w K mg base CX0 1 "is_whole" DL Uf):AK P w K mg base CX0 2 f fd Gz spIS:=by
 refine F.ok QA (λvs H Q E h=>?_) (λcdv A outer s H vs Q E hr h=>?_)
 ·obtain⟨i,rfl,_⟩:=h;rfl
 ·obtain⟨i,rfl,h0,h1,k⟩:=h;refine⟨_,(Ag (Aw (Ii (Au aJ (rm hr) rfl An (Aa (pv 0) Ac)) (Jh (VS JJ Io Ae (pv 0) (BP rfl T.k_STATES)))))),?_⟩
  try dsimp only[cxK]
  refine xq1 rfl ⟨i,rfl,true,rfl,CK (xwb rfl rfl rfl (xq1 rfl ?_))⟩;rw[V9 h0];refine CK (xq2 rfl rfl ?_);show Q (.bl (decide (i<8))) H;rw[V9 h1];exact k
inductive Yq(a:Ad)(vs:List V)(H:Hp)(Q:VK):Prop
 |mk (g:GA) (G:Gv) (t:Addr) (ps:List Int) (l:Int) (_:vs=[.ref g.p,.ref t,.int l]) (_:AH a H g G) (_:H t=some (.tup (ps.map V.int))) (_:(∀q∈G,q.parts≠ps)) (_:G.length<9000000) (_:∀H',Fr g H H'->AH a H' g (G++[⟨ps,l⟩])->Q (.int (G.length:Int)) H'):Yq a vs H Q
def OZ(a:Ad):Sp:=λvs H Q _=>Yq a vs H Q
theorem ok_kept{f:Addr}{fd:FuncData}(F:Fun K "kept" "Grove.kept" Gr f fd)(T:Top K mg a):AK P w K mg base CX0 1 f fd Er (OZ a):=by
 refine F.ok IP (λvs H Q E h=>?_) (λcdv A outer s H vs Q E hr h=>?_)
 ·obtain⟨g,G,t,ps,l,rfl,_⟩:=h;rfl
 ·obtain⟨g,G,t,ps,l,rfl,hg,ht,new,few,k⟩:=h;obtain⟨h1,h2,⟨ts,h3,h4⟩,h5,h6⟩:=hg;have lt:ts.length=G.length:=W9 h4;refine⟨_,(Ab (Aq (i:=3) IP.nd rfl (Or.inl rfl) (AS CF rfl T.b_len Z6 (Aa (Ax (pv 0) rfl) Ac))) (Ab (Fe (Ec hr) (Ax (pv 0) rfl) (pv 1) (pv 3) rfl) (Ab (CB (GS Z0 Z2 Z3 Et (Ax (pv 0) rfl) (Aa (pv 2) Ac))) (Ab (CB (GS Z0 Z2 Z3 Et (Ax (pv 0) rfl) (Aa (pv 1) Ac))) (Ag (Aw (pv 3))))))),?_⟩
  try dsimp only[cxK]
  refine xwf rfl rfl h1 T.cl_Grove T.na_Grove_levels (EW g) ⟨g.lv,(xq1 rfl ⟨.inl (SqL.of h2),?_⟩)⟩;rw[B5];have ne1:g.p≠g.nm:=Ay h1 h5 A2;have ne2:g.lv≠g.nm:=Ay h2 h5 A2;have ne3:g.pt≠g.nm:=Ay h3 h5 A2;have ne4:g.p≠g.lv:=Ay h1 h2 A2;have ne5:g.p≠g.pt:=Ay h1 h3 A2;have vn:Bu (Iv 0 G) (kOf ps)=none:=by
   rcases PH ps G 0 with ⟨i,q,e1,e2,_⟩|⟨e,_⟩
   ·exact absurd e2 (new q (D2 e1))
   ·exact e
  refine xw2 rfl rfl (xq5 h1 T.cl_Grove T.na_Grove_numbers (WL g) (xq1 rfl ⟨g.nm,(xq1 rfl ⟨Jq.t (k:=kOf ps) h5 (by rw[WA];exact ht) (by rw[Re];exact FR A0),?_⟩)⟩));rw[JC _ vn];have e5:Iv 0 G++[(kOf ps,V.int (G.length:Int))]=Iv 0 (G++[⟨ps,l⟩]):=by rw[Oz,M7]
  rw[e5];generalize hH1:upd H g.nm (.dT (Iv 0 (G++[⟨ps,l⟩])))=H1;have k1:∀b o,H b=some o->b≠g.nm->H1 b=some o:=λb o e n=>by rw[<-hH1,Ao n];exact e
  have n1:H1 g.nm=some (.dT (Iv 0 (G++[⟨ps,l⟩]))):=by rw[<-hH1];exact Af
  refine xwf rfl rfl (k1 _ _ h1 ne1) T.cl_Grove T.na_Grove_levels (EW g) ⟨.inl ⟨rfl,_,SqL.of (k1 _ _ h2 ne2)⟩,(xq1 rfl ⟨g.lv,(xq2 rfl rfl ⟨k1 _ _ h2 ne2,by rw[B5];exact FR A0,?_⟩)⟩)⟩;generalize hH2:upd H1 g.lv (.lst ((G.map λq=>V.int q.lev)++[.int l]))=H2;have k2:∀b o,H1 b=some o->b≠g.lv->H2 b=some o:=λb o e n=>by rw[<-hH2,Ao n];exact e
  have n2:H2 g.lv=some (.lst ((G++[(⟨ps,l⟩:Sq)]).map λq=>V.int q.lev)):=by rw[<-hH2,Af,C7];rfl
  have h3':=k2 _ _ (k1 _ _ h3 ne3) (W4 h6);refine xwf rfl rfl (k2 _ _ (k1 _ _ h1 ne1) ne4) T.cl_Grove T.na_Grove_parts (Ce g) ⟨.inl ⟨rfl,_,SqL.of h3'⟩,(xq1 rfl ⟨g.pt,(xq2 rfl rfl ⟨h3',by rw[B5,lt];exact FR A0,?_⟩)⟩)⟩;generalize hH3:upd H2 g.pt (.lst (ts.map V.ref++[.ref t]))=H3;have k3:∀b o,H2 b=some o->b≠g.pt->H3 b=some o:=λb o e n=>by rw[<-hH3,Ao n];exact e
  have n3:H3 g.pt=some (.lst ((ts++[t]).map V.ref)):=by rw[<-hH3,Af,C7];rfl
  have fr:Fr g H H3:=λb o e m1 m2 m3=>k3 _ _ (k2 _ _ (k1 _ _ e m3) m1) m2;have tp:∀(c:Addr)(xs:List V),H c=some (.tup xs)->H3 c=some (.tup xs):=λc xs e=>fr _ _ e (Ay e h2 A2) (Ay e h3 A2) (Ay e h5 A2);refine xq1 rfl (k H3 fr ⟨fr _ _ h1 ne4 ne5 ne1,k3 _ _ n2 h6,⟨ts++[t],n3,K6 (PairedM.imp (λc q z=>tp c _ z) h4) (tp t _ ht)⟩,k3 _ _ (k2 _ _ n1 (W4 ne2)) (W4 ne3),h6⟩)
structure AG(G G':Gv)(n:Nat):Prop where
 ok:GOk G'
 pre:∃r,G'=G++r
 few:G'.length<=G.length+n
theorem AG.refl{G:Gv}(h:GOk G):AG G G 0:=⟨h,⟨[],by simp⟩,B6 _⟩
theorem AG.trans{G G' G'':Gv}{n m:Nat}(h:AG G G' n)(h2:AG G' G'' m):AG G G'' (n+m):=by
 obtain⟨r,e⟩:=h.pre;obtain⟨t,e2⟩:=h2.pre;have f1:=h.few;have f2:=h2.few;exact⟨h2.ok,⟨r++t,by rw[e2,e,O7]⟩,by lia⟩
theorem AG.get{G G':Gv}{n x:Nat}{q:Sq}(h:AG G G' n)(e:G[x]?=some q):G'[x]?=some q:=by
 obtain⟨r,e2⟩:=h.pre;rw[e2];exact JQ e
theorem AG.lev{G G':Gv}{n x:Nat}{l:Int}(h:AG G G' n)(e:Ak G x l):Ak G' x l:=by
 obtain⟨q,e,z⟩:=e;exact⟨q,h.get e,z⟩
inductive SA(a:Ad)(vs:List V)(H:Hp)(Q:VK):Prop
 |mk (g:GA) (G:Gv) (t:Addr) (x y z w:Nat) (l:Int) (_:vs=[.ref g.p,.ref t]) (_:AH a H g G) (_:GOk G) (_:H t=some (.tup [.int x,.int y,.int z,.int w])) (_:(Ak G x l/\Ak G y l/\Ak G z l/\Ak G w l)) (_:l<=47) (_:G.length<9000000) (_:∀(n:Nat)(G':Gv)(H':Hp),Fr g H H'->AH a H' g G'->AG G G' 1->G'[n]?=some ⟨[(x:Int),(y:Int),(z:Int),(w:Int)],l+1⟩->Q (.int n) H'):SA a vs H Q
def Ee(a:Ad):Sp:=λvs H Q _=>SA a vs H Q
theorem ok_link{f:Addr}{fd:FuncData}(F:Fun K "linked" "Grove.linked" EE f fd)(T:Top K mg a)(aO:BN P w K mg base CX0 1 a.c_Grove "kept" Er (OZ a)):AK P w K mg base CX0 2 f fd AN (Ee a):=by
 refine F.ok GR (λvs H Q E h=>?_) (λcdv A outer s H vs Q E hr h=>?_)
 ·obtain⟨g,G,t,x,y,z,w,l,rfl,_⟩:=h;rfl
 ·obtain⟨g,G,t,x,y,z,w,l,rfl,hg,ok,ht,⟨hx,hy,hz,hw⟩,h47,few,k⟩:=h;have hg0:=hg;obtain⟨h1,h2,⟨ts,h3,h4⟩,h5,h6⟩:=hg;refine⟨_,(Ab (Aq (i:=2) GR.nd rfl (Or.inl rfl) (JF (Ec hr) (Ax (pv 0) rfl) (pv 1) ⟨rfl,rfl,rfl,rfl⟩)) (Ab (AQ (AD Jk (pv 2) DI (AI _)) (Ag (Aw (AB (pv 0) aO (rm hr) An (Aa (pv 1) (Bq Bl (Aj Av (Ax (pv 0) rfl) (Aj Am (pv 1) Ae (λ_ _=>rfl)) (λ_ _=>rfl)) Ae Ac))))) AE) (Ag (Aw (pv 2))))),?_⟩
  try dsimp only[cxK]
  refine xwf rfl rfl h1 T.cl_Grove T.na_Grove_numbers (WL g) ⟨g.nm,rfl,.inr ⟨_,.inl h5⟩,(xq1 rfl ⟨_,EZ.t (k:=kOf [(x:Int),(y:Int),(z:Int),(w:Int)]) h5 (by rw[WA];exact ht),?_⟩)⟩;rcases PH [(x:Int),(y:Int),(z:Int),(w:Int)] G 0 with ⟨i,q,e1,e2,e3⟩|⟨e,new⟩
  ·rw[e3];refine xq1 rfl ⟨rfl,(xq1 rfl (Bw (xq1 rfl ?_)))⟩;rw[M7];refine k i G H (Fr.refl g H) hg0 ⟨ok,⟨[],by simp⟩,by lia⟩ ?_;have h8:8<=i:=by
    refine N5 λz'=>?_;rw[ok.leaf i z']at e1;cases e1;cases e2
   obtain⟨x',y',z',w',p1,⟨lx,_⟩,_⟩:=ok.node i q e1 h8;have exx:x'=x:=by
    rw[p1]at e2;injection e2 with e2 _
    exact W6 e2
   rw[exx]at lx;obtain⟨qa,a1,a2⟩:=lx;obtain⟨qb,b1,b2⟩:=hx;rw[a1]at b1;cases b1;have el:q.lev=l+1:=by lia
   rw[e1];cases q with
   |mk pp ll=>cases e2;cases el;rfl
  ·rw[e];refine xq1 rfl ⟨rfl,(xq1 rfl (CK ?_))⟩;obtain⟨q,e1,e2⟩:=id hx;refine xwn rfl rfl h1 (Pk g) rfl (xwf rfl rfl h1 T.cl_Grove T.na_Grove_levels (EW g) (xwi rfl rfl rfl (SqT.of ht) (Al (j:=0) rfl) (xq4 rfl rfl (SqL.of h2) (Al (by rw[B7,e1];rfl)) (xq2 rfl rfl ?_))));refine⟨g,G,t,[(x:Int),(y:Int),(z:Int),(w:Int)],l+1,by rw[<-e2];rfl,hg0,ht,new,few,λH' fr hg'=>?_⟩;refine k G.length _ H' fr hg' ⟨ok.snoc hx hy hz hw h47 new,⟨_,rfl⟩,by rw[C4];exact B6 _⟩ ?_;rw[F2 (B6 _),V4];rfl
inductive SpChk(a:Ad)(vs:List V)(H:Hp)(Q:VK):Prop
 |mk (g:GA) (G:Gv) (i:Nat) (_:vs=[.ref g.p,.int i]) (_:AH a H g G) (_:i<G.length) (_:Q .non H):SpChk a vs H Q
def SX(a:Ad):Sp:=λvs H Q _=>SpChk a vs H Q
theorem ok_chk{f:Addr}{fd:FuncData}(F:Fun K "check_square" "Grove.check_square" Cv f fd)(T:Top K mg a)(aJ:Cal P w K mg base CX0 1 "is_whole" DL Uf):AK P w K mg base CX0 2 f fd BR (SX a):=by
 refine F.ok GV (λvs H Q E h=>?_) (λcdv A outer s H vs Q E hr h=>?_)
 ·obtain⟨g,G,i,rfl,_⟩:=h;rfl
 ·obtain⟨g,G,i,rfl,hg,hi,k⟩:=h;refine⟨_,(Ag (AQ (PW.pt (MW (DH (DG (Au aJ (rm hr) rfl An (Aa (pv 1) Ac)))) (Ll (DH (QI JJ Io Ae (pv 1) (AS CF rfl T.b_len Z6 (Aa (Ax (pv 0) rfl) Ac))))))) (Ag AZ) AE)),?_⟩
  try dsimp only[cxK]
  refine⟨_,rfl,_,rfl,true,rfl,Bw ⟨_,rfl,_,_,rfl,rfl,_,rfl,?_⟩⟩;rw[V9 (by lia:(0:Int)<=(i:Int))];refine CK (xwf rfl rfl hg.hp T.cl_Grove T.na_Grove_levels (EW g) ⟨g.lv,(xq1 rfl ⟨.inl (SqL.of hg.lv),(xq2 rfl rfl (xq1 rfl ?_))⟩)⟩);rw[B5,V9 (by lia:(i:Int)<(G.length:Int))];exact Bw k
inductive Yo(a:Ad)(vs:List V)(H:Hp)(Q:VK):Prop
 |mk (p:Addr) (i:Int) (_:vs=[.ref p,.int i]) (_:0<=i) (_:i<8) (_:Q (.int i) H):Yo a vs H Q
def OX(a:Ad):Sp:=λvs H Q _=>Yo a vs H Q
theorem ok_leaf{f:Addr}{fd:FuncData}(F:Fun K "leaf" "Grove.leaf" Gq f fd)(T:Top K mg a)(aZ:Cal P w K mg base CX0 2 "is_state" Gz spIS):AK P w K mg base CX0 3 f fd Ep (OX a):=by
 refine F.ok NW (λvs H Q E h=>?_) (λcdv A outer s H vs Q E hr h=>?_)
 ·obtain⟨g,i,rfl,_⟩:=h;rfl
 ·obtain⟨g,i,rfl,h0,h1,k⟩:=h;exact⟨_,(Ab (AQ (DH (DG (Au aZ (rm hr) rfl An (Aa (pv 1) Ac)))) (Ag AZ) AE) (Ag (Aw (pv 1)))),(xq1 rfl ⟨i,rfl,h0,h1,true,rfl,Bw (xq1 rfl k)⟩)⟩
inductive SpLev(a:Ad)(vs:List V)(H:Hp)(Q:VK):Prop
 |mk (g:GA) (G:Gv) (i:Nat) (q:Sq) (_:vs=[.ref g.p,.int i]) (_:AH a H g G) (_:G[i]?=some q) (_:Q (.int q.lev) H):SpLev a vs H Q
def LP(a:Ad):Sp:=λvs H Q _=>SpLev a vs H Q
theorem ok_lev{f:Addr}{fd:FuncData}(F:Fun K "level_of" "Grove.level_of" DF f fd)(T:Top K mg a)(aC:BN P w K mg base CX0 2 a.c_Grove "check_square" BR (SX a)):AK P w K mg base CX0 3 f fd Bb (LP a):=by
 refine F.ok Jy (λvs H Q E h=>?_) (λcdv A outer s H vs Q E hr h=>?_)
 ·obtain⟨g,G,i,q,rfl,_⟩:=h;rfl
 ·obtain⟨g,G,i,q,rfl,hg,hi,k⟩:=h;refine⟨_,(Ab (CB (AB (pv 0) aC (rm hr) An (Aa (pv 1) Ac))) (Ag (Aw (Aj Av (Ax (pv 0) rfl) (pv 1) (λ_ _=>rfl))))),?_⟩
  try dsimp only[cxK]
  refine xwn rfl rfl hg.hp (QR g) rfl ⟨g,G,i,rfl,hg,(B4.mp hi).1,?_⟩;exact xwf rfl rfl hg.hp T.cl_Grove T.na_Grove_levels (EW g) (xwi rfl rfl rfl (SqL.of hg.lv) (Al (by rw[B7,hi];rfl)) k)
inductive SpSta(a:Ad)(vs:List V)(H:Hp)(Q:VK):Prop
 |mk (g:GA) (G:Gv) (i:Nat) (q:Sq) (_:vs=[.ref g.p,.int i]) (_:AH a H g G) (_:G[i]?=some q) (_:q.lev=0) (_:Q (.int i) H):SpSta a vs H Q
def Vo(a:Ad):Sp:=λvs H Q _=>SpSta a vs H Q
theorem ok_sta{f:Addr}{fd:FuncData}(F:Fun K "state_of" "Grove.state_of" DE f fd)(T:Top K mg a)(a9:BN P w K mg base CX0 3 a.c_Grove "level_of" Bb (LP a)):AK P w K mg base CX0 4 f fd DO (Vo a):=by
 refine F.ok Jx (λvs H Q E h=>?_) (λcdv A outer s H vs Q E hr h=>?_)
 ·obtain⟨g,G,i,q,rfl,_⟩:=h;rfl
 ·obtain⟨g,G,i,q,rfl,hg,hi,h0,k⟩:=h;refine⟨_,(Ab (AQ (AD JI (AB (pv 0) a9 (rm hr) An (Aa (pv 1) Ac)) Ae (AI _)) (Ag AZ) AE) (Ag (Aw (pv 1)))),?_⟩
  try dsimp only[cxK]
  refine xwn rfl rfl hg.hp (DP g) rfl ⟨g,G,i,q,rfl,hg,hi,rfl,(xq1 rfl ?_)⟩;rw[h0];exact Tu rfl (xq1 rfl k)
end
end J
namespace J
open PySem L2
section
variable{P:Program}{w:World}{K:PySem.W.Frag}{mg:Str->Option Value}{base:Heap}{a:Ad}
end
def bareN:Nat->Nat
 |0=>0
 |j+1=>8+j
def Df(n:Nat):Gv:=(List.range n).map λ(s:Nat)=>(⟨[(s:Int)],0⟩:Sq)
def EX(n:Nat):Gv:=(List.range n).map λ(j:Nat)=>(⟨[(bareN j:Int),(bareN j:Int),(bareN j:Int),(bareN j:Int)],(j:Int)+1⟩:Sq)
def G0:Gv:=Df 8++EX 48
theorem Si(n:Nat):Df (n+1)=Df n++[⟨[(n:Int)],0⟩]:=by unfold Df;rw[U0,C7];rfl
theorem NJ(n:Nat):EX (n+1)=EX n++[⟨[(bareN n:Int),(bareN n:Int),(bareN n:Int),(bareN n:Int)],(n:Int)+1⟩]:=by unfold EX;rw[U0,C7];rfl
theorem Eu(n:Nat):(Df n).length=n:=by unfold Df;rw[B5,O2]
theorem OO(n:Nat):(EX n).length=n:=by unfold EX;rw[B5,O2]
theorem Va{i j:Nat}(h:bareN i=bareN j):i=j:=by
 cases i<;>cases j
 ·rfl
 ·have:0=8+_:=h;lia
 ·have:8+_=0:=h;lia
 ·have:8+_=8+_:=h;lia
theorem UH(n:Nat):∀q∈Df n,q.parts≠[(n:Int)]:=λq hq z=>by
 obtain⟨s,hs,rfl⟩:=D1.mp hq;have:=J9.mp hs;injection z with z _
 have:s=n:=W6 z;lia
theorem ON(n:Nat):∀q∈Df 8++EX n,q.parts≠[(bareN n:Int),(bareN n:Int),(bareN n:Int),(bareN n:Int)]:=λq hq z=>by
 rcases D4.mp hq with hq|hq
 ·obtain⟨s,hs,rfl⟩:=D1.mp hq;cases z
 ·obtain⟨s,hs,rfl⟩:=D1.mp hq;have:=J9.mp hs;injection z with z _
  have:=Va (W6 z);lia
theorem PM:G0.length=56:=by unfold G0;rw[C4,Eu,OO]
theorem Ms(j:Nat)(h:j<48):G0[8+j]?=some ⟨[(bareN j:Int),(bareN j:Int),(bareN j:Int),(bareN j:Int)],(j:Int)+1⟩:=by
 unfold G0;rw[F2 (by rw[Eu];lia),Eu,show 8+j-8=j by lia];unfold EX;rw[B7,P3 h];rfl
theorem PN(s:Nat)(h:s<8):G0[s]?=some ⟨[(s:Int)],0⟩:=by
 unfold G0;rw[J8 (by rw[Eu];exact h)];unfold Df;rw[B7,P3 h];rfl
theorem WJ(j:Nat)(h:j<=48):Ak G0 (bareN j) (j:Int):=by
 cases j with
 |zero=>exact⟨_,PN 0 A3,rfl⟩
 |succ j=>exact⟨_,Ms j A0,rfl⟩
theorem g0_nd:∀n,((Df 8++EX n).map Sq.parts).Nodup
 |0=>by decide
 |n+1=>by
  rw[NJ,<-O7,C7,O6];refine⟨g0_nd n,by simp,λp hp p' hp'=>?_⟩;obtain⟨q,hq,rfl⟩:=D1.mp hp;rw[show p'=[(bareN n:Int),(bareN n:Int),(bareN n:Int),(bareN n:Int)] by simpa using hp'];exact ON n q hq
theorem g0_ok:GOk G0 where
 leaf:=PN
 node:=λi q e h8=>by
  have hi:i<56:=by rw[<-PM];exact(B4.mp e).1
  obtain⟨j,rfl⟩:∃j,i=8+j:=⟨i-8,by lia⟩
  rw[Ms j A0]at e;cases e;have:=WJ j A0;refine⟨bareN j,bareN j,bareN j,bareN j,rfl,?_,?_,?_⟩
  ·show Ak G0 _ ((j:Int)+1-1)/\Ak G0 _ ((j:Int)+1-1)/\Ak G0 _ ((j:Int)+1-1)/\Ak G0 _ ((j:Int)+1-1);rw[show(j:Int)+1-1=(j:Int) by lia];exact⟨this,this,this,this⟩
  ·show 1<=(j:Int)+1;lia
  ·show(j:Int)+1<=48;lia
 nd:=g0_nd 48
def amK(n:Nat):List (Key×V):=(List.range n).map λ(s:Nat)=>(Sum.inl (s:Int),V.int (if(1:Int)<(s:Int)then 1 else(s:Int)))
theorem Rx(n:Nat):amK (n+1)=amK n++[(Sum.inl (n:Int),V.int (if(1:Int)<(n:Int)then 1 else(n:Int)))]:=by unfold amK;rw[U0,C7];rfl
theorem amK_len(n:Nat):(amK n).length=n:=by unfold amK;rw[B5,O2]
theorem OQ{κ:Type}[DecidableEq κ]{k:κ}:∀{l m:List (κ×V)},Bu l k=none->Bu (l++m) k=Bu m k
 |[],_,_=>rfl
 |p::r,m,h=>by
  by_cases e:p.1=k
  ·rw[BE e]at h;cases h
  ·rw[Bh e]at h;show Bu (p::(r++m)) k=_;rw[Bh e];exact OQ h
theorem Ry(n:Nat):∀m,n<=m->Bu (amK n) (Sum.inl (m:Int))=none:=by
 induction n with
 |zero=>intro m _;rfl
 |succ n ih =>
  intro m hm;rw[Rx,OQ (ih m A0),Bh (by intro z;injection z with z;have:=W6 z;lia)];rfl
def Cy(n:Nat):List Int:=(List.range (n+1)).map λj=>((bareN j:Nat):Int)
theorem NK(n:Nat):Cy (n+1)=Cy n++[((bareN (n+1):Nat):Int)]:=by unfold Cy;rw[U0,C7];rfl
theorem Sz(n:Nat):(Cy n).getLast?=some ((bareN n:Nat):Int):=by
 cases n with
 |zero=>rfl
 |succ n=>rw[NK,List.getLast?_append];rfl
theorem Ye{xs:List V}{x:V}(h:xs.getLast?=some x):atI xs (-1)=some x:=by
 obtain⟨ys,rfl⟩:=List.getLast?_eq_some_iff.mp h;unfold atI ixN;rw[V8 A3,W2 (by rw[C4,M4];lia)];show(ys++[x])[((-1:Int)+((ys++[x]).length:Nat)).toNat]?=some x;rw[C4,M4,show((-1:Int)+((ys.length+1:Nat):Int)).toNat=ys.length by lia,F2 (B6 _),V4];rfl
seal L2.PA L2.PE L2.PS L2.PSs L2.PT L2.PW
structure RC(a:Ad)(H H':Hp)(g:GA)(G:Gv)(B:List Int)(am:List (Key×V)):Prop where
 kp:∀b o,H b=some o->b≠g.p->H' b=some o
 at':AH a H' g G
 br:H' g.br=some (.lst (B.map V.int))
 am:H' g.am=some (.dK am)
 bx:H' g.bx=some (.dK [])
 fresh:H g.lv=none/\H g.pt=none/\H g.nm=none/\H g.br=none/\H g.am=none/\H g.bx=none
 n1:g.br≠g.lv
 n2:g.br≠g.pt
 n3:g.am≠g.bx
section
variable{P:Program}{w:World}{K:PySem.W.Frag}{mg:Str->Option Value}{base:Heap}{a:Ad}
inductive TU(a:Ad)(vs:List V)(H:Hp)(Q:VK):Prop
 |mk (p dx:Addr) (_:vs=[.ref p]) (_:H p=some (.ins a.c_Grove dx [])) (_:∀(g:GA)(H':Hp),g.p=p->RC a H H' g G0 (Cy 48) (amK 8)->Q .non H'):TU a vs H Q
def Pc(a:Ad):Sp:=λvs H Q _=>TU a vs H Q
theorem We{f:Addr}{fd:FuncData}(F:Fun K "__init__" "Grove.__init__" Gs f fd)(T:Top K mg a)(aO:BN P w K mg base CX0 1 a.c_Grove "kept" Er (OZ a)):AK P w K mg base CX0 2 f fd GH (Pc a):=by
 refine F.ok DQ (λvs H Q E h=>?_) (λcdv A outer s H vs Q E hr h=>?_)
 ·obtain⟨p,dx,rfl,_⟩:=h;rfl
 ·obtain⟨p,dx,rfl,hp,k⟩:=h;refine⟨_,(Ab (Cc (pv 0) (CY Ac) rfl) (Ab (Cc (pv 0) (CY Ac) rfl) (Ab (Cc (pv 0) JD rfl) (Ab (Cc (pv 0) (CY (AX Ac)) rfl) (Ab (Cc (pv 0) JE rfl) (Ab (Cc (pv 0) JE rfl) (Ab (EH Y4 rfl (Lo rfl T.b_range (Aa (BP rfl T.k_STATES) Ac)) (BO (i:=1) DQ.nd rfl (Or.inl rfl)) (Ab (CB (AB (pv 0) aO (rm hr) An (Bo (Aa (pv 1) Ac) (AX Ac)))) (Ag (Fe (Ec hr) (Ax (pv 0) rfl) (pv 1) (AS (UX rfl) rfl T.b_min A1b (Aa (pv 1) (AX Ac))) rfl)))) (Ag (EH Y4 rfl (Um rfl T.b_range (AX (Bq Bl (BP rfl T.k_TOP_LEVEL) Ae Ac))) (BO (i:=2) DQ.nd rfl (Or.inl rfl)) (Ab (Aq (i:=3) DQ.nd rfl (Or.inl rfl) (Aj Av (Ax (pv 0) rfl) (Fj Di Ae) (λ_ _=>rfl))) (Ag (CB (GS Z0 Z2 Z3 Et (Ax (pv 0) rfl) (Aa (AB (pv 0) aO (rm hr) An (Bo (Aa (pv 3) (Aa (pv 3) (Aa (pv 3) (Aa (pv 3) Ac)))) (Aa (pv 2) Ac))) Ac)))))))))))))),?_⟩
  try dsimp only[cxK]
  have stp:∀{Hk:Hp}{x:Addr}{o:HO}{fs fs':List (Str×V)},Hk p=some (.ins a.c_Grove dx fs)->Hk x=none->(∀b v,Hk b=some v->b≠p->upd (upd Hk x o) p (.ins a.c_Grove dx fs') b=some v)/\upd (upd Hk x o) p (.ins a.c_Grove dx fs') x=some o/\upd (upd Hk x o) p (.ins a.c_Grove dx fs') p=some (.ins a.c_Grove dx fs')/\upd Hk x o p=some (.ins a.c_Grove dx fs):=λ{Hk x o fs fs'} e1 e2=>by
   have n:x≠p:=λz=>by rw[z,e1]at e2;cases e2
   exact⟨λb v e nb=>by rw[Ao nb,Ao (Ar e e2)];exact e,by rw[Ao n];exact Af,Af,by rw[Ao (W4 n)];exact e1⟩
  refine Br ?_;intro r_k_ s_k_ k_ hk_ E_k_;refine⟨(by show 0<=sizeLine;decide),λlv hlv=>?_⟩;obtain⟨k1,x1,p1,q1⟩:=stp (o:=.lst []) (fs':=AM "levels" (.ref lv) []) hp hlv;refine xq1 rfl ⟨p,_,dx,[],rfl,q1,T.cl_Grove,T.na_Grove_levels,B0,?_⟩;show k_ _ _;generalize upd (upd H lv _) p _=H1 at k1 x1 p1⊢;refine hk_ ?_;refine Br ?_;intro r_k_ s_k_ k_ hk_ E_k_;refine⟨(by show 0<=sizeLine;decide),λpt hpt=>?_⟩;obtain⟨k2,x2,p2,q2⟩:=stp (o:=.lst []) (fs':=AM "parts" (.ref pt) (AM "levels" (.ref lv) [])) p1 hpt;refine xq1 rfl ⟨p,_,dx,(xq1 rfl ⟨q2,T.cl_Grove,T.na_Grove_parts,B1,?_⟩)⟩;show k_ _ _;generalize upd (upd H1 pt _) p _=H2 at k2 x2 p2⊢;refine hk_ ?_;refine Br ?_;intro r_k_ s_k_ k_ hk_ E_k_;intro nm hnm;obtain⟨k3,x3,p3,q3⟩:=stp (o:=.dT []) (fs':=AM "numbers" (.ref nm) (AM "parts" (.ref pt) (AM "levels" (.ref lv) []))) p2 hnm;refine xq1 rfl ⟨p,_,dx,(xq1 rfl ⟨q3,T.cl_Grove,T.na_Grove_numbers,(by show 2<1000;decide),?_⟩)⟩;show k_ _ _;generalize upd (upd H2 nm _) p _=H3 at k3 x3 p3⊢;refine hk_ ?_;refine Br ?_;intro r_k_ s_k_ k_ hk_ E_k_;refine⟨(by show 1<=sizeLine;decide),λbr hbr=>?_⟩;obtain⟨k4,x4,p4,q4⟩:=stp (o:=.lst [.int 0]) (fs':=AM "bares" (.ref br) (AM "numbers" (.ref nm) (AM "parts" (.ref pt) (AM "levels" (.ref lv) [])))) p3 hbr;refine xq1 rfl ⟨p,_,dx,(xq1 rfl ⟨q4,T.cl_Grove,T.na_Grove_bares,(by show 3<1000;decide),?_⟩)⟩;show k_ _ _;generalize upd (upd H3 br _) p _=H4 at k4 x4 p4⊢;refine hk_ ?_;refine Br ?_;intro r_k_ s_k_ k_ hk_ E_k_;intro am ham;obtain⟨k5,x5,p5,q5⟩:=stp (o:=.dK []) (fs':=AM "amounts" (.ref am) (AM "bares" (.ref br) (AM "numbers" (.ref nm) (AM "parts" (.ref pt) (AM "levels" (.ref lv) []))))) p4 ham;refine xq1 rfl ⟨p,_,dx,(xq1 rfl ⟨q5,T.cl_Grove,T.na_Grove_amounts,(by show 4<1000;decide),?_⟩)⟩;show k_ _ _;generalize upd (upd H4 am _) p _=H5 at k5 x5 p5⊢;refine hk_ ?_;refine Br ?_;intro r_k_ s_k_ k_ hk_ E_k_;intro bx hbx;obtain⟨k6,x6,p6,q6⟩:=stp (o:=.dK []) (fs':=fl6 ⟨p,dx,lv,pt,nm,br,am,bx⟩) p5 hbx;refine xq1 rfl ⟨p,_,dx,(xq1 rfl ⟨q6,T.cl_Grove,T.na_Grove_boxes,(by show 5<1000;decide),?_⟩)⟩;show k_ _ (upd (upd H5 bx (.dK [])) p (.ins a.c_Grove dx (fl6 ⟨p,dx,lv,pt,nm,br,am,bx⟩)));generalize upd (upd H5 bx _) p _=H6 at k6 x6 p6⊢;refine hk_ ?_;have f26:∀b v,H1 b=some v->b≠p->H6 b=some v:=λb v e n=>k6 _ _ (k5 _ _ (k4 _ _ (k3 _ _ (k2 _ _ e n) n) n) n) n;have f36:∀b v,H2 b=some v->b≠p->H6 b=some v:=λb v e n=>k6 _ _ (k5 _ _ (k4 _ _ (k3 _ _ e n) n) n) n;have f46:∀b v,H3 b=some v->b≠p->H6 b=some v:=λb v e n=>k6 _ _ (k5 _ _ (k4 _ _ e n) n) n;have f56:∀b v,H4 b=some v->b≠p->H6 b=some v:=λb v e n=>k6 _ _ (k5 _ _ e n) n;have np:∀{Hk:Hp}{x:Addr}{fs:List (Str×V)},Hk p=some (.ins a.c_Grove dx fs)->Hk x=none->x≠p:=λ{Hk x fs} e1 e2 z=>by rw[z,e1]at e2;cases e2
  have no:∀{Hk Hm:Hp}{x y:Addr}{v:HO},Hk x=some v->Hk y=none->x≠y:=λ{Hk Hm x y v} e1 e2=>Ar e1 e2;have nlv:=np hp hlv;have npt:=np p1 hpt;have nnm:=np p2 hnm;have nbr:=np p3 hbr;have nam:=np p4 ham;have nbx:=np p5 hbx;have y1:=f26 _ _ x1 nlv;have y2:=f36 _ _ x2 npt;have y3:=f46 _ _ x3 nnm;have y4:=f56 _ _ x4 nbr;have y5:=k6 _ _ x5 nam;have back:∀{Hk:Hp}{x:Addr},(∀b v,H b=some v->b≠p->Hk b=some v)->x≠p->Hk x=none->H x=none:=λ{Hk x} kp n e=>by
   cases h:H x with
   |none=>rfl
   |some v=>rw[kp _ _ h n]at e;cases e
  have c2:∀b v,H b=some v->b≠p->H2 b=some v:=λb v e n=>k2 _ _ (k1 _ _ e n) n;have c3:∀b v,H b=some v->b≠p->H3 b=some v:=λb v e n=>k3 _ _ (c2 _ _ e n) n;have c4:∀b v,H b=some v->b≠p->H4 b=some v:=λb v e n=>k4 _ _ (c3 _ _ e n) n;have c5:∀b v,H b=some v->b≠p->H5 b=some v:=λb v e n=>k5 _ _ (c4 _ _ e n) n;have c6:∀b v,H b=some v->b≠p->H6 b=some v:=λb v e n=>k6 _ _ (c5 _ _ e n) n;have d1:lv≠pt:=Ar x1 hpt;have d2:br≠lv:=W4 (Ar (k3 _ _ (k2 _ _ x1 nlv) nlv) hbr);have d3:br≠pt:=W4 (Ar (k3 _ _ x2 npt) hbr);have d4:am≠bx:=Ar x5 hbx;have N0:RC a H H6 ⟨p,dx,lv,pt,nm,br,am,bx⟩ (Df 0) (Cy 0) (amK 0):=⟨c6,⟨p6,y1,⟨[],y2,.nil⟩,y3,d1⟩,y4,y5,x6,⟨hlv,back k1 npt hpt,back c2 nnm hnm,back c3 nbr hbr,back c4 nam ham,back c5 nbx hbx⟩,d2,d3,d4⟩
  have k':=k ⟨p,dx,lv,pt,nm,br,am,bx⟩;have gp:(⟨p,dx,lv,pt,nm,br,am,bx⟩:GA).p=p:=rfl;generalize (⟨p,dx,lv,pt,nm,br,am,bx⟩:GA)=g at N0 k' gp;subst gp;clear k p6 q6 q5 q4 q3 q2 q1 y1 y2 y3 y4 y5 x6 c6 c5 c4 c3 c2 f26 f36 f46 f56 k1 k2 k3 k4 k5 k6 x1 x2 x3 x4 x5 p1 p2 p3 p4 p5 d1 d2 d3 d4 nlv npt nnm nbr nam nbx hbx ham hbr hnm hpt hlv back no np stp;refine⟨8,rfl,by decide,by decide,?_⟩;refine LE (n:=8) (λi σ H7=>∃u1:Option V,σ=[some (.ref g.p),u1,none,none]/\RC a H H7 g (Df i) (Cy 0) (amK i)) ⟨none,rfl,N0⟩ ?_ ?_
  ·rintro i σ H7 hi ⟨u1,rfl,N⟩;obtain⟨kp,at',hbr,ham,hbx,fresh,n1,n2,n3⟩:=N;have cl:(i:Int)=0+(i:Int):=(Int.zero_add _).symm;refine xq1 rfl ⟨g.p,g.dx,(xq1 rfl ⟨at'.hp,Pk g,(xq1 rfl ⟨(by show 1<=sizeLine;decide),λt ht=>?_⟩)⟩)⟩;have s1:=AJ (o:=.tup [.int (0+(i:Int))]) ht;refine⟨g,Df i,t,[0+(i:Int)],0,rfl,at'.same s1,Af,by rw[<-cl];exact UH i,by rw[Eu];lia,λH8 fr at8=>?_⟩;rw[<-cl,<-Si]at at8;have fr':Fr g H7 H8:=(AA.fr s1).trans fr;obtain⟨ts,h3,h4⟩:=at'.pt;have kd:∀(b:Addr)(kvs:List (Key×V)),H7 b=some (.dK kvs)->H8 b=some (.dK kvs):=λb kvs e=>fr' _ _ e (Ay e at'.lv A2) (Ay e h3 A2) (Ay e at'.nm A2);have ham8:=kd _ _ ham;refine xq1 rfl ⟨_,_,rfl,(xwf rfl rfl at8.hp T.cl_Grove T.na_Grove_amounts (fl6_am g) (xq1 rfl ⟨g.am,(xq1 rfl ⟨Jq.k (k:=Sum.inl (0+(i:Int))) ham8 (by rw[amK_len];exact FR A0),?_⟩)⟩))⟩;rw[<-cl,JC _ (Ry i i (B6 _)),<-Rx];have other:∀{b:Addr}{v:HO},H8 b=some v->b≠g.am->upd H8 g.am (.dK (amK (i+1))) b=some v:=λ{b v} e n=>by rw[Ao n];exact e
   have na:∀{b:Addr}{v:HO},H8 b=some v->v≠.dK (amK i)->b≠g.am:=λ{b v} e n=>Ay e ham8 n;obtain⟨ts8,h38,h48⟩:=at8.pt;refine xq1 rfl ⟨?_,⟨other at8.hp (na at8.hp A2),other at8.lv (na at8.lv A2),⟨ts8,other h38 (na h38 A2),PairedM.imp (λc q z=>other z (na z A2)) h48⟩,other at8.nm (na at8.nm A2),at8.ne⟩,?_,Af,?_,fresh,n1,n2,n3⟩
   ·intro b v e nb;have e8:H8 b=some v:=fr' _ _ (kp _ _ e nb) (Ar e fresh.1) (Ar e fresh.2.1) (Ar e fresh.2.2.1);exact other e8 (Ar e fresh.2.2.2.2.1)
   ·have e8:H8 g.br=_:=fr' _ _ hbr n1 n2 (Ay hbr at'.nm A2);exact other e8 (na e8 A2)
   ·exact other (kd _ _ hbx) (W4 n3)
  ·rintro σ H7 ⟨u1,rfl,N⟩;refine xq2 rfl rfl ⟨1,49,rfl,⟨by decide,by decide,by decide,by decide⟩,?_⟩;have N0:RC a H H7 g (Df 8++EX 0) (Cy 0) (amK 8):=by rw[show Df 8++EX 0=Df 8 from List.append_nil _];exact N
   clear N;refine LE (lo:=1) (n:=48) (λj σ H8=>∃u2 u3:Option V,σ=[some (.ref g.p),u1,u2,u3]/\RC a H H8 g (Df 8++EX j) (Cy j) (amK 8)) ⟨none,none,rfl,N0⟩ ?_ ?_
   ·rintro j σ H8 hj ⟨u2,u3,rfl,N⟩;obtain⟨kp,at',hbr,ham,hbx,fresh,n1,n2,n3⟩:=N;refine xwf rfl rfl at'.hp T.cl_Grove T.na_Grove_bares (Iw g) (xwi rfl rfl rfl (SqL.of hbr) (Ye (by rw[List.getLast?_map,Sz];rfl)) ?_);refine xwf rfl rfl at'.hp T.cl_Grove T.na_Grove_bares (Iw g) ⟨.inl ⟨rfl,_,SqL.of hbr⟩,(xq1 rfl ⟨g.p,g.dx,(xq1 rfl ⟨at'.hp,Pk g,(xw3 rfl rfl rfl (xq1 rfl ⟨(by show 4<=sizeLine;decide),λt ht=>(xq1 rfl ?_)⟩))⟩)⟩)⟩;have s1:=AJ (o:=.tup [.int (bareN j:Int),.int (bareN j:Int),.int (bareN j:Int),.int (bareN j:Int)]) ht;have ln:(Df 8++EX j).length=8+j:=by rw[C4,Eu,OO]
    refine⟨g,Df 8++EX j,t,[(bareN j:Int),(bareN j:Int),(bareN j:Int),(bareN j:Int)],1+(j:Int),rfl,at'.same s1,Af,ON j,by rw[ln];lia,λH9 fr at9=>?_⟩;rw[show(1:Int)+(j:Int)=(j:Int)+1 by lia,O7,<-NJ]at at9;have fr':Fr g H8 H9:=(AA.fr s1).trans fr;obtain⟨ts,h3,h4⟩:=at'.pt;have kd:∀(b:Addr)(kvs:List (Key×V)),H8 b=some (.dK kvs)->H9 b=some (.dK kvs):=λb kvs e=>fr' _ _ e (Ay e at'.lv A2) (Ay e h3 A2) (Ay e at'.nm A2);have hbr9:H9 g.br=_:=fr' _ _ hbr n1 n2 (Ay hbr at'.nm A2);refine⟨g.br,(xq2 rfl rfl ⟨hbr9,by rw[B5];unfold Cy;rw[B5,O2];exact FR A0,?_⟩)⟩;have eb:(Cy j).map V.int++[V.int ((Df 8++EX j).length:Int)]=(Cy (j+1)).map V.int:=by rw[NK,C7,ln];rfl
    rw[eb];have other:∀{b:Addr}{v:HO},H9 b=some v->v≠.lst ((Cy j).map V.int)->upd H9 g.br (.lst ((Cy (j+1)).map V.int)) b=some v:=λ{b v} e n=>by rw[Ao (Ay e hbr9 n)];exact e
    refine⟨_,_,rfl,?_,at9.put hbr9 n1 n2,Af,other (kd _ _ ham) A2,other (kd _ _ hbx) A2,fresh,n1,n2,n3⟩;intro b v e nb;rw[Ao (Ar e fresh.2.2.2.1)];exact fr' _ _ (kp _ _ e nb) (Ar e fresh.1) (Ar e fresh.2.1) (Ar e fresh.2.2.1)
   ·rintro σ H8 ⟨u2,u3,rfl,N⟩;exact k' H8 rfl N
end
end J
namespace J
open PySem L2
theorem Ak.uniq{G:Gv}{i:Nat}{l m:Int}(h:Ak G i l)(h2:Ak G i m):l=m:=by
 obtain⟨q,e,z⟩:=h;obtain⟨p,e2,z2⟩:=h2;rw[e]at e2;cases e2;exact z.symm.trans z2
structure GN(G:Gv)(n i:Nat)(q:Sq)(x y z w:Nat):Prop where
 g:G[i]?=some q
 ps:q.parts=[(x:Int),(y:Int),(z:Int),(w:Int)]
 lev:q.lev=(n:Int)+1
 hx:Ak G x n
 hy:Ak G y n
 hz:Ak G z n
 hw:Ak G w n
theorem BH{G:Gv}(ok:GOk G){n i:Nat}(h:Ak G i ((n+1:Nat):Int)):∃q x y z w,GN G n i q x y z w:=by
 obtain⟨q,e,el⟩:=h;have n8:8<=i:=by
  refine N5 λl8=>?_;rw[ok.leaf i l8]at e;cases e;have:(0:Int)=((n+1:Nat):Int):=el;lia
 obtain⟨x,y,z,w,ep,⟨hx,hy,hz,hw⟩,_,_⟩:=ok.node i q e n8;have en:q.lev-1=(n:Int):=by lia
 rw[en]at hx hy hz hw;exact⟨q,x,y,z,w,e,ep,by lia,hx,hy,hz,hw⟩
theorem GN.app{G G':Gv}{k n i:Nat}{q:Sq}{x y z w:Nat}(go:AG G G' k)(h:GN G n i q x y z w):GN G' n i q x y z w:=⟨go.get h.g,h.ps,h.lev,go.lev h.hx,go.lev h.hy,go.lev h.hz,go.lev h.hw⟩
def Dc(G:Gv):Nat->Nat->Int
 |0,i=>if i=0 then 0 else 1
 |n+1,i=>match G[i]? with
  |some q=>(q.parts.map λp=>Dc G n p.toNat).sum
  |none=>0
theorem II{G:Gv}{n i:Nat}{q:Sq}{x y z w:Nat}(h:GN G n i q x y z w):Dc G (n+1) i=([x,y,z,w].map λk=>Dc G n k).sum:=by
 rw[show Dc G (n+1) i=(match G[i]? with|some q=>(q.parts.map λ(p:Int)=>Dc G n p.toNat).sum|none=>0)from rfl,h.g];show(q.parts.map λ(p:Int)=>Dc G n p.toNat).sum=_;rw[h.ps];rfl
theorem Ix{G G':Gv}{k:Nat}(ok:GOk G)(go:AG G G' k):∀(n i:Nat),Ak G i (n:Int)->Dc G' n i=Dc G n i
 |0,i,_=>rfl
 |n+1,i,h=>by
  obtain⟨q,x,y,z,w,nd⟩:=BH ok h;rw[II nd,II (nd.app go)];show Dc G' n x+(Dc G' n y+(Dc G' n z+(Dc G' n w+0)))=_;rw[Ix ok go n x nd.hx,Ix ok go n y nd.hy,Ix ok go n z nd.hz,Ix ok go n w nd.hw];rfl
theorem Es(G:Gv):∀(n i:Nat),0<=Dc G n i
 |0,i=>by
  show 0<=if i=0 then(0:Int)else 1;split<;>lia
 |n+1,i=>by
  unfold Dc;split
  ·rename_i q _;have:∀l:List Int,0<=(l.map λp=>Dc G n p.toNat).sum:=by
    intro l;induction l with
    |nil=>exact V0 0
    |cons p r ih=>rw[F1,N3];have:=Es G n p.toNat;lia
   exact this _
  ·exact V0 0
theorem LF:∀(n:Nat)(l:List Nat),l.Nodup->(∀x∈l,x<n)->l.length<=n
 |0,l,_,h=>by
  cases l with
  |nil=>exact B6 0
  |cons x r=>exact absurd (h x C0) (L7 _)
 |n+1,l,nd,h=>by
  by_cases hm:n∈l
  ·have:=LF n (l.erase n) (nd.erase n) λx hx=>by
    have h1:=(nd.mem_erase_iff).mp hx;have:=h x h1.2;have:=h1.1;lia
   rw[List.length_erase_of_mem hm]at this;lia
  ·have:=LF n l nd λx hx=>by
    have:=h x hx;have:x≠n:=λz=>hm (z▸hx);lia
   lia
structure FN(G:Gv)(ks:List (Key×V)):Prop where
 nd:(ks.map Prod.fst).Nodup
 lt:∀k∈ks.map Prod.fst,∃i:Nat,i<G.length/\k=Sum.inl (i:Int)
theorem FN.len{G:Gv}{ks:List (Key×V)}(h:FN G ks):ks.length<=G.length:=by
 let f:Key->Nat:=λk=>match k with|.inl i=>i.toNat|.inr _=>0
 have:=LF G.length ((ks.map Prod.fst).map f) (by
  rw[List.nodup_iff_pairwise_ne,List.pairwise_map];refine List.Pairwise.imp_of_mem (λ{a b} ha hb hne z=>hne ?_) (List.nodup_iff_pairwise_ne.mp h.nd);obtain⟨i,_,rfl⟩:=h.lt a ha;obtain⟨j,_,rfl⟩:=h.lt b hb;have:(i:Int).toNat=(j:Int).toNat:=z;rw[J1,J1]at this;rw[this]) (λx hx=>by
  obtain⟨k,hk,rfl⟩:=D1.mp hx;obtain⟨i,hi,rfl⟩:=h.lt k hk;show(i:Int).toNat<_;rw[J1];exact hi)
 rw[B5,B5]at this;exact this
theorem FN.app{G G':Gv}{ks:List (Key×V)}(le:G.length<=G'.length)(h:FN G ks):FN G' ks:=⟨h.nd,λk hk=>by
 obtain⟨i,hi,e⟩:=h.lt k hk;exact⟨i,by lia,e⟩⟩
theorem FN.put{G:Gv}{ks:List (Key×V)}(h:FN G ks){i:Nat}(hi:i<G.length)(v:V):FN G (Dw ks (Sum.inl (i:Int)) v):=by
 unfold Dw;by_cases a:(ks.any λkv=>decide (kv.1=Sum.inl (i:Int)))=true
 ·rw[W2 a];have e:(ks.map λkv=>if kv.1=Sum.inl (i:Int)then(kv.1,v)else kv).map Prod.fst=ks.map Prod.fst:=by
   rw[Q0];refine List.map_congr_left λkv _=>?_;show(if kv.1=Sum.inl (i:Int)then(kv.1,v)else kv).1=kv.1;split<;>rfl
  exact⟨by rw[e];exact h.nd,by rw[e];exact h.lt⟩
 ·rw[V8 a];refine⟨?_,λk hk=>?_⟩
  ·rw[C7,O6];refine⟨h.nd,by simp,λk hk k' hk' z=>a ?_⟩;have:k'=Sum.inl (i:Int):=by simpa using hk'
   subst this;subst z;obtain⟨kv,h1,h2⟩:=D1.mp hk;exact List.any_eq_true.mpr ⟨kv,h1,V9 h2⟩
  ·rw[C7]at hk;rcases D4.mp hk with z|z
   ·exact h.lt k z
   ·exact⟨i,hi,by simpa using z⟩
structure Yv(G:Gv)(ks:List (Key×V)):Prop where
 keys:FN G ks
 leaf:∀s:Nat,s<8->∃v,Bu ks (Sum.inl (s:Int))=some v
 val:∀(i:Nat) v,Bu ks (Sum.inl (i:Int))=some v->∃l:Nat,Ak G i l/\v=.int (Dc G l i)
theorem Yv.app{G G':Gv}{k:Nat}{ks:List (Key×V)}(ok:GOk G)(go:AG G G' k)(h:Yv G ks):Yv G' ks:=⟨h.keys.app (by obtain⟨r,e⟩:=go.pre;rw[e,C4];lia),h.leaf,λi v e=>by
 obtain⟨l,h1,h2⟩:=h.val i v e;exact⟨l,go.lev h1,by rw[Ix ok go l i h1];exact h2⟩⟩
theorem am0:Yv G0 (amK 8) where
 keys:=⟨by decide +kernel,λk hk=>by
  obtain⟨p,hp,rfl⟩:=D1.mp hk;obtain⟨s,hs,rfl⟩:=D1.mp hp;have:=J9.mp hs;exact⟨s,by rw[PM];lia,rfl⟩⟩
 leaf:=λs hs=>by
  match s,hs with
  |0,_=>exact⟨_,rfl⟩
  |1,_=>exact⟨_,rfl⟩
  |2,_=>exact⟨_,rfl⟩
  |3,_=>exact⟨_,rfl⟩
  |4,_=>exact⟨_,rfl⟩
  |5,_=>exact⟨_,rfl⟩
  |6,_=>exact⟨_,rfl⟩
  |7,_=>exact⟨_,rfl⟩
 val:=λi v e=>by
  have hi:i<8:=by
   refine S6 λz=>?_;rw[Ry 8 i z]at e;cases e
  refine⟨0,⟨_,PN i hi,rfl⟩,?_⟩
  match i,hi with
  |0,_=>cases e;rfl
  |1,_=>cases e;rfl
  |2,_=>cases e;rfl
  |3,_=>cases e;rfl
  |4,_=>cases e;rfl
  |5,_=>cases e;rfl
  |6,_=>cases e;rfl
  |7,_=>cases e;rfl
structure Bx where
 l:Int
 t:Int
 w:Int
 h:Int
def Bx.ns(b:Bx):List Int:=[b.l,b.t,b.w,b.h]
def shB(half:Int)(k:Nat)(b:Bx):Bx:=⟨b.l+half*((k:Int)%2),b.t+half*((k:Int)/2),b.w,b.h⟩
def Dh(half:Int):Nat->List (Option Bx)->List Bx
 |_,[]=>[]
 |k,none::r=>Dh half (k+1) r
 |k,some b::r=>shB half k b::Dh half (k+1) r
def mnL(l:List Int):Int:=l.min?.getD 0
def mxL(l:List Int):Int:=l.max?.getD 0
def Np(bs:List Bx):Bx:=⟨mnL (bs.map (·.l)),mnL (bs.map (·.t)),mxL (bs.map λb=>b.l+b.w)-mnL (bs.map (·.l)),mxL (bs.map λb=>b.t+b.h)-mnL (bs.map (·.t))⟩
def NX(half:Int)(obs:List (Option Bx)):Option Bx:=match Dh half 0 obs with
 |[]=>none
 |b::r=>some (Np (b::r))
def BJ(G:Gv):Nat->Nat->Option Bx
 |0,i=>if i=0 then none else some ⟨0,0,1,1⟩
 |n+1,i=>match G[i]? with
  |some q=>NX (2^n) (q.parts.map λ(p:Int)=>BJ G n p.toNat)
  |none=>none
theorem Wq{l:List Int}{m:Int}(h:m∈l)(h2:∀x∈l,m<=x):m=mnL l:=by
 unfold mnL;rw[List.min?_eq_some_iff.mpr ⟨h,h2⟩];rfl
theorem Wo{l:List Int}{m:Int}(h:m∈l)(h2:∀x∈l,x<=m):m=mxL l:=by
 unfold mxL;rw[List.max?_eq_some_iff.mpr ⟨h,h2⟩];rfl
theorem Ev{G:Gv}{n i:Nat}{q:Sq}{x y z w:Nat}(h:GN G n i q x y z w):BJ G (n+1) i=NX (2^n) [BJ G n x,BJ G n y,BJ G n z,BJ G n w]:=by
 rw[show BJ G (n+1) i=(match G[i]? with|some q=>NX (2^n) (q.parts.map λ(p:Int)=>BJ G n p.toNat)|none=>none)from rfl,h.g];show NX (2^n) (q.parts.map λ(p:Int)=>BJ G n p.toNat)=_;rw[h.ps];rfl
theorem FX{G G':Gv}{k:Nat}(ok:GOk G)(go:AG G G' k):∀(n i:Nat),Ak G i (n:Int)->BJ G' n i=BJ G n i
 |0,i,_=>rfl
 |n+1,i,h=>by
  obtain⟨q,x,y,z,w,nd⟩:=BH ok h;rw[Ev nd,Ev (nd.app go),FX ok go n x nd.hx,FX ok go n y nd.hy,FX ok go n z nd.hz,FX ok go n w nd.hw]
theorem Ou{half:Int}:∀{obs:List (Option Bx)},NX half obs=none ↔ ∀o∈obs,o=none:=by
 intro obs;have g:∀(obs:List (Option Bx))(k:Nat),Dh half k obs=[] ↔ ∀o∈obs,o=none:=by
  intro obs;induction obs with
  |nil=>intro k;exact⟨λ_ o ho=>by simp at ho,λ_=>rfl⟩
  |cons o r ih =>
   intro k;cases o with
   |none =>
    rw[show Dh half k (none::r)=Dh half (k+1) r from rfl,ih (k+1)];exact⟨λh o ho=>by rcases B8.mp ho with z|z;exact z;exact h o z,λh o ho=>h o (C1 _ ho)⟩
   |some b=>exact⟨λh=>(by cases h),λh=>(by cases h (some b) C0)⟩
 rw[<-g obs 0];unfold NX;constructor
 ·intro h;split at h
  ·assumption
  ·cases h
 ·intro h;rw[h]
theorem JY{G:Gv}(ok:GOk G):∀(n i:Nat),Ak G i (n:Int)->(BJ G n i=none↔Dc G n i=0)
 |0,i,_=>by
  show(if i=0 then none else some (⟨0,0,1,1⟩:Bx))=none↔(if i=0 then(0:Int)else 1)=0;split
  ·exact⟨λ_=>rfl,λ_=>rfl⟩
  ·exact⟨λh=>(by cases h),λh=>A0⟩
 |n+1,i,h=>by
  obtain⟨q,x,y,z,w,nd⟩:=BH ok h;rw[Ev nd,II nd,Ou];show _↔Dc G n x+(Dc G n y+(Dc G n z+(Dc G n w+0)))=0;have ex:=JY ok n x nd.hx;have ey:=JY ok n y nd.hy;have ez:=JY ok n z nd.hz;have ew:=JY ok n w nd.hw;have nx:=Es G n x;have ny:=Es G n y;have nz:=Es G n z;have nw:=Es G n w;constructor
  ·intro h;rw[ex.mp (h _ A4),ey.mp (h _ A4),ez.mp (h _ A4),ew.mp (h _ A4)];rfl
  ·intro h o ho;simp only[B8,D0,Y5]at ho;rcases ho with rfl|rfl|rfl|rfl
   ·exact ex.mpr A0
   ·exact ey.mpr A0
   ·exact ez.mpr A0
   ·exact ew.mpr A0
theorem WI{G r:Gv}(e:G=G0++r)(j:Nat)(h:j<48):G[8+j]?=some ⟨[(bareN j:Int),(bareN j:Int),(bareN j:Int),(bareN j:Int)],(j:Int)+1⟩:=by
 rw[e];exact JQ (Ms j h)
theorem Iy{G:Gv}(ok:GOk G){r:Gv}(e:G=G0++r):∀(n i:Nat),n<=48->Ak G i (n:Int)->(BJ G n i=none↔i=bareN n)
 |0,i,_,_=>by
  show(if i=0 then none else some (⟨0,0,1,1⟩:Bx))=none↔i=0;split
  ·rename_i z;exact⟨λ_=>z,λ_=>rfl⟩
  ·rename_i z;exact⟨λh=>(by cases h),λh=>absurd h z⟩
 |n+1,i,hn,h=>by
  obtain⟨q,x,y,z,w,nd⟩:=BH ok h;rw[Ev nd,Ou];have ex:=Iy ok e n x A0 nd.hx;have ey:=Iy ok e n y A0 nd.hy;have ez:=Iy ok e n z A0 nd.hz;have ew:=Iy ok e n w A0 nd.hw;have hb:=WI e n A0;constructor
  ·intro h;have hx:=ex.mp (h _ A4);have hy:=ey.mp (h _ A4);have hz:=ez.mp (h _ A4);have hw:=ew.mp (h _ A4);show i=8+n;refine ok.one nd.g hb ?_;rw[nd.ps,hx,hy,hz,hw]
  ·intro h;have h:i=8+n:=h;have g:=nd.g;rw[h,hb]at g;cases g;have p:=nd.ps;have p:[(bareN n:Int),(bareN n:Int),(bareN n:Int),(bareN n:Int)]=[(x:Int),(y:Int),(z:Int),(w:Int)]:=p;injection p with p1 p
   injection p with p2 p
   injection p with p3 p
   injection p with p4 p
   intro o ho;simp only[B8,D0,Y5]at ho;rcases ho with rfl|rfl|rfl|rfl
   ·exact ex.mpr (W6 p1).symm
   ·exact ey.mpr (W6 p2).symm
   ·exact ez.mpr (W6 p3).symm
   ·exact ew.mpr (W6 p4).symm
structure BxOk(G:Gv)(H:Hp)(ks:List (Key×V)):Prop where
 keys:FN G ks
 val:∀(i:Nat) v,Bu ks (Sum.inl (i:Int))=some v->∃(l:Nat)(b:Bx)(t:Addr),Ak G i l/\BJ G l i=some b/\v=.ref t/\H t=some (.tup (b.ns.map V.int))
structure Bc(a:Ad)(H:Hp)(g:GA)(G:Gv):Prop where
 at':AH a H g G
 ok:GOk G
 g0:∃r,G=G0++r
 br:H g.br=some (.lst ((Cy 48).map V.int))
 am:∃ks,H g.am=some (.dK ks)/\Yv G ks
 bx:∃ks,H g.bx=some (.dK ks)/\BxOk G H ks
 n1:g.br≠g.lv
 n2:g.br≠g.pt
 n3:g.am≠g.bx
theorem Bc.new{a:Ad}{H H':Hp}{g:GA}(h:RC a H H' g G0 (Cy 48) (amK 8)):Bc a H' g G0:=⟨h.at',g0_ok,⟨[],by simp⟩,h.br,⟨_,h.am,am0⟩,⟨_,h.bx,⟨by simp,λk hk=>by simp at hk⟩,λi v e=>by cases e⟩,h.n1,h.n2,h.n3⟩
theorem Bc.ne_am{a:Ad}{H:Hp}{g:GA}{G:Gv}(h:Bc a H g G){b:Addr}{o:HO}(e:H b=some o)(n:∀ks,o≠.dK ks):b≠g.am/\b≠g.bx:=by
 obtain⟨ks,h1,_⟩:=h.am;obtain⟨ks',h2,_⟩:=h.bx;exact⟨Ay e h1 (n _),Ay e h2 (n _)⟩
theorem Bc.same{a:Ad}{H H':Hp}{g:GA}{G:Gv}(s:AA H H')(h:Bc a H g G):Bc a H' g G:=by
 obtain⟨at',ok,g0,br,⟨ks,h1,h2⟩,⟨ks',h3,h4⟩,n1,n2,n3⟩:=h;refine⟨at'.same s,ok,g0,s _ _ br,⟨ks,s _ _ h1,h2⟩,⟨ks',s _ _ h3,h4.keys,λi v e=>?_⟩,n1,n2,n3⟩;obtain⟨l,b,t,e1,e2,e3,e4⟩:=h4.val i v e;exact⟨l,b,t,e1,e2,e3,s _ _ e4⟩
theorem AG.le{G G':Gv}{k:Nat}(go:AG G G' k):G.length<=G'.length:=by
 obtain⟨r,e⟩:=go.pre;rw[e,C4];lia
theorem Bc.fr{a:Ad}{H H':Hp}{g:GA}{G G':Gv}{m:Nat}(h:Bc a H g G)(f:Fr g H H')(at2:AH a H' g G')(go:AG G G' m):Bc a H' g G':=by
 obtain⟨at',ok,⟨r,g0⟩,br,⟨ks,h1,h2⟩,⟨ks',h3,h4⟩,n1,n2,n3⟩:=h;obtain⟨us,hp,_⟩:=at'.pt;have keep:∀{b:Addr}{o:HO},H b=some o->(∀l,o≠.lst l)->(∀l,o≠.dT l)->H' b=some o:=λ{b o} e z1 z2=>f _ _ e (Ay e at'.lv (z1 _)) (Ay e hp (z1 _)) (Ay e at'.nm (z2 _));obtain⟨t,et⟩:=go.pre;refine⟨at2,go.ok,⟨r++t,by rw[et,g0,O7]⟩,f _ _ br n1 n2 (Ay br at'.nm A2),⟨ks,keep h1 (by intro l z;cases z) (by intro l z;cases z),h2.app ok go⟩,⟨ks',keep h3 (by intro l z;cases z) (by intro l z;cases z),h4.keys.app go.le,λi v e=>?_⟩,n1,n2,n3⟩;obtain⟨l,b,t,e1,e2,e3,e4⟩:=h4.val i v e;exact⟨l,b,t,go.lev e1,by rw[FX ok go l i e1];exact e2,e3,keep e4 (by intro l z;cases z) (by intro l z;cases z)⟩
theorem Bc.put{a:Ad}{H:Hp}{g:GA}{G:Gv}{l:Addr}{xs:List V}{o:HO}(h:Bc a H g G)(hl:H l=some (.lst xs))(m1:l≠g.lv)(m2:l≠g.pt)(m3:l≠g.br):Bc a (upd H l o) g G:=by
 obtain⟨at',ok,g0,br,⟨ks,h1,h2⟩,⟨ks',h3,h4⟩,n1,n2,n3⟩:=h;have other:∀{b v},H b=some v->v≠.lst xs->upd H l o b=some v:=λ{b v} e n=>by rw[Ao (Ay e hl n)];exact e
 refine⟨at'.put hl m1 m2,ok,g0,by rw[Ao (W4 m3)];exact br,⟨ks,other h1 A2,h2⟩,⟨ks',other h3 A2,h4.keys,λi v e=>?_⟩,n1,n2,n3⟩;obtain⟨l,b,t,e1,e2,e3,e4⟩:=h4.val i v e;exact⟨l,b,t,e1,e2,e3,other e4 A2⟩
def FrQ(g:GA)(H H':Hp):Prop:=∀b o,H b=some o->b≠g.am->b≠g.bx->H' b=some o
theorem FrQ.refl(g:GA)(H:Hp):FrQ g H H:=λ_ _ e _ _=>e
theorem FrQ.trans{g:GA}{H1 H2 H3:Hp}(h:FrQ g H1 H2)(h2:FrQ g H2 H3):FrQ g H1 H3:=λb o e n1 n2=>h2 b o (h b o e n1 n2) n1 n2
theorem AA.frq{g:GA}{H1 H2:Hp}(h:AA H1 H2):FrQ g H1 H2:=λb o e _ _=>h b o e
theorem AH.dict{a:Ad}{H:Hp}{g:GA}{G:Gv}{d:Addr}{ks:List (Key×V)}{o:HO}(hd:H d=some (.dK ks))(h:AH a H g G):AH a (upd H d o) g G:=by
 obtain⟨h1,h2,⟨ts,h3,h4⟩,h5,h6⟩:=h;have other:∀{b v},H b=some v->v≠.dK ks->upd H d o b=some v:=λ{b v} e n=>by rw[Ao (Ay e hd n)];exact e
 exact⟨other h1 A2,other h2 A2,⟨ts,other h3 A2,PairedM.imp (λt q z=>other z A2) h4⟩,other h5 A2,h6⟩
theorem Bc.bx_put{a:Ad}{H:Hp}{g:GA}{G:Gv}{ks ks2:List (Key×V)}(h:Bc a H g G)(e:H g.bx=some (.dK ks))(h2:BxOk G H ks2):Bc a (upd H g.bx (.dK ks2)) g G/\FrQ g H (upd H g.bx (.dK ks2)):=by
 obtain⟨at',ok,g0,br,⟨ks',h3,h4⟩,⟨_,_,_⟩,n1,n2,n3⟩:=h;have other:∀{b v},H b=some v->v≠.dK ks->upd H g.bx (.dK ks2) b=some v:=λ{b v} e' n=>by rw[Ao (Ay e' e n)];exact e'
 refine⟨⟨at'.dict e,ok,g0,other br A2,⟨ks',by rw[Ao n3];exact h3,h4⟩,⟨_,Af,h2.keys,λi v e=>?_⟩,n1,n2,n3⟩,λb o e' _ m1=>by rw[Ao m1];exact e'⟩;obtain⟨l,b,t,e1,e2,e3,e4⟩:=h2.val i v e;exact⟨l,b,t,e1,e2,e3,other e4 A2⟩
theorem QS(g:GA):(fl6 g).lookup ("boxed" : Str)=none:=GL g A1 A1 A1 A1 A1 A1
theorem QQ(g:GA):(fl6 g).lookup ("measured" : Str)=none:=GL g A1 A1 A1 A1 A1 A1
theorem no_span(g:GA):(fl6 g).lookup ("span" : Str)=none:=GL g A1 A1 A1 A1 A1 A1
theorem GN.mem{G:Gv}{n i:Nat}{q:Sq}{x y z w:Nat}(h:GN G n i q x y z w){j:Nat}{v:V}(e:(q.parts.map V.int)[j]?=some v):∃k:Nat,v=.int k/\Ak G k n/\q.parts[j]?=some (k:Int):=by
 rw[B7]at e;obtain⟨p,hp,rfl⟩:=C9.mp e;have hm:=D2 hp;rw[h.ps]at hm;simp only[B8,D0,Y5]at hm;rcases hm with rfl|rfl|rfl|rfl
 ·exact⟨x,rfl,h.hx,hp⟩
 ·exact⟨y,rfl,h.hy,hp⟩
 ·exact⟨z,rfl,h.hz,hp⟩
 ·exact⟨w,rfl,h.hw,hp⟩
section
variable{P:Program}{w:World}{K:PySem.W.Frag}{mg:Str->Option Value}{base:Heap}{a:Ad}
end
seal L2.PA L2.PE L2.PS L2.PSs L2.PT L2.PW
theorem Nq(half:Int):∀(l r:List (Option Bx))(k:Nat),Dh half k (l++r)=Dh half k l++Dh half (k+l.length) r
 |[],r,k=>rfl
 |none::l,r,k=>by
  show Dh half (k+1) (l++r)=Dh half (k+1) l++Dh half (k+(l.length+1)) r;rw[Nq half l r (k+1),show k+1+l.length=k+(l.length+1) by lia]
 |some b::l,r,k=>by
  show shB half k b::Dh half (k+1) (l++r)=shB half k b::(Dh half (k+1) l++Dh half (k+(l.length+1)) r);rw[Nq half l r (k+1),show k+1+l.length=k+(l.length+1) by lia]
theorem JS(half:Int):∀(l:List (Option Bx))(k:Nat),(Dh half k l).length<=l.length
 |[],k=>B6 _
 |none::l,k=>C2 (JS half l (k+1)) (R6 _)
 |some b::l,k=>P0 (JS half l (k+1))
theorem PairedM.getL{α β:Type}{F:α->β->Prop}:∀{l:List α}{m:List β}{i:Nat}{x:α},Paired F l m->l[i]?=some x->∃y,m[i]?=some y/\F x y
 |_,_,_,_,.nil,e=>by simp at e
 |_,_,0,_,.cons r _,e=>by simp at e;subst e;exact⟨_,rfl,r⟩
 |_,_,i+1,x,.cons _ t,e=>by
  obtain⟨y,h1,h2⟩:=PairedM.getL (i:=i) (x:=x) t (by simpa using e);exact⟨y,by simpa using h1,h2⟩
def LN(H:Hp)(t:Addr)(b:Bx):Prop:=H t=some (.tup (b.ns.map V.int))
theorem Mx{β:Type}{K:PySem.W.Frag}{k:Nat}{cs:List Nat}{g:TG}{tc:TT}{te:TE}{σ:St}{H:Hp}{fin:List V->Hp->Prop}{D:Addr->β->Prop}{L:Addr}{ts:List Addr}{bs:List β}(col:β->Int)(hL:H L=some (.lst (ts.map V.ref)))(pr:Paired D ts bs)(few:ts.length<1000)
  (hs:∀t b acc N,D t b->acc.length<sizeLine->N (acc++[.int (col b)]) H->Bt k cs g tc te σ (.ref t) acc H N) (hd:fin ((bs.map col).map V.int) H):Ey k cs g tc te (Itl K L) σ H fin:=by
 have ln:ts.length=bs.length:=W9 pr;refine Ed (xs:=ts.map V.ref) (λj acc H2=>H=H2/\acc=((bs.take j).map col).map V.int) ⟨rfl,rfl⟩ (λj acc H2 _ z=>z.1▸SqL.of hL) ?_ ?_
 ·rintro j v acc H2 ev ⟨rfl,rfl⟩;rw[B7]at ev;obtain⟨t,et,rfl⟩:=C9.mp ev;obtain⟨b,eb,d⟩:=PairedM.getL pr et;refine hs t b _ _ d (by rw[B5,B5,F9];exact FR A0) ⟨rfl,?_⟩;rw[F7,eb,C7,C7];rfl
 ·rintro acc H2 ⟨rfl,rfl⟩;rw[B5,ln,J0];exact hd
section
variable{P:Program}{w:World}{K:PySem.W.Frag}{mg:Str->Option Value}{base:Heap}{a:Ad}
inductive TK(vs:List V)(H:Hp)(Q:VK):Prop
 |mk (t:Addr) (b:Bx) (dx dy:Int) (_:vs=[.ref t,.int dx,.int dy]) (_:LN H t b) (_:∀t',H t'=none->Q (.ref t') (upd H t' (.tup [.int (b.l+dx),.int (b.t+dy),.int b.w,.int b.h]))):TK vs H Q
def Js:Sp:=λvs H Q _=>TK vs H Q
theorem VW{f:Addr}{fd:FuncData}(F:Fun K "shifted_box" "shifted_box" Ft f fd)(T:Top K mg a):AK P w K mg base CX0 1 f fd CN Js:=by
 refine F.ok MI (λvs H Q E h=>?_) (λcdv A outer s H vs Q E hr h=>?_)
 ·obtain⟨t,b,dx,dy,rfl,_⟩:=h;rfl
 ·obtain⟨t,b,dx,dy,rfl,ht,k⟩:=h;have ht:H t=some (.tup [.int b.l,.int b.t,.int b.w,.int b.h]):=ht;refine⟨_,(Ag (Aw (Ih (Bq Bl (Aj Am (pv 0) Ae (λ_ _=>rfl)) (pv 1) (Bq Bl (Aj Am (pv 0) Ae (λ_ _=>rfl)) (pv 2) (Aa (Aj Am (pv 0) Ae (λ_ _=>rfl)) (Aa (Aj Am (pv 0) Ae (λ_ _=>rfl)) Ac))))))),?_⟩
  try dsimp only[cxK]
  refine xwi rfl rfl rfl (SqT.of ht) (Al (j:=0) rfl) (xwb rfl rfl rfl (xwi rfl rfl rfl (SqT.of ht) (Al (j:=1) rfl) (xwb rfl rfl rfl (xwi rfl rfl rfl (SqT.of ht) (Al (j:=2) rfl) (xwi rfl rfl rfl (SqT.of ht) (Al (j:=3) rfl) ⟨(by show 4<=sizeLine;decide),λt' n=>k t' n⟩)))))
inductive TQ(vs:List V)(H:Hp)(Q:VK):Prop
 |mk (L:Addr) (ts:List Addr) (bs:List Bx) (_:vs=[.ref L]) (_:H L=some (.lst (ts.map V.ref))) (_:Paired (LN H) ts bs) (_:bs≠[]) (_:ts.length<1000) (_:∀t' H',AA H H'->LN H' t' (Np bs)->Q (.ref t') H'):TQ vs H Q
def Mf:Sp:=λvs H Q _=>TQ vs H Q
theorem Wb{f:Addr}{fd:FuncData}(F:Fun K "least_box" "least_box" Ct f fd)(T:Top K mg a):AK P w K mg base CX0 1 f fd Fk Mf:=by
 refine F.ok Dm (λvs H Q E h=>?_) (λcdv A outer s H vs Q E hr h=>?_)
 ·obtain⟨L,ts,bs,rfl,_⟩:=h;rfl
 ·obtain⟨L,ts,bs,rfl,hL,pr,ne,few,k⟩:=h;have nem:∀col:Bx->Int,bs.map col≠[]:=λcol z=>ne (P2.mp z);refine⟨_,(Ab (Aq (i:=1) Dm.nd rfl (Or.inl rfl) (AS (OH rfl) rfl T.b_min A1b (Aa (Co rfl (BD.of (So:=Ah Ct) (No:=Eb) (N:=["box"]) (k:=1) (cs:=[]) rfl rfl A1) (CC (pv 0)) (λ_ _ _=>(Bk (i:=0) A1 rfl rfl)) (λ_ _ _=>BL) (λ_ _ _=>(Aj (Fn (K:=K) rfl) (pv 0) Ae (λ_ _=>rfl)))) Ac))) (Ab (Aq (i:=2) Dm.nd rfl (Or.inl rfl) (AS (OH rfl) rfl T.b_min A1b (Aa (Co rfl (BD.of (So:=Ah Ct) (No:=Eb) (N:=["box"]) (k:=1) (cs:=[]) rfl rfl A1) (CC (pv 0)) (λ_ _ _=>(Bk (i:=0) A1 rfl rfl)) (λ_ _ _=>BL) (λ_ _ _=>(Aj (Fn (K:=K) rfl) (pv 0) Ae (λ_ _=>rfl)))) Ac))) (Ab (Aq (i:=3) Dm.nd rfl (Or.inl rfl) (AS (OI rfl) rfl T.b_max PyProof.Rows.boot_max (Aa (Co rfl (BD.of (So:=Ah Ct) (No:=Eb) (N:=["box"]) (k:=1) (cs:=[]) rfl rfl A1) (CC (pv 0)) (λ_ _ _=>(Bk (i:=0) A1 rfl rfl)) (λ_ _ _=>BL) (λ_ _ _=>(AF Bl (Aj (Fn (K:=K) rfl) (pv 0) Ae (λ_ _=>rfl)) (Aj (Fn (K:=K) rfl) (pv 0) Ae (λ_ _=>rfl))))) Ac))) (Ab (Aq (i:=4) Dm.nd rfl (Or.inl rfl) (AS (OI rfl) rfl T.b_max PyProof.Rows.boot_max (Aa (Co rfl (BD.of (So:=Ah Ct) (No:=Eb) (N:=["box"]) (k:=1) (cs:=[]) rfl rfl A1) (CC (pv 0)) (λ_ _ _=>(Bk (i:=0) A1 rfl rfl)) (λ_ _ _=>BL) (λ_ _ _=>(AF Bl (Aj (Fn (K:=K) rfl) (pv 0) Ae (λ_ _=>rfl)) (Aj (Fn (K:=K) rfl) (pv 0) Ae (λ_ _=>rfl))))) Ac))) (Ag (Aw (Ih (Aa (pv 1) (Aa (pv 2) (Bq BG (pv 3) (pv 1) (Bq BG (pv 4) (pv 2) Ac))))))))))),?_⟩
  try dsimp only[cxK]
  refine xq1 rfl ⟨L,rfl,⟨_,SqL.of hL⟩,Mx (·.l) hL pr few (λt b acc N d la nx=>⟨⟨[some (.ref t)],rfl,rfl⟩,la,GT (xwi rfl rfl rfl (SqT.of d) (Al (j:=0) rfl) nx)⟩) λq1 h1=>?_⟩;refine⟨q1,(xq1 rfl ⟨SqL.of Af,nem _,λm1 hm1 hn1=>?_⟩)⟩;obtain rfl:=Wq hm1 hn1;have s1:=AJ (o:=.lst ((bs.map (·.l)).map V.int)) h1;generalize upd H q1 (.lst ((bs.map (·.l)).map V.int))=H1 at s1⊢;have hL1:=s1 _ _ hL;have pr1:Paired (LN H1) ts bs:=PairedM.imp (λt b z=>s1 _ _ z) pr;refine xq1 rfl ⟨L,rfl,⟨_,SqL.of hL1⟩,Mx (·.t) hL1 pr1 few (λt b acc N d la nx=>⟨⟨[some (.ref t)],rfl,rfl⟩,la,GT (xwi rfl rfl rfl (SqT.of d) (Al (j:=1) rfl) nx)⟩) λq2 h2=>?_⟩;refine⟨q2,(xq1 rfl ⟨SqL.of Af,nem _,λm2 hm2 hn2=>?_⟩)⟩;obtain rfl:=Wq hm2 hn2;have s2:=s1.trans (AJ (o:=.lst ((bs.map (·.t)).map V.int)) h2);generalize upd H1 q2 (.lst ((bs.map (·.t)).map V.int))=H2 at s2⊢;have hL2:=s2 _ _ hL;have pr2:Paired (LN H2) ts bs:=PairedM.imp (λt b z=>s2 _ _ z) pr;refine xq1 rfl ⟨L,rfl,⟨_,SqL.of hL2⟩,Mx (λb=>b.l+b.w) hL2 pr2 few (λt b acc N d la nx=>⟨⟨[some (.ref t)],rfl,rfl⟩,la,GT (xwi rfl rfl rfl (SqT.of d) (Al (j:=0) rfl) (xwi rfl rfl rfl (SqT.of d) (Al (j:=2) rfl) (xq2 rfl rfl nx)))⟩) λq3 h3=>?_⟩;refine⟨q3,(xq1 rfl ⟨SqL.of Af,nem _,λm3 hm3 hn3=>?_⟩)⟩;obtain rfl:=Wo hm3 hn3;have s3:=s2.trans (AJ (o:=.lst ((bs.map λb=>b.l+b.w).map V.int)) h3);generalize upd H2 q3 (.lst ((bs.map λb=>b.l+b.w).map V.int))=H3 at s3⊢;have hL3:=s3 _ _ hL;have pr3:Paired (LN H3) ts bs:=PairedM.imp (λt b z=>s3 _ _ z) pr;refine xq1 rfl ⟨L,rfl,⟨_,SqL.of hL3⟩,Mx (λb=>b.t+b.h) hL3 pr3 few (λt b acc N d la nx=>⟨⟨[some (.ref t)],rfl,rfl⟩,la,GT (xwi rfl rfl rfl (SqT.of d) (Al (j:=1) rfl) (xwi rfl rfl rfl (SqT.of d) (Al (j:=3) rfl) (xq2 rfl rfl nx)))⟩) λq4 h4=>?_⟩;refine⟨q4,(xq1 rfl ⟨SqL.of Af,nem _,λm4 hm4 hn4=>?_⟩)⟩;obtain rfl:=Wo hm4 hn4;have s4:=s3.trans (AJ (o:=.lst ((bs.map λb=>b.t+b.h).map V.int)) h4);generalize upd H3 q4 (.lst ((bs.map λb=>b.t+b.h).map V.int))=H4 at s4⊢;exact xw3 rfl rfl rfl (xwb rfl rfl rfl (xw2 rfl rfl (xq2 rfl rfl ⟨(by show 4<=sizeLine;decide),λt5 h5=>k t5 _ (s4.trans (AJ h5)) Af⟩)))
inductive SpBox(a:Ad)(n:Nat)(vs:List V)(H:Hp)(Q:VK):Prop
 |mk (g:GA) (G:Gv) (i l:Nat) (_:vs=[.ref g.p,.int i]) (_:Bc a H g G) (_:Ak G i l) (_:l<n) (_:G.length<9000000) (_:(BJ G l i=none->∀H',FrQ g H H'->Bc a H' g G->Q .non H')) (_:∀b,BJ G l i=some b->∀t H',FrQ g H H'->Bc a H' g G->LN H' t b->Q (.ref t) H'):SpBox a n vs H Q
def Qx(a:Ad)(n:Nat):Sp:=λvs H Q _=>SpBox a n vs H Q
inductive SpMea(a:Ad)(n:Nat)(vs:List V)(H:Hp)(Q:VK):Prop
 |mk (g:GA) (G:Gv) (i l:Nat) (b:Bx) (_:vs=[.ref g.p,.int i]) (_:Bc a H g G) (_:Ak G i l) (_:l<n) (_:G.length<9000000) (_:BJ G l i=some b) (_:∀t H',FrQ g H H'->Bc a H' g G->LN H' t b->Q (.ref t) H'):SpMea a n vs H Q
def spMea(a:Ad)(n:Nat):Sp:=λvs H Q _=>SpMea a n vs H Q
theorem OR(m:Nat){l:Int}(e:l=(m:Int)+1):(1:Int)*2^(l-1).toNat=2^m:=by
 rw[e,U9,show((m:Int)+1-1).toNat=m by lia]
theorem ok_mea{n d:Nat}{f:Addr}{fd:FuncData}(F:Fun K "measured" "Grove.measured" CA f fd)(T:Top K mg a)(hd:1<=d)(aG:Cal P w K mg base CX0 1 "shifted_box" CN Js)(aW:Cal P w K mg base CX0 1 "least_box" Fk Mf)(aT:BN P w K mg base CX0 d a.c_Grove "boxed" Cj (Qx a n)):AK P w K mg base CX0 (d+1) f fd CD (spMea a (n+1)):=by
 refine F.ok Bj (λvs H Q E h=>?_) (λcdv A outer s H vs Q E hr h=>?_)
 ·obtain⟨g,G,i,l,b,rfl,_⟩:=h;rfl
 ·obtain⟨g,G,i,l,b,rfl,fu,hl,ln,few,eb,k⟩:=h;obtain⟨q0,e0,l0⟩:=id hl;refine⟨_,(Ab (Aq (i:=2) Bj.nd rfl (Or.inl rfl) (Aj Av (Ax (pv 0) rfl) (pv 1) (λ_ _=>rfl))) (Ab (AQ (AD Ea (pv 2) Ae (AI _)) (Ag (Aw (Ih (AX (AX (AX (AX Ac))))))) AE) (Ab (Aq (i:=3) Bj.nd rfl (Or.inl rfl) (AF Db Ae (AF BG (pv 2) Ae))) (Ab (Aq (i:=4) Bj.nd rfl (Or.inl rfl) (CY Ac)) (Ab (EH Y4 rfl (Mj true rfl T.b_enumerate (Aa (Aj Av (Ax (pv 0) rfl) (pv 1) (λ_ _=>rfl)) Ac)) (Lp rfl (Cg (BO (i:=5) Bj.nd rfl (Or.inl rfl)) (Cg (BO (i:=6) Bj.nd rfl (Or.inl rfl)) IB))) (Ab (Aq (i:=7) Bj.nd rfl (Or.inl rfl) (AB (pv 0) aT (rm hr) An (Aa (pv 6) Ac))) (Ag (AQ (AD Ti (pv 7) DI (AI _)) (Ag (CB (GS Z0 Z2 Z3 Et (pv 4) (Aa (Au aG (rm hr) rfl An (Aa (pv 7) (Bq ET (pv 3) (AF Cd (pv 5) Ae) (Bq ET (pv 3) (AF JK (pv 5) Ae) Ac)))) Ac)))) AE)))) (Ag (Aw (Au aW (rm hr) rfl An (Aa (pv 4) Ac))))))))),?_⟩
  try dsimp only[cxK]
  refine⟨_,rfl,g.p,_,g.dx,_,_,rfl,fu.at'.hp,T.cl_Grove,T.na_Grove_levels,EW g,_,rfl,g.lv,_,(i:Int),.int q0.lev,rfl,rfl,SqL.of fu.at'.lv,Al (by rw[B7,e0];rfl),?_⟩;cases l with
  |zero =>
   rw[l0];refine xq1 rfl ⟨rfl,(xq1 rfl (CK ⟨(by show 4<=sizeLine;decide),λt ht=>?_⟩))⟩;have e:b=⟨0,0,1,1⟩:=by
    have eb:(if i=0 then none else some (⟨0,0,1,1⟩:Bx))=some b:=eb;split at eb
    ·cases eb
    ·cases eb;rfl
   subst e;have sm:=AJ (o:=.tup [.int 0,.int 0,.int 1,.int 1]) ht;exact k t _ (AA.frq sm) (fu.same sm) Af
  |succ m =>
   have l0':q0.lev=(m:Int)+1:=by rw[l0];lia
   refine xq1 rfl ⟨rfl,(xq1 rfl ?_)⟩;rw[W0 (by intro z;injection z with z;lia)];obtain⟨q,x,y,z,w,nd⟩:=BH fu.ok hl;obtain⟨ts,h3,h4⟩:=fu.at'.pt;obtain⟨t,et,ht⟩:=PairedM.get h4 nd.g;have ht:H t=some (.tup (q.parts.map V.int)):=ht;have nt:=fu.ne_am ht (by intro l z;cases z);refine Bw (xwb rfl rfl rfl (xq2 rfl rfl ⟨⟨by lia,by have:=(fu.ok.lev e0).2;lia,by decide⟩,?_⟩));rw[show(λ(i j:Int)=>V.int (i*2^j.toNat)) 1 (q0.lev-1)=V.int (2^m)from W8 V.int (OR m l0')];refine⟨(by show 0<=sizeLine;decide),λL hL=>?_⟩;have m1:L≠g.lv:=W4 (Ar fu.at'.lv hL);have m2:L≠g.pt:=W4 (Ar h3 hL);have m3:L≠g.br:=W4 (Ar fu.br hL);have s1:=AJ (o:=.lst []) hL;have hL1:upd H L (.lst []) L=some (.lst []):=Af;generalize upd H L (.lst [])=H1 at s1 hL1⊢;have fu1:=fu.same s1;have h31:=s1 _ _ h3;have ht1:=s1 _ _ ht;generalize hobs:[BJ G m x,BJ G m y,BJ G m z,BJ G m w]=obs;have lobs:obs.length=4:=by rw[<-hobs];rfl
   have eobs:BJ G (m+1) i=NX (2^m) obs:=by rw[Ev nd,hobs]
   have gobs:∀(j k:Nat),q.parts[j]?=some (k:Int)->obs[j]?=some (BJ G m k):=by
    intro j k e;rw[nd.ps]at e;rw[<-hobs]
    match j,e with
    |0,e=>have e:some (x:Int)=some (k:Int):=e;rw[show x=k from W6 (W3 e)];rfl
    |1,e=>have e:some (y:Int)=some (k:Int):=e;rw[show y=k from W6 (W3 e)];rfl
    |2,e=>have e:some (z:Int)=some (k:Int):=e;rw[show z=k from W6 (W3 e)];rfl
    |3,e=>have e:some (w:Int)=some (k:Int):=e;rw[show w=k from W6 (W3 e)];rfl
    |j+4,e=>simp at e
   refine xwf rfl rfl fu1.at'.hp T.cl_Grove T.na_Grove_parts (Ce g) (xwi rfl rfl rfl (SqL.of h31) (Al (by rw[B7,et];rfl)) ⟨t,rfl,⟨_,SqT.of ht1⟩,?_⟩);refine JT (b:=true) (xs:=q.parts.map V.int) (λj σ H2=>∃(us:List Addr)(u5 u6 u7:Option V),σ=[some (.ref g.p),some (.int i),some (.int q0.lev),some (.int (2^m)),some (.ref L),u5,u6,u7]/\FrQ g H H2/\Bc a H2 g G/\H2 L=some (.lst (us.map V.ref))/\Paired (LN H2) us (Dh (2^m) 0 (obs.take j))) ⟨[],none,none,none,rfl,AA.frq s1,fu1,hL1,.nil⟩ (λj σ H2 _ ⟨_,_,_,_,_,fr,_⟩=>SqT.of (fr _ _ ht nt.1 nt.2)) ?_ ?_
   ·rintro j v σ H2 T' ev ⟨us,u5,u6,u7,rfl,fr,fu2,hL2,pr⟩ nT;obtain⟨k',rfl,hk,ek⟩:=nd.mem ev;have eo:=gobs j k' ek;have hj:j<4:=by rw[<-lobs];exact(B4.mp eo).1
    have lu:us.length<=4:=by
     rw[W9 pr];have:=JS (2^m) (obs.take j) 0;rw[F9]at this;lia
    have s2:=AJ (o:=.tup [.int j,.int k']) nT;refine Rf Af ?_;generalize upd H2 T' (.tup [.int j,.int k'])=H3 at s2⊢;have fu3:=fu2.same s2;have ge:Dh (2^m) 0 (obs.take (j+1))=Dh (2^m) 0 (obs.take j)++Dh (2^m) j [BJ G m k']:=by
     rw[F7,eo,N8,Nq,F9,lobs,M7,Nat.min_eq_left A0]
    have nL:∀{H4:Hp},FrQ g H3 H4->H4 L=some (.lst (us.map V.ref)):=λ{H4} f4=>by
     have:=s2 _ _ hL2;have n:=fu3.ne_am this (by intro l z;cases z);exact f4 _ _ this n.1 n.2
    have nP:∀{H4:Hp},FrQ g H3 H4->Paired (LN H4) us (Dh (2^m) 0 (obs.take j)):=λ{H4} f4=>PairedM.imp (λt b z=>by
     have:=s2 _ _ z;have n:=fu3.ne_am this (by intro l z;cases z);exact f4 _ _ this n.1 n.2) pr
    refine xq1 rfl ⟨g.p,g.dx,(xq1 rfl ⟨fu3.at'.hp,QS g,(xq1 rfl ⟨g,G,k',m,rfl,fu3,hk,by lia,few,λen H4 f4 fu4=>?_,λb' eb' t4 H4 f4 fu4 ht4=>?_⟩)⟩)⟩
    ·refine xq1 rfl ⟨rfl,(xq1 rfl (Bw ⟨us,_,_,_,rfl,(fr.trans (AA.frq s2)).trans f4,fu4,nL f4,?_⟩))⟩;rw[ge,en];show Paired _ us (_++[]);rw[List.append_nil];exact nP f4
    ·refine xq1 rfl ⟨rfl,(xq1 rfl (CK ?_))⟩;refine xq1 rfl ⟨.inl ⟨rfl,_,SqL.of (nL f4)⟩,(xw3 rfl rfl rfl (xq2 rfl rfl ⟨(by show(0:Int)<2;decide),(xq2 rfl rfl ⟨.inr ⟨by lia,by lia⟩,(xw2 rfl rfl (xq2 rfl rfl ⟨⟨by decide,by decide⟩,(xq2 rfl rfl ⟨.inr ⟨by lia,by lia⟩,?_⟩)⟩))⟩)⟩))⟩;refine⟨t4,b',_,_,rfl,ht4,λt5 h5=>?_⟩;have s5:=AJ (o:=.tup [.int (b'.l+2^m*((j:Int)%2)),.int (b'.t+2^m*((j:Int)/2)),.int b'.w,.int b'.h]) h5;have ht5:LN (upd H4 t5 (.tup [.int (b'.l+2^m*((j:Int)%2)),.int (b'.t+2^m*((j:Int)/2)),.int b'.w,.int b'.h])) t5 (shB (2^m) j b'):=Af;generalize upd H4 t5 (.tup [.int (b'.l+2^m*((j:Int)%2)),.int (b'.t+2^m*((j:Int)/2)),.int b'.w,.int b'.h])=H5 at s5 ht5⊢;have hL5:=s5 _ _ (nL f4);have fu5:=fu4.same s5;refine⟨L,(xq2 rfl rfl ⟨hL5,by rw[B5];exact FR A0,?_⟩)⟩;have other:∀{c:Addr}{l:List V},H5 c=some (.tup l)->upd H5 L (.lst (us.map V.ref++[.ref t5])) c=some (.tup l):=λ{c l} e=>by rw[Ao (Ay e hL5 A2)];exact e
     refine⟨us++[t5],_,_,_,rfl,?_,fu5.put hL5 m1 m2 m3,by rw[Af,C7];rfl,?_⟩
     ·intro c o e n1 n2;have e5:=s5 _ _ (((fr.trans (AA.frq s2)).trans f4) _ _ e n1 n2);rw[Ao (Ar e hL)];exact e5
     ·rw[ge,eb'];exact K6 (PairedM.imp (λc b z=>other (s5 _ _ z)) (nP f4)) (other ht5)
   ·rintro σ H2 ⟨us,u5,u6,u7,rfl,fr,fu2,hL2,pr⟩;rw[B5,show q.parts.length=obs.length by rw[nd.ps,lobs];rfl,J0]at pr;have eb2:NX (2^m) obs=some b:=by rw[<-eobs];exact eb
    have lu:us.length<=4:=by
     rw[W9 pr];have:=JS (2^m) obs 0;lia
    have e3:Dh (2^m) 0 obs≠[]/\Np (Dh (2^m) 0 obs)=b:=by
     unfold NX at eb2;split at eb2
     ·cases eb2
     ·rename_i b1 r1 eg;rw[eg];exact⟨A2,W3 eb2⟩
    refine xq1 rfl ⟨L,us,_,rfl,hL2,pr,e3.1,by lia,λt' H' s' ht'=>?_⟩;rw[e3.2]at ht';exact k t' H' (fr.trans (AA.frq s')) (fu2.same s') ht'
theorem Yc{l:Nat}(h:l<=48):((Cy 48).map V.int)[l]?=some (.int (bareN l:Int)):=by
 unfold Cy;rw[B7,B7,P3 A0];rfl
theorem ok_boxS{n d:Nat}{f:Addr}{fd:FuncData}(F:Fun K "boxed" "Grove.boxed" DU f fd)(T:Top K mg a)(cA:BN P w K mg base CX0 d a.c_Grove "measured" CD (spMea a n)):AK P w K mg base CX0 (d+1) f fd Cj (Qx a n):=by
 refine F.ok Dq (λvs H Q E h=>?_) (λcdv A outer s H vs Q E hr h=>?_)
 ·obtain⟨g,G,i,l,rfl,_⟩:=h;rfl
 ·obtain⟨g,G,i,l,rfl,fu,hl,ln,few,k1,k2⟩:=h;obtain⟨q0,e0,l0⟩:=id hl;have l48:l<=48:=by have:=(fu.ok.lev e0).2;lia
  obtain⟨ks,hbx,bok⟩:=fu.bx;have lk:=bok.keys.len;obtain⟨r,eg⟩:=fu.g0;have bb:=Iy fu.ok eg l i l48 hl;refine⟨_,(Ab (AQ (AD Ea (pv 1) (Aj Av (Ax (pv 0) rfl) (Aj Av (Ax (pv 0) rfl) (pv 1) (λ_ _=>rfl)) (λ_ _=>rfl)) (AI _)) (Ag (Aw DI)) AE) (Ab (Aq (i:=2) Dq.nd rfl (Or.inl rfl) (JF (Ec hr) (Ax (pv 0) rfl) (pv 1) ⟨rfl,rfl,rfl,rfl⟩)) (Ab (AQ (AD Jk (pv 2) DI (AI _)) (Ab (Aq (i:=2) Dq.nd rfl (Or.inl rfl) (AB (pv 0) cA (rm hr) An (Aa (pv 1) Ac))) (Ag (Fe (Ec hr) (Ax (pv 0) rfl) (pv 1) (pv 2) rfl))) AE) (Ag (Aw (pv 2)))))),?_⟩
  try dsimp only[cxK]
  refine xw2 rfl rfl (xq5 fu.at'.hp T.cl_Grove T.na_Grove_bares (Iw g) (xwf rfl rfl fu.at'.hp T.cl_Grove T.na_Grove_levels (EW g) (xwi rfl rfl rfl (SqL.of fu.at'.lv) (Al (by rw[B7,e0];rfl)) (xq4 rfl rfl (SqL.of fu.br) (by rw[l0];exact Al (Yc l48)) ⟨rfl,(xq1 rfl ?_)⟩))));refine LY (λhc=>?_) (λhc=>?_)
  ·have ei:i=bareN l:=by
    have:=Y7 hc;injection this with this
    exact W6 this
   exact k1 (bb.mpr ei) H (FrQ.refl g H) fu
  ·have ne:¬i=bareN l:=λz=>hc (by rw[z];exact V9 rfl);obtain⟨b,eb⟩:∃b,BJ G l i=some b:=by
    cases e:BJ G l i with
    |none=>exact absurd (bb.mp e) ne
    |some b=>exact⟨b,rfl⟩
   refine xwf rfl rfl fu.at'.hp T.cl_Grove T.na_Grove_boxes (WM g) ⟨g.bx,rfl,.inl ⟨_,.inl hbx⟩,(xq1 rfl ⟨_,EZ.k (k:=Sum.inl (i:Int)) hbx,?_⟩)⟩;cases e:Bu ks (Sum.inl (i:Int))with
   |some v =>
    obtain⟨l',b',t,hl',eb',rfl,ht⟩:=bok.val i v e;have el:l'=l:=W6 (hl'.uniq hl);subst el;rw[eb]at eb';cases eb';exact xq1 rfl ⟨rfl,(xq1 rfl (Bw (xq1 rfl (k2 b eb t H (FrQ.refl g H) fu ht))))⟩
   |none =>
    refine xq1 rfl ⟨rfl,(xq1 rfl (CK (xq1 rfl ⟨g.p,g.dx,(xq1 rfl ⟨fu.at'.hp,QQ g,(xq1 rfl ⟨g,G,i,l,b,rfl,fu,hl,ln,few,eb,λt H2 f2 fu2 ht2=>?_⟩)⟩)⟩)))⟩;obtain⟨ks2,hbx2,bok2⟩:=fu2.bx;have lk2:=bok2.keys.len;obtain⟨fu3,f3⟩:=fu2.bx_put hbx2 (ks2:=Dw ks2 (Sum.inl (i:Int)) (.ref t)) ⟨bok2.keys.put hl.lt _,λj v ev=>by
     rw[Jr]at ev;split at ev
     ·rename_i z;injection z with z
      have:j=i:=W6 z;subst this;cases ev;exact⟨l,b,t,hl,eb,rfl,ht2⟩
     ·exact bok2.val j v ev⟩
    have nt:=fu2.ne_am ht2 (by intro l z;cases z);exact xw2 rfl rfl (xq5 fu2.at'.hp T.cl_Grove T.na_Grove_boxes (WM g) (xq1 rfl ⟨g.bx,(xq1 rfl ⟨Jq.k (k:=Sum.inl (i:Int)) hbx2 (FR A0),(xq1 rfl (k2 b eb t _ (f2.trans f3) fu3 (f3 _ _ ht2 nt.1 nt.2)))⟩)⟩))
theorem Wh{f:Addr}{fd:FuncData}{f':Addr}{fd':FuncData}(F:Fun K "boxed" "Grove.boxed" DU f fd)(F':Fun K "measured" "Grove.measured" CA f' fd')(T:Top K mg a)(Me:Ol K a.c_Grove "boxed" f)(Bi:CH K fd Cj [])(Me':Ol K a.c_Grove "measured" f')(Bi':CH K fd' CD [])
  (aG:Cal P w K mg base CX0 1 "shifted_box" CN Js) (aW:Cal P w K mg base CX0 1 "least_box" Fk Mf):∀n,AK P w K mg base CX0 (2*n+2) f fd Cj (Qx a n)
 |0=>by
  refine F.ok Dq (λvs H Q E h=>?_) (λcdv A outer s H vs Q E hr h=>?_)
  ·obtain⟨g,G,i,l,rfl,_,_,h0,_⟩:=h;exact absurd h0 (L7 _)
  ·obtain⟨g,G,i,l,rfl,_,_,h0,_⟩:=h;exact absurd h0 (L7 _)
 |n+1=>ok_boxS F T ⟨⟨f',fd',ok_mea (d:=2*n+2) F' T A0 aG aW ⟨⟨f,fd,Wh F F' T Me Bi Me' Bi' aG aW n,Me,Bi⟩,T.cl_Grove⟩,Me',Bi'⟩,T.cl_Grove⟩
inductive Yi(a:Ad)(vs:List V)(H:Hp)(Q:VK):Prop
 |mk (g:GA) (G:Gv) (i l:Nat) (_:vs=[.ref g.p,.int i]) (_:Bc a H g G) (_:Ak G i l) (_:G.length<9000000) (_:(BJ G l i=none->∀H',FrQ g H H'->Bc a H' g G->Q .non H')) (_:∀b,BJ G l i=some b->∀t H',FrQ g H H'->Bc a H' g G->LN H' t b->Q (.ref t) H'):Yi a vs H Q
def RF(a:Ad):Sp:=λvs H Q _=>Yi a vs H Q
theorem ok_span{f:Addr}{fd:FuncData}(F:Fun K "span" "Grove.span" Gp f fd)(T:Top K mg a)(aC:BN P w K mg base CX0 2 a.c_Grove "check_square" BR (SX a))(aT:BN P w K mg base CX0 100 a.c_Grove "boxed" Cj (Qx a 49)):AK P w K mg base CX0 101 f fd GG (RF a):=by
 refine F.ok NV (λvs H Q E h=>?_) (λcdv A outer s H vs Q E hr h=>?_)
 ·obtain⟨g,G,i,l,rfl,_⟩:=h;rfl
 ·obtain⟨g,G,i,l,rfl,fu,hl,few,k0,k1⟩:=h;refine⟨_,(Ab (CB (AB (pv 0) aC (rm hr) An (Aa (pv 1) Ac))) (Ag (Aw (AB (pv 0) aT (rm hr) An (Aa (pv 1) Ac))))),?_⟩
  try dsimp only[cxK]
  have l48:l<49:=by
   obtain⟨q,e,el⟩:=id hl;have:=(fu.ok.lev e).2;lia
  refine xq1 rfl ⟨g.p,g.dx,(xq1 rfl ⟨fu.at'.hp,QR g,(xq1 rfl ⟨g,G,i,rfl,fu.at',hl.lt,?_⟩)⟩)⟩;exact xq1 rfl ⟨g.p,g.dx,(xq1 rfl ⟨fu.at'.hp,QS g,(xq1 rfl ⟨g,G,i,l,rfl,fu,hl,l48,few,k0,k1⟩)⟩)⟩
end
def atN(ns:List Int)(k:Int):Int:=ns.getD k.toNat 0
theorem Wz(K:PySem.W.Frag):kitOne K (.type "int") (.type "int")=some true/\kitOne K (.type "int") (.type "bool")=some false:=⟨by kernel_rfl,by kernel_rfl⟩
theorem kit_ni(K:PySem.W.Frag):kitOne K (.type "NoneType") (.type "int")=some false:=by kernel_rfl
section
variable{P:Program}{w:World}{K:PySem.W.Frag}{mg:Str->Option Value}{base:Heap}{a:Ad}
inductive SpAt(K:PySem.W.Frag)(vs:List V)(H:Hp)(Q:VK):Prop
 |mk (l:Addr) (ns:List Int) (k:Int) (_:vs=[.ref l,.int k]) (_:SqL K H l (ns.map V.int)) (_:0<=k) (_:Q (.int (atN ns k)) H):SpAt K vs H Q
def spAt(K:PySem.W.Frag):Sp:=λvs H Q _=>SpAt K vs H Q
theorem ok_at{f:Addr}{fd:FuncData}(F:Fun K "_law_at" "_law_at" Lk f fd)(T:Top K mg a):AK P w K mg base CX0 1 f fd IG (spAt K):=by
 refine F.ok RL (λvs H Q E h=>?_) (λcdv A outer s H vs Q E hr h=>?_)
 ·obtain⟨l,ns,k,rfl,_⟩:=h;rfl
 ·obtain⟨l,ns,k,rfl,hS,h0,q⟩:=h;refine⟨_,(Ab (AQ (AD Io (pv 1) (AS CF rfl T.b_len Z6 (Aa (pv 0) Ac)) (AI _)) (Ag (Aw (Aj Av (pv 0) (pv 1) (λ_ _=>rfl)))) AE) (Ag (Aw Ae))),?_⟩
  try dsimp only[cxK]
  refine⟨_,rfl,_,rfl,l,_,rfl,.inl hS,_,_,rfl,rfl,_,rfl,?_⟩;obtain⟨n,rfl⟩:=F6 h0;refine LY (λhc=>?_) (λhc=>?_)
  ·have hc':n<ns.length:=by
    have:=Y7 hc;rw[B5]at this;lia
   refine⟨_,rfl,_,rfl,l,_,n,.int ns[n],rfl,rfl,hS,Al (by rw[B7,D3 hc'];rfl),?_⟩;have e:atN ns (n:Int)=ns[n]:=by
    unfold atN;rw[J1,D9,D3 hc'];rfl
   rw[e]at q;exact q
  ·have hc':ns.length<=n:=by
    have:¬(n:Int)<((ns.map V.int).length:Int):=λz=>hc (V9 z);rw[B5]at this;lia
   have e:atN ns (n:Int)=0:=by
    unfold atN;rw[J1,D9,U3 hc'];rfl
   rw[e]at q;exact q
end
inductive SpLaw(K:PySem.W.Frag)(vs:List V)(H:Hp)(Q:VK):Prop
 |mk (a:Addr) (ns:List Int) (_:vs=[.ref a]) (_:SqL K H a (ns.map V.int)) (_:ns.length<=63) (_:∀H',Q (.bl true) H'):SpLaw K vs H Q
def SW(K:PySem.W.Frag):Sp:=λvs H Q _=>SpLaw K vs H Q
end J
namespace J
open PySem L2
def Ap(g:GA)(x:Addr):Prop:=x≠g.lv/\x≠g.pt/\x≠g.nm
theorem Ap.new{a:Ad}{H:Hp}{g:GA}{G:Gv}(h:AH a H g G){x:Addr}(n:H x=none):Ap g x:=by
 obtain⟨ts,h3,_⟩:=h.pt;exact⟨W4 (Ar h.lv n),W4 (Ar h3 n),W4 (Ar h.nm n)⟩
theorem Fr.get{g:GA}{H H':Hp}{x:Addr}{o:HO}(f:Fr g H H')(p:Ap g x)(e:H x=some o):H' x=some o:=f _ _ e p.1 p.2.1 p.2.2
theorem Fr.tup{a:Ad}{g:GA}{G:Gv}{H H':Hp}{x:Addr}{l:List V}(f:Fr g H H')(h:AH a H g G)(e:H x=some (.tup l)):H' x=some (.tup l):=by
 obtain⟨us,h3,_⟩:=h.pt;exact f _ _ e (Ay e h.lv A2) (Ay e h3 A2) (Ay e h.nm A2)
theorem AG.mono{G G':Gv}{n m:Nat}(h:AG G G' n)(e:n<=m):AG G G' m:=⟨h.ok,h.pre,C2 h.few A0⟩
theorem Ph(l:Nat):(0:Int)<2^l:=Int.pow_pos A3
theorem pow2_lt{l:Nat}(h:l<64):(2:Int)^l<2^64:=by
 have:(2:Nat)^l<2^64:=U5 A3 h
 exact_mod_cast this
section
variable{P:Program}{w:World}{K:PySem.W.Frag}{mg:Str->Option Value}{base:Heap}{a:Ad}
end
seal L2.PA L2.PE L2.PS L2.PSs L2.PT L2.PW
section
variable{P:Program}{w:World}{K:PySem.W.Frag}{mg:Str->Option Value}{base:Heap}{a:Ad}
def spWh:Sp:=λvs H Q _=>(∃i:Int,vs=[.int i]/\Q (.bl true) H)\/(vs=[.non]/\Q (.bl false) H)
theorem ok_wh{f:Addr}{fd:FuncData}(F:Fun K "_law_whole" "_law_whole" Gm f fd)(T:Top K mg a):AK P w K mg base CX0 1 f fd GC spWh:=by
 refine F.ok NS (λvs H Q E h=>?_) (λcdv A outer s H vs Q E hr h=>?_)
 ·rcases h with ⟨i,rfl,_⟩|⟨rfl,_⟩<;>rfl
 ·refine⟨_,(Ag (Aw (Ii (AS FW rfl T.b_isinstance Y8 (Aa (pv 0) (Aa (IC (v:=.ty "int") rfl T.b_int Z7 rfl) Ac))) (Jh (VQ (AS FW rfl T.b_isinstance Y8 (Aa (pv 0) (Aa (IC (v:=.ty "bool") rfl T.b_bool PyProof.Rows.boot_bool rfl) Ac)))))))),?_⟩;rcases h with ⟨i,rfl,k⟩|⟨rfl,k⟩
  ·exact⟨_,rfl,_,_,_,.type "int",true,rfl,rfl,.of (.int i),(Wz K).1,true,rfl,CK ⟨_,rfl,_,_,_,.type "int",false,rfl,rfl,.of (.int i),(Wz K).2,false,rfl,k⟩⟩
  ·exact⟨_,rfl,_,_,_,.type "NoneType",false,rfl,rfl,.of .non,kit_ni K,false,rfl,Bw k⟩
end
theorem Ug{d:Int}(h0:0<=d)(h1:d<=9):d.natAbs.log2<1920:=by
 obtain⟨m,rfl⟩:=F6 h0;exact(show ∀m:Nat,m<10->(m:Int).natAbs.log2<1920 by decide +kernel) m B3
theorem Mn{n:Nat}(h:n<=100000):n<=sizeLine:=C2 h A3
theorem AA.noneN{H H':Hp}(s:AA H H'){x:Addr}(n:H' x=none):H x=none:=by
 cases e:H x with
 |none=>rfl
 |some o=>rw[s _ _ e]at n;cases n
theorem Tp{T:St->Hp->Prop}{C:Prop}(P:St->Hp->Prop)(h:(∀σ H,P σ H->T σ H)->C)(k:∀σ H,P σ H->T σ H):C:=h k
structure MA where
 tp:Addr
 l:Addr
 kc:Addr
 ds:List Addr
def jf2(gp mem:Addr):List (Str×V):=AM "memories" (.ref mem) (AM "grove" (.ref gp) [])
def jf5(gp mem pr l kc:Addr):List (Str×V):=AM "known_cells" (.ref kc) (AM "known_squares" (.ref l) (AM "rule" (.ref pr) (jf2 gp mem)))
theorem jf2_mem(gp mem:Addr):(jf2 gp mem).lookup ("memories" : Str)=some (V.ref mem):=by
 unfold jf2;rw[Ai,W2 rfl]
theorem WD(gp mem:Addr){m:Str}(h1:¬m=("memories" : Str))(h2:¬m=("grove" : Str)):(jf2 gp mem).lookup m=none:=by
 unfold jf2;rw[Ai,V8 h1,Ai,V8 h2];rfl
section
variable(gp mem pr l kc:Addr)
theorem WC:(jf5 gp mem pr l kc).lookup ("known_cells" : Str)=some (V.ref kc):=by
 unfold jf5;rw[Ai,W2 rfl]
theorem WB:(jf5 gp mem pr l kc).lookup ("known_squares" : Str)=some (V.ref l):=by
 unfold jf5;rw[Ai,V8 A1,Ai,W2 rfl]
theorem jf5_ru:(jf5 gp mem pr l kc).lookup ("rule" : Str)=some (V.ref pr):=by
 unfold jf5;rw[Ai,V8 A1,Ai,V8 A1,Ai,W2 rfl]
theorem Dv:(jf5 gp mem pr l kc).lookup ("grove" : Str)=some (V.ref gp):=by
 unfold jf5 jf2;rw[Ai,V8 A1,Ai,V8 A1,Ai,V8 A1,Ai,V8 A1,Ai,W2 rfl]
theorem Jp{m:Str}(h1:¬m=("known_cells" : Str))(h2:¬m=("known_squares" : Str))(h3:¬m=("rule" : Str))(h4:¬m=("memories" : Str))(h5:¬m=("grove" : Str)):(jf5 gp mem pr l kc).lookup m=none:=by
 unfold jf5;rw[Ai,V8 h1,Ai,V8 h2,Ai,V8 h3,WD _ _ h4 h5]
theorem Uy:(jf5 gp mem pr l kc).lookup ("after" : Str)=none:=Jp _ _ _ _ _ A1 A1 A1 A1 A1
theorem Ux:(jf5 gp mem pr l kc).lookup ("check_jump" : Str)=none:=Jp _ _ _ _ _ A1 A1 A1 A1 A1
theorem JL:(jf5 gp mem pr l kc).lookup ("reckoned" : Str)=none:=Jp _ _ _ _ _ A1 A1 A1 A1 A1
theorem Uw:(jf5 gp mem pr l kc).lookup ("fresh" : Str)=none:=Jp _ _ _ _ _ A1 A1 A1 A1 A1
theorem Wk:(jf5 gp mem pr l kc).lookup ("four_halfway" : Str)=none:=Jp _ _ _ _ _ A1 A1 A1 A1 A1
theorem noJ_mid:(jf5 gp mem pr l kc).lookup ("middle_after" : Str)=none:=Jp _ _ _ _ _ A1 A1 A1 A1 A1
theorem Wl:(jf5 gp mem pr l kc).lookup ("cell_after" : Str)=none:=Jp _ _ _ _ _ A1 A1 A1 A1 A1
end
inductive Nv:HO->Prop
 |tup {xs:List V}:Nv (.tup xs)
 |ins {C dx:Addr} {fs:List (Str×V)} (h1:1<=fs.length) (h2:fs.length<=3):Nv (.ins C dx fs)
theorem Mi(f:Str)(v:V):∀fs:List (Str×V),1<=(AM f v fs).length
 |[]=>B6 1
 | (g,x)::r=>by
  unfold AM;split
  ·rw[D8];lia
  ·rw[D8];lia
theorem CL.kp{a:Ad}{H H':Hp}{p:Addr}{c:Bn}(k:∀b o,H b=some o->Nv o->H' b=some o)(h:CL a H p c):CL a H' p c:=by
 cases h with
 |am h ht=>exact .am (k _ _ h (.ins (Mi _ _ _) (C2 (Bm _ _ _) (P0 (C2 (Bm _ _ _) (by show 0+1<=2;decide)))))) (k _ _ ht .tup)
 |pl h ht=>exact .pl (k _ _ h (.ins (Mi _ _ _) (C2 (Bm _ _ _) (by show 0+1<=3;decide)))) (k _ _ ht .tup)
theorem BK.kp{a:Ad}{H H':Hp}{p:Addr}{c:Be}(k:∀b o,H b=some o->Nv o->H' b=some o)(h:BK a H p c):BK a H' p c:=by
 obtain⟨dx,t,cs,h1,h2,h3⟩:=h.ex;exact⟨dx,t,cs,k _ _ h1 (.ins (Mi _ _ _) (C2 (Bm _ _ _) (P0 (C2 (Bm _ _ _) (P0 (C2 (Bm _ _ _) (by show 0+1<=1;decide))))))),k _ _ h2 .tup,Paired.imp (λ_ _ z=>z.kp k) h3⟩
theorem Cf.kp{a:Ad}{H H':Hp}{p:Addr}{x:Str}{r:AC}(k:∀b o,H b=some o->Nv o->H' b=some o)(h:Cf a H p x r):Cf a H' p x r:=by
 obtain⟨dx,t,cs,h1,h2,h3⟩:=h.ex;exact⟨dx,t,cs,k _ _ h1 (.ins (Mi _ _ _) (C2 (Bm _ _ _) (P0 (C2 (Bm _ _ _) (by show 0+1<=2;decide))))),k _ _ h2 .tup,Paired.imp (λ_ _ z=>z.kp k) h3⟩
def mK(ms:List (Str×MA)):List (Key×V):=ms.map λe=>(Sum.inr e.1,V.ref e.2.tp)
theorem To(t:Str):∀ms:List (Str×MA),(∃m,(t,m)∈ms/\Bu (mK ms) (Sum.inr t)=some (.ref m.tp))\/(Bu (mK ms) (Sum.inr t)=none/\∀e∈ms,e.1≠t)
 |[]=>.inr ⟨rfl,λe he=>nomatch he⟩
 |e::r=>by
  by_cases h:e.1=t
  ·refine .inl ⟨e.2,?_,?_⟩
   ·rw[<-h];exact C0
   ·exact BE (p:=(Sum.inr e.1,V.ref e.2.tp)) (r:=mK r) (by rw[h])
  ·have n:Bu (mK (e::r)) (Sum.inr t)=Bu (mK r) (Sum.inr t):=Bh (p:=(Sum.inr e.1,V.ref e.2.tp)) (r:=mK r) λz=>h (Sum.inr.inj z);rcases To t r with ⟨m,h1,h2⟩|⟨h1,h2⟩
   ·exact .inl ⟨m,C1 _ h1,n.trans h2⟩
   ·refine .inr ⟨n.trans h1,λx hx=>?_⟩;rcases B8.mp hx with z|z
    ·rw[z];exact h
    ·exact h2 x z
inductive ChgR(H H':Hp)(t:Str)(ms ms':List (Str×MA))(m:MA):Prop
 |old (_:(t,m)∈ms) (_:ms'=ms):ChgR H H' t ms ms' m
 |new (_:ms'=ms++[(t,m)]) (_:∀e∈ms,e.1≠t) (_:H m.tp=none/\H m.l=none/\H m.kc=none/\∀d∈m.ds,H d=none) (_:H' m.tp=some (.tup [.ref m.l,.ref m.kc])) (_:H' m.l=some (.lst (m.ds.map V.ref))) (_:H' m.kc=some (.dT [])) (_:∀d∈m.ds,H' d=some (.dK [])) (_:m.ds.length=47) (_:m.ds.Nodup):ChgR H H' t ms ms' m
section
variable{P:Program}{w:World}{K:PySem.W.Frag}{mg:Str->Option Value}{base:Heap}{a:Ad}
inductive Yj(a:Ad)(vs:List V)(H:Hp)(Q:VK):Prop
 |mk (p:Addr) (t:Str) (r:AC) (_:vs=[.ref p]) (_:Cf a H p t r) (_:Q (.str t) H):Yj a vs H Q
def RG(a:Ad):Sp:=λvs H Q _=>Yj a vs H Q
theorem ok_show{f:Addr}{fd:FuncData}(F:Fun K "shown_rule" "shown_rule" Gg f fd)(T:Top K mg a):AK P w K mg base CX0 1 f fd Gy (RG a):=by
 refine F.ok NP (λvs H Q E h=>?_) (λcdv A outer s H vs Q E hr h=>?_)
 ·obtain⟨p,t,r,rfl,_⟩:=h;rfl
 ·obtain⟨p,t,r,rfl,hR,k⟩:=h;obtain⟨dx,tt,cs,h1,h2,h3⟩:=hR.ex;refine⟨_,(Ag (Aw (Ax (pv 0) rfl))),?_⟩
  try dsimp only[cxK]
  exact xwf rfl rfl h1 T.cl_Rule T.na_Rule_text (WO A1) k
inductive SpChg(a:Ad)(vs:List V)(H:Hp)(Q:VK):Prop
 |mk (p dx mem pr:Addr) (fs:List (Str×V)) (t:Str) (r:AC) (ms:List (Str×MA)) (_:vs=[.ref p,.ref pr]) (_:H p=some (.ins a.c_Jumps dx fs)) (_:fs.lookup ("memories" : Str)=some (.ref mem)) (_:fs.length<=10) (_:H mem=some (.dK (mK ms))) (_:ms.length<=1000) (_:∀e∈ms,H e.2.tp=some (.tup [.ref e.2.l,.ref e.2.kc])) (_:Cf a H pr t r) (_:∀(H':Hp)(m:MA)(ms':List (Str×MA)),(∀b o,H b=some o->b≠p->b≠mem->H' b=some o)->H' p=some (.ins a.c_Jumps dx (AM "known_cells" (.ref m.kc) (AM "known_squares" (.ref m.l) (AM "rule" (.ref pr) fs))))->H' mem=some (.dK (mK ms'))->ChgR H H' t ms ms' m->Q .non H'):SpChg a vs H Q
def VB(a:Ad):Sp:=λvs H Q _=>SpChg a vs H Q
theorem ok_chg{f:Addr}{fd:FuncData}(F:Fun K "change" "Jumps.change" Ds f fd)(T:Top K mg a)(bQ:Cal P w K mg base CX0 1 "shown_rule" Gy (RG a)):AK P w K mg base CX0 2 f fd ER (VB a):=by
 refine F.ok GQ (λvs H Q E h=>?_) (λcdv A outer s H vs Q E hr h=>?_)
 ·obtain⟨p,dx,mem,pr,fs,t,r,ms,rfl,_⟩:=h;rfl
 ·obtain⟨p,dx,mem,pr,fs,t,r,ms,rfl,hp,hmem,hfs,hm,few,tps,hR,k⟩:=h;refine⟨_,(Ab (Aq (i:=2) GQ.nd rfl (Or.inl rfl) (Au bQ (rm hr) rfl An (Aa (pv 1) Ac))) (Ab (AQ (VL (Uo (Ec hr) (pv 2) (Ax (pv 0) rfl))) (Ag (Fe (Ec hr) (Ax (pv 0) rfl) (pv 2) (Ih (Aa (Co rfl (BD.of (So:=Ah Ds) (No:=Ir) (N:=["e"]) (k:=1) (cs:=[]) rfl rfl A1) (Lo rfl T.b_range (Bq BG (BP rfl T.k_TOP_LEVEL) Ae Ac)) (λ_ _ _=>(Bk (i:=0) A1 rfl rfl)) (λ_ _ _=>BL) (λ_ _ _=>JE)) (Aa JD Ac))) rfl)) AE) (Ab (Cc (pv 0) (pv 1) rfl) (Ab (Cc (pv 0) (Aj Am (Th (Ec hr) (Ax (pv 0) rfl) (pv 2) (λ_ _=>rfl)) Ae (λ_ _=>rfl)) rfl) (Ag (Cc (pv 0) (Aj Am (Th (Ec hr) (Ax (pv 0) rfl) (pv 2) (λ_ _=>rfl)) Ae (λ_ _=>rfl)) rfl)))))),?_⟩
  try dsimp only[cxK]
  have npm:p≠mem:=Ay hp hm A2;refine xq1 rfl ⟨pr,t,r,rfl,hR,?_⟩;apply Tp (fun σ H1=>σ=[some (.ref p),some (.ref pr),some (.str t)]/\∃(m:MA)(ms':List (Str×MA)),(∀b o,H b=some o->b≠mem->H1 b=some o)/\H1 mem=some (.dK (mK ms'))/\Bu (mK ms') (Sum.inr t)=some (.ref m.tp)/\H1 m.tp=some (.tup [.ref m.l,.ref m.kc])/\ChgR H H1 t ms ms' m/\m.tp≠p/\(H m.tp=none->m.l≠p/\m.kc≠p/\∀d∈m.ds,d≠p))
  ·intro rest;refine xw2 rfl rfl (xq5 hp T.cl_Jumps T.na_Jumps_memories hmem ⟨mem,(xq1 rfl ⟨EZ.k (k:=Sum.inr t) hm,(xq1 rfl ?_)⟩)⟩);rcases To t ms with ⟨m,m1,m2⟩|⟨no,nk⟩
   ·rw[m2];refine Bw (rest _ _ ⟨rfl,m,ms,λb o e _=>e,hm,m2,tps _ m1,.old m1 rfl,Ay (tps _ m1) hp A2,λz=>?_⟩);rw[tps _ m1]at z;cases z
   ·rw[no];refine CK ?_;refine xq2 rfl rfl (xq1 rfl ⟨by decide,by decide,?_⟩);refine UZ (n:=47) (λi acc H2=>AA H H2/\∃ds:List Addr,acc=ds.map V.ref/\ds.length=i/\(∀d∈ds,H2 d=some (.dK []))/\(∀d∈ds,H d=none)/\ds.Nodup) ⟨AA.refl H,[],rfl,rfl,λd hd=>(nomatch hd),λd hd=>(nomatch hd),.nil⟩ ?_ ?_
    ·rintro i acc H2 hi ⟨sm,ds,rfl,ln,c1,c2,nd⟩;refine⟨⟨[some (.int (0+(i:Int)))],rfl,rfl⟩,?_,GT λd hd=>⟨sm.trans (Az hd),ds++[d],by rw[C7];rfl,by rw[C4,ln];rfl,λx hx=>?_,λx hx=>?_,?_⟩⟩
     ·rw[B5,ln];exact D5 hi A3
     ·rcases D4.mp hx with z|z
      ·exact Az hd _ _ (c1 x z)
      ·rw[C3.mp z];exact Af
     ·rcases D4.mp hx with z|z
      ·exact c2 x z
      ·rw[C3.mp z];exact AA.noneN sm hd
     ·rw[O6];refine⟨nd,by simp,λx hx y hy z=>?_⟩;rw[C3.mp hy]at z;rw[<-z,c1 x hx]at hd;cases hd
    ·rintro acc H2 ⟨sm,ds,rfl,ln,c1,c2,nd⟩ l hl;generalize e_s3:upd H2 l _=H3;obtain⟨s3,hl3⟩:=alc hl e_s3;intro kc hkc;generalize e_s4:upd H3 kc _=H4;obtain⟨s4,hk4⟩:=alc hkc e_s4;refine⟨(by show 2<=sizeLine;decide),λtp htp=>?_⟩;show ∃_,_;generalize cV:upd H4 tp _=H5;obtain⟨s5,ht5⟩:=alc htp cV;have n1:H l=none:=AA.noneN sm hl;have n2:H kc=none:=AA.noneN (sm.trans s3) hkc;have n3:H tp=none:=AA.noneN ((sm.trans s3).trans s4) htp;have s05:=((sm.trans s3).trans s4).trans s5;have hm5:=s05 _ _ hm;refine xwf rfl rfl (s05 _ _ hp) T.cl_Jumps T.na_Jumps_memories hmem (xq1 rfl ⟨mem,(xq1 rfl ⟨Jq.k (k:=Sum.inr t) hm5 ?_,?_⟩)⟩)
     ·unfold mK;rw[B5];exact J3 few A3
     ·rw[JC _ no];have e6:mK ms++[(Sum.inr t,V.ref tp)]=mK (ms++[(t,⟨tp,l,kc,ds⟩)]):=by unfold mK;rw[C7];rfl
      rw[e6];have k6:∀b o,H5 b=some o->b≠mem->upd H5 mem (.dK (mK (ms++[(t,⟨tp,l,kc,ds⟩)]))) b=some o:=λb o e n=>by rw[Ao n];exact e
      have hm6:upd H5 mem (.dK (mK (ms++[(t,⟨tp,l,kc,ds⟩)]))) mem=some (.dK (mK (ms++[(t,⟨tp,l,kc,ds⟩)]))):=Af;generalize upd H5 mem (.dK (mK (ms++[(t,⟨tp,l,kc,ds⟩)])))=H6 at k6 hm6⊢;have nm:∀{x:Addr},H x=none->x≠mem:=λz y=>by rw[y,hm]at z;cases z
      have np:∀{x:Addr},H x=none->x≠p:=λz y=>by rw[y,hp]at z;cases z
      refine rest _ _ ⟨rfl,⟨tp,l,kc,ds⟩,ms++[(t,⟨tp,l,kc,ds⟩)],λb o e n=>k6 _ _ (s05 _ _ e) n,hm6,?_,k6 _ _ ht5 (nm n3),.new rfl nk ⟨n3,n1,n2,c2⟩ (k6 _ _ ht5 (nm n3)) (k6 _ _ (s5 _ _ (s4 _ _ hl3)) (nm n1)) (k6 _ _ (s5 _ _ hk4) (nm n2)) (λd hd=>k6 _ _ (s5 _ _ (s4 _ _ (s3 _ _ (c1 d hd)))) (nm (c2 d hd))) ln nd,np n3,λ_=>⟨np n1,np n2,λd hd=>np (c2 d hd)⟩⟩;rw[<-e6];rw[OQ no];exact BE rfl
  rintro σ H1 ⟨rfl,m,ms',k1,hm1,vv,ht1,chg,ntp,nnew⟩;have hp1:=k1 _ _ hp npm;have lf:fs.length<1000:=by lia
  have put:∀{Hk:Hp}{fs':List (Str×V)}(fs'':List (Str×V)),Hk p=some (.ins a.c_Jumps dx fs')->(∀b o,Hk b=some o->b≠p->upd Hk p (.ins a.c_Jumps dx fs'') b=some o)/\upd Hk p (.ins a.c_Jumps dx fs'') p=some (.ins a.c_Jumps dx fs''):=λ{Hk fs'} fs'' e=>⟨λb o e n=>by rw[Ao n];exact e,Af⟩
  refine xw2 rfl rfl ⟨p,_,dx,fs,rfl,hp1,T.cl_Jumps,T.na_Jumps_rule,lf,?_⟩;obtain⟨k2,hp2⟩:=put (AM "rule" (.ref pr) fs) hp1;generalize upd H1 p (.ins a.c_Jumps dx (AM "rule" (.ref pr) fs))=H2 at k2 hp2⊢;have l2:=Bm ("rule" : Str) (.ref pr) fs;have look2:(AM "rule" (.ref pr) fs).lookup ("memories" : Str)=some (.ref mem):=by rw[Ai,V8 A1];exact hmem
  have hm2:=k2 _ _ hm1 (W4 npm);have ht2:=k2 _ _ ht1 ntp;refine xwf rfl rfl hp2 T.cl_Jumps T.na_Jumps_memories look2 (xq1 rfl ⟨mem,.ref m.tp,rfl,vv▸EZ.k (k:=Sum.inr t) hm2,(xq4 rfl rfl (SqT.of ht2) (Al (j:=0) rfl) (xq1 rfl ⟨p,_,dx,(xq1 rfl ⟨hp2,T.cl_Jumps,T.na_Jumps_known_squares,by lia,?_⟩)⟩))⟩);obtain⟨k3,hp3⟩:=put (AM "known_squares" (.ref m.l) (AM "rule" (.ref pr) fs)) hp2;generalize upd H2 p (.ins a.c_Jumps dx (AM "known_squares" (.ref m.l) (AM "rule" (.ref pr) fs)))=H3 at k3 hp3⊢;have l3:=Bm ("known_squares" : Str) (.ref m.l) (AM "rule" (.ref pr) fs);have look3:(AM "known_squares" (.ref m.l) (AM "rule" (.ref pr) fs)).lookup ("memories" : Str)=some (.ref mem):=by rw[Ai,V8 A1];exact look2
  have hm3:=k3 _ _ hm2 (W4 npm);have ht3:=k3 _ _ ht2 ntp;refine xwf rfl rfl hp3 T.cl_Jumps T.na_Jumps_memories look3 (xq1 rfl ⟨mem,.ref m.tp,rfl,vv▸EZ.k (k:=Sum.inr t) hm3,(xq4 rfl rfl (SqT.of ht3) (Al (j:=1) rfl) (xq1 rfl ⟨p,_,dx,(xq1 rfl ⟨hp3,T.cl_Jumps,T.na_Jumps_known_cells,by lia,?_⟩)⟩))⟩);obtain⟨k4,hp4⟩:=put (AM "known_cells" (.ref m.kc) (AM "known_squares" (.ref m.l) (AM "rule" (.ref pr) fs))) hp3;have k14:∀b o,H1 b=some o->b≠p->upd H3 p (.ins a.c_Jumps dx (AM "known_cells" (.ref m.kc) (AM "known_squares" (.ref m.l) (AM "rule" (.ref pr) fs)))) b=some o:=λb o e n=>k4 _ _ (k3 _ _ (k2 _ _ e n) n) n;refine k _ m ms' (λb o e n1 n2=>k14 _ _ (k1 _ _ e n2) n1) hp4 (k14 _ _ hm1 (W4 npm)) ?_;cases chg with
  |old h1 h2=>exact .old h1 h2
  |new h1 h2 h3 h4 h5 h6 h7 h8 h9 =>
   obtain⟨y1,y2,y3⟩:=nnew h3.1;exact .new h1 h2 h3 (k14 _ _ h4 ntp) (k14 _ _ h5 y1) (k14 _ _ h6 y2) (λd hd=>k14 _ _ (h7 d hd) (y3 d hd)) h8 h9
inductive Qe(a:Ad)(vs:List V)(H:Hp)(Q:VK):Prop
 |mk (p dx gp pr:Addr) (t:Str) (r:AC) (_:vs=[.ref p,.ref gp,.ref pr]) (_:H p=some (.ins a.c_Jumps dx [])) (_:Cf a H pr t r) (_:∀(H':Hp)(mem:Addr)(m:MA),(∀b o,H b=some o->b≠p->H' b=some o)->H mem=none->H' p=some (.ins a.c_Jumps dx (jf5 gp mem pr m.l m.kc))->H' mem=some (.dK (mK [(t,m)]))->(H m.tp=none/\H m.l=none/\H m.kc=none/\∀d∈m.ds,H d=none)->H' m.tp=some (.tup [.ref m.l,.ref m.kc])->H' m.l=some (.lst (m.ds.map V.ref))->H' m.kc=some (.dT [])->(∀d∈m.ds,H' d=some (.dK []))->m.ds.length=47->m.ds.Nodup->(∀d∈m.ds,d≠mem)->Q .non H'):Qe a vs H Q
def Pa(a:Ad):Sp:=λvs H Q _=>Qe a vs H Q
theorem Wc{f:Addr}{fd:FuncData}(F:Fun K "__init__" "Jumps.__init__" Go f fd)(T:Top K mg a)(bD:BN P w K mg base CX0 2 a.c_Jumps "change" ER (VB a)):AK P w K mg base CX0 3 f fd GF (Pa a):=by
 refine F.ok NU (λvs H Q E h=>?_) (λcdv A outer s H vs Q E hr h=>?_)
 ·obtain⟨p,dx,gp,pr,t,r,rfl,_⟩:=h;rfl
 ·obtain⟨p,dx,gp,pr,t,r,rfl,hp,hR,k⟩:=h;refine⟨_,(Ab (Cc (pv 0) (pv 1) rfl) (Ab (Cc (pv 0) JE rfl) (Ag (CB (AB (pv 0) bD (rm hr) An (Aa (pv 2) Ac)))))),?_⟩
  try dsimp only[cxK]
  refine xw2 rfl rfl ⟨p,_,dx,[],rfl,hp,T.cl_Jumps,T.na_Jumps_grove,B0,?_⟩;have k1:∀b o,H b=some o->b≠p->upd H p (.ins a.c_Jumps dx (AM "grove" (.ref gp) [])) b=some o:=λb o e n=>by rw[Ao n];exact e
  have hp1:upd H p (.ins a.c_Jumps dx (AM "grove" (.ref gp) [])) p=some (.ins a.c_Jumps dx (AM "grove" (.ref gp) [])):=Af;have kn:∀b,upd H p (.ins a.c_Jumps dx (AM "grove" (.ref gp) [])) b=none->H b=none:=λb e=>by
   by_cases z:b=p
   ·rw[z,hp1]at e;cases e
   ·rw[Ao z]at e;exact e
  generalize upd H p (.ins a.c_Jumps dx (AM "grove" (.ref gp) []))=H1 at k1 hp1 kn⊢;intro mem hmem;generalize dA:upd H1 mem _=H2;obtain⟨s2,hm2⟩:=alc hmem dA;have nmp:mem≠p:=λz=>by rw[z,hp1]at hmem;cases hmem
  refine xq1 rfl ⟨p,_,dx,(xq1 rfl ⟨s2 _ _ hp1,T.cl_Jumps,T.na_Jumps_memories,B1,?_⟩)⟩;have k3:∀b o,H2 b=some o->b≠p->upd H2 p (.ins a.c_Jumps dx (jf2 gp mem)) b=some o:=λb o e n=>by rw[Ao n];exact e
  have hp3:upd H2 p (.ins a.c_Jumps dx (jf2 gp mem)) p=some (.ins a.c_Jumps dx (jf2 gp mem)):=Af;have kn3:∀b,upd H2 p (.ins a.c_Jumps dx (jf2 gp mem)) b=none->H b=none:=λb e=>by
   by_cases z:b=p
   ·rw[z,hp3]at e;cases e
   ·rw[Ao z]at e;exact kn _ (AA.noneN s2 e)
  rw[show AM ("memories" : Str) (V.ref mem) (AM ("grove" : Str) (V.ref gp) [])=jf2 gp mem from rfl];generalize upd H2 p (.ins a.c_Jumps dx (jf2 gp mem))=H3 at k3 hp3 kn3⊢;have k03:∀b o,H b=some o->b≠p->H3 b=some o:=λb o e n=>k3 _ _ (s2 _ _ (k1 _ _ e n)) n;have hm3:=k3 _ _ hm2 nmp;have hR3:Cf a H3 pr t r:=by
   refine hR.kp λb o e n=>k03 _ _ e λz=>?_;rw[z,hp]at e;cases e;cases n with
   |ins h1 _=>cases h1
  refine xwn rfl rfl hp3 (WD _ _ A1 A1) rfl ⟨p,dx,mem,pr,jf2 gp mem,t,r,[],rfl,hp3,jf2_mem _ _,by rw[show(jf2 gp mem).length=2 from rfl];decide,hm3,F8 _,λe he=>(nomatch he),hR3,λH' m ms' fr hp' hm' chg=>?_⟩;cases chg with
  |old h1 _=>cases h1
  |new h1 h2 h3 h4 h5 h6 h7 h8 h9 =>
   rw[h1]at hm';refine k H' mem m (λb o e n=>fr _ _ (k03 _ _ e n) n ?_) (kn _ hmem) hp' hm' ⟨kn3 _ h3.1,kn3 _ h3.2.1,kn3 _ h3.2.2.1,λd hd=>kn3 _ (h3.2.2.2 d hd)⟩ h4 h5 h6 h7 h8 h9 λd hd z=>?_
   ·intro z;rw[z]at e;rw[kn _ hmem]at e;cases e
   ·have:=h3.2.2.2 d hd;rw[z,hm3]at this;cases this
end
def qO(G:Gv)(n k:Nat):Nat:=match G[n]? with
 |some q=>(q.parts.getD k 0).toNat
 |none=>0
def cel(G:Gv):Nat->Nat->Nat->Nat->Nat
 |0,n,_,_=>n
 |l+1,n,x,y=>cel G l (qO G n ((x/2^l)%2+2*((y/2^l)%2))) x y
def stp(r:AC)(c:Nat->Nat->Int):Nat->Nat->Int:=λx y=>CQ r (c x y) [c (x-1) (y-1),c x (y-1),c (x+1) (y-1),c (x-1) y,c (x+1) y,c (x-1) (y+1),c x (y+1),c (x+1) (y+1)]
def Bg(r:AC):Nat->(Nat->Nat->Int)->Nat->Nat->Int
 |0,c=>c
 |n+1,c=>stp r (Bg r n c)
def BZ(G:Gv)(l n:Nat):Nat->Nat->Int:=λx y=>(cel G l n x y:Int)
def JR(r:AC)(G:Gv)(e n m:Nat):Prop:=∃l:Nat,Ak G n ((l+2:Nat):Int)/\e<=l/\Ak G m ((l+1:Nat):Int)/\∀x y,x<2^(l+1)->y<2^(l+1)->BZ G (l+1) m x y=Bg r (2^e) (BZ G (l+2) n) (x+2^l) (y+2^l)
theorem GOk.four{G:Gv}(ok:GOk G){n l:Nat}(h:Ak G n ((l+1:Nat):Int)):∃x y z w:Nat,G[n]?=some ⟨[(x:Int),(y:Int),(z:Int),(w:Int)],((l+1:Nat):Int)⟩/\Ak G x (l:Int)/\Ak G y (l:Int)/\Ak G z (l:Int)/\Ak G w (l:Int):=by
 obtain⟨q,e,el⟩:=h;have h8:8<=n:=by
  refine N5 λz=>?_;rw[ok.leaf n z]at e;cases e;have:(0:Int)=((l+1:Nat):Int):=el;lia
 obtain⟨x,y,z,w,p,⟨l1,l2,l3,l4⟩,_⟩:=ok.node n q e h8;have e1:q.lev-1=(l:Int):=by lia
 rw[e1]at l1 l2 l3 l4;refine⟨x,y,z,w,?_,l1,l2,l3,l4⟩;rw[e];cases q with
 |mk pp ll=>cases p;cases el;rfl
theorem GOk.cell{G:Gv}(ok:GOk G){n:Nat}(h:Ak G n 0):n<8:=by
 obtain⟨q,e,el⟩:=h;refine S6 λz=>?_;obtain⟨_,_,_,_,_,_,h1,_⟩:=ok.node n q e z;lia
theorem Dy{G:Gv}{n x y z w:Nat}{l:Int}(e:G[n]?=some ⟨[(x:Int),(y:Int),(z:Int),(w:Int)],l⟩):qO G n 0=x/\qO G n 1=y/\qO G n 2=z/\qO G n 3=w:=by
 unfold qO;rw[e];exact⟨rfl,rfl,rfl,rfl⟩
theorem Jg{G:Gv}(ok:GOk G){n l:Nat}(h:Ak G n ((l+1:Nat):Int)){k:Nat}(hk:k<4):Ak G (qO G n k) (l:Int):=by
 obtain⟨x,y,z,w,e,h1,h2,h3,h4⟩:=ok.four h;obtain⟨q1,q2,q3,q4⟩:=Dy e
 match k,hk with
 |0,_=>rw[q1];exact h1
 |1,_=>rw[q2];exact h2
 |2,_=>rw[q3];exact h3
 |3,_=>rw[q4];exact h4
theorem Rt{G G':Gv}{i:Nat}(ok:GOk G)(go:AG G G' i):∀(l n:Nat),Ak G n (l:Int)->∀x y,cel G' l n x y=cel G l n x y
 |0,n,_,x,y=>rfl
 |l+1,n,h,x,y=>by
  have e:∀k,qO G' n k=qO G n k:=λk=>by
   obtain⟨q,e,_⟩:=h;unfold qO;rw[go.get e,e]
  show cel G' l (qO G' n _) x y=cel G l (qO G n _) x y;rw[e];exact Rt ok go l _ (Jg ok h A0) x y
theorem Ck{G G':Gv}{i:Nat}(ok:GOk G)(go:AG G G' i){l n:Nat}(h:Ak G n (l:Int)):BZ G' l n=BZ G l n:=by
 funext x y
 unfold BZ;rw[Rt ok go l n h]
theorem JR.goes{r:AC}{G G':Gv}{i e n m:Nat}(ok:GOk G)(go:AG G G' i)(h:JR r G e n m):JR r G' e n m:=by
 obtain⟨l,h1,h2,h3,h4⟩:=h;refine⟨l,go.lev h1,h2,go.lev h3,λx y hx hy=>?_⟩;rw[Ck ok go h1,Ck ok go h3];exact h4 x y hx hy
def Bs(G:Gv):Prop:=∀j:Nat,j<48->G[8+j]?=some ⟨[(bareN j:Int),(bareN j:Int),(bareN j:Int),(bareN j:Int)],(j:Int)+1⟩
theorem Bs.goes{G G':Gv}{i:Nat}(h:Bs G)(go:AG G G' i):Bs G':=λj hj=>go.get (h j hj)
theorem Bs.zero{G:Gv}(h:Bs G):∀(l:Nat),l<=48->∀x y,cel G l (bareN l) x y=0
 |0,_,x,y=>rfl
 |l+1,hl,x,y=>by
  obtain⟨q1,q2,q3,q4⟩:=Dy (h l A0);have e:∀k,k<4->qO G (8+l) k=bareN l:=λk hk=>by
   match k,hk with
   |0,_=>exact q1
   |1,_=>exact q2
   |2,_=>exact q3
   |3,_=>exact q4
  show cel G l (qO G (8+l) _) x y=0;rw[e _ A0];exact h.zero l A0 x y
theorem Qo{r:AC}(h:CQ r 0 CI=0):∀k,Bg r k (λ_ _=>0)=λ_ _=>0
 |0=>rfl
 |k+1=>by
  show stp r (Bg r k _)=_;rw[Qo h k]
  funext x y
  exact h
theorem Bs.lev{G:Gv}(ok:GOk G)(h:Bs G):∀l:Nat,l<=48->Ak G (bareN l) (l:Int)
 |0,_=>⟨_,ok.leaf 0 A3,rfl⟩
 |l+1,hl=>⟨_,h l A0,by show(l:Int)+1=((l+1:Nat):Int);lia⟩
theorem JR.bare{r:AC}{G:Gv}(ok:GOk G)(h:Bs G)(re:CQ r 0 CI=0){l e:Nat}(hl:l+2<=48)(he:e<=l):JR r G e (bareN (l+2)) (bareN (l+1)):=by
 refine⟨l,h.lev ok _ hl,he,h.lev ok _ A0,λx y _ _=>?_⟩;have z:∀k,k<=48->BZ G k (bareN k)=λ_ _=>0:=λk hk=>by
  funext x y
  unfold BZ;rw[h.zero k hk x y];rfl
 rw[z _ hl,z _ A0,Qo re]
theorem Yb{r:AC}(h:La r){cell:Int}(hc:GY cell)(ar:List Int):GY (CQ r cell ar):=by
 cases e:Ma r cell ar with
 |none=>rw[NI e];exact hc
 |some i =>
  obtain⟨c,h1,h2⟩:=NH e;rw[h2];exact(h.ok c (D2 h1)).makes
theorem WS:∀xs:List Int,xs.length=8->∃a b c d e f g h,xs=[a,b,c,d,e,f,g,h]
 |[a,b,c,d,e,f,g,h],_=>⟨a,b,c,d,e,f,g,h,rfl⟩
structure GX(H:Hp)(g:GA)(G:Gv)(N M:Nat)(r:AC)(m:MA):Prop where
 tp:H m.tp=some (.tup [.ref m.l,.ref m.kc])
 l:H m.l=some (.lst (m.ds.map V.ref))
 ap:m.l≠g.lv/\m.l≠g.pt/\m.kc≠g.nm
 len:m.ds.length=47
 nd:m.ds.Nodup
 sq:∀(e:Nat) d,m.ds[e]?=some d->∃kv,H d=some (.dK kv)/\kv.length<=N/\(∀p∈kv,∃i,p.1=Sum.inl i)/\∀(n:Nat) v,Bu kv (Sum.inl (n:Int))=some v->∃k:Nat,v=.int (k:Int)/\JR r G e n k
 ce:∃kc,H m.kc=some (.dT kc)/\kc.length<=M/\∀(ks:List Int) v,Bu kc (kOf ks)=some v->∃c ar,ks=c::ar/\v=.int (CQ r c ar)
theorem GX.mono{H:Hp}{g:GA}{G:Gv}{N M N' M':Nat}{r:AC}{m:MA}(h:GX H g G N M r m)(e1:N<=N')(e2:M<=M'):GX H g G N' M' r m:=by
 refine⟨h.tp,h.l,h.ap,h.len,h.nd,λe d ed=>?_,?_⟩
 ·obtain⟨kv,h1,h2,h3,h4⟩:=h.sq e d ed;exact⟨kv,h1,C2 h2 e1,h3,h4⟩
 ·obtain⟨kc,h1,h2,h3⟩:=h.ce;exact⟨kc,h1,C2 h2 e2,h3⟩
theorem GX.kp{H H':Hp}{g:GA}{G G':Gv}{N M i:Nat}{r:AC}{m:MA}(h:GX H g G N M r m)(ok:GOk G)(go:AG G G' i)(k:∀b o,H b=some o->b=m.tp\/b=m.l\/b∈m.ds\/b=m.kc->H' b=some o):GX H' g G' N M r m:=by
 refine⟨k _ _ h.tp (.inl rfl),k _ _ h.l (.inr (.inl rfl)),h.ap,h.len,h.nd,λe d ed=>?_,?_⟩
 ·obtain⟨kv,h1,h2,h3,h4⟩:=h.sq e d ed;refine⟨kv,k _ _ h1 (.inr (.inr (.inl (D2 ed)))),h2,h3,λn v hv=>?_⟩;obtain⟨x,e1,e2⟩:=h4 n v hv;exact⟨x,e1,e2.goes ok go⟩
 ·obtain⟨kc,h1,h2,h3⟩:=h.ce;exact⟨kc,k _ _ h1 (.inr (.inr (.inr rfl))),h2,h3⟩
structure JW(a:Ad)(H:Hp)(g:GA)(G:Gv)(N M:Nat)(p dx mem pr:Addr)(r:AC)(m:MA):Prop where
 gr:AH a H g G
 ok:GOk G
 bs:Bs G
 br:H g.br=some (.lst ((Cy 48).map V.int))
 nbr:g.br≠g.lv/\g.br≠g.pt
 hp:H p=some (.ins a.c_Jumps dx (jf5 g.p mem pr m.l m.kc))
 ru:Cf a H pr (CM r) r
 rok:La r
 rest:CQ r 0 CI=0
 me:GX H g G N M r m
theorem JW.same{a:Ad}{H H':Hp}{g:GA}{G:Gv}{N M:Nat}{p dx mem pr:Addr}{r:AC}{m:MA}(s:AA H H')(h:JW a H g G N M p dx mem pr r m):JW a H' g G N M p dx mem pr r m :=
 ⟨h.gr.same s,h.ok,h.bs,s _ _ h.br,h.nbr,s _ _ h.hp,h.ru.same s,h.rok,h.rest,h.me.kp h.ok (AG.refl h.ok) λb o e _=>s _ _ e⟩
theorem JW.mono{a:Ad}{H:Hp}{g:GA}{G:Gv}{N M N' M':Nat}{p dx mem pr:Addr}{r:AC}{m:MA}(h:JW a H g G N M p dx mem pr r m)(e1:N<=N')(e2:M<=M'):JW a H g G N' M' p dx mem pr r m :=
 ⟨h.gr,h.ok,h.bs,h.br,h.nbr,h.hp,h.ru,h.rok,h.rest,h.me.mono e1 e2⟩
theorem GX.fr{a:Ad}{H H':Hp}{g:GA}{G G':Gv}{N M i:Nat}{r:AC}{m:MA}(h:GX H g G N M r m)(hg:AH a H g G)(ok:GOk G)(f:Fr g H H')(go:AG G G' i):GX H' g G' N M r m:=by
 obtain⟨ts,h3,_⟩:=hg.pt;refine h.kp ok go λb o e w=>?_;rcases w with z|z|z|z
 ·have e2:=h.tp;rw[<-z,e]at e2;cases e2;exact f _ _ e (Ay e hg.lv A2) (Ay e h3 A2) (Ay e hg.nm A2)
 ·have e2:=h.l;rw[z]at e⊢;rw[e]at e2;cases e2;exact f _ _ e h.ap.1 h.ap.2.1 (Ay e hg.nm A2)
 ·obtain⟨j,hj⟩:=F4 z;obtain⟨kv,e2,_⟩:=h.sq j b hj;rw[e]at e2;cases e2;exact f _ _ e (Ay e hg.lv A2) (Ay e h3 A2) (Ay e hg.nm A2)
 ·obtain⟨kc,e2,_⟩:=h.ce;rw[z]at e⊢;rw[e]at e2;cases e2;exact f _ _ e (Ay e hg.lv A2) (Ay e h3 A2) h.ap.2.2
theorem Cf.fr{a:Ad}{H H':Hp}{g:GA}{G:Gv}{p:Addr}{x:Str}{r:AC}(h:Cf a H p x r)(hg:AH a H g G)(f:Fr g H H'):Cf a H' p x r:=by
 obtain⟨ts,h3,_⟩:=hg.pt;exact h.kp λb o e n=>f _ _ e (Ay e hg.lv (by intro z;rw[z]at n;cases n)) (Ay e h3 (by intro z;rw[z]at n;cases n)) (Ay e hg.nm (by intro z;rw[z]at n;cases n))
theorem JW.fr{a:Ad}{H H':Hp}{g:GA}{G G':Gv}{N M i:Nat}{p dx mem pr:Addr}{r:AC}{m:MA}(h:JW a H g G N M p dx mem pr r m)(f:Fr g H H')(hg':AH a H' g G')(go:AG G G' i):JW a H' g G' N M p dx mem pr r m:=by
 obtain⟨ts,h3,_⟩:=h.gr.pt;refine⟨hg',go.ok,h.bs.goes go,f _ _ h.br h.nbr.1 h.nbr.2 (Ay h.br h.gr.nm A2),h.nbr,f _ _ h.hp (Ay h.hp h.gr.lv A2) (Ay h.hp h3 A2) (Ay h.hp h.gr.nm A2),h.ru.fr h.gr f,h.rok,h.rest,h.me.fr h.gr h.ok f go⟩
def FrJ(g:GA)(m:MA)(H H':Hp):Prop:=∀b o,H b=some o->b≠g.lv->b≠g.pt->b≠g.nm->b≠m.kc->b∉m.ds->H' b=some o
theorem FrJ.trans{g:GA}{m:MA}{H1 H2 H3:Hp}(h:FrJ g m H1 H2)(k:FrJ g m H2 H3):FrJ g m H1 H3:=λb o e n1 n2 n3 n4 n5=>k _ _ (h _ _ e n1 n2 n3 n4 n5) n1 n2 n3 n4 n5
theorem Fr.j{g:GA}{m:MA}{H1 H2:Hp}(h:Fr g H1 H2):FrJ g m H1 H2:=λb o e n1 n2 n3 _ _=>h _ _ e n1 n2 n3
theorem AA.j{g:GA}{m:MA}{H1 H2:Hp}(h:AA H1 H2):FrJ g m H1 H2:=λb o e _ _ _ _ _=>h _ _ e
theorem JW.putC{a:Ad}{H:Hp}{g:GA}{G:Gv}{N M:Nat}{p dx mem pr:Addr}{r:AC}{m:MA}{kc:List (List Key×V)}(h:JW a H g G N M p dx mem pr r m)(len:kc.length<=M+1)(sem:∀(ks:List Int) v,Bu kc (kOf ks)=some v->∃c ar,ks=c::ar/\v=.int (CQ r c ar)):JW a (upd H m.kc (.dT kc)) g G N (M+1) p dx mem pr r m:=by
 obtain⟨kc0,hk,_⟩:=h.me.ce;have other:∀{b v},H b=some v->(∀kk,v≠.dT kk)->upd H m.kc (.dT kc) b=some v:=λ{b v} e n=>by rw[Ao (Ay e hk (n _))];exact e
 obtain⟨ts,h3,h4⟩:=h.gr.pt;refine⟨⟨other h.gr.hp A6,other h.gr.lv A6,⟨ts,other h3 A6,PairedM.imp (λt q z=>other z A6) h4⟩,by rw[Ao (W4 h.me.ap.2.2)];exact h.gr.nm,h.gr.ne⟩,h.ok,h.bs,other h.br A6,h.nbr,other h.hp A6,h.ru.kp λb o e n=>other e λkk z=>(by rw[z]at n;cases n),h.rok,h.rest,⟨other h.me.tp A6,other h.me.l A6,h.me.ap,h.me.len,h.me.nd,λe d ed=>?_,⟨kc,Af,len,sem⟩⟩⟩;obtain⟨kv,q1,q2,q3,q4⟩:=h.me.sq e d ed;exact⟨kv,other q1 A6,q2,q3,q4⟩
theorem JW.putS{a:Ad}{H:Hp}{g:GA}{G:Gv}{N M:Nat}{p dx mem pr:Addr}{r:AC}{m:MA}{e:Nat}{d:Addr}{kv:List (Key×V)}{n k:Nat}(h:JW a H g G N M p dx mem pr r m)(ed:m.ds[e]?=some d)(hd:H d=some (.dK kv))(jr:JR r G e n k):JW a (upd H d (.dK (Dw kv (Sum.inl (n:Int)) (.int (k:Int))))) g G (N+1) M p dx mem pr r m:=by
 have other:∀{b v},H b=some v->(∀kk,v≠.dK kk)->upd H d (.dK (Dw kv (Sum.inl (n:Int)) (.int (k:Int)))) b=some v:=λ{b v} e n=>by rw[Ao (Ay e hd (n _))];exact e
 obtain⟨ts,h3,h4⟩:=h.gr.pt;obtain⟨kc,c1,c2,c3⟩:=h.me.ce;refine⟨⟨other h.gr.hp A6,other h.gr.lv A6,⟨ts,other h3 A6,PairedM.imp (λt q z=>other z A6) h4⟩,other h.gr.nm A6,h.gr.ne⟩,h.ok,h.bs,other h.br A6,h.nbr,other h.hp A6,h.ru.kp λb o e n=>other e λkk z=>(by rw[z]at n;cases n),h.rok,h.rest,⟨other h.me.tp A6,other h.me.l A6,h.me.ap,h.me.len,h.me.nd,λe' d' ed'=>?_,⟨kc,other c1 A6,c2,c3⟩⟩⟩;obtain⟨kv',q1,q2,q3,q4⟩:=h.me.sq e' d' ed';by_cases z:e'=e
 ·rw[z,ed]at ed';cases ed';rw[hd]at q1;cases q1;subst z;refine⟨_,Af,C2 (Fl _ _ _) A0,λq hq=>?_,λn' v hv=>?_⟩
  ·unfold Dw at hq;split at hq
   ·obtain⟨q0,h0,rfl⟩:=D1.mp hq;split
    ·exact q3 q0 h0
    ·exact q3 q0 h0
   ·rcases D4.mp hq with y|y
    ·exact q3 q y
    ·rw[C3.mp y];exact⟨_,rfl⟩
  ·rw[Jr]at hv;split at hv
   ·rename_i y;have:n'=n:=by have:=Sum.inl.inj y;lia
    rw[this];cases hv;exact⟨k,rfl,jr⟩
   ·exact q4 n' v hv
 ·have nd:d'≠d:=λy=>z (by
   rw[y]at ed';exact(List.getElem?_inj (B4.mp ed').1 h.me.nd).mp (ed'.trans ed.symm))
  exact⟨kv',by rw[Ao nd];exact q1,C2 q2 A0,q3,q4⟩
section
variable{P:Program}{w:World}{K:PySem.W.Frag}{mg:Str->Option Value}{base:Heap}{a:Ad}
inductive Yt(a:Ad)(vs:List V)(H:Hp)(Q:VK):Prop
 |mk (p dx mem pr t:Addr) (g:GA) (G:Gv) (N M:Nat) (r:AC) (m:MA) (c:Int) (ar:List Int) (_:vs=[.ref p,.ref t]) (_:JW a H g G N M p dx mem pr r m) (_:H t=some (.tup ((c::ar).map V.int))) (_:ar.length=8) (_:∀x∈c::ar,GY x) (_:M<9000000) (_:∀H',(∀b o,H b=some o->b≠m.kc->H' b=some o)->JW a H' g G N (M+1) p dx mem pr r m->Q (.int (CQ r c ar)) H'):Yt a vs H Q
def SY(a:Ad):Sp:=λvs H Q _=>Yt a vs H Q
theorem ok_cel{f:Addr}{fd:FuncData}(F:Fun K "cell_after" "Jumps.cell_after" Cb f fd)(T:Top K mg a)(aX:BN P w K mg base CX0 4 a.c_Grove "state_of" DO (Vo a))(aN:BN P w K mg base CX0 3 a.c_Grove "leaf" Ep (OX a))(bC:Cal P w K mg base CX0 5 "becomes" IF (SZ a)):AK P w K mg base CX0 6 f fd Da (SY a):=by
 refine F.ok BW (λvs H Q E h=>?_) (λcdv A outer s H vs Q E hr h=>?_)
 ·obtain⟨p,dx,mem,pr,t,g,G,N,M,r,m,c,ar,rfl,_⟩:=h;rfl
 ·obtain⟨p,dx,mem,pr,t,g,G,N,M,r,m,c,ar,rfl,hj,ht,h8,sts,few,k⟩:=h;obtain⟨kc,c1,c2,c3⟩:=hj.me.ce;have htk:H t=some (.tup ((kOf (c::ar)).map kV)):=by rw[WA];exact ht
  refine⟨_,(Ab (Aq (i:=2) BW.nd rfl (Or.inl rfl) (JF (Ec hr) (Ax (pv 0) rfl) (pv 1) ⟨rfl,rfl,rfl,rfl⟩)) (Ab (AQ (AD Jk (pv 2) DI (AI _)) (Ab (Gu (i:=3) rfl BW.nd rfl rfl (BD.of (So:=Ah Cb) (No:=EV) (N:=["one","self"]) (k:=1) (cs:=[0]) rfl rfl A1) (RO (pv 1)) (λ_ _ _=>(Bk (i:=0) A1 rfl rfl)) (λ_ _ _=>BL) (λ_ _ _=>(AB (Pj (K:=K) rfl (pv 1) rfl) aX (rm hr) An (Aa (pv 0) Ac)))) (Ab (Aq (i:=2) BW.nd rfl (Or.inl rfl) (AB (Ax (pv 0) rfl) aN (rm hr) An (Aa (Au bC (rm hr) rfl An (Aa (Ax (pv 0) rfl) (Aa (Aj Av (pv 3) Ae (λ_ _=>rfl)) (Aa (QM Ta (pv 3) (Pi Ae) po_none) Ac)))) Ac))) (Ag (Fe (Ec hr) (Ax (pv 0) rfl) (pv 1) (pv 2) rfl)))) AE) (Ag (Aw (pv 2))))),?_⟩
  try dsimp only[cxK]
  refine xwf rfl rfl hj.hp T.cl_Jumps T.na_Jumps_known_cells (WC _ _ _ _ _) ⟨m.kc,rfl,.inr ⟨_,.inl c1⟩,(xq1 rfl ⟨_,EZ.t (k:=kOf (c::ar)) c1 htk,?_⟩)⟩;cases ev:Bu kc (kOf (c::ar))with
  |some v =>
   obtain⟨c',ar',e1,e2⟩:=c3 _ v ev;cases e1;rw[e2];exact xq1 rfl ⟨rfl,(xq1 rfl (Bw (xq1 rfl (k H (λb o e _=>e) (hj.mono (B6 _) (R6 _))))))⟩
  |none =>
   refine xq1 rfl ⟨rfl,(xq1 rfl (CK ?_))⟩;refine xq1 rfl ⟨t,rfl,⟨_,SqT.of ht⟩,?_⟩;refine PY (xs:=(c::ar).map V.int) (λi acc H2=>H=H2/\acc=((c::ar).take i).map V.int) ⟨rfl,rfl⟩ (λi acc H2 _ z=>z.1▸SqT.of ht) ?_ ?_
   ·rintro i v acc H2 ev2 ⟨rfl,rfl⟩;rw[B7]at ev2;obtain⟨x,ex,rfl⟩:=C9.mp ev2;obtain⟨x0,x8⟩:=sts x (D2 ex);obtain⟨n,rfl⟩:=F6 x0;refine⟨⟨[some (.int (n:Int))],rfl,rfl⟩,?_,GT (xq1 rfl (xq5 hj.hp T.cl_Jumps T.na_Jumps_grove (Dv _ _ _ _ _) (xq3 rfl hj.gr.hp (RU g) (xq1 rfl ⟨g,G,n,_,rfl,hj.gr,hj.ok.leaf n A0,rfl,rfl,?_⟩))))⟩
    ·rw[B5,F9];exact J3 (S4 _ _) (by rw[D8,h8];decide)
    ·rw[F7,ex,N8,C7];rfl
   ·rintro acc H2 ⟨rfl,rfl⟩ L hL;rw[B5,J0];generalize e_s1:upd H L _=H1;obtain⟨s1,hL1⟩:=alc hL e_s1;have hj1:=hj.same s1;refine xwf rfl rfl hj1.hp T.cl_Jumps T.na_Jumps_grove (Dv _ _ _ _ _) (xq3 rfl hj1.gr.hp (Tk g) (xwf rfl rfl hj1.hp T.cl_Jumps T.na_Jumps_rule (jf5_ru _ _ _ _ _) (xwi rfl rfl rfl (SqL.of hL1) (Al (j:=0) rfl) ?_)));refine xq1 rfl ⟨1,rfl,L,(xq1 rfl ⟨SqL.of hL1,λSL hSL=>?_⟩)⟩;have ecut:Su ((c::ar).map V.int) (some 1) none=ar.map V.int:=by
     obtain⟨x1,x2,x3,x4,x5,x6,x7,x8,rfl⟩:=WS ar h8;rfl
    rw[ecut];generalize dA:upd H1 SL _=H2;obtain⟨s2,hS2⟩:=alc hSL dA;have hj2:=hj1.same s2;refine⟨pr,SL,_,r,c,ar,rfl,hj2.ru,hj2.rok.rok,hS2,λH3 s3=>?_⟩;have hj3:=hj2.same s3;have s03:=(s1.trans s2).trans s3;have bst:=Yb hj.rok (sts c C0) ar;refine⟨g.p,_,rfl,bst.1,bst.2,?_⟩;refine xq1 rfl (xq1 rfl (xq5 hj3.hp T.cl_Jumps T.na_Jumps_known_cells (WC _ _ _ _ _) (xq1 rfl ⟨m.kc,(xq1 rfl ⟨Jq.t (k:=kOf (c::ar)) (s03 _ _ c1) (s03 _ _ htk) (J3 (show kc.length<=9000000 by lia) A3),?_⟩)⟩)));refine xq1 rfl (k _ (λb o e n=>by rw[Ao n];exact s03 _ _ e) (hj3.putC (C2 (Fl _ _ _) A0) λks v hv=>?_));rw[Jr]at hv;split at hv
    ·rename_i y;rw[Mq y];cases hv;exact⟨c,ar,rfl,rfl⟩
    ·exact c3 ks v hv
end
def FrC(g:GA)(m:MA)(H H':Hp):Prop:=∀b o,H b=some o->b≠g.lv->b≠g.pt->b≠g.nm->b≠m.kc->H' b=some o
theorem FrC.trans{g:GA}{m:MA}{H1 H2 H3:Hp}(h:FrC g m H1 H2)(k:FrC g m H2 H3):FrC g m H1 H3:=λb o e n1 n2 n3 n4=>k _ _ (h _ _ e n1 n2 n3 n4) n1 n2 n3 n4
theorem FrC.j{g:GA}{m:MA}{H1 H2:Hp}(h:FrC g m H1 H2):FrJ g m H1 H2:=λb o e n1 n2 n3 n4 _=>h _ _ e n1 n2 n3 n4
theorem Fr.c{g:GA}{m:MA}{H1 H2:Hp}(h:Fr g H1 H2):FrC g m H1 H2:=λb o e n1 n2 n3 _=>h _ _ e n1 n2 n3
def spNo:Sp:=λ_ _ _ _=>False
theorem AK.no{P:Program}{w:World}{K:PySem.W.Frag}{mg:Str->Option Value}{base:Heap}{CX:CXT}{k:Nat}{f:Addr}{fd:FuncData}{ps:List Str}:AK P w K mg base CX k f fd ps spNo :=
 ⟨λ_ _ _ _ h=>h.elim,λ_ _ _ _ _ _ _ _ _ _ _ _ _ h=>h.elim⟩
theorem bareJ{l:Nat}(h:l<=48):((Cy 48).map V.int)[l]?=some (.int (bareN l:Int)):=by
 unfold Cy;rw[B7,B7,P3 A0];rfl
section
variable{P:Program}{w:World}{K:PySem.W.Frag}{mg:Str->Option Value}{base:Heap}{a:Ad}
theorem tretl {ts:TA} {D:LM} {σ:St} {H:Hp} (h:ts σ H λxs H1=>xs.length<=sizeLine/\∀p,H1 p=none->D.rt (.ref p) (upd H1 p (.lst xs))):tRet (tLst ts) D σ H:=h
theorem Fa {ta:TE} {tr:TA} {σ:St} {H:Hp} {Q:List V->Hp->Prop} (h:ta σ H λx H1=>tr σ H1 λxs H2=>Q (x::xs) H2):Cr ta tr σ H Q:=h
theorem ixt{K:PySem.W.Frag}{σ:St}{i:Nat}{H:Hp}{t:Addr}{xs:List V}{j:Int}{v:V}{Q:VK}(r:σ[i]?=some (some (.ref t)))(h:H t=some (.tup xs))(e:atI xs j=some v)(k:Q v H):tOp (IM K) (FO i) (tC (V.int j)) σ H Q:=⟨_,r,t,xs,j,v,rfl,rfl,SqT.of h,e,k⟩
theorem ixp{K:PySem.W.Frag}{H:Hp}{p t:Addr}{ts:List Addr}{n:Nat}{Q:VK}(h:H p=some (.lst (ts.map V.ref)))(e:ts[n]?=some t)(k:Q (.ref t) H):rIxL K (.ref p) (.int n) H Q:=⟨p,_,n,_,rfl,rfl,SqL.of h,Al (by rw[B7,e];rfl),k⟩
structure Ln(a:Ad)(g:GA)(H0:Hp)(G0:Gv)(j:Nat)(H:Hp)(G:Gv):Prop where
 fr:Fr g H0 H
 kt:∀{b:Addr}{xs:List V},H0 b=some (.tup xs)->H b=some (.tup xs)
 gr:AH a H g G
 go:AG G0 G j
theorem lnk{a:Ad}{H0 H:Hp}{g:GA}{G0 G:Gv}{j:Nat}{u:Addr}{x y z w:Nat}{l:Int}{Q:VK}(s:Ln a g H0 G0 j H G)(hu:H u=none)(lv:Ak G0 x l/\Ak G0 y l/\Ak G0 z l/\Ak G0 w l)(h47:l<=47)(few:G0.length+j<9000000)
  (k:∀(n:Nat)(G':Gv)(H':Hp),Ln a g H0 G0 (j+1) H' G'->AG G G' 1->G'[n]?=some ⟨[(x:Int),(y:Int),(z:Int),(w:Int)],l+1⟩->Q (.int n) H'):SA a [.ref g.p,.ref u] (upd H u (.tup [.int x,.int y,.int z,.int w])) Q:=by
 generalize e_1:upd H u _=H1;obtain⟨s1,h1⟩:=alc hu e_1;have i1:=s.gr.same s1;have lf:=s.go.few;refine⟨g,G,u,x,y,z,w,l,rfl,i1,s.go.ok,h1,⟨s.go.lev lv.1,s.go.lev lv.2.1,s.go.lev lv.2.2.1,s.go.lev lv.2.2.2⟩,h47,by lia,λn G' H' fr hg go e=>k n G' H' ⟨s.fr.trans ((AA.fr s1).trans fr),λ{b xs} e=>?_,hg,s.go.trans go⟩ go e⟩;obtain⟨us,q3,_⟩:=i1.pt;have e':=s1 _ _ (s.kt e);exact fr _ _ e' (Ay e' i1.lv A2) (Ay e' q3 A2) (Ay e' i1.nm A2)
theorem ttup {ts:TA} {σ:St} {H:Hp} {Q:VK} (h:ts σ H λxs H1=>xs.length<=sizeLine/\∀p,H1 p=none->Q (.ref p) (upd H1 p (.tup xs))):Vk ts σ H Q:=h
theorem al9{P:Int->Prop}{a b c d e f g h i:Int}(ha:P a)(hb:P b)(hc:P c)(hd:P d)(he:P e)(hf:P f)(hg:P g)(hh:P h)(hi:P i):∀x∈[a,b,c,d,e,f,g,h,i],P x:=by
 intro x hx;simp only[B8,D0,Y5]at hx;rcases hx with rfl|rfl|rfl|rfl|rfl|rfl|rfl|rfl|rfl<;>assumption
structure Lc(g:GA)(m:MA)(H0 H:Hp):Prop where
 fr:FrC g m H0 H
 kt:∀{b:Addr}{xs:List V},H0 b=some (.tup xs)->H b=some (.tup xs)
theorem celT{a:Ad}{H0 H:Hp}{g:GA}{G:Gv}{N M:Nat}{p dx mem pr u:Addr}{r:AC}{m:MA}{c:Int}{ar:List Int}{Q:VK}(hj:JW a H g G N M p dx mem pr r m)(lc:Lc g m H0 H)(hu:H u=none)(sts:∀x∈c::ar,GY x)(hl:ar.length=8)(hM:M<9000000)
  (h:∀(k:Nat)(Y:Hp),CQ r c ar=k->k<8->Lc g m H0 Y->JW a Y g G N (M+1) p dx mem pr r m->Q (.int k) Y):Yt a [.ref p,.ref u] (upd H u (.tup ((c::ar).map V.int))) Q:=by
 generalize e_1:upd H u _=X;obtain⟨s,hv⟩:=alc hu e_1;have i:=hj.same s;refine⟨p,dx,mem,pr,u,g,G,N,M,r,m,c,ar,rfl,i,hv,hl,sts,hM,λY fr hj'=>?_⟩;obtain⟨z1,z2⟩:=Yb hj.rok (sts c (.head ..)) ar;obtain⟨k,e⟩:=F6 z1;rw[e];refine h k Y e A0 ⟨lc.fr.trans λb o e _ _ _ n4=>fr _ _ (s _ _ e) n4,λ{b xs} e=>?_⟩ hj';obtain⟨kc,c1,_⟩:=i.me.ce;have e:=s _ _ (lc.kt e);exact fr _ _ e (Ay e c1 A2)
theorem cel9{K:PySem.W.Frag}{a:Ad}{H0 H:Hp}{g:GA}{G:Gv}{N M:Nat}{p dx mem pr:Addr}{r:AC}{m:MA}{σ:St}{Q:VK}{i1 i2 i3 i4 i5 i6 i7 i8 i9:Nat}{t1 t2 t3 t4 t5 t6 t7 t8 t9:Addr}{xs1 xs2 xs3 xs4 xs5 xs6 xs7 xs8 xs9:List V}{j1 j2 j3 j4 j5 j6 j7 j8 j9 c1 c2 c3 c4 c5 c6 c7 c8 c9:Int}(hj:JW a H g G N M p dx mem pr r m)(lc:Lc g m H0 H)(h1:H0 t1=some (.tup xs1))(h2:H0 t2=some (.tup xs2))(h3:H0 t3=some (.tup xs3))(h4:H0 t4=some (.tup xs4))(h5:H0 t5=some (.tup xs5))(h6:H0 t6=some (.tup xs6))(h7:H0 t7=some (.tup xs7))(h8:H0 t8=some (.tup xs8))(h9:H0 t9=some (.tup xs9))(sts:∀x∈[c1,c2,c3,c4,c5,c6,c7,c8,c9],GY x)(hM:M<9000000)
  (k:∀(k:Nat)(Y:Hp),CQ r c1 [c2,c3,c4,c5,c6,c7,c8,c9]=k->k<8->Lc g m H0 Y->JW a Y g G N (M+1) p dx mem pr r m->Q (.int k) Y) (e:σ[0]?=some (some (.ref p))/\(σ[i1]?=some (some (.ref t1))/\atI xs1 j1=some (.int c1))/\(σ[i2]?=some (some (.ref t2))/\atI xs2 j2=some (.int c2))/\(σ[i3]?=some (some (.ref t3))/\atI xs3 j3=some (.int c3))/\(σ[i4]?=some (some (.ref t4))/\atI xs4 j4=some (.int c4))/\(σ[i5]?=some (some (.ref t5))/\atI xs5 j5=some (.int c5))/\(σ[i6]?=some (some (.ref t6))/\atI xs6 j6=some (.int c6))/\(σ[i7]?=some (some (.ref t7))/\atI xs7 j7=some (.int c7))/\(σ[i8]?=some (some (.ref t8))/\atI xs8 j8=some (.int c8))/\(σ[i9]?=some (some (.ref t9))/\atI xs9 j9=some (.int c9)):=by exact⟨rfl,⟨rfl,rfl⟩,⟨rfl,rfl⟩,⟨rfl,rfl⟩,⟨rfl,rfl⟩,⟨rfl,rfl⟩,⟨rfl,rfl⟩,⟨rfl,rfl⟩,⟨rfl,rfl⟩,⟨rfl,rfl⟩⟩) :
  SK a.c_Jumps "cell_after" (SY a) [] E0 (FO 0) (Cr (Vk (Cr (tOp (IM K) (FO i1) (tC (V.int j1))) (Cr (tOp (IM K) (FO i2) (tC (V.int j2))) (Cr (tOp (IM K) (FO i3) (tC (V.int j3))) (Cr (tOp (IM K) (FO i4) (tC (V.int j4))) (Cr (tOp (IM K) (FO i5) (tC (V.int j5))) (Cr (tOp (IM K) (FO i6) (tC (V.int j6))) (Cr (tOp (IM K) (FO i7) (tC (V.int j7))) (Cr (tOp (IM K) (FO i8) (tC (V.int j8))) (Cr (tOp (IM K) (FO i9) (tC (V.int j9))) OS)))))))))) OS) σ H Q:=by
 apply AT;intro G_ hG_;obtain⟨r0,⟨r1,e1⟩,⟨r2,e2⟩,⟨r3,e3⟩,⟨r4,e4⟩,⟨r5,e5⟩,⟨r6,e6⟩,⟨r7,e7⟩,⟨r8,e8⟩,⟨r9,e9⟩⟩:=e;apply hG_;clear hG_ G_;exact⟨_,r0,(xq3 rfl hj.hp (Wl _ _ _ _ _) (ixt r1 (lc.kt h1) e1 (ixt r2 (lc.kt h2) e2 (ixt r3 (lc.kt h3) e3 (ixt r4 (lc.kt h4) e4 (ixt r5 (lc.kt h5) e5 (ixt r6 (lc.kt h6) e6 (ixt r7 (lc.kt h7) e7 (ixt r8 (lc.kt h8) e8 (ixt r9 (lc.kt h9) e9 ⟨(by show 9<=sizeLine;decide),λ_ hu=>celT hj lc hu sts rfl hM k⟩))))))))))⟩
inductive Yn(a:Ad)(vs:List V)(H:Hp)(Q:VK):Prop
 |mk (p dx mem pr:Addr) (g:GA) (G:Gv) (N M:Nat) (r:AC) (m:MA) (n:Nat) (_:vs=[.ref p,.int n]) (_:JW a H g G N M p dx mem pr r m) (_:Ak G n ((1+1:Nat):Int)) (_:M<8500000) (_:G.length<8000000) (_:∀(k:Nat)(G':Gv)(H':Hp),FrC g m H H'->JW a H' g G' N (M+4) p dx mem pr r m->AG G G' 1->JR r G' 0 n k->Q (.int k) H'):Yn a vs H Q
def OW(a:Ad):Sp:=λvs H Q _=>Yn a vs H Q
theorem ok_mid2{f:Addr}{fd:FuncData}(F:Fun K "middle_after" "Jumps.middle_after" Cu f fd)(T:Top K mg a)(a8:BN P w K mg base CX0 2 a.c_Grove "linked" AN (Ee a))(aF:BN P w K mg base CX0 6 a.c_Jumps "cell_after" Da (SY a)):AK P w K mg base CX0 7 f fd BQ (OW a):=by
 refine F.ok AW (λvs H Q E h=>?_) (λcdv A outer s H vs Q E hr h=>?_)
 ·apply AT;intro G_ hG_;obtain⟨p,dx,mem,pr,g,G,N,M,r,m,n,rfl,_⟩:=h;apply hG_;clear hG_ G_;rfl
 ·apply AT;intro G_ hG_;obtain⟨p,dx,mem,pr,g,G,N,M,r,m,n,rfl,hj,hl,fewM,few,k⟩:=h;obtain⟨qa,qb,qc,qd,en,la,lb,lc,ld⟩:=hj.ok.four hl;obtain⟨a0,a1,a2,a3,ea,la0,la1,la2,la3⟩:=hj.ok.four (l:=0) la;obtain⟨b0,b1,b2,b3,eb,lb0,lb1,lb2,lb3⟩:=hj.ok.four (l:=0) lb;obtain⟨c0,c1,c2,c3,ec,lc0,lc1,lc2,lc3⟩:=hj.ok.four (l:=0) lc;obtain⟨d0,d1,d2,d3,ed,ld0,ld1,ld2,ld3⟩:=hj.ok.four (l:=0) ld;obtain⟨ts,h3,h4⟩:=hj.gr.pt;obtain⟨t,et,ht⟩:=PairedM.get h4 en;obtain⟨ta,eta,hta⟩:=PairedM.get h4 ea;obtain⟨tb,etb,htb⟩:=PairedM.get h4 eb;obtain⟨tc,etc,htc⟩:=PairedM.get h4 ec;obtain⟨td,etd,htd⟩:=PairedM.get h4 ed;apply hG_;clear hG_ G_;refine⟨_,(Ab (Aq (i:=2) AW.nd rfl (Or.inl rfl) (Aj Av (Ax (Ax (pv 0) rfl) rfl) (pv 1) (λ_ _=>rfl))) (Ab (Aq (i:=3) AW.nd rfl (Or.inl rfl) (Aj Av (Ax (Ax (pv 0) rfl) rfl) (Aj Am (pv 2) Ae (λ_ _=>rfl)) (λ_ _=>rfl))) (Ab (Aq (i:=4) AW.nd rfl (Or.inl rfl) (Aj Av (Ax (Ax (pv 0) rfl) rfl) (Aj Am (pv 2) Ae (λ_ _=>rfl)) (λ_ _=>rfl))) (Ab (Aq (i:=5) AW.nd rfl (Or.inl rfl) (Aj Av (Ax (Ax (pv 0) rfl) rfl) (Aj Am (pv 2) Ae (λ_ _=>rfl)) (λ_ _=>rfl))) (Ab (Aq (i:=6) AW.nd rfl (Or.inl rfl) (Aj Av (Ax (Ax (pv 0) rfl) rfl) (Aj Am (pv 2) Ae (λ_ _=>rfl)) (λ_ _=>rfl))) (Ag (Aw (AB (Ax (pv 0) rfl) a8 (rm hr) An (Bo (Aa (AB (pv 0) aF (rm hr) An (Bo (Aa (Aj Am (pv 3) Ae (λ_ _=>rfl)) (Aa (Aj Am (pv 3) Ae (λ_ _=>rfl)) (Aa (Aj Am (pv 3) Ae (λ_ _=>rfl)) (Aa (Aj Am (pv 4) Ae (λ_ _=>rfl)) (Aa (Aj Am (pv 3) Ae (λ_ _=>rfl)) (Aa (Aj Am (pv 4) Ae (λ_ _=>rfl)) (Aa (Aj Am (pv 5) Ae (λ_ _=>rfl)) (Aa (Aj Am (pv 5) Ae (λ_ _=>rfl)) (Aa (Aj Am (pv 6) Ae (λ_ _=>rfl)) Ac))))))))) Ac)) (Aa (AB (pv 0) aF (rm hr) An (Bo (Aa (Aj Am (pv 4) Ae (λ_ _=>rfl)) (Aa (Aj Am (pv 3) Ae (λ_ _=>rfl)) (Aa (Aj Am (pv 4) Ae (λ_ _=>rfl)) (Aa (Aj Am (pv 4) Ae (λ_ _=>rfl)) (Aa (Aj Am (pv 3) Ae (λ_ _=>rfl)) (Aa (Aj Am (pv 4) Ae (λ_ _=>rfl)) (Aa (Aj Am (pv 5) Ae (λ_ _=>rfl)) (Aa (Aj Am (pv 6) Ae (λ_ _=>rfl)) (Aa (Aj Am (pv 6) Ae (λ_ _=>rfl)) Ac))))))))) Ac)) (Aa (AB (pv 0) aF (rm hr) An (Bo (Aa (Aj Am (pv 5) Ae (λ_ _=>rfl)) (Aa (Aj Am (pv 3) Ae (λ_ _=>rfl)) (Aa (Aj Am (pv 3) Ae (λ_ _=>rfl)) (Aa (Aj Am (pv 4) Ae (λ_ _=>rfl)) (Aa (Aj Am (pv 5) Ae (λ_ _=>rfl)) (Aa (Aj Am (pv 6) Ae (λ_ _=>rfl)) (Aa (Aj Am (pv 5) Ae (λ_ _=>rfl)) (Aa (Aj Am (pv 5) Ae (λ_ _=>rfl)) (Aa (Aj Am (pv 6) Ae (λ_ _=>rfl)) Ac))))))))) Ac)) (Aa (AB (pv 0) aF (rm hr) An (Bo (Aa (Aj Am (pv 6) Ae (λ_ _=>rfl)) (Aa (Aj Am (pv 3) Ae (λ_ _=>rfl)) (Aa (Aj Am (pv 4) Ae (λ_ _=>rfl)) (Aa (Aj Am (pv 4) Ae (λ_ _=>rfl)) (Aa (Aj Am (pv 5) Ae (λ_ _=>rfl)) (Aa (Aj Am (pv 6) Ae (λ_ _=>rfl)) (Aa (Aj Am (pv 5) Ae (λ_ _=>rfl)) (Aa (Aj Am (pv 6) Ae (λ_ _=>rfl)) (Aa (Aj Am (pv 6) Ae (λ_ _=>rfl)) Ac))))))))) Ac)) Ac)))) Ac))))))))),?_⟩
  try dsimp only[cxK]
  refine Br ?_;intro r_k0 s_k0 k0 hk E_k0;refine xwf rfl rfl hj.hp T.cl_Jumps T.na_Jumps_grove (Dv _ _ _ _ _) (xq5 hj.gr.hp T.cl_Grove T.na_Grove_parts (Ce g) (xq1 rfl (ixp h3 et ?_)));refine hk ?_;refine Br ?_;intro r_k1 s_k1 k1 hk E_k1;refine xwf rfl rfl hj.hp T.cl_Jumps T.na_Jumps_grove (Dv _ _ _ _ _) (xq5 hj.gr.hp T.cl_Grove T.na_Grove_parts (Ce g) (ixt rfl ht rfl (ixp h3 eta ?_)));refine hk ?_;refine Br ?_;intro r_k2 s_k2 k2 hk E_k2;refine xwf rfl rfl hj.hp T.cl_Jumps T.na_Jumps_grove (Dv _ _ _ _ _) (xq5 hj.gr.hp T.cl_Grove T.na_Grove_parts (Ce g) (ixt rfl ht rfl (ixp h3 etb ?_)));refine hk ?_;refine Br ?_;intro r_k3 s_k3 k3 hk E_k3;refine xwf rfl rfl hj.hp T.cl_Jumps T.na_Jumps_grove (Dv _ _ _ _ _) (xq5 hj.gr.hp T.cl_Grove T.na_Grove_parts (Ce g) (ixt rfl ht rfl (ixp h3 etc ?_)));refine hk ?_;refine Br ?_;intro r_k4 s_k4 k4 hk E_k4;refine xwf rfl rfl hj.hp T.cl_Jumps T.na_Jumps_grove (Dv _ _ _ _ _) (xq5 hj.gr.hp T.cl_Grove T.na_Grove_parts (Ce g) (ixt rfl ht rfl (ixp h3 etd ?_)));refine hk ?_;have st:∀{x:Nat},Ak G x ((0:Nat):Int)->GY (x:Int):=λ{x} h=>by
   have:=hj.ok.cell h;exact⟨by lia,by lia⟩
  have c_:Lc g m H H:=⟨λ_ _ e _ _ _ _=>e,λe=>e⟩
  refine xwf rfl rfl hj.hp T.cl_Jumps T.na_Jumps_grove (Dv _ _ _ _ _) (xq3 rfl hj.gr.hp (BI g) ?_);refine Fa (ttup (Fa (cel9 hj c_ hta hta hta htb hta htb htc htc htd (al9 (st la3) (st la0) (st la1) (st lb0) (st la2) (st lb2) (st lc0) (st lc1) (st ld0)) A0 λk0 Y0 ek0 kl0 x0 j0=>?_)));refine Fa (cel9 j0 x0 htb hta htb htb hta htb htc htd htd (al9 (st lb2) (st la1) (st lb0) (st lb1) (st la3) (st lb3) (st lc1) (st ld0) (st ld1)) A0 λk1 Y1 ek1 kl1 x1 j1=>?_);refine Fa (cel9 j1 x1 htc hta hta htb htc htd htc htc htd (al9 (st lc1) (st la2) (st la3) (st lb2) (st lc0) (st ld0) (st lc2) (st lc3) (st ld2)) A0 λk2 Y2 ek2 kl2 x2 j2=>?_);refine Fa (cel9 j2 x2 htd hta htb htb htc htd htc htd htd (al9 (st ld0) (st la3) (st lb2) (st lb3) (st lc1) (st ld1) (st lc3) (st ld2) (st ld3)) A0 λk3 Y3 ek3 kl3 x3 j3=>?_);have lf:∀{k:Nat},k<8->Ak G k ((0:Nat):Int):=λ{k} h=>⟨_,hj.ok.leaf k h,rfl⟩
  refine⟨(by show 4<=sizeLine;decide),λu hu=>lnk (⟨.refl _ _,λe=>e,j3.gr,.refl hj.ok⟩:Ln a g Y3 G 0 Y3 G) hu ⟨lf kl0,lf kl1,lf kl2,lf kl3⟩ A3 A0 λx G' H' s go e=>?_⟩;refine k x G' H' (x3.fr.trans (Fr.c s.fr)) (j3.fr s.fr s.gr go) go ⟨0,go.lev hl,B6 0,⟨_,e,rfl⟩,?_⟩;apply AT;intro G_ hG_;obtain⟨rfl,rfl,rfl,rfl⟩:=Dy (go.get ea);obtain⟨rfl,rfl,rfl,rfl⟩:=Dy (go.get eb);obtain⟨rfl,rfl,rfl,rfl⟩:=Dy (go.get ec);obtain⟨rfl,rfl,rfl,rfl⟩:=Dy (go.get ed);obtain⟨rfl,rfl,rfl,rfl⟩:=Dy (go.get en);obtain⟨rfl,rfl,rfl,rfl⟩:=Dy e;apply hG_;clear hG_ G_;intro x' y' hx hy
  match x',hx,y',hy with
  |0,_,0,_=>exact ek0.symm
  |1,_,0,_=>exact ek1.symm
  |0,_,1,_=>exact ek2.symm
  |1,_,1,_=>exact ek3.symm
inductive SpCj(a:Ad)(vs:List V)(H:Hp)(Q:VK):Prop
 |mk (p dx gp mem pr l kc:Addr) (g:GA) (G:Gv) (n e:Nat) (q:Sq) (_:vs=[.ref p,.int n,.int e]) (_:H p=some (.ins a.c_Jumps dx (jf5 g.p mem pr l kc))) (_:AH a H g G) (_:G[n]?=some q) (_:2+(e:Int)<=q.lev) (_:Q .non H):SpCj a vs H Q
def spCj(a:Ad):Sp:=λvs H Q _=>SpCj a vs H Q
theorem ok_cj{f:Addr}{fd:FuncData}(F:Fun K "check_jump" "Jumps.check_jump" CW f fd)(T:Top K mg a)(a9:BN P w K mg base CX0 3 a.c_Grove "level_of" Bb (LP a))(aJ:Cal P w K mg base CX0 1 "is_whole" DL Uf):AK P w K mg base CX0 4 f fd CZ (spCj a):=by
 refine F.ok El (λvs H Q E h=>?_) (λcdv A outer s H vs Q E hr h=>?_)
 ·apply AT;intro G_ hG_;obtain⟨p,dx,gp,mem,pr,l,kc,g,G,n,e,q,rfl,_⟩:=h;apply hG_;clear hG_ G_;rfl
 ·apply AT;intro G_ hG_;obtain⟨p,dx,gp,mem,pr,l,kc,g,G,n,e,q,rfl,hp,hg,eq,hl,k⟩:=h;apply hG_;clear hG_ G_;refine⟨_,(Ab (Aq (i:=3) El.nd rfl (Or.inl rfl) (AB (Ax (pv 0) rfl) a9 (rm hr) An (Aa (pv 1) Ac))) (Ab (AQ (AD Io (pv 3) (BP rfl T.k_LEAST_JUMPED) (AI _)) (Ag AZ) AE) (Ag (AQ (PW.pt (MW (DH (DG (Au aJ (rm hr) rfl An (Aa (pv 2) Ac)))) (Ll (DH (QI JJ JJ Ae (pv 2) (AF BG (pv 3) (BP rfl T.k_LEAST_JUMPED))))))) (Ag AZ) AE)))),?_⟩
  try dsimp only[cxK]
  refine xwf rfl rfl hp T.cl_Jumps T.na_Jumps_grove (Dv _ _ _ _ _) (xq3 rfl hg.hp (DP g) (xq1 rfl ⟨g,G,n,q,rfl,hg,eq,?_⟩));refine xwb rfl rfl rfl (xq1 rfl ?_);rw[W0 (by lia:¬q.lev<2)];refine Bw ?_;refine⟨_,rfl,_,rfl,true,rfl,Bw ⟨_,rfl,_,_,rfl,rfl,_,rfl,?_⟩⟩;rw[V9 (by lia:(0:Int)<=(e:Int))];refine CK (xwb rfl rfl rfl (xq2 rfl rfl (xq1 rfl ?_)));rw[V9 (by lia:(e:Int)<=q.lev-2)];exact Bw k
end
end J
namespace J
open PySem L2
theorem PV(G:Gv):∀(l n x y i j:Nat),cel G l n (x+2^l*i) (y+2^l*j)=cel G l n x y
 |0,n,x,y,i,j=>rfl
 |l+1,n,x,y,i,j=>by
  show cel G l (qO G n (((x+2^(l+1)*i)/2^l)%2+2*(((y+2^(l+1)*j)/2^l)%2))) (x+2^(l+1)*i) (y+2^(l+1)*j)=cel G l (qO G n ((x/2^l)%2+2*((y/2^l)%2))) x y;have p:0<2^l:=R5 A3;have e:∀i:Nat,2^(l+1)*i=2^l*(2*i):=λi=>by rw[D7,Nat.mul_assoc]
  rw[e i,e j,M8 _ _ p,M8 _ _ p,O1,O1];exact PV G l _ x y (2*i) (2*j)
theorem NG(G:Gv)(l n:Nat){x y i j:Nat}(hx:x<2^l)(hy:y<2^l)(hi:i<2)(hj:j<2):BZ G (l+1) n (x+2^l*i) (y+2^l*j)=BZ G l (qO G n (i+2*j)) x y:=by
 unfold BZ;show((cel G l (qO G n (((x+2^l*i)/2^l)%2+2*(((y+2^l*j)/2^l)%2))) (x+2^l*i) (y+2^l*j):Nat):Int)=_;have p:0<2^l:=R5 A3;rw[M8 _ _ p,M8 _ _ p,L6 hx,L6 hy,M7,M7,N4 hi,N4 hj,PV]
theorem Qq(r:AC)(c:Nat->Nat->Int)(n:Nat):∀m,Bg r (m+n) c=Bg r m (Bg r n c)
 |0=>by rw[M7];rfl
 |m+1=>by
  rw[show m+1+n=(m+n)+1 by lia];show stp r (Bg r (m+n) c)=stp r (Bg r m (Bg r n c));rw[Qq r c n m]
theorem Qp(r:AC){c d:Nat->Nat->Int}{X Y:Nat}:∀(k x y:Nat),k<=x->k<=y->(∀u v,x-k<=u->u<=x+k->y-k<=v->v<=y+k->c u v=d (u+X) (v+Y))->Bg r k c x y=Bg r k d (x+X) (y+Y)
 |0,x,y,_,_,h=>h x y A0 A0 A0 A0
 |k+1,x,y,hx,hy,h=>by
  have ih:∀u v,x-1<=u->u<=x+1->y-1<=v->v<=y+1->Bg r k c u v=Bg r k d (u+X) (v+Y):=λu v h1 h2 h3 h4=>Qp r k u v A0 A0 λa b q1 q2 q3 q4=>h a b A0 A0 A0 A0;show CQ r (Bg r k c x y) [Bg r k c (x-1) (y-1),Bg r k c x (y-1),Bg r k c (x+1) (y-1),Bg r k c (x-1) y,Bg r k c (x+1) y,Bg r k c (x-1) (y+1),Bg r k c x (y+1),Bg r k c (x+1) (y+1)]=CQ r (Bg r k d (x+X) (y+Y)) [Bg r k d (x+X-1) (y+Y-1),Bg r k d (x+X) (y+Y-1),Bg r k d (x+X+1) (y+Y-1),Bg r k d (x+X-1) (y+Y),Bg r k d (x+X+1) (y+Y),Bg r k d (x+X-1) (y+Y+1),Bg r k d (x+X) (y+Y+1),Bg r k d (x+X+1) (y+Y+1)];rw[ih x y A0 A0 A0 A0,ih (x-1) (y-1) A0 A0 A0 A0,ih x (y-1) A0 A0 A0 A0,ih (x+1) (y-1) A0 A0 A0 A0,ih (x-1) y A0 A0 A0 A0,ih (x+1) y A0 A0 A0 A0,ih (x-1) (y+1) A0 A0 A0 A0,ih x (y+1) A0 A0 A0 A0,ih (x+1) (y+1) A0 A0 A0 A0];rw[show x-1+X=x+X-1 by lia,show y-1+Y=y+Y-1 by lia,show x+1+X=x+X+1 by lia,show y+1+Y=y+Y+1 by lia]
def Vw(G:Gv)(c:Nat->Nat->Int)(l m X Y:Nat):Prop:=∀x y,x<2^l->y<2^l->BZ G l m x y=c (x+X) (y+Y)
theorem Vw.q{G:Gv}{c:Nat->Nat->Int}{l m X Y i j:Nat}(h:Vw G c (l+1) m X Y)(hi:i<2)(hj:j<2):Vw G c l (qO G m (i+2*j)) (X+2^l*i) (Y+2^l*j):=λx y hx hy=>by
 rw[<-NG G l m hx hy hi hj,h _ _ ?_ ?_]
 ·rw[show x+2^l*i+X=x+(X+2^l*i) by lia,show y+2^l*j+Y=y+(Y+2^l*j) by lia]
 ·rw[D7];have:2^l*i<=2^l*1:=J6 _ A0;lia
 ·rw[D7];have:2^l*j<=2^l*1:=J6 _ A0;lia
theorem Vw.of{G:Gv}{c:Nat->Nat->Int}{l m X Y:Nat}(h0:Vw G c l (qO G m 0) X Y)(h1:Vw G c l (qO G m 1) (X+2^l) Y)(h2:Vw G c l (qO G m 2) X (Y+2^l))(h3:Vw G c l (qO G m 3) (X+2^l) (Y+2^l)):Vw G c (l+1) m X Y:=λx y hx hy=>by
 rw[D7]at hx hy;by_cases zx:x<2^l
 ·by_cases zy:y<2^l
  ·have:=NG G l m zx zy (i:=0) (j:=0) A3 A3;rw[show x+2^l*0=x by lia,show y+2^l*0=y by lia]at this;rw[this];exact h0 x y zx zy
  ·have:=NG G l m zx (y:=y-2^l) A0 (i:=0) (j:=1) A3 A3;rw[show x+2^l*0=x by lia,show y-2^l+2^l*1=y by lia]at this;rw[this,h2 x (y-2^l) zx A0,show y-2^l+(Y+2^l)=y+Y by lia]
 ·by_cases zy:y<2^l
  ·have:=NG G l m (x:=x-2^l) A0 zy (i:=1) (j:=0) A3 A3;rw[show y+2^l*0=y by lia,show x-2^l+2^l*1=x by lia]at this;rw[this,h1 (x-2^l) y A0 zy,show x-2^l+(X+2^l)=x+X by lia]
  ·have:=NG G l m (x:=x-2^l) (y:=y-2^l) A0 A0 (i:=1) (j:=1) A3 A3;rw[show x-2^l+2^l*1=x by lia,show y-2^l+2^l*1=y by lia]at this;rw[this,h3 (x-2^l) (y-2^l) A0 A0,show x-2^l+(X+2^l)=x+X by lia,show y-2^l+(Y+2^l)=y+Y by lia]
theorem Vw.jump{G:Gv}{r:AC}{c:Nat->Nat->Int}{l e m k X Y:Nat}(h:Vw G c (l+2) m X Y)(he:e<=l)(j:∀x y,x<2^(l+1)->y<2^(l+1)->BZ G (l+1) k x y=Bg r (2^e) (BZ G (l+2) m) (x+2^l) (y+2^l)):Vw G (Bg r (2^e) c) (l+1) k (X+2^l) (Y+2^l):=λx y hx hy=>by
 have p:2^e<=2^l:=L5 A3 he;have p1:2^(l+1)=2^l*2:=D7 ..;have p2:2^(l+2)=2^l*2*2:=by rw[D7,D7]
 rw[j x y hx hy,Qp r (X:=X) (Y:=Y) (2^e) (x+2^l) (y+2^l) A0 A0 λu v h1 h2 h3 h4=>h u v A0 A0];rw[show x+2^l+X=x+(X+2^l) by lia,show y+2^l+Y=y+(Y+2^l) by lia]
seal L2.PA L2.PE L2.PS L2.PSs L2.PT L2.PW
theorem Vw.at'{G:Gv}{c:Nat->Nat->Int}{l m X Y X' Y':Nat}(h:Vw G c l m X Y)(e1:X=X')(e2:Y=Y'):Vw G c l m X' Y':=by
 subst e1;subst e2;exact h
theorem Vw.goes{G G':Gv}{c:Nat->Nat->Int}{l m X Y i:Nat}(h:Vw G c l m X Y)(ok:GOk G)(go:AG G G' i)(lv:Ak G m (l:Int)):Vw G' c l m X Y:=λx y hx hy=>by
 rw[Ck ok go lv];exact h x y hx hy
section
variable{P:Program}{w:World}{K:PySem.W.Frag}{mg:Str->Option Value}{base:Heap}{a:Ad}
inductive Ym(a:Ad)(vs:List V)(H:Hp)(Q:VK):Prop
 |mk (g:GA) (G:Gv) (n l:Nat) (_:vs=[.ref g.p,.int n]) (_:AH a H g G) (_:GOk G) (_:Ak G n ((l+1+1:Nat):Int)) (_:l<=46) (_:G.length<8000000) (_:∀(L:Addr)(ks:List Nat)(G':Gv)(H':Hp),Fr g H H'->AH a H' g G'->AG G G' 5->H' L=some (.lst (ks.map λ(k:Nat)=>V.int (k:Int)))->ks.length=9->(∀i j,i<3->j<3->∃k,ks[i+3*j]?=some k/\Ak G' k ((l+1:Nat):Int)/\Vw G' (BZ G (l+2) n) (l+1) k (2^l*i) (2^l*j))->Q (.ref L) H'):Ym a vs H Q
def MF(a:Ad):Sp:=λvs H Q _=>Ym a vs H Q
theorem Wu{K:PySem.W.Frag}{a:Ad}{H0 H:Hp}{g:GA}{G0 G:Gv}{j:Nat}{σ:St}{i1 i2 i3 i4:Nat}{t1 t2 t3 t4:Addr}{xs1 xs2 xs3 xs4:List V}{j1 j2 j3 j4:Int}{x y z w:Nat}{l:Int}{Q:VK}(s:Ln a g H0 G0 j H G)(h1:H0 t1=some (.tup xs1))(h2:H0 t2=some (.tup xs2))(h3:H0 t3=some (.tup xs3))(h4:H0 t4=some (.tup xs4))(lv:Ak G0 x l/\Ak G0 y l/\Ak G0 z l/\Ak G0 w l)(few:l<=47/\G0.length+j<9000000)
  (k:∀(n:Nat)(G':Gv)(H':Hp),Ln a g H0 G0 (j+1) H' G'->AG G G' 1->G'[n]?=some ⟨[(x:Int),(y:Int),(z:Int),(w:Int)],l+1⟩->Q (.int n) H') (e:(σ[0]?=some (some (.ref g.p))/\σ[i1]?=some (some (.ref t1))/\σ[i2]?=some (some (.ref t2))/\σ[i3]?=some (some (.ref t3))/\σ[i4]?=some (some (.ref t4)))/\atI xs1 j1=some (.int x)/\atI xs2 j2=some (.int y)/\atI xs3 j3=some (.int z)/\atI xs4 j4=some (.int w):=by exact⟨⟨rfl,rfl,rfl,rfl,rfl⟩,rfl,rfl,rfl,rfl⟩):SK a.c_Grove "linked" (Ee a) [] E0 (FO 0) (Cr (Vk (Cr (tOp (IM K) (FO i1) (tC (V.int j1))) (Cr (tOp (IM K) (FO i2) (tC (V.int j2))) (Cr (tOp (IM K) (FO i3) (tC (V.int j3))) (Cr (tOp (IM K) (FO i4) (tC (V.int j4))) OS))))) OS) σ H Q:=by
 apply AT;intro G_ hG_;obtain⟨⟨r,r1,r2,r3,r4⟩,e1,e2,e3,e4⟩:=e;apply hG_;clear hG_ G_;exact⟨_,r,(xq3 rfl s.gr.hp (BI g) (ixt r1 (s.kt h1) e1 (ixt r2 (s.kt h2) e2 (ixt r3 (s.kt h3) e3 (ixt r4 (s.kt h4) e4 ⟨(by show 4<=sizeLine;decide),λ_ hu=>lnk s hu lv few.1 few.2 k⟩)))))⟩
theorem vw4{G:Gv}{c:Nat->Nat->Int}{l m x y z w X Y:Nat}{lv:Int}(e:G[m]?=some ⟨[(x:Int),(y:Int),(z:Int),(w:Int)],lv⟩)(h0:Vw G c l x (2^l*X) (2^l*Y))(h1:Vw G c l y (2^l*(X+1)) (2^l*Y))(h2:Vw G c l z (2^l*X) (2^l*(Y+1)))(h3:Vw G c l w (2^l*(X+1)) (2^l*(Y+1))):Vw G c (l+1) m (2^l*X) (2^l*Y):=by
 apply AT;intro G_ hG_;obtain⟨rfl,rfl,rfl,rfl⟩:=Dy e;apply hG_;clear hG_ G_;exact .of h0 h1 h2 h3
theorem vwQ{G:Gv}{c:Nat->Nat->Int}{l m x y z w X Y:Nat}{lv:Int}(e:G[m]?=some ⟨[(x:Int),(y:Int),(z:Int),(w:Int)],lv⟩)(v:Vw G c (l+1) m (2^l*X) (2^l*Y)):Vw G c l x (2^l*X) (2^l*Y)/\Vw G c l y (2^l*(X+1)) (2^l*Y)/\Vw G c l z (2^l*X) (2^l*(Y+1))/\Vw G c l w (2^l*(X+1)) (2^l*(Y+1)):=by
 apply AT;intro G_ hG_;obtain⟨rfl,rfl,rfl,rfl⟩:=Dy e;apply hG_;clear hG_ G_;exact⟨v.q (i:=0) (j:=0) A3 A3,(v.q (i:=1) (j:=0) A3 A3).at' A0 rfl,(v.q (i:=0) (j:=1) A3 A3).at' rfl A0,(v.q (i:=1) (j:=1) A3 A3).at' A0 A0⟩
theorem ok_nine{f:Addr}{fd:FuncData}(F:Fun K "nine_parts" "nine_parts" Gi f fd)(T:Top K mg a)(a8:BN P w K mg base CX0 2 a.c_Grove "linked" AN (Ee a)):AK P w K mg base CX0 3 f fd Du (MF a):=by
 refine F.ok Ch (λvs H Q E h=>?_) (λcdv A outer s H vs Q E hr h=>?_)
 ·apply AT;intro G_ hG_;obtain⟨g,G,n,l,rfl,_⟩:=h;apply hG_;clear hG_ G_;rfl
 ·apply AT;intro G_ hG_;obtain⟨g,G,n,l,rfl,hg,ok,hl,l46,few,k⟩:=h;obtain⟨qa,qb,qc,qd,en,la,lb,lc,ld⟩:=ok.four hl;obtain⟨a0,a1,a2,a3,ea,la0,la1,la2,la3⟩:=ok.four la;obtain⟨b0,b1,b2,b3,eb,lb0,lb1,lb2,lb3⟩:=ok.four lb;obtain⟨c0,c1,c2,c3,ec,lc0,lc1,lc2,lc3⟩:=ok.four lc;obtain⟨d0,d1,d2,d3,ed,ld0,ld1,ld2,ld3⟩:=ok.four ld;obtain⟨ts,h3,h4⟩:=hg.pt;obtain⟨t,et,ht⟩:=PairedM.get h4 en;obtain⟨ta,eta,hta⟩:=PairedM.get h4 ea;obtain⟨tb,etb,htb⟩:=PairedM.get h4 eb;obtain⟨tc,etc,htc⟩:=PairedM.get h4 ec;obtain⟨td,etd,htd⟩:=PairedM.get h4 ed;apply hG_;clear hG_ G_;have s0:Ln a g H G 0 H G:=⟨.refl _ _,λe=>e,hg,.refl ok⟩
  refine⟨_,(Ab (Aq (i:=2) Ch.nd rfl (Or.inl rfl) (Aj Av (Ax (pv 0) rfl) (pv 1) (λ_ _=>rfl))) (Ab (Aq (i:=3) Ch.nd rfl (Or.inl rfl) (Aj Av (Ax (pv 0) rfl) (Aj Am (pv 2) Ae (λ_ _=>rfl)) (λ_ _=>rfl))) (Ab (Aq (i:=4) Ch.nd rfl (Or.inl rfl) (Aj Av (Ax (pv 0) rfl) (Aj Am (pv 2) Ae (λ_ _=>rfl)) (λ_ _=>rfl))) (Ab (Aq (i:=5) Ch.nd rfl (Or.inl rfl) (Aj Av (Ax (pv 0) rfl) (Aj Am (pv 2) Ae (λ_ _=>rfl)) (λ_ _=>rfl))) (Ab (Aq (i:=6) Ch.nd rfl (Or.inl rfl) (Aj Av (Ax (pv 0) rfl) (Aj Am (pv 2) Ae (λ_ _=>rfl)) (λ_ _=>rfl))) (Ag (Aw (CY (Aa (Aj Am (pv 2) Ae (λ_ _=>rfl)) (Aa (AB (pv 0) a8 (rm hr) An (Bo (Aa (Aj Am (pv 3) Ae (λ_ _=>rfl)) (Aa (Aj Am (pv 4) Ae (λ_ _=>rfl)) (Aa (Aj Am (pv 3) Ae (λ_ _=>rfl)) (Aa (Aj Am (pv 4) Ae (λ_ _=>rfl)) Ac)))) Ac)) (Aa (Aj Am (pv 2) Ae (λ_ _=>rfl)) (Aa (AB (pv 0) a8 (rm hr) An (Bo (Aa (Aj Am (pv 3) Ae (λ_ _=>rfl)) (Aa (Aj Am (pv 3) Ae (λ_ _=>rfl)) (Aa (Aj Am (pv 5) Ae (λ_ _=>rfl)) (Aa (Aj Am (pv 5) Ae (λ_ _=>rfl)) Ac)))) Ac)) (Aa (AB (pv 0) a8 (rm hr) An (Bo (Aa (Aj Am (pv 3) Ae (λ_ _=>rfl)) (Aa (Aj Am (pv 4) Ae (λ_ _=>rfl)) (Aa (Aj Am (pv 5) Ae (λ_ _=>rfl)) (Aa (Aj Am (pv 6) Ae (λ_ _=>rfl)) Ac)))) Ac)) (Aa (AB (pv 0) a8 (rm hr) An (Bo (Aa (Aj Am (pv 4) Ae (λ_ _=>rfl)) (Aa (Aj Am (pv 4) Ae (λ_ _=>rfl)) (Aa (Aj Am (pv 6) Ae (λ_ _=>rfl)) (Aa (Aj Am (pv 6) Ae (λ_ _=>rfl)) Ac)))) Ac)) (Aa (Aj Am (pv 2) Ae (λ_ _=>rfl)) (Aa (AB (pv 0) a8 (rm hr) An (Bo (Aa (Aj Am (pv 5) Ae (λ_ _=>rfl)) (Aa (Aj Am (pv 6) Ae (λ_ _=>rfl)) (Aa (Aj Am (pv 5) Ae (λ_ _=>rfl)) (Aa (Aj Am (pv 6) Ae (λ_ _=>rfl)) Ac)))) Ac)) (Aa (Aj Am (pv 2) Ae (λ_ _=>rfl)) Ac))))))))))))))))),?_⟩
  try dsimp only[cxK]
  refine Br ?_;intro r_k0 s_k0 k0 hk E_k0;refine xwf rfl rfl hg.hp T.cl_Grove T.na_Grove_parts (Ce g) (xq1 rfl (ixp h3 et ?_));refine hk ?_;refine Br ?_;intro r_k1 s_k1 k1 hk E_k1;refine xwf rfl rfl hg.hp T.cl_Grove T.na_Grove_parts (Ce g) (ixt rfl ht rfl (ixp h3 eta ?_));refine hk ?_;refine Br ?_;intro r_k2 s_k2 k2 hk E_k2;refine xwf rfl rfl hg.hp T.cl_Grove T.na_Grove_parts (Ce g) (ixt rfl ht rfl (ixp h3 etb ?_));refine hk ?_;refine Br ?_;intro r_k3 s_k3 k3 hk E_k3;refine xwf rfl rfl hg.hp T.cl_Grove T.na_Grove_parts (Ce g) (ixt rfl ht rfl (ixp h3 etc ?_));refine hk ?_;refine Br ?_;intro r_k4 s_k4 k4 hk E_k4;refine xwf rfl rfl hg.hp T.cl_Grove T.na_Grove_parts (Ce g) (ixt rfl ht rfl (ixp h3 etd ?_));refine hk ?_;refine tretl (Fa (ixt rfl (s0.kt ht) rfl (Fa (Wu s0 hta htb hta htb ⟨la1,lb0,la3,lb2⟩ ⟨by lia,by lia⟩ λm1 G1 H1 s1 go1 e1=>?_))));refine Fa (ixt rfl (s1.kt ht) rfl (Fa (Wu s1 hta hta htc htc ⟨la2,la3,lc0,lc1⟩ ⟨by lia,by lia⟩ λm3 G3 H3 s3 go3 e3=>?_)));refine Fa (Wu s3 hta htb htc htd ⟨la3,lb2,lc1,ld0⟩ ⟨by lia,by lia⟩ λm4 G4 H4 s4 go4 e4=>?_);refine Fa (Wu s4 htb htb htd htd ⟨lb2,lb3,ld0,ld1⟩ ⟨by lia,by lia⟩ λm5 G5 H5 s5 go5 e5=>?_);refine Fa (ixt rfl (s5.kt ht) rfl (Fa (Wu s5 htc htd htc htd ⟨lc1,ld0,lc3,ld2⟩ ⟨by lia,by lia⟩ λm7 G7 H7 s7 go7 e7=>?_)));refine Fa (ixt rfl (s7.kt ht) rfl ⟨(by show 9<=sizeLine;decide),λL hL=>?_⟩);have gz:=s7.go;have sL:=Az (o:=.lst (([qa,m1,qb,m3,m4,m5,qc,m7,qd]:List Nat).map λ(k:Nat)=>V.int (k:Int))) hL;refine k L [qa,m1,qb,m3,m4,m5,qc,m7,qd] G7 _ (s7.fr.trans (AA.fr sL)) (s7.gr.same sL) gz Af rfl ?_;have v0:Vw G (BZ G (l+2) n) (l+1+1) n (2^(l+1)*0) (2^(l+1)*0):=λx y _ _=>rfl;have p1:2^(l+1)=2^l*2:=D7 ..;apply AT;intro G_ hG_;obtain⟨va,vb,vc,vd⟩:=vwQ (gz.get en) (v0.goes ok gz hl);apply hG_;clear hG_ G_;have va:=va.at' (X':=2^l*0) (Y':=2^l*0) A0 A0;have vb:=vb.at' (X':=2^l*2) (Y':=2^l*0) A0 A0;have vc:=vc.at' (X':=2^l*0) (Y':=2^l*2) A0 A0;have vd:=vd.at' (X':=2^l*2) (Y':=2^l*2) A0 A0;apply AT;intro G_ hG_;obtain⟨va0,va1,va2,va3⟩:=vwQ (gz.get ea) va;obtain⟨vb0,vb1,vb2,vb3⟩:=vwQ (gz.get eb) vb;obtain⟨vc0,vc1,vc2,vc3⟩:=vwQ (gz.get ec) vc;obtain⟨vd0,vd1,vd2,vd3⟩:=vwQ (gz.get ed) vd;apply hG_;clear hG_ G_;have g5:=go7.get e5;have g4:=go7.get (go5.get e4);have g3:=go7.get (go5.get (go4.get e3));have g1:=go7.get (go5.get (go4.get (go3.get e1)));intro i j hi hj
  match i,hi,j,hj with
  |0,_,0,_=>exact⟨qa,rfl,gz.lev la,va⟩
  |1,_,0,_=>exact⟨m1,rfl,⟨_,g1,rfl⟩,vw4 g1 va1 vb0 va3 vb2⟩
  |2,_,0,_=>exact⟨qb,rfl,gz.lev lb,vb⟩
  |0,_,1,_=>exact⟨m3,rfl,⟨_,g3,rfl⟩,vw4 g3 va2 va3 vc0 vc1⟩
  |1,_,1,_=>exact⟨m4,rfl,⟨_,g4,rfl⟩,vw4 g4 va3 vb2 vc1 vd0⟩
  |2,_,1,_=>exact⟨m5,rfl,⟨_,g5,rfl⟩,vw4 g5 vb2 vb3 vd0 vd1⟩
  |0,_,2,_=>exact⟨qc,rfl,gz.lev lc,vc⟩
  |1,_,2,_=>exact⟨m7,rfl,⟨_,e7,rfl⟩,vw4 e7 vc1 vd0 vc3 vd2⟩
  |2,_,2,_=>exact⟨qd,rfl,gz.lev ld,vd⟩
inductive TV(vs:List V)(H:Hp)(Q:VK):Prop
 |mk (L:Addr) (k0 k1 k2 k3 k4 k5 k6 k7 k8:Nat) (_:vs=[.ref L]) (_:H L=some (.lst [.int k0,.int k1,.int k2,.int k3,.int k4,.int k5,.int k6,.int k7,.int k8])) (_:∀(M t0 t1 t2 t3:Addr)(H':Hp),AA H H'->H' M=some (.lst [.ref t0,.ref t1,.ref t2,.ref t3])->H' t0=some (.tup [.int k0,.int k1,.int k3,.int k4])->H' t1=some (.tup [.int k1,.int k2,.int k4,.int k5])->H' t2=some (.tup [.int k3,.int k4,.int k6,.int k7])->H' t3=some (.tup [.int k4,.int k5,.int k7,.int k8])->Q (.ref M) H'):TV vs H Q
def Jt:Sp:=λvs H Q _=>TV vs H Q
theorem Wf{f:Addr}{fd:FuncData}(F:Fun K "fours_of" "fours_of" Jc f fd)(T:Top K mg a):AK P w K mg base CX0 1 f fd EM Jt:=by
 refine F.ok QB (λvs H Q E h=>?_) (λcdv A outer s H vs Q E hr h=>?_)
 ·apply AT;intro G_ hG_;obtain⟨L,k0,k1,k2,k3,k4,k5,k6,k7,k8,rfl,_⟩:=h;apply hG_;clear hG_ G_;rfl
 ·apply AT;intro G_ hG_;obtain⟨L,k0,k1,k2,k3,k4,k5,k6,k7,k8,rfl,hL,k⟩:=h;apply hG_;clear hG_ G_;refine⟨_,(Ag (Aw (CY (Bo (Aa (Aj Av (pv 0) Ae (λ_ _=>rfl)) (Aa (Aj Av (pv 0) Ae (λ_ _=>rfl)) (Aa (Aj Av (pv 0) Ae (λ_ _=>rfl)) (Aa (Aj Av (pv 0) Ae (λ_ _=>rfl)) Ac)))) (Bo (Aa (Aj Av (pv 0) Ae (λ_ _=>rfl)) (Aa (Aj Av (pv 0) Ae (λ_ _=>rfl)) (Aa (Aj Av (pv 0) Ae (λ_ _=>rfl)) (Aa (Aj Av (pv 0) Ae (λ_ _=>rfl)) Ac)))) (Bo (Aa (Aj Av (pv 0) Ae (λ_ _=>rfl)) (Aa (Aj Av (pv 0) Ae (λ_ _=>rfl)) (Aa (Aj Av (pv 0) Ae (λ_ _=>rfl)) (Aa (Aj Av (pv 0) Ae (λ_ _=>rfl)) Ac)))) (Bo (Aa (Aj Av (pv 0) Ae (λ_ _=>rfl)) (Aa (Aj Av (pv 0) Ae (λ_ _=>rfl)) (Aa (Aj Av (pv 0) Ae (λ_ _=>rfl)) (Aa (Aj Av (pv 0) Ae (λ_ _=>rfl)) Ac)))) Ac))))))),?_⟩
  try dsimp only[cxK]
  refine xwi rfl rfl rfl (SqL.of hL) (Al (j:=0) rfl) (xwi rfl rfl rfl (SqL.of hL) (Al (j:=1) rfl) (xwi rfl rfl rfl (SqL.of hL) (Al (j:=3) rfl) (xwi rfl rfl rfl (SqL.of hL) (Al (j:=4) rfl) ⟨(by show 4<=sizeLine;decide),λt0 ht0=>?_⟩)));have s0:=Az (o:=.tup [.int (k0:Int),.int (k1:Int),.int (k3:Int),.int (k4:Int)]) ht0;have h0:upd H t0 (.tup [.int (k0:Int),.int (k1:Int),.int (k3:Int),.int (k4:Int)]) t0=some (.tup [.int (k0:Int),.int (k1:Int),.int (k3:Int),.int (k4:Int)]):=Af;generalize hX0:upd H t0 (.tup [.int (k0:Int),.int (k1:Int),.int (k3:Int),.int (k4:Int)])=X0 at s0 h0;have hL0:=s0 _ _ hL
  first|rw[hX0]|(show ∃_,_;rw[hX0])|skip
  refine xwi rfl rfl rfl (SqL.of hL0) (Al (j:=1) rfl) (xwi rfl rfl rfl (SqL.of hL0) (Al (j:=2) rfl) (xwi rfl rfl rfl (SqL.of hL0) (Al (j:=4) rfl) (xwi rfl rfl rfl (SqL.of hL0) (Al (j:=5) rfl) ⟨(by show 4<=sizeLine;decide),λt1 ht1=>?_⟩)));have s1:=Az (o:=.tup [.int (k1:Int),.int (k2:Int),.int (k4:Int),.int (k5:Int)]) ht1;have h1:upd X0 t1 (.tup [.int (k1:Int),.int (k2:Int),.int (k4:Int),.int (k5:Int)]) t1=some (.tup [.int (k1:Int),.int (k2:Int),.int (k4:Int),.int (k5:Int)]):=Af;generalize hX1:upd X0 t1 (.tup [.int (k1:Int),.int (k2:Int),.int (k4:Int),.int (k5:Int)])=X1 at s1 h1;have hL1:=s1 _ _ hL0
  first|rw[hX1]|(show ∃_,_;rw[hX1])|skip
  refine xwi rfl rfl rfl (SqL.of hL1) (Al (j:=3) rfl) (xwi rfl rfl rfl (SqL.of hL1) (Al (j:=4) rfl) (xwi rfl rfl rfl (SqL.of hL1) (Al (j:=6) rfl) (xwi rfl rfl rfl (SqL.of hL1) (Al (j:=7) rfl) ⟨(by show 4<=sizeLine;decide),λt2 ht2=>?_⟩)));have s2:=Az (o:=.tup [.int (k3:Int),.int (k4:Int),.int (k6:Int),.int (k7:Int)]) ht2;have h2:upd X1 t2 (.tup [.int (k3:Int),.int (k4:Int),.int (k6:Int),.int (k7:Int)]) t2=some (.tup [.int (k3:Int),.int (k4:Int),.int (k6:Int),.int (k7:Int)]):=Af;generalize hX2:upd X1 t2 (.tup [.int (k3:Int),.int (k4:Int),.int (k6:Int),.int (k7:Int)])=X2 at s2 h2;have hL2:=s2 _ _ hL1
  first|rw[hX2]|(show ∃_,_;rw[hX2])|skip
  refine xwi rfl rfl rfl (SqL.of hL2) (Al (j:=4) rfl) (xwi rfl rfl rfl (SqL.of hL2) (Al (j:=5) rfl) (xwi rfl rfl rfl (SqL.of hL2) (Al (j:=7) rfl) (xwi rfl rfl rfl (SqL.of hL2) (Al (j:=8) rfl) ⟨(by show 4<=sizeLine;decide),λt3 ht3=>?_⟩)));have s3:=Az (o:=.tup [.int (k4:Int),.int (k5:Int),.int (k7:Int),.int (k8:Int)]) ht3;have h3:upd X2 t3 (.tup [.int (k4:Int),.int (k5:Int),.int (k7:Int),.int (k8:Int)]) t3=some (.tup [.int (k4:Int),.int (k5:Int),.int (k7:Int),.int (k8:Int)]):=Af;generalize hX3:upd X2 t3 (.tup [.int (k4:Int),.int (k5:Int),.int (k7:Int),.int (k8:Int)])=X3 at s3 h3;have hL3:=s3 _ _ hL2
  first|rw[hX3]|(show ∃_,_;rw[hX3])|skip
  refine⟨(by show 4<=sizeLine;decide),λM hM=>?_⟩;have s4:=Az (o:=.lst [.ref t0,.ref t1,.ref t2,.ref t3]) hM;exact k M t0 t1 t2 t3 _ ((((s0.trans s1).trans s2).trans s3).trans s4) Af (s4 _ _ (s3 _ _ (s2 _ _ (s1 _ _ h0)))) (s4 _ _ (s3 _ _ (s2 _ _ h1))) (s4 _ _ (s3 _ _ h2)) (s4 _ _ h3)
inductive SpMet(a:Ad)(vs:List V)(H:Hp)(Q:VK):Prop
 |mk (g:GA) (G:Gv) (t:Addr) (f0 f1 f2 f3 l:Nat) (_:vs=[.ref g.p,.ref t]) (_:AH a H g G) (_:GOk G) (_:H t=some (.tup [.int f0,.int f1,.int f2,.int f3])) (_:Ak G f0 ((l+1:Nat):Int)/\Ak G f1 ((l+1:Nat):Int)/\Ak G f2 ((l+1:Nat):Int)/\Ak G f3 ((l+1:Nat):Int)) (_:l<=47) (_:G.length<9000000) (_:∀(k:Nat)(G':Gv)(H':Hp),Fr g H H'->AH a H' g G'->AG G G' 1->G'[k]?=some ⟨[((qO G f0 3:Nat):Int),((qO G f1 2:Nat):Int),((qO G f2 1:Nat):Int),((qO G f3 0:Nat):Int)],(l:Int)+1⟩->Q (.int k) H'):SpMet a vs H Q
def SV(a:Ad):Sp:=λvs H Q _=>SpMet a vs H Q
theorem ok_met{f:Addr}{fd:FuncData}(F:Fun K "met_in_the_middle" "met_in_the_middle" CJ f fd)(T:Top K mg a)(a8:BN P w K mg base CX0 2 a.c_Grove "linked" AN (Ee a)):AK P w K mg base CX0 3 f fd BX (SV a):=by
 refine F.ok DZ (λvs H Q E h=>?_) (λcdv A outer s H vs Q E hr h=>?_)
 ·apply AT;intro G_ hG_;obtain⟨g,G,t,f0,f1,f2,f3,l,rfl,_⟩:=h;apply hG_;clear hG_ G_;rfl
 ·apply AT;intro G_ hG_;obtain⟨g,G,t,f0,f1,f2,f3,l,rfl,hg,ok,ht,⟨l0,l1,l2,l3⟩,h47,few,k⟩:=h;obtain⟨ts,h3,h4⟩:=hg.pt;obtain⟨x00,x01,x02,x03,e0,m00,m01,m02,m03⟩:=ok.four l0;obtain⟨u0,eu0,hu0⟩:=PairedM.get h4 e0;obtain⟨y00,y01,y02,y03⟩:=Dy e0;obtain⟨x10,x11,x12,x13,e1,m10,m11,m12,m13⟩:=ok.four l1;obtain⟨u1,eu1,hu1⟩:=PairedM.get h4 e1;obtain⟨y10,y11,y12,y13⟩:=Dy e1;obtain⟨x20,x21,x22,x23,e2,m20,m21,m22,m23⟩:=ok.four l2;obtain⟨u2,eu2,hu2⟩:=PairedM.get h4 e2;obtain⟨y20,y21,y22,y23⟩:=Dy e2;obtain⟨x30,x31,x32,x33,e3,m30,m31,m32,m33⟩:=ok.four l3;obtain⟨u3,eu3,hu3⟩:=PairedM.get h4 e3;obtain⟨y30,y31,y32,y33⟩:=Dy e3;apply hG_;clear hG_ G_;rw[y03,y12,y21,y30]at k;refine⟨_,(Ab (Aq (i:=2) DZ.nd rfl (Or.inl rfl) (Ax (pv 0) rfl)) (Ag (Aw (AB (pv 0) a8 (rm hr) An (Bo (Aa (Aj Am (Aj Av (pv 2) (Aj Am (pv 1) Ae (λ_ _=>rfl)) (λ_ _=>rfl)) Ae (λ_ _=>rfl)) (Aa (Aj Am (Aj Av (pv 2) (Aj Am (pv 1) Ae (λ_ _=>rfl)) (λ_ _=>rfl)) Ae (λ_ _=>rfl)) (Aa (Aj Am (Aj Av (pv 2) (Aj Am (pv 1) Ae (λ_ _=>rfl)) (λ_ _=>rfl)) Ae (λ_ _=>rfl)) (Aa (Aj Am (Aj Av (pv 2) (Aj Am (pv 1) Ae (λ_ _=>rfl)) (λ_ _=>rfl)) Ae (λ_ _=>rfl)) Ac)))) Ac))))),?_⟩
  try dsimp only[cxK]
  refine xwf rfl rfl hg.hp T.cl_Grove T.na_Grove_parts (Ce g) ?_;refine xwn rfl rfl hg.hp (BI g) rfl (xwi rfl rfl rfl (SqT.of ht) (Al (j:=0) rfl) (xq4 rfl rfl (SqL.of h3) (Al (by rw[B7,eu0];rfl)) (xq4 rfl rfl (SqT.of hu0) (Al (j:=3) rfl) (xwj rfl rfl rfl rfl (SqT.of ht) (Al (j:=1) rfl) (xq4 rfl rfl (SqL.of h3) (Al (by rw[B7,eu1];rfl)) (xq4 rfl rfl (SqT.of hu1) (Al (j:=2) rfl) (xwj rfl rfl rfl rfl (SqT.of ht) (Al (j:=2) rfl) (xq4 rfl rfl (SqL.of h3) (Al (by rw[B7,eu2];rfl)) (xq4 rfl rfl (SqT.of hu2) (Al (j:=1) rfl) (xwj rfl rfl rfl rfl (SqT.of ht) (Al (j:=3) rfl) (xq4 rfl rfl (SqL.of h3) (Al (by rw[B7,eu3];rfl)) (xq4 rfl rfl (SqT.of hu3) (Al (j:=0) rfl) ⟨(by show 4<=sizeLine;decide),λu hu=>?_⟩))))))))))));have s1:=Az (o:=.tup [.int (x03:Int),.int (x12:Int),.int (x21:Int),.int (x30:Int)]) hu;exact⟨g,G,u,x03,x12,x21,x30,(l:Int),rfl,hg.same s1,ok,Af,⟨m03,m12,m21,m30⟩,by lia,few,λn G' H' fr hg' go e=>k n G' H' ((AA.fr s1).trans fr) hg' go e⟩
end
end J
namespace J
open PySem L2
def Sv(o:HO):Prop:=Nv o\/∃xs:List V,o=.lst xs/\xs.length<=50
def KpS(H H':Hp):Prop:=∀b o,H b=some o->Sv o->H' b=some o
theorem Sv.lst{xs:List V}(h:xs.length<=50):Sv (.lst xs):=.inr ⟨xs,rfl,h⟩
theorem Bs.long{G:Gv}(h:Bs G):56<=G.length:=(B4.mp (h 47 A3)).1
theorem Sv.nl{b x:Addr}{H:Hp}{o:HO}{xs:List V}(s:Sv o)(e:H b=some o)(ex:H x=some (.lst xs))(lx:50<xs.length):b≠x:=λz=>by
 rw[z,ex]at e;cases e;rcases s with s|⟨ys,ey,ly⟩
 ·cases s
 ·cases ey;lia
theorem Sv.nt{b x:Addr}{H:Hp}{o:HO}{k:List (List Key×V)}(s:Sv o)(e:H b=some o)(ex:H x=some (.dT k)):b≠x:=λz=>by
 rw[z,ex]at e;cases e;rcases s with s|⟨ys,ey,ly⟩
 ·cases s
 ·cases ey
theorem Sv.nk{b x:Addr}{H:Hp}{o:HO}{k:List (Key×V)}(s:Sv o)(e:H b=some o)(ex:H x=some (.dK k)):b≠x:=λz=>by
 rw[z,ex]at e;cases e;rcases s with s|⟨ys,ey,ly⟩
 ·cases s
 ·cases ey
theorem Fr.kps{a:Ad}{H H':Hp}{g:GA}{G:Gv}(f:Fr g H H')(hg:AH a H g G)(l56:56<=G.length):KpS H H':=by
 intro b o e s;obtain⟨ts,h3,h4⟩:=hg.pt;have lt:ts.length=G.length:=W9 h4;exact f _ _ e (s.nl e hg.lv (by rw[B5];lia)) (s.nl e h3 (by rw[B5];lia)) (s.nt e hg.nm)
theorem FrJ.kps{a:Ad}{H H':Hp}{g:GA}{G:Gv}{N M:Nat}{r:AC}{m:MA}(f:FrJ g m H H')(hg:AH a H g G)(l56:56<=G.length)(hm:GX H g G N M r m):KpS H H':=by
 intro b o e s;obtain⟨ts,h3,h4⟩:=hg.pt;obtain⟨kc,c1,_⟩:=hm.ce;have lt:ts.length=G.length:=W9 h4;refine f _ _ e (s.nl e hg.lv (by rw[B5];lia)) (s.nl e h3 (by rw[B5];lia)) (s.nt e hg.nm) (s.nt e c1) λz=>?_;obtain⟨j,hj⟩:=F4 z;obtain⟨kv,e2,_⟩:=hm.sq j b hj;exact s.nk e e2 rfl
theorem TF{G:Gv}(ok:GOk G):∀(l:Nat){n m:Nat},Ak G n (l:Int)->Ak G m (l:Int)->(∀x y,x<2^l->y<2^l->BZ G l n x y=BZ G l m x y)->n=m
 |0,n,m,_,_,h=>W6 (h 0 0 A3 A3)
 |l+1,n,m,hn,hm,h=>by
  have part:∀i j,i<2->j<2->qO G n (i+2*j)=qO G m (i+2*j):=λi j hi hj=>by
   refine TF ok l (Jg ok hn A0) (Jg ok hm A0) λx y hx hy=>?_;rw[<-NG G l n hx hy hi hj,<-NG G l m hx hy hi hj];have bi:2^l*i<=2^l*1:=J6 _ A0;have bj:2^l*j<=2^l*1:=J6 _ A0;exact h _ _ (by rw[D7];lia) (by rw[D7];lia)
  obtain⟨x,y,z,w,e,_⟩:=ok.four hn;obtain⟨x',y',z',w',e',_⟩:=ok.four hm;obtain⟨a0,a1,a2,a3⟩:=Dy e;obtain⟨b0,b1,b2,b3⟩:=Dy e';have p0:=part 0 0 A3 A3;have p1:=part 1 0 A3 A3;have p2:=part 0 1 A3 A3;have p3:=part 1 1 A3 A3;have p0:x=x':=a0.symm.trans (p0.trans b0);have p1:y=y':=a1.symm.trans (p1.trans b1);have p2:z=z':=a2.symm.trans (p2.trans b2);have p3:w=w':=a3.symm.trans (p3.trans b3);refine ok.one e e' ?_;rw[p0,p1,p2,p3]
abbrev Sht:=Nat->Nat->Int
abbrev KTy:=Nat->Nat->Sht->Prop
def NN(l:Nat)(φ ψ:Sht):Prop:=∀x y,x<2^(l+2)->y<2^(l+2)->φ x y=ψ x y
def s47(f:Nat->Nat):Nat:=((List.range 47).map f).sum
theorem SN(f:Nat->Nat)(e:Nat):∀l:List Nat,l.Nodup->(l.map λi=>if i=e then f i+1 else f i).sum=(l.map f).sum+if e∈l then 1 else 0
 |[],_=>by simp
 |a::l,h=>by
  rw[M0]at h;rw[F1,F1,N3,N3,SN f e l h.2];by_cases z:a=e
  ·subst z;rw[W2 rfl,V8 h.1,W2 C0];lia
  ·rw[V8 z];by_cases y:e∈l
   ·rw[W2 y,W2 (C1 _ y)];lia
   ·rw[V8 y,V8 (λq=>by rcases B8.mp q with rfl|q;exact z rfl;exact y q)];lia
theorem Td(f:Nat->Nat){e:Nat}(h:e<47):s47 (λi=>if i=e then f i+1 else f i)=s47 f+1:=by
 unfold s47;rw[SN f e _ List.nodup_range,W2 (J9.mpr h)]
theorem Tv{α β:Type}(R:α->β->Prop)(inj:∀x x' y,R x y->R x' y->x=x'):∀(l:List β)(ks:List α),ks.Nodup->(∀k∈ks,∃y∈l,R k y)->ks.length<=l.length
 |[],ks,_,h=>by
  cases ks with
  |nil=>exact B6 _
  |cons k ks=>obtain⟨y,hy,_⟩:=h k C0;cases hy
 |y::l,ks,nd,h=>by
  classical
  have ih:=Tv R inj l (ks.filter λk=>decide (¬R k y)) (nd.sublist List.filter_sublist) λk hk=>by
   rw[List.mem_filter,decide_eq_true_iff]at hk;obtain⟨z,hz,rz⟩:=h k hk.1;rcases B8.mp hz with rfl|hz
   ·exact absurd rz hk.2
   ·exact⟨z,hz,rz⟩
  have few:∀ks:List α,ks.Nodup->ks.length<=(ks.filter λk=>decide (¬R k y)).length+1:=by
   intro ks;induction ks with
   |nil=>intro _;exact F8 _
   |cons k ks ih2 =>
    intro nd2;rw[M0]at nd2;by_cases z:R k y
    ·have:ks.filter (λk=>decide (¬R k y))=ks:=List.filter_eq_self.mpr λx hx=>V9 λq=>nd2.1 (by rw[inj k x y z q];exact hx);rw[List.filter_cons_of_neg (by simp[z]),this,D8];exact B6 _
    ·rw[List.filter_cons_of_pos (by simp[z]),D8,D8];have:=ih2 nd2.2;lia
  have:=few ks nd;rw[D8];lia
structure NM(Κ:KTy)(N:Nat):Prop where
 ls:∃M:Nat->Nat,s47 M<=N/\∀e,∃Ls:List (Nat×Sht),Ls.length<=M e/\∀l φ,Κ l e φ->∃ψ,(l,ψ)∈Ls/\NN l φ ψ
 ext:∀{l e φ ψ},Κ l e φ->NN l φ ψ->Κ l e ψ
theorem SO(f:Nat->Nat):∀(l:List Nat){e:Nat},e∈l->f e<=(l.map f).sum
 |a::l,e,h=>by
  rw[F1,N3];rcases B8.mp h with rfl|h
  ·exact S7 _ _
  ·exact C2 (SO f l h) (Nat.le_add_left _ _)
theorem Ql{f g:Nat->Nat}:∀{l:List Nat},(∀e∈l,f e<=g e)->(l.map f).sum<=(l.map g).sum
 |[],_=>B6 _
 |a::l,h=>by
  have:=Ql (l:=l) λe he=>h e (C1 _ he);have:=h a C0;rw[F1,N3,F1,N3];lia
structure Cn(H:Hp)(G:Gv)(m:MA)(Κ:KTy)(b:Nat)(f:Nat->Nat):Prop where
 sq:∀(e:Nat) d,m.ds[e]?=some d->∃kv,H d=some (.dK kv)/\kv.length=f e/\(kv.map (·.1)).Nodup/\∀k∈kv.map (·.1),∃n l:Nat,k=Sum.inl (n:Int)/\Ak G n ((l+2:Nat):Int)/\Κ l e (BZ G (l+2) n)
 gl:G.length<=b+10*s47 f
 ce:∃kc,H m.kc=some (.dT kc)/\kc.length<=b+10*s47 f
theorem Cn.few'{H:Hp}{G:Gv}{m:MA}{Κ:KTy}{b:Nat}{f M:Nat->Nat}(h:Cn H G m Κ b f)(ok:GOk G)(fin:∀e,∃Ls:List (Nat×Sht),Ls.length<=M e/\∀l φ,Κ l e φ->∃ψ,(l,ψ)∈Ls/\NN l φ ψ)(len:m.ds.length=47){e:Nat}(he:e<47):f e<=M e:=by
 have e47:e<m.ds.length:=by rw[len];exact he
 obtain⟨kv,_,h2,h3,h4⟩:=h.sq e (m.ds[e]'e47) (D3 _);obtain⟨Ls,l1,l2⟩:=fin e;refine C2 ?_ l1;rw[<-h2,<-B5 (f:=(·.1)) (as:=kv)];refine Tv (λ(k:Key)(q:Nat×Sht)=>∃n:Nat,k=Sum.inl (n:Int)/\Ak G n ((q.1+2:Nat):Int)/\NN q.1 (BZ G (q.1+2) n) q.2) ?_ Ls _ h3 λk hk=>?_
 ·rintro x x' ⟨l,ψ⟩ ⟨n,rfl,a1,a2⟩ ⟨n',rfl,b1,b2⟩;rw[TF ok _ a1 b1 λx y hx hy=>(a2 x y hx hy).trans (b2 x y hx hy).symm]
 ·obtain⟨n,l,rfl,a1,a2⟩:=h4 k hk;obtain⟨ψ,m1,m2⟩:=l2 l _ a2;exact⟨_,m1,n,rfl,a1,m2⟩
theorem Cn.sum{H:Hp}{G:Gv}{m:MA}{Κ:KTy}{b N:Nat}{f:Nat->Nat}(h:Cn H G m Κ b f)(ok:GOk G)(fin:NM Κ N)(len:m.ds.length=47):s47 f<=N:=by
 obtain⟨M,h1,h2⟩:=fin.ls;exact C2 (Ql λe he=>h.few' ok h2 len (J9.mp he)) h1
theorem Cn.few{H:Hp}{G:Gv}{m:MA}{Κ:KTy}{b N:Nat}{f:Nat->Nat}(h:Cn H G m Κ b f)(ok:GOk G)(fin:NM Κ N)(len:m.ds.length=47){e:Nat}(he:e<47):f e<=N:=C2 (SO f _ (J9.mpr he)) (h.sum ok fin len)
theorem Cn.mono{H:Hp}{G:Gv}{m:MA}{Κ:KTy}{b b':Nat}{f:Nat->Nat}(h:Cn H G m Κ b f)(e:b<=b'):Cn H G m Κ b' f:=by
 obtain⟨kc,h1,h2⟩:=h.ce;have:=h.gl;exact⟨h.sq,by lia,kc,h1,by lia⟩
theorem Cn.kp{H H':Hp}{G G':Gv}{m:MA}{Κ:KTy}{b i:Nat}{f:Nat->Nat}(h:Cn H G m Κ b f)(ok:GOk G)(go:AG G G' i)(k1:∀d∈m.ds,∀o,H d=some o->H' d=some o)(k2:∀kc,H m.kc=some (.dT kc)->∃kc',H' m.kc=some (.dT kc')/\kc'.length<=kc.length+i):Cn H' G' m Κ (b+i) f:=by
 refine⟨λe d ed=>?_,?_,?_⟩
 ·obtain⟨kv,h1,h2,h3,h4⟩:=h.sq e d ed;refine⟨kv,k1 d (D2 ed) _ h1,h2,h3,λk hk=>?_⟩;obtain⟨n,l,e1,e2,e3⟩:=h4 k hk;exact⟨n,l,e1,go.lev e2,by rw[Ck ok go e2];exact e3⟩
 ·have:=h.gl;have:=go.few;lia
 ·obtain⟨kc,h1,h2⟩:=h.ce;obtain⟨kc',h3,h4⟩:=k2 kc h1;exact⟨kc',h3,by lia⟩
structure JZ(a:Ad)(H:Hp)(g:GA)(G:Gv)(Κ:KTy)(N b:Nat)(p dx mem pr:Addr)(r:AC)(m:MA):Prop where
 jw:JW a H g G N (b+10*N) p dx mem pr r m
 cn:∃f,Cn H G m Κ b f
section
variable{a:Ad}{H H':Hp}{g:GA}{G G':Gv}{Κ:KTy}{N b i:Nat}{p dx mem pr:Addr}{r:AC}{m:MA}
theorem JZ.sz(h:JZ a H g G Κ N b p dx mem pr r m)(fin:NM Κ N):G.length<=b+10*N:=by
 obtain⟨f,c⟩:=h.cn;have:=c.gl;have:=c.sum h.jw.ok fin h.jw.me.len;lia
theorem JZ.mono{b':Nat}(h:JZ a H g G Κ N b p dx mem pr r m)(e:b<=b'):JZ a H g G Κ N b' p dx mem pr r m:=by
 obtain⟨f,c⟩:=h.cn;exact⟨h.jw.mono (B6 _) A0,f,c.mono e⟩
theorem JZ.same(h:JZ a H g G Κ N b p dx mem pr r m)(s:AA H H'):JZ a H' g G Κ N b p dx mem pr r m:=by
 obtain⟨f,c⟩:=h.cn;exact⟨JW.same s h.jw,f,c.kp (i:=0) h.jw.ok (AG.refl h.jw.ok) (λd _ o e=>s _ _ e) λkc e=>⟨kc,s _ _ e,B6 _⟩⟩
theorem JZ.fr(h:JZ a H g G Κ N b p dx mem pr r m)(f:Fr g H H')(hg':AH a H' g G')(go:AG G G' i):JZ a H' g G' Κ N (b+i) p dx mem pr r m:=by
 obtain⟨f',c⟩:=h.cn;obtain⟨ts,h3,_⟩:=h.jw.gr.pt;refine⟨(h.jw.fr f hg' go).mono (B6 _) A0,f',c.kp h.jw.ok go (λd hd o e=>?_) λkc e=>⟨kc,?_,by lia⟩⟩
 ·obtain⟨j,hj⟩:=F4 hd;obtain⟨kv,e2,_⟩:=c.sq j d hj;rw[e]at e2;cases e2;exact f _ _ e (Ay e h.jw.gr.lv A2) (Ay e h3 A2) (Ay e h.jw.gr.nm A2)
 ·exact f _ _ e (Ay e h.jw.gr.lv A2) (Ay e h3 A2) h.jw.me.ap.2.2
def No(H:Hp)(m:MA)(e n:Nat):Prop:=∀d kv,m.ds[e]?=some d->H d=some (.dK kv)->Bu kv (Sum.inl (n:Int))=none
def Up(l:Nat)(G:Gv)(H H':Hp)(m:MA):Prop:=∀e n l':Nat,Ak G n ((l'+2:Nat):Int)->l<=l'->No H m e n->No H' m e n
theorem Up.refl(l:Nat)(G:Gv)(H:Hp)(m:MA):Up l G H H m:=λ_ _ _ _ _ h=>h
theorem Up.trans{l:Nat}{H1 H2 H3:Hp}(h:Up l G H1 H2 m)(k:Up l G' H2 H3 m)(go:AG G G' i):Up l G H1 H3 m:=λe n l' a1 a2 a3=>k e n l' (go.lev a1) a2 (h e n l' a1 a2 a3)
theorem Up.mono{l l2:Nat}(h:Up l G H H' m)(e:l<=l2):Up l2 G H H' m:=λe' n l' a1 a2 a3=>h e' n l' a1 (C2 e a2) a3
theorem Up.of(l:Nat){N M:Nat}(hm:GX H g G N M r m)(k:∀d∈m.ds,∀o,H d=some o->H' d=some o):Up l G H H' m:=λe n l' _ _ h d kv ed hd=>by
 obtain⟨kv',e2,_⟩:=hm.sq e d ed;have:=k d (D2 ed) _ e2;rw[hd]at this;cases this;exact h d _ ed e2
theorem JZ.upS(l:Nat)(h:JZ a H g G Κ N b p dx mem pr r m)(s:AA H H'):Up l G H H' m:=Up.of l h.jw.me λd _ o e=>s _ _ e
theorem JZ.upF(l:Nat)(h:JZ a H g G Κ N b p dx mem pr r m)(f:Fr g H H'):Up l G H H' m:=Up.of l h.jw.me λd hd o e=>by
 obtain⟨ts,h3,_⟩:=h.jw.gr.pt;obtain⟨j,hj⟩:=F4 hd;obtain⟨kv,e2,_⟩:=h.jw.me.sq j d hj;rw[e]at e2;cases e2;exact f _ _ e (Ay e h.jw.gr.lv A2) (Ay e h3 A2) (Ay e h.jw.gr.nm A2)
theorem JW.tc{M:Nat}{kc:List (List Key×V)}(h:JW a H g G N M p dx mem pr r m)(hk:H m.kc=some (.dT kc)):JW a H g G N kc.length p dx mem pr r m:=by
 obtain⟨kc',c1,_,c3⟩:=h.me.ce;rw[hk]at c1;cases c1;exact⟨h.gr,h.ok,h.bs,h.br,h.nbr,h.hp,h.ru,h.rok,h.rest,⟨h.me.tp,h.me.l,h.me.ap,h.me.len,h.me.nd,h.me.sq,_,hk,B6 _,c3⟩⟩
theorem JZ.mid{f:Nat->Nat}{kc:List (List Key×V)}(h:JZ a H g G Κ N b p dx mem pr r m)(c:Cn H G m Κ b f)(hk:H m.kc=some (.dT kc))(fr:FrC g m H H')(hj:JW a H' g G' N (kc.length+4) p dx mem pr r m)(go:AG G G' 1):JZ a H' g G' Κ N (b+4) p dx mem pr r m/\∀l,Up l G H H' m:=by
 obtain⟨ts,h3,_⟩:=h.jw.gr.pt;have kd:∀d∈m.ds,∀o,H d=some o->H' d=some o:=λd hd o e=>by
  obtain⟨j,hj⟩:=F4 hd;obtain⟨kv,e2,_⟩:=h.jw.me.sq j d hj;rw[e]at e2;cases e2;exact fr _ _ e (Ay e h.jw.gr.lv A2) (Ay e h3 A2) (Ay e h.jw.gr.nm A2) (Ay e hk A2)
 obtain⟨kc',c1,c2,c3⟩:=hj.me.ce;obtain⟨kc2,d1,d2,_⟩:=h.jw.me.ce;rw[hk]at d1;cases d1;have me:=hj.me;refine⟨⟨⟨hj.gr,hj.ok,hj.bs,hj.br,hj.nbr,hj.hp,hj.ru,hj.rok,hj.rest,⟨me.tp,me.l,me.ap,me.len,me.nd,me.sq,kc',c1,by lia,c3⟩⟩,f,c.kp (i:=4) h.jw.ok (go.mono A3) kd λkc2 e=>⟨kc',c1,by rw[hk]at e;cases e;exact c2⟩⟩,λl=>Up.of l h.jw.me kd⟩
theorem JZ.put{e n k l:Nat}{d:Addr}{kv:List (Key×V)}(h:JZ a H g G Κ N (b+10) p dx mem pr r m)(fin:NM Κ N)(ed:m.ds[e]?=some d)(hd:H d=some (.dK kv))(no:Bu kv (Sum.inl (n:Int))=none)(lv:Ak G n ((l+2:Nat):Int))(hk:Κ l e (BZ G (l+2) n))(jr:JR r G e n k):JZ a (upd H d (.dK (Dw kv (Sum.inl (n:Int)) (.int (k:Int))))) g G Κ N b p dx mem pr r m/\Up (l+1) G H (upd H d (.dK (Dw kv (Sum.inl (n:Int)) (.int (k:Int))))) m:=by
 obtain⟨f,c⟩:=h.cn;have e47:e<47:=by rw[<-h.jw.me.len];exact(B4.mp ed).1
 have jw':=h.jw.putS ed hd jr;obtain⟨kv0,q1,q2,q3,q4⟩:=c.sq e d ed;rw[hd]at q1;cases q1;have pe:=JC (.int (k:Int)) no;rw[pe]at jw'⊢;have nn:(Sum.inl (n:Int):Key)∉kv.map (·.1):=λz=>by
  obtain⟨q,hq,eq⟩:=D1.mp z;have:(kv.find? λkv=>decide (kv.1=(Sum.inl (n:Int):Key)))=none:=by
   unfold Bu at no;cases y:kv.find? λkv=>decide (kv.1=(Sum.inl (n:Int):Key))with
   |none=>rfl
   |some w=>rw[y]at no;cases no
  have:=List.find?_eq_none.mp this q hq;exact this (V9 eq)
 obtain⟨kc,c1,c2⟩:=c.ce;have gl:=c.gl;have oth:∀{d':Addr}{e':Nat},m.ds[e']?=some d'->e'≠e->d'≠d:=λ{d' e'} ed' z y=>z (by
  rw[y]at ed';exact(List.getElem?_inj (B4.mp ed').1 h.jw.me.nd).mp (ed'.trans ed.symm))
 have cn':Cn (upd H d (.dK (kv++[(Sum.inl (n:Int),.int (k:Int))]))) G m Κ b (λi=>if i=e then f i+1 else f i):=by
  refine⟨λe' d' ed'=>?_,by rw[Td f e47];lia,kc,?_,by rw[Td f e47];lia⟩
  ·by_cases z:e'=e
   ·subst z;rw[ed]at ed';cases ed';refine⟨_,Af,by rw[W2 rfl,C4,q2];rfl,?_,λk' hk'=>?_⟩
    ·rw[C7,O6];refine⟨q3,by simp,λx hx y hy=>?_⟩;rw[C3.mp hy];exact λz=>nn ((show x=Sum.inl (n:Int)from z)▸hx)
    ·rw[C7]at hk';rcases D4.mp hk' with y|y
     ·exact q4 k' y
     ·rw[C3.mp y];exact⟨n,l,rfl,lv,hk⟩
   ·obtain⟨kv',w1,w2,w3,w4⟩:=c.sq e' d' ed';exact⟨kv',by rw[Ao (oth ed' z)];exact w1,by rw[V8 z];exact w2,w3,w4⟩
  ·rw[Ao (Ay c1 hd A2)];exact c1
 refine⟨⟨?_,_,cn'⟩,λe' n' l' a1 a2 a3 d' kv' ed' hd'=>?_⟩
 ·have fw:∀{e':Nat},e'<47->(if e'=e then f e'+1 else f e')<=N:=λ{e'} he=>cn'.few h.jw.ok fin h.jw.me.len he;have sm:=cn'.sum h.jw.ok fin h.jw.me.len;obtain⟨kc',d1,d2⟩:=cn'.ce;have me:=jw'.me;obtain⟨kc2,r1,r2,r3⟩:=me.ce;rw[d1]at r1;cases r1;refine⟨jw'.gr,jw'.ok,jw'.bs,jw'.br,jw'.nbr,jw'.hp,jw'.ru,jw'.rok,jw'.rest,⟨me.tp,me.l,me.ap,me.len,me.nd,λe' d' ed'=>?_,kc',d1,by lia,r3⟩⟩;obtain⟨kw,u1,u2,u3,u4⟩:=me.sq e' d' ed';obtain⟨kw',v1,v2,_⟩:=cn'.sq e' d' ed';rw[u1]at v1;cases v1;exact⟨kw,u1,by rw[v2];exact fw (by rw[<-h.jw.me.len];exact(B4.mp ed').1),u3,u4⟩
 ·by_cases z:e'=e
  ·subst z;rw[ed]at ed';cases ed';rw[Af]at hd';cases hd';rw[<-pe,Jr];have ne:n'≠n:=λy=>by
    subst y;have:((l'+2:Nat):Int)=((l+2:Nat):Int):=by
     obtain⟨q,w1,w2⟩:=a1;obtain⟨q',w3,w4⟩:=lv;rw[w1]at w3;cases w3;exact w2.symm.trans w4
    lia
   rw[V8 (λy=>ne (by have:=Sum.inl.inj y;lia))];exact a3 d kv ed hd
  ·rw[Ao (oth ed' z)]at hd';exact a3 d' kv' ed' hd'
end
seal L2.PA L2.PE L2.PS L2.PSs L2.PT L2.PW
structure ClK(r:AC)(Κ:KTy):Prop where
 nine1:∀{l e φ},Κ (l+1) e φ->e<=l->∀i j,i<3->j<3->Κ l e λx y=>φ (x+2^(l+1)*i) (y+2^(l+1)*j)
 nine2:∀{l φ},Κ (l+1) (l+1) φ->∀i j,i<3->j<3->Κ l l λx y=>φ (x+2^(l+1)*i) (y+2^(l+1)*j)
 four:∀{l φ},Κ (l+1) (l+1) φ->∀i j,i<2->j<2->Κ l l λx y=>Bg r (2^l) φ (x+(2^(l+1)*i+2^l)) (y+(2^(l+1)*j+2^l))
theorem Ak.one{G:Gv}{n:Nat}{i j:Int}(h:Ak G n i)(k:Ak G n j):i=j:=by
 obtain⟨q,e1,e2⟩:=h;obtain⟨p,f1,f2⟩:=k;rw[e1]at f1;cases f1;exact e2.symm.trans f2
theorem JR.view{r:AC}{G:Gv}{c:Nat->Nat->Int}{e n m l X Y:Nat}(h:JR r G e n m)(lv:Ak G n ((l+2:Nat):Int))(v:Vw G c (l+2) n X Y):Ak G m ((l+1:Nat):Int)/\e<=l/\Vw G (Bg r (2^e) c) (l+1) m (X+2^l) (Y+2^l):=by
 apply AT;intro G_ hG_;obtain⟨l',h1,h2,h3,h4⟩:=h;apply hG_;clear hG_ G_;have e':l'=l:=by
  have:=h1.one lv;lia
 subst e';exact⟨h3,h2,v.jump h2 h4⟩
theorem Vw.jr{r:AC}{G:Gv}{e n m l:Nat}(lv:Ak G n ((l+1+2:Nat):Int))(he:e<=l+1)(lm:Ak G m ((l+1+1:Nat):Int))(v:Vw G (Bg r (2^e) (BZ G (l+1+2) n)) (l+1+1) m (2^(l+1)) (2^(l+1))):JR r G e n m:=⟨l+1,lv,he,lm,v⟩
theorem Ws{G G':Gv}{c:Nat->Nat->Int}{l f0 f1 f2 f3 z X Y i:Nat}(ok:GOk G)(go:AG G G' i)(l0:Ak G f0 ((l+1:Nat):Int))(l1:Ak G f1 ((l+1:Nat):Int))(l2:Ak G f2 ((l+1:Nat):Int))(l3:Ak G f3 ((l+1:Nat):Int))(v0:Vw G c (l+1) f0 X Y)(v1:Vw G c (l+1) f1 (X+2^(l+1)) Y)(v2:Vw G c (l+1) f2 X (Y+2^(l+1)))(v3:Vw G c (l+1) f3 (X+2^(l+1)) (Y+2^(l+1)))(e:G'[z]?=some ⟨[((qO G f0 3:Nat):Int),((qO G f1 2:Nat):Int),((qO G f2 1:Nat):Int),((qO G f3 0:Nat):Int)],(l:Int)+1⟩):Vw G' c (l+1) z (X+2^l) (Y+2^l):=by
 have p1:2^(l+1)=2^l*2:=D7 ..;apply AT;intro G_ hG_;obtain⟨w0,w1,w2,w3⟩:=Dy e;apply hG_;clear hG_ G_;have u0:=(v0.q (i:=1) (j:=1) A3 A3).goes ok go (Jg ok l0 A3);have u1:=(v1.q (i:=0) (j:=1) A3 A3).goes ok go (Jg ok l1 A3);have u2:=(v2.q (i:=1) (j:=0) A3 A3).goes ok go (Jg ok l2 A3);have u3:=(v3.q (i:=0) (j:=0) A3 A3).goes ok go (Jg ok l3 A3);refine Vw.of ?_ ?_ ?_ ?_
 ·rw[w0];exact u0.at' A0 A0
 ·rw[w1];exact u1.at' A0 A0
 ·rw[w2];exact u2.at' A0 A0
 ·rw[w3];exact u3.at' A0 A0
theorem LD{G G':Gv}{c:Nat->Nat->Int}{l f0 f1 f2 f3 z X Y i:Nat}{L:Int}(ok:GOk G)(go:AG G G' i)(l0:Ak G f0 (l:Int))(l1:Ak G f1 (l:Int))(l2:Ak G f2 (l:Int))(l3:Ak G f3 (l:Int))(v0:Vw G c l f0 X Y)(v1:Vw G c l f1 (X+2^l) Y)(v2:Vw G c l f2 X (Y+2^l))(v3:Vw G c l f3 (X+2^l) (Y+2^l))(e:G'[z]?=some ⟨[(f0:Int),(f1:Int),(f2:Int),(f3:Int)],L⟩):Vw G' c (l+1) z X Y:=by
 apply AT;intro G_ hG_;obtain⟨w0,w1,w2,w3⟩:=Dy e;apply hG_;clear hG_ G_;refine Vw.of ?_ ?_ ?_ ?_
 ·rw[w0];exact v0.goes ok go l0
 ·rw[w1];exact v1.goes ok go l1
 ·rw[w2];exact v2.goes ok go l2
 ·rw[w3];exact v3.goes ok go l3
theorem Tl:∀xs:List Nat,xs.length=9->∃a b c d e f g h i,xs=[a,b,c,d,e,f,g,h,i]
 |[a,b,c,d,e,f,g,h,i],_=>⟨a,b,c,d,e,f,g,h,i,rfl⟩
theorem Nw:∀xs:List Nat,xs.length=4->∃a b c d,xs=[a,b,c,d]
 |[a,b,c,d],_=>⟨a,b,c,d,rfl⟩
def toV(k:Nat):V:=.int (k:Int)
def Nine(G:Gv)(c:Nat->Nat->Int)(l X:Nat)(ys:List Nat):Prop:=∀i j,i<3->j<3->∃y,ys[i+3*j]?=some y/\Ak G y (l:Int)/\Vw G c l y (2^l*i+X) (2^l*j+X)
theorem Ow {r:AC} {G3 G5:Gv} {c:Nat->Nat->Int} {l e x:Nat} {ks ys:List Nat} (ok:GOk G3) (go:AG G3 G5 x) (h:∀i j,i<3->j<3->∃k,ks[i+3*j]?=some k/\Ak G3 k ((l+1+1:Nat):Int)/\Vw G3 c (l+1+1) k (2^(l+1)*i) (2^(l+1)*j)) (pr:Paired (λk y=>JR r G5 e k y) ks ys):Nine G5 (Bg r (2^e) c) (l+1) (2^l) ys:=λi j hi hj=>by
 apply AT;intro G_ hG_;obtain⟨k,h1,h2,h3⟩:=h i j hi hj;obtain⟨y,h4,h5⟩:=Paired.get pr h1;obtain⟨q1,_,q3⟩:=h5.view (go.lev h2) (h3.goes ok go h2);apply hG_;clear hG_ G_;exact⟨y,h4,q1,q3⟩
theorem Nc{G:Gv}{c:Nat->Nat->Int}{l X:Nat}{H:Hp}{y0 y1 y2 y3 y4 y5 y6 y7 y8:Nat}{t0 t1 t2 t3:Addr}(nj:Nine G c l X [y0,y1,y2,y3,y4,y5,y6,y7,y8])(h0:H t0=some (.tup [.int y0,.int y1,.int y3,.int y4]))(h1:H t1=some (.tup [.int y1,.int y2,.int y4,.int y5]))(h2:H t2=some (.tup [.int y3,.int y4,.int y6,.int y7]))(h3:H t3=some (.tup [.int y4,.int y5,.int y7,.int y8]))(t:Nat)(tt:Addr)(et:[t0,t1,t2,t3][t]?=some tt) :
  ∃f0 f1 f2 f3:Nat,H tt=some (.tup [.int f0,.int f1,.int f2,.int f3])/\(Ak G f0 (l:Int)/\Ak G f1 (l:Int)/\Ak G f2 (l:Int)/\Ak G f3 (l:Int))/\Vw G c l f0 (2^l*(t%2)+X) (2^l*(t/2)+X)/\Vw G c l f1 (2^l*(t%2)+X+2^l) (2^l*(t/2)+X)/\Vw G c l f2 (2^l*(t%2)+X) (2^l*(t/2)+X+2^l)/\Vw G c l f3 (2^l*(t%2)+X+2^l) (2^l*(t/2)+X+2^l):=by
 have t4:t<4:=(B4.mp et).1;have mx:=Nat.mul_succ (2^l) (t%2);have my:=Nat.mul_succ (2^l) (t/2);obtain⟨f0,e0,l0,v0⟩:=nj (t%2) (t/2) A0 A0;obtain⟨f1,e1,l1,v1⟩:=nj (t%2+1) (t/2) A0 A0;obtain⟨f2,e2,l2,v2⟩:=nj (t%2) (t/2+1) A0 A0;obtain⟨f3,e3,l3,v3⟩:=nj (t%2+1) (t/2+1) A0 A0;refine⟨f0,f1,f2,f3,?_,⟨l0,l1,l2,l3⟩,v0,v1.at' A0 rfl,v2.at' rfl A0,v3.at' A0 A0⟩
 match t,t4,et with
 |0,_,et=>cases e0;cases e1;cases e2;cases e3;cases et;exact h0
 |1,_,et=>cases e0;cases e1;cases e2;cases e3;cases et;exact h1
 |2,_,et=>cases e0;cases e1;cases e2;cases e3;cases et;exact h2
 |3,_,et=>cases e0;cases e1;cases e2;cases e3;cases et;exact h3
theorem Qb{α:Type}{P:Nat->α->Prop}{zs:List α}{z:α}{i:Nat}(lz:zs.length=i)(h:∀t z',zs[t]?=some z'->P t z')(hz:P i z):∀t z',(zs++[z])[t]?=some z'->P t z':=λt z' e=>by
 by_cases ti:t<i
 ·rw[J8 A0]at e;exact h t z' e
 ·have:t=i:=by
   have:=(B4.mp e).1;rw[C4,lz]at this;have:t<i+1:=this;lia
  subst this;rw[F2 A0,lz,V4]at e;cases e;exact hz
section
variable{P:Program}{w:World}{K:PySem.W.Frag}{mg:Str->Option Value}{base:Heap}{a:Ad}
inductive Yk(a:Ad)(L:Nat)(vs:List V)(H:Hp)(Q:VK):Prop
 |mk (p dx mem pr:Addr) (g:GA) (G:Gv) (Κ:KTy) (N b:Nat) (r:AC) (m:MA) (n l e:Nat) (_:vs=[.ref p,.int n,.int e]) (_:JZ a H g G Κ N b p dx mem pr r m) (_:NM Κ N) (_:ClK r Κ) (_:Ak G n ((l+2:Nat):Int)) (_:l<L) (_:e<=l) (_:Κ l e (BZ G (l+2) n)) (_:b+10*N+10*(l+1)<8000000) (_:∀(k:Nat)(G':Gv)(H':Hp)(i:Nat),FrJ g m H H'->JZ a H' g G' Κ N b p dx mem pr r m->AG G G' i->JR r G' e n k->Up (l+1) G H H' m->Q (.int k) H'):Yk a L vs H Q
def Fq(a:Ad)(L:Nat):Sp:=λvs H Q _=>Yk a L vs H Q
inductive Yr(a:Ad)(L:Nat)(vs:List V)(H:Hp)(Q:VK):Prop
 |mk (p dx mem pr:Addr) (g:GA) (G:Gv) (Κ:KTy) (N b:Nat) (r:AC) (m:MA) (n l e:Nat) (_:vs=[.ref p,.int n,.int e]) (_:JZ a H g G Κ N b p dx mem pr r m) (_:NM Κ N) (_:ClK r Κ) (_:Ak G n ((l+2:Nat):Int)) (_:l<L) (_:e<=l) (_:Κ l e (BZ G (l+2) n)) (_:b+10*N+10*(l+1)<8000000) (_:∀(k:Nat)(G':Gv)(H':Hp)(i:Nat),FrJ g m H H'->JZ a H' g G' Κ N (b+10) p dx mem pr r m->AG G G' i->JR r G' e n k->Up l G H H' m->Q (.int k) H'):Yr a L vs H Q
def RI(a:Ad)(L:Nat):Sp:=λvs H Q _=>Yr a L vs H Q
inductive TR(a:Ad)(L:Nat)(vs:List V)(H:Hp)(Q:VK):Prop
 |mk (p dx mem pr:Addr) (g:GA) (G:Gv) (Κ:KTy) (N b:Nat) (r:AC) (m:MA) (n l:Nat) (_:vs=[.ref p,.int n,.int ((l+1:Nat):Int)]) (_:JZ a H g G Κ N b p dx mem pr r m) (_:NM Κ N) (_:ClK r Κ) (_:Ak G n ((l+1+2:Nat):Int)) (_:l<L) (_:Κ (l+1) (l+1) (BZ G (l+1+2) n)) (_:b+10*N+10*(l+2)<8000000) (_:∀(A:Addr)(f0 f1 f2 f3:Nat)(G':Gv)(H':Hp)(i:Nat),FrJ g m H H'->JZ a H' g G' Κ N (b+9) p dx mem pr r m->AG G G' i->Up (l+1) G H H' m->H' A=some (.lst [toV f0,toV f1,toV f2,toV f3])->(Ak G' f0 ((l+2:Nat):Int)/\Ak G' f1 ((l+2:Nat):Int)/\Ak G' f2 ((l+2:Nat):Int)/\Ak G' f3 ((l+2:Nat):Int))->(Vw G' (Bg r (2^l) (BZ G (l+1+2) n)) (l+2) f0 (2^l) (2^l)/\Vw G' (Bg r (2^l) (BZ G (l+1+2) n)) (l+2) f1 (2^l+2^(l+1)) (2^l)/\Vw G' (Bg r (2^l) (BZ G (l+1+2) n)) (l+2) f2 (2^l) (2^l+2^(l+1))/\Vw G' (Bg r (2^l) (BZ G (l+1+2) n)) (l+2) f3 (2^l+2^(l+1)) (2^l+2^(l+1)))->Q (.ref A) H'):TR a L vs H Q
def Pb(a:Ad)(L:Nat):Sp:=λvs H Q _=>TR a L vs H Q
theorem Wd{L d:Nat}{f:Addr}{fd:FuncData}(F:Fun K "four_halfway" "Jumps.four_halfway" AY f fd)(T:Top K mg a)(d3:3<=d)(aM:Cal P w K mg base CX0 3 "nine_parts" Du (MF a))(aP:Cal P w K mg base CX0 1 "fours_of" EM Jt)(a8:BN P w K mg base CX0 2 a.c_Grove "linked" AN (Ee a))(aA:BN P w K mg base CX0 d a.c_Jumps "reckoned" Ba (Fq a L)):AK P w K mg base CX0 (d+1) f fd Bv (Pb a L):=by
 refine F.ok Dx (λvs H Q E h=>?_) (λcdv A outer s H vs Q E hr h=>?_)
 ·apply AT;intro G_ hG_;obtain⟨p,dx,mem,pr,g,G,Κ,N,b,r,m,n,l,rfl,_⟩:=h;apply hG_;clear hG_ G_;rfl
 ·apply AT;intro G_ hG_;obtain⟨p,dx,mem,pr,g,G,Κ,N,b,r,m,n,l,rfl,hz,fin,cl,hl,hL,hκ,few,k⟩:=h;have hj:=hz.jw;have sz:=hz.sz fin;apply hG_;clear hG_ G_;refine⟨_,(Ab (Gu (i:=3) rfl Dx.nd rfl rfl (BD.of (So:=Ah AY) (No:=Cw) (N:=["part","self","e"]) (k:=1) (cs:=[0,2]) rfl rfl A1) (CC (Au aM (rm hr) rfl An (Aa (Ax (pv 0) rfl) (Aa (pv 1) Ac)))) (λ_ _ _=>(Bk (i:=0) A1 rfl rfl)) (λ_ _ _=>BL) (λ_ _ _=>(AB (pv 1) aA (rm hr) An (Aa (pv 0) (Bq BG (pv 2) Ae Ac))))) (Ag (Aw (Co rfl (BD.of (So:=Ah AY) (No:=Cw) (N:=["four","self"]) (k:=1) (cs:=[0]) rfl rfl A1) (CC (Au aP (rm hr) rfl An (Aa (pv 3) Ac))) (λ_ _ _=>(Bk (i:=0) A1 rfl rfl)) (λ_ _ _=>BL) (λ_ _ _=>(AB (Pj (K:=K) rfl (pv 1) rfl) a8 (rm hr) An (Aa (pv 0) Ac))))))),?_⟩
  try dsimp only[cxK]
  obtain⟨q9,eq9,el9⟩:=id hl;have l46:l<=45:=by have:=(hj.ok.lev eq9).2;lia
  refine xwf rfl rfl hj.hp T.cl_Jumps T.na_Jumps_grove (Dv _ _ _ _ _) (xq1 rfl ⟨g,G,n,l+1,rfl,hj.gr,hj.ok,hl,by lia,by lia,λA9 ks G3 H3 fr3 hg3 go3 hA3 l9 nine=>?_⟩);have hz3:=hz.fr fr3 hg3 go3;have hj3:=hz3.jw;have sz3:=hz3.sz fin
  skip
  have lv9:∀(t k:Nat),ks[t]?=some k->Ak G3 k ((l+2:Nat):Int):=λt k e=>by
   have ht:=(B4.mp e).1;obtain⟨k',e1,e2,_⟩:=nine (t%3) (t/3) A0 A0;rw[show t%3+3*(t/3)=t by lia,e]at e1;cases e1;exact e2
  have kk9:∀(t k:Nat),ks[t]?=some k->Κ l l (BZ G3 (l+2) k):=λt k e=>by
   have ht:=(B4.mp e).1;obtain⟨k',e1,_,v⟩:=nine (t%3) (t/3) A0 A0;rw[show t%3+3*(t/3)=t by lia,e]at e1;cases e1;exact fin.ext (cl.nine2 hκ (t%3) (t/3) A0 A0) λx y hx hy=>(v x y hx hy).symm
  refine⟨A9,rfl,⟨_,SqL.of hA3⟩,?_⟩;refine Ed (xs:=ks.map λ(k:Nat)=>V.int (k:Int)) (λi acc H5=>∃(G5:Gv)(ys:List Nat)(c5:Nat),acc=ys.map toV/\ys.length=i/\FrJ g m H3 H5/\JZ a H5 g G5 Κ N (b+5) p dx mem pr r m/\AG G3 G5 c5/\Up (l+1) G3 H3 H5 m/\Paired (λk y=>JR r G5 l k y) (ks.take i) ys) ⟨G3,[],0,rfl,rfl,λb o e _ _ _ _ _=>e,hz3,AG.refl hj3.ok,Up.refl _ _ _ _,.nil⟩ (λi acc H5 _ z=>by obtain⟨_,_,_,_,_,fr,_⟩:=z;exact SqL.of ((fr.kps hj3.gr hj3.bs.long hj3.me) _ _ hA3 (.lst (by rw[B5];lia)))) ?_ ?_
  ·rintro i v acc H5 ev z5_;apply AT;intro G_ hG_;obtain⟨G5,ys,c5,rfl,ly,fr5,hz5,go5,up5,pr5⟩:=z5_;apply hG_;clear hG_ G_;rw[B7]at ev;obtain⟨k5,ek,rfl⟩:=C9.mp ev;have i9:i<9:=by have:=(B4.mp ek).1;lia
   have hj5:=hz5.jw
   skip
   refine⟨⟨[some (.int (k5:Int))],rfl,rfl⟩,by rw[B5,ly];exact Q9 i9 A3,GT (xwn rfl rfl hj5.hp (JL _ _ _ _ _) rfl (xwb rfl rfl rfl ⟨p,dx,mem,pr,g,G5,Κ,N,b+5,r,m,k5,l,l,(show [V.ref p,V.int (k5:Int),V.int (((l+1:Nat):Int)-1)]=[V.ref p,V.int (k5:Int),V.int (l:Int)] by rw[show((l+1:Nat):Int)-1=(l:Int) by lia]),hz5,fin,cl,go5.lev (lv9 i k5 ek),hL,B6 l,(by rw[Ck hj3.ok go5 (lv9 i k5 ek)];exact kk9 i k5 ek),by lia,λy G6 H6 c6 fr6 hz6 go6 jr6 up6=>⟨G6,ys++[y],_,by rw[C7];rfl,by rw[C4,ly];rfl,fr5.trans fr6,hz6,go5.trans go6,up5.trans up6 go5,?_⟩⟩))⟩;rw[F7,ek,N8];exact K6 (Paired.imp (λk y z=>z.goes hj5.ok go6) pr5) jr6
  rintro acc H5 z2_ A5 hA5;apply AT;intro G_ hG_;obtain⟨G5,ys,c5,rfl,ly,fr5,hz5,go5,up5,pr5⟩:=z2_;have hj5:=hz5.jw;apply hG_;clear hG_ G_;rw[B5,l9]at ly;rw[B5,J0]at pr5;have nj:=Ow hj3.ok go5 nine pr5;apply AT;intro G_ hG_;obtain⟨y0,y1,y2,y3,y4,y5,y6,y7,y8,rfl⟩:=Tl ys ly;apply hG_;clear hG_ G_
  skip
  generalize cV:upd H5 A5 _=H6;obtain⟨s5,hA5'⟩:=alc hA5 cV;have hz6:=hz5.same s5;have hj6:=hz6.jw;have f06:FrJ g m H H6:=(Fr.j fr3).trans (fr5.trans (AA.j s5));refine xq1 rfl ⟨A5,y0,y1,y2,y3,y4,y5,y6,y7,y8,rfl,hA5',λMM t0 t1 t2 t3 H7 s7 hM ht0 ht1 ht2 ht3=>?_⟩;have hz7:=hz6.same s7;have hj7:=hz7.jw;refine⟨MM,rfl,⟨_,SqL.of hM⟩,?_⟩;have p1:2^(l+1)=2^l*2:=D7 ..;have four:=Nc nj ht0 ht1 ht2 ht3;have okG5:=hj7.ok;refine Ed (xs:=[t0,t1,t2,t3].map V.ref) (λi acc H8=>∃(G8:Gv)(zs:List Nat),acc=zs.map toV/\zs.length=i/\Fr g H7 H8/\JZ a H8 g G8 Κ N (b+5+i) p dx mem pr r m/\AG G5 G8 i/\∀(t z:Nat),zs[t]?=some z->Ak G8 z ((l+2:Nat):Int)/\Vw G8 (Bg r (2^l) (BZ G (l+1+2) n)) (l+1+1) z (2^(l+1)*(t%2)+2^l) (2^(l+1)*(t/2)+2^l)) ⟨G5,[],rfl,rfl,Fr.refl g H7,hz7,AG.refl okG5,λt z e=>(nomatch e)⟩ (λi acc H8 _ z=>by obtain⟨_,_,_,_,fr,_⟩:=z;exact SqL.of ((fr.kps hj7.gr hj7.bs.long) _ _ hM (.lst (by show 4<=50;decide)))) ?_ ?_
  ·rintro i v acc H8 ev z5_;apply AT;intro G_ hG_;obtain⟨G8,zs,rfl,lz,fr8,hz8,go8,vz⟩:=z5_;have hj8:=hz8.jw;have sz8:=hz8.sz fin;apply hG_;clear hG_ G_;rw[B7]at ev;obtain⟨tt,et,rfl⟩:=C9.mp ev;have i4:i<4:=(B4.mp et).1;apply AT;intro G_ hG_;obtain⟨f0,f1,f2,f3,htt,⟨m0,m1,m2,m3⟩,w0,w1,w2,w3⟩:=four i tt et;apply hG_;clear hG_ G_
   skip
   refine⟨⟨[some (.ref tt)],rfl,rfl⟩,by rw[B5,lz];exact Q9 i4 A3,GT (xwf rfl rfl hj8.hp T.cl_Jumps T.na_Jumps_grove (Dv _ _ _ _ _) (xq3 rfl hj8.gr.hp (BI g) (xq1 rfl ⟨g,G8,tt,f0,f1,f2,f3,((l+1:Nat):Int),rfl,hj8.gr,hj8.ok,(fr8.kps hj7.gr hj7.bs.long) _ _ htt (.inl .tup),⟨go8.lev m0,go8.lev m1,go8.lev m2,go8.lev m3⟩,by lia,by lia,λz G9 H9 fr9 hg9 go9 e9=>⟨G9,zs++[z],by rw[C7];rfl,by rw[C4,lz];rfl,fr8.trans fr9,hz8.fr fr9 hg9 go9,go8.trans go9,?_⟩⟩)))⟩;refine Qb lz (λt z' e=>?_) ?_
   ·obtain⟨q1,q2⟩:=vz t z' e;exact⟨go9.lev q1,q2.goes hj8.ok go9 q1⟩
   ·exact⟨⟨_,e9,by show((l+1:Nat):Int)+1=((l+2:Nat):Int);lia⟩,LD okG5 (go8.trans go9) m0 m1 m2 m3 w0 w1 w2 w3 e9⟩
  rintro acc H8 z2_ A8 hA8;apply AT;intro G_ hG_;obtain⟨G8,zs,rfl,lz,fr8,hz8,go8,vz⟩:=z2_;have hj8:=hz8.jw;have sz8:=hz8.sz fin;apply hG_;clear hG_ G_;apply AT;intro G_ hG_;obtain⟨z0,z1,z2,z3,rfl⟩:=Nw zs lz;apply hG_;clear hG_ G_;have s8:AA H8 (upd H8 A8 (.lst ([z0,z1,z2,z3].map toV))):=Az hA8;have go4:AG G5 G8 4:=go8;obtain⟨q0,x0⟩:=vz 0 z0 rfl;obtain⟨q1,x1⟩:=vz 1 z1 rfl;obtain⟨q2,x2⟩:=vz 2 z2 rfl;obtain⟨q3,x3⟩:=vz 3 z3 rfl;refine k A8 z0 z1 z2 z3 G8 _ _ (f06.trans ((AA.j s7).trans ((Fr.j fr8).trans (AA.j s8)))) (hz8.same s8) ((go3.trans go5).trans go4) (((((hz.upF (l+1) fr3).trans up5 go3).trans (hz5.upS _ s5) (go3.trans go5)).trans (hz6.upS _ s7) (go3.trans go5)).trans ((hz7.upF _ fr8).trans (hz8.upS _ s8) go8) (go3.trans go5)) Af ⟨q0,q1,q2,q3⟩ ⟨x0.at' A0 A0,x1.at' A0 A0,x2.at' A0 A0,x3.at' A0 A0⟩
theorem ok_freA{L d:Nat}{f:Addr}{fd:FuncData}(F:Fun K "fresh" "Jumps.fresh" BU f fd)(T:Top K mg a)(d7:7<=d)(aB:BN P w K mg base CX0 7 a.c_Jumps "middle_after" BQ (OW a))(a8:BN P w K mg base CX0 2 a.c_Grove "linked" AN (Ee a))(aM:Cal P w K mg base CX0 3 "nine_parts" Du (MF a))(aP:Cal P w K mg base CX0 1 "fours_of" EM Jt)(aD:Cal P w K mg base CX0 3 "met_in_the_middle" BX (SV a))(aA:BN P w K mg base CX0 d a.c_Jumps "reckoned" Ba (Fq a L))(bT:BN P w K mg base CX0 (d+1) a.c_Jumps "four_halfway" Bv (Pb a L)):AK P w K mg base CX0 (d+2) f fd CP (RI a (L+1)):=by
 refine F.ok Do (λvs H Q E h=>?_) (λcdv A outer s H vs Q E hr h=>?_)
 ·apply AT;intro G_ hG_;obtain⟨p,dx,mem,pr,g,G,Κ,N,b,r,m,n,l,e,rfl,_⟩:=h;apply hG_;clear hG_ G_;rfl
 ·apply AT;intro G_ hG_;obtain⟨p,dx,mem,pr,g,G,Κ,N,b,r,m,n,l,e,rfl,hz,fin,cl,hl,hL,he,hκ,few,k⟩:=h;have hj:=hz.jw;have sz:=hz.sz fin;obtain⟨q,eq,el⟩:=id hl;apply hG_;clear hG_ G_;have l48:=(hj.ok.lev eq).2;have l46:l<=46:=by lia
  refine⟨_,(Ab (Aq (i:=3) Do.nd rfl (Or.inr rfl) (Ax (pv 0) rfl)) (Ab (Aq (i:=4) Do.nd rfl (Or.inl rfl) (Aj Av (Ax (pv 3) rfl) (pv 1) (λ_ _=>rfl))) (Ab (AQ (AD Ea (pv 1) (Aj Av (Ax (pv 3) rfl) (pv 4) (λ_ _=>rfl)) (AI _)) (Ag (Aw (Aj Av (Ax (pv 3) rfl) (AF BG (pv 4) Ae) (λ_ _=>rfl)))) AE) (Ab (AQ (AD Ea (pv 4) (BP rfl T.k_LEAST_JUMPED) (AI _)) (Ag (Aw (AB (pv 0) aB (rm hr) An (Aa (pv 1) Ac)))) AE) (Ab (AQ (AD Io (pv 2) (AF BG (pv 4) (BP rfl T.k_LEAST_JUMPED)) (AI _)) (Ab (Gu (i:=5) rfl Do.nd rfl rfl (BD.of (So:=Ah BU) (No:=DY) (N:=["part","self","e"]) (k:=1) (cs:=[0,2]) rfl rfl A1) (CC (Au aM (rm hr) rfl An (Aa (pv 3) (Aa (pv 1) Ac)))) (λ_ _ _=>(Bk (i:=0) A1 rfl rfl)) (λ_ _ _=>BL) (λ_ _ _=>(AB (pv 1) aA (rm hr) An (Aa (pv 0) (Aa (pv 2) Ac))))) (Ag (Aw (AB (pv 3) a8 (rm hr) An (Aa (BB BV rfl T.b_tuple Z1 (Aa (Co rfl (BD.of (So:=Ah BU) (No:=DY) (N:=["four","grove"]) (k:=1) (cs:=[3]) rfl rfl A1) (CC (Au aP (rm hr) rfl An (Aa (pv 5) Ac))) (λ_ _ _=>(Bk (i:=0) A1 rfl rfl)) (λ_ _ _=>BL) (λ_ _ _=>(Au aD (rm hr) rfl An (Aa (pv 1) (Aa (pv 0) Ac))))) Ac)) Ac))))) AE) (Ag (Aw (AB (pv 3) a8 (rm hr) An (Aa (BB BV rfl T.b_tuple Z1 (Aa (Co rfl (BD.of (So:=Ah BU) (No:=DY) (N:=["four","self","e"]) (k:=1) (cs:=[0,2]) rfl rfl A1) (CC (AB (pv 0) bT (rm hr) An (Aa (pv 1) (Aa (pv 2) Ac)))) (λ_ _ _=>(Bk (i:=0) A1 rfl rfl)) (λ_ _ _=>BL) (λ_ _ _=>(AB (pv 1) aA (rm hr) An (Aa (pv 0) (Bq BG (pv 2) Ae Ac))))) Ac)) Ac))))))))),?_⟩
  try dsimp only[cxK]
  refine xwf rfl rfl hj.hp T.cl_Jumps T.na_Jumps_grove (Dv _ _ _ _ _) ?_;refine xq1 rfl ⟨g.p,_,g.dx,_,_,rfl,hj.gr.hp,T.cl_Grove,T.na_Grove_levels,EW g,_,rfl,g.lv,_,(n:Int),.int ((l+2:Nat):Int),rfl,rfl,SqL.of hj.gr.lv,Al (by rw[B7,eq,<-el];rfl),?_⟩;refine xq1 rfl (xq1 rfl ⟨g.p,_,g.dx,_,_,rfl,hj.gr.hp,T.cl_Grove,T.na_Grove_bares,Iw g,_,rfl,g.br,_,((l+2:Nat):Int),.int (bareN (l+2):Int),rfl,rfl,SqL.of hj.br,Al (bareJ A0),rfl,_,rfl,?_⟩);refine LY (λhc=>?_) (λhc=>?_)
  ·have ei:n=bareN (l+2):=by
    have:=Y7 hc;injection this with this
    exact W6 this
   refine xwf rfl rfl hj.gr.hp T.cl_Grove T.na_Grove_bares (Iw g) (xwb rfl rfl rfl (xq4 rfl rfl (SqL.of hj.br) (by rw[show((l+2:Nat):Int)-1=((l+1:Nat):Int) by lia];exact Al (bareJ A0)) ?_));refine k (bareN (l+1)) G H 0 (λb o e _ _ _ _ _=>e) (hz.mono A0) (AG.refl hj.ok) ?_ (Up.refl _ _ _ _);rw[ei];exact JR.bare hj.ok hj.bs hj.rest A0 he
  refine xq1 rfl ⟨rfl,(xq1 rfl ?_)⟩;cases l with
  |zero =>
   refine(show ∀{b:Bool}{A B:Prop},b=true->A->(if b=true then A else B)from λh x=>by rw[h];exact CK x) (V9 rfl) ?_;have e0:e=0:=by lia
   subst e0;obtain⟨ff,cn⟩:=hz.cn;obtain⟨kc,c1,c2⟩:=cn.ce;have sm:=cn.sum hj.ok fin hj.me.len;refine xwn rfl rfl hj.hp (noJ_mid _ _ _ _ _) rfl ⟨p,dx,mem,pr,g,G,N,kc.length,r,m,n,rfl,hj.tc c1,hl,by lia,by lia,λk' G' H' fr hj' go jr=>?_⟩;obtain⟨z1,z2⟩:=hz.mid cn c1 fr hj' go;exact k k' G' H' 1 fr.j (z1.mono A0) go jr (z2 _)
  |succ l =>
   refine(show ∀{b:Bool}{A B:Prop},b=false->B->(if b=true then A else B)from λh x=>by rw[h];exact Bw x) (W0 (by intro z;injection z with z;have z:((l+1+2:Nat):Int)=2:=z;lia)) ?_;have hL:l<L:=by lia
   have p1:2^(l+1)=2^l*2:=D7 ..;refine xw2 rfl rfl (xq2 rfl rfl (xq2 rfl rfl (xq1 rfl ?_)));refine LY (λhc=>?_) (λhc=>?_)
   ·have el':e<=l:=by
     have hc:=Y7 hc;have hc:(e:Int)<((l+1+2:Nat):Int)-2:=hc;lia
    obtain⟨q9,eq9,el9⟩:=id hl;have l46:l<=45:=by have:=(hj.ok.lev eq9).2;lia
    refine xw2 rfl rfl ⟨g,G,n,l+1,rfl,hj.gr,hj.ok,hl,by lia,by lia,λA9 ks G3 H3 fr3 hg3 go3 hA3 l9 nine=>?_⟩;have hz3:=hz.fr fr3 hg3 go3;have hj3:=hz3.jw;have sz3:=hz3.sz fin
    skip
    have lv9:∀(t k:Nat),ks[t]?=some k->Ak G3 k ((l+2:Nat):Int):=λt k e=>by
     have ht:=(B4.mp e).1;obtain⟨k',e1,e2,_⟩:=nine (t%3) (t/3) A0 A0;rw[show t%3+3*(t/3)=t by lia,e]at e1;cases e1;exact e2
    have kk9:∀(t k:Nat),ks[t]?=some k->Κ l e (BZ G3 (l+2) k):=λt k e=>by
     have ht:=(B4.mp e).1;obtain⟨k',e1,_,v⟩:=nine (t%3) (t/3) A0 A0;rw[show t%3+3*(t/3)=t by lia,e]at e1;cases e1;exact fin.ext (cl.nine1 hκ el' (t%3) (t/3) A0 A0) λx y hx hy=>(v x y hx hy).symm
    refine⟨A9,rfl,⟨_,SqL.of hA3⟩,?_⟩;refine Ed (xs:=ks.map λ(k:Nat)=>V.int (k:Int)) (λi acc H5=>∃(G5:Gv)(ys:List Nat)(c5:Nat),acc=ys.map toV/\ys.length=i/\FrJ g m H3 H5/\JZ a H5 g G5 Κ N (b+5) p dx mem pr r m/\AG G3 G5 c5/\Up (l+1) G3 H3 H5 m/\Paired (λk y=>JR r G5 e k y) (ks.take i) ys) ⟨G3,[],0,rfl,rfl,λb o e _ _ _ _ _=>e,hz3,AG.refl hj3.ok,Up.refl _ _ _ _,.nil⟩ (λi acc H5 _ z=>by obtain⟨_,_,_,_,_,fr,_⟩:=z;exact SqL.of ((fr.kps hj3.gr hj3.bs.long hj3.me) _ _ hA3 (.lst (by rw[B5];lia)))) ?_ ?_
    ·rintro i v acc H5 ev z5_;apply AT;intro G_ hG_;obtain⟨G5,ys,c5,rfl,ly,fr5,hz5,go5,up5,pr5⟩:=z5_;apply hG_;clear hG_ G_;rw[B7]at ev;obtain⟨k5,ek,rfl⟩:=C9.mp ev;have i9:i<9:=by have:=(B4.mp ek).1;lia
     have hj5:=hz5.jw
     skip
     refine⟨⟨[some (.int (k5:Int))],rfl,rfl⟩,by rw[B5,ly];exact Q9 i9 A3,GT (xwn rfl rfl hj5.hp (JL _ _ _ _ _) rfl (xq1 rfl ⟨p,dx,mem,pr,g,G5,Κ,N,b+5,r,m,k5,l,e,rfl,hz5,fin,cl,go5.lev (lv9 i k5 ek),hL,el',(by rw[Ck hj3.ok go5 (lv9 i k5 ek)];exact kk9 i k5 ek),by lia,λy G6 H6 c6 fr6 hz6 go6 jr6 up6=>⟨G6,ys++[y],_,by rw[C7];rfl,by rw[C4,ly];rfl,fr5.trans fr6,hz6,go5.trans go6,up5.trans up6 go5,?_⟩⟩))⟩;rw[F7,ek,N8];exact K6 (Paired.imp (λk y z=>z.goes hj5.ok go6) pr5) jr6
    rintro acc H5 z2_ A5 hA5;apply AT;intro G_ hG_;obtain⟨G5,ys,c5,rfl,ly,fr5,hz5,go5,up5,pr5⟩:=z2_;have hj5:=hz5.jw;apply hG_;clear hG_ G_;rw[B5,l9]at ly;rw[B5,J0]at pr5;have nj:=Ow hj3.ok go5 nine pr5;apply AT;intro G_ hG_;obtain⟨y0,y1,y2,y3,y4,y5,y6,y7,y8,rfl⟩:=Tl ys ly;apply hG_;clear hG_ G_
    skip
    generalize cV:upd H5 A5 _=H6;obtain⟨s5,hA5'⟩:=alc hA5 cV;have hz6:=hz5.same s5;have hj6:=hz6.jw;have f06:FrJ g m H H6:=(Fr.j fr3).trans (fr5.trans (AA.j s5));refine xwm rfl rfl hj6.gr.hp (BI g) ?_;refine xq1 rfl ⟨A5,y0,y1,y2,y3,y4,y5,y6,y7,y8,rfl,hA5',λMM t0 t1 t2 t3 H7 s7 hM ht0 ht1 ht2 ht3=>?_⟩;have hz7:=hz6.same s7;have hj7:=hz7.jw;refine⟨MM,rfl,⟨_,SqL.of hM⟩,?_⟩;have four:=Nc nj ht0 ht1 ht2 ht3;have okG5:=hj7.ok;refine Ed (xs:=[t0,t1,t2,t3].map V.ref) (λi acc H8=>∃(G8:Gv)(zs:List Nat),acc=zs.map toV/\zs.length=i/\Fr g H7 H8/\JZ a H8 g G8 Κ N (b+5+i) p dx mem pr r m/\AG G5 G8 i/\∀(t z:Nat),zs[t]?=some z->Ak G8 z ((l+1:Nat):Int)/\Vw G8 (Bg r (2^e) (BZ G (l+1+2) n)) (l+1) z (2^(l+1)*(t%2)+2^(l+1)) (2^(l+1)*(t/2)+2^(l+1))) ⟨G5,[],rfl,rfl,Fr.refl g H7,hz7,AG.refl okG5,λt z e=>(nomatch e)⟩ (λi acc H8 _ z=>by obtain⟨_,_,_,_,fr,_⟩:=z;exact SqL.of ((fr.kps hj7.gr hj7.bs.long) _ _ hM (.lst (by show 4<=50;decide)))) ?_ ?_
    ·rintro i v acc H8 ev z5_;apply AT;intro G_ hG_;obtain⟨G8,zs,rfl,lz,fr8,hz8,go8,vz⟩:=z5_;have hj8:=hz8.jw;have sz8:=hz8.sz fin;apply hG_;clear hG_ G_;rw[B7]at ev;obtain⟨tt,et,rfl⟩:=C9.mp ev;have i4:i<4:=(B4.mp et).1;apply AT;intro G_ hG_;obtain⟨f0,f1,f2,f3,htt,⟨m0,m1,m2,m3⟩,w0,w1,w2,w3⟩:=four i tt et;apply hG_;clear hG_ G_
     skip
     have qg:∀{f:Nat}(j:Nat),Ak G5 f ((l+1:Nat):Int)->qO G8 f j=qO G5 f j:=λ{f} j h=>by
      obtain⟨q,e,_⟩:=h;unfold qO;rw[go8.get e,e]
     refine⟨⟨[some (.ref tt)],rfl,rfl⟩,by rw[B5,lz];exact Q9 i4 A3,GT (xw2 rfl rfl ⟨g,G8,tt,f0,f1,f2,f3,l,rfl,hj8.gr,hj8.ok,(fr8.kps hj7.gr hj7.bs.long) _ _ htt (.inl .tup),⟨go8.lev m0,go8.lev m1,go8.lev m2,go8.lev m3⟩,by lia,by lia,λz G9 H9 fr9 hg9 go9 e9=>⟨G9,zs++[z],by rw[C7];rfl,by rw[C4,lz];rfl,fr8.trans fr9,hz8.fr fr9 hg9 go9,go8.trans go9,?_⟩⟩)⟩;rw[qg 3 m0,qg 2 m1,qg 1 m2,qg 0 m3]at e9;refine Qb lz (λt z' e=>?_) ?_
     ·obtain⟨q1,q2⟩:=vz t z' e;exact⟨go9.lev q1,q2.goes hj8.ok go9 q1⟩
     ·exact⟨⟨_,e9,by show(l:Int)+1=((l+1:Nat):Int);lia⟩,(Ws okG5 (go8.trans go9) m0 m1 m2 m3 w0 w1 w2 w3 e9).at' A0 A0⟩
    rintro acc H8 z2_ A8 hA8;apply AT;intro G_ hG_;obtain⟨G8,zs,rfl,lz,fr8,hz8,go8,vz⟩:=z2_;have hj8:=hz8.jw;have sz8:=hz8.sz fin;apply hG_;clear hG_ G_;apply AT;intro G_ hG_;obtain⟨z0,z1,z2,z3,rfl⟩:=Nw zs lz;apply hG_;clear hG_ G_;have go4:AG G5 G8 4:=go8;have hz8:JZ a H8 g G8 Κ N (b+5+4) p dx mem pr r m:=hz8;have sz8:=hz8.sz fin;have go08:=(go3.trans go5).trans go4;have f08:FrJ g m H H8:=f06.trans ((AA.j s7).trans (Fr.j fr8));generalize cZ:upd H8 A8 _=H9;obtain⟨s8,hA8'⟩:=alc hA8 cZ;refine⟨A8,(xq1 rfl (.inl ⟨SqL.of hA8',λu hu=>?_⟩))⟩;have hz9:=hz8.same s8;have hj9:=hz9.jw;obtain⟨q0,x0⟩:=vz 0 z0 rfl;obtain⟨q1,x1⟩:=vz 1 z1 rfl;obtain⟨q2,x2⟩:=vz 2 z2 rfl;obtain⟨q3,x3⟩:=vz 3 z3 rfl
    skip
    refine lnk (⟨.refl _ _,λe=>e,hj9.gr,.refl hj9.ok⟩:Ln a g H9 G8 0 H9 G8) hu ⟨q0,q1,q2,q3⟩ A0 A0 λz G11 H11 l11 go11 e11=>?_;refine k z G11 H11 _ (f08.trans ((AA.j s8).trans (Fr.j l11.fr))) ((hz9.fr l11.fr l11.gr go11).mono A0) (go08.trans go11) ?_ (((((hz.upF (l+1) fr3).trans up5 go3).trans (hz5.upS _ s5) (go3.trans go5)).trans (hz6.upS _ s7) (go3.trans go5)).trans (((hz7.upF _ fr8).trans (hz8.upS _ s8) go8).trans (hz9.upF _ l11.fr) go8) (go3.trans go5));have goz:=go08.trans go11;refine Vw.jr (goz.lev hl) he ⟨_,e11,by show((l+1:Nat):Int)+1=((l+1+1:Nat):Int);lia⟩ ?_;rw[Ck hj.ok goz hl];exact LD hj9.ok go11 q0 q1 q2 q3 (x0.at' A0 A0) (x1.at' A0 A0) (x2.at' A0 A0) (x3.at' A0 A0) e11
   ·have el':e=l+1:=by
     have hc:¬(e:Int)<((l+1+2:Nat):Int)-2:=λz=>hc (V9 z);lia
    subst el';refine xwm rfl rfl hj.gr.hp (BI g) ?_;refine xwn rfl rfl hj.hp (Wk _ _ _ _ _) rfl (xq1 rfl ⟨p,dx,mem,pr,g,G,Κ,N,b,r,m,n,l,rfl,hz,fin,cl,hl,hL,hκ,by lia,λA7 f0 f1 f2 f3 G5 H7 i5 f07 hz7 go5 up7 hA7 lvs vws=>?_⟩);apply AT;intro G_ hG_;obtain⟨m0,m1,m2,m3⟩:=lvs;obtain⟨w0,w1,w2,w3⟩:=vws;apply hG_;clear hG_ G_
    skip
    refine⟨A7,rfl,⟨_,SqL.of hA7⟩,?_⟩;have hj7:=hz7.jw;have okG5:=hj7.ok;have four:∀(t f:Nat),[f0,f1,f2,f3][t]?=some f->Ak G5 f ((l+2:Nat):Int)/\Vw G5 (Bg r (2^l) (BZ G (l+1+2) n)) (l+2) f (2^(l+1)*(t%2)+2^l) (2^(l+1)*(t/2)+2^l):=λt f et=>by
     match t,et with
     |0,et=>cases et;exact⟨m0,w0.at' A0 A0⟩
     |1,et=>cases et;exact⟨m1,w1.at' A0 A0⟩
     |2,et=>cases et;exact⟨m2,w2.at' A0 A0⟩
     |3,et=>cases et;exact⟨m3,w3.at' A0 A0⟩
     |j+4,et=>cases et
    have dbl:Bg r (2^l) (Bg r (2^l) (BZ G (l+1+2) n))=Bg r (2^(l+1)) (BZ G (l+1+2) n):=by
     rw[<-Qq,p1,Nat.mul_two]
    refine Ed (xs:=[f0,f1,f2,f3].map toV) (λi acc H8=>∃(G8:Gv)(zs:List Nat)(c8:Nat),acc=zs.map toV/\zs.length=i/\FrJ g m H7 H8/\JZ a H8 g G8 Κ N (b+9) p dx mem pr r m/\AG G5 G8 c8/\Up (l+1) G5 H7 H8 m/\∀(t z:Nat),zs[t]?=some z->Ak G8 z ((l+1:Nat):Int)/\Vw G8 (Bg r (2^(l+1)) (BZ G (l+1+2) n)) (l+1) z (2^(l+1)*(t%2)+2^(l+1)) (2^(l+1)*(t/2)+2^(l+1))) ⟨G5,[],0,rfl,rfl,λb o e _ _ _ _ _=>e,hz7,AG.refl okG5,Up.refl _ _ _ _,λt z e=>(nomatch e)⟩ (λi acc H8 _ z=>by obtain⟨_,_,_,_,_,fr,_⟩:=z;exact SqL.of ((fr.kps hj7.gr hj7.bs.long hj7.me) _ _ hA7 (.lst (by show 4<=50;decide)))) ?_ ?_
    ·rintro i v acc H8 ev z5_;apply AT;intro G_ hG_;obtain⟨G8,zs,c8,rfl,lz,fr8,hz8,go8,up8,vz⟩:=z5_;have hj8:=hz8.jw;have sz8:=hz8.sz fin;apply hG_;clear hG_ G_;rw[B7]at ev;obtain⟨ff,et,rfl⟩:=C9.mp ev;have i4:i<4:=(B4.mp et).1;obtain⟨mf,wf⟩:=four i ff et
     skip
     refine⟨⟨[some (toV ff)],rfl,rfl⟩,by rw[B5,lz];exact Q9 i4 A3,GT (xwn rfl rfl hj8.hp (JL _ _ _ _ _) rfl (xwb rfl rfl rfl ⟨p,dx,mem,pr,g,G8,Κ,N,b+9,r,m,ff,l,l,(show [V.ref p,V.int (ff:Int),V.int (((l+1:Nat):Int)-1)]=[V.ref p,V.int (ff:Int),V.int (l:Int)] by rw[show((l+1:Nat):Int)-1=(l:Int) by lia]),hz8,fin,cl,go8.lev mf,hL,B6 l,(by rw[Ck okG5 go8 mf];exact fin.ext (cl.four hκ (i%2) (i/2) A0 A0) λx y hx hy=>(wf x y hx hy).symm),by lia,λz G9 H9 c9 fr9 hz9 go9 jr9 up9=>⟨G9,zs++[z],_,by rw[C7];rfl,by rw[C4,lz];rfl,fr8.trans fr9,hz9,go8.trans go9,up8.trans up9 go8,?_⟩⟩))⟩;refine Qb lz (λt z' e=>?_) ?_
     ·obtain⟨q1,q2⟩:=vz t z' e;exact⟨go9.lev q1,q2.goes hj8.ok go9 q1⟩
     ·obtain⟨r1,_,r3⟩:=jr9.view ((go8.trans go9).lev mf) (wf.goes okG5 (go8.trans go9) mf);rw[dbl]at r3;exact⟨r1,r3.at' A0 A0⟩
    rintro acc H8 z2_ A8 hA8;apply AT;intro G_ hG_;obtain⟨G8,zs,c8,rfl,lz,fr8,hz8,go8,up8,vz⟩:=z2_;have hj8:=hz8.jw;have sz8:=hz8.sz fin;apply hG_;clear hG_ G_;apply AT;intro G_ hG_;obtain⟨z0,z1,z2,z3,rfl⟩:=Nw zs lz;apply hG_;clear hG_ G_;have go08:=go5.trans go8;have f08:FrJ g m H H8:=f07.trans fr8;generalize cZ:upd H8 A8 _=H9;obtain⟨s8,hA8'⟩:=alc hA8 cZ;refine⟨A8,(xq1 rfl (.inl ⟨SqL.of hA8',λu hu=>?_⟩))⟩;have hz9:=hz8.same s8;have hj9:=hz9.jw;obtain⟨q0,x0⟩:=vz 0 z0 rfl;obtain⟨q1,x1⟩:=vz 1 z1 rfl;obtain⟨q2,x2⟩:=vz 2 z2 rfl;obtain⟨q3,x3⟩:=vz 3 z3 rfl
    skip
    refine lnk (⟨.refl _ _,λe=>e,hj9.gr,.refl hj9.ok⟩:Ln a g H9 G8 0 H9 G8) hu ⟨q0,q1,q2,q3⟩ A0 A0 λz G11 H11 l11 go11 e11=>?_;refine k z G11 H11 _ (f08.trans ((AA.j s8).trans (Fr.j l11.fr))) ((hz9.fr l11.fr l11.gr go11).mono A0) (go08.trans go11) ?_ ((up7.trans up8 go5).trans ((hz8.upS _ s8).trans (hz9.upF _ l11.fr) (AG.refl hj8.ok)) go08);have goz:=go08.trans go11;refine Vw.jr (goz.lev hl) he ⟨_,e11,by show((l+1:Nat):Int)+1=((l+1+1:Nat):Int);lia⟩ ?_;rw[Ck hj.ok goz hl];exact LD hj9.ok go11 q0 q1 q2 q3 (x0.at' A0 A0) (x1.at' A0 A0) (x2.at' A0 A0) (x3.at' A0 A0) e11
theorem ok_recB{L d:Nat}{f:Addr}{fd:FuncData}(F:Fun K "reckoned" "Jumps.reckoned" Cz f fd)(T:Top K mg a)(cK:BN P w K mg base CX0 d a.c_Jumps "fresh" CP (RI a L)):AK P w K mg base CX0 (d+1) f fd Ba (Fq a L):=by
 refine F.ok Dn (λvs H Q E h=>?_) (λcdv A outer s H vs Q E hr h=>?_)
 ·apply AT;intro G_ hG_;obtain⟨p,dx,mem,pr,g,G,Κ,N,b,r,m,n,l,e,rfl,_⟩:=h;apply hG_;clear hG_ G_;rfl
 ·apply AT;intro G_ hG_;obtain⟨p,dx,mem,pr,g,G,Κ,N,b,r,m,n,l,e,rfl,hz,fin,cl,hl,hL,he,hκ,few,k⟩:=h;have hj:=hz.jw;have sz:=hz.sz fin;apply hG_;clear hG_ G_;obtain⟨q,eq,el⟩:=id hl;have l48:=(hj.ok.lev eq).2;have e47:e<m.ds.length:=by rw[hj.me.len];lia
  obtain⟨d,ed⟩:∃d,m.ds[e]?=some d:=⟨m.ds[e]'e47,D3 _⟩
  apply AT;intro G_ hG_;obtain⟨kv,hd,dl,dk,dv⟩:=hj.me.sq e d ed;apply hG_;clear hG_ G_;refine⟨_,(Ab (Aq (i:=3) Dn.nd rfl (Or.inl rfl) (JF (Ec hr) (Aj Av (Ax (pv 0) rfl) (pv 2) (λ_ _=>rfl)) (pv 1) ⟨rfl,rfl,rfl,rfl⟩)) (Ab (AQ (AD Jk (pv 3) DI (AI _)) (Ab (Aq (i:=3) Dn.nd rfl (Or.inl rfl) (AB (pv 0) cK (rm hr) An (Aa (pv 1) (Aa (pv 2) Ac)))) (Ag (Fe (Ec hr) (Aj Av (Ax (pv 0) rfl) (pv 2) (λ_ _=>rfl)) (pv 1) (pv 3) rfl))) AE) (Ag (Aw (pv 3))))),?_⟩
  try dsimp only[cxK]
  have ed':atI (m.ds.map V.ref) (e:Int)=some (.ref d):=Al (by rw[B7,ed];rfl);refine xwf rfl rfl hj.hp T.cl_Jumps T.na_Jumps_known_squares (WB _ _ _ _ _) (xwi rfl rfl rfl (SqL.of hj.me.l) ed' ⟨d,rfl,.inl ⟨_,.inl hd⟩,(xq1 rfl ⟨_,EZ.k (k:=Sum.inl (n:Int)) hd,?_⟩)⟩);apply Tp (fun σ H1=>∃(x:Nat)(G':Gv),σ=[some (.ref p),some (.int (n:Int)),some (.int (e:Int)),some (.int (x:Int))]/\FrJ g m H H1/\JZ a H1 g G' Κ N b p dx mem pr r m/\(∃i,AG G G' i)/\JR r G' e n x/\Up (l+1) G H H1 m)
  ·intro rest;refine xq1 rfl ⟨rfl,(xq1 rfl ?_)⟩;cases ev:Bu kv (Sum.inl (n:Int))with
   |some v =>
    obtain⟨x,rfl,jr⟩:=dv n v ev;exact Bw (rest _ _ ⟨x,G,rfl,λb o e _ _ _ _ _=>e,hz,⟨0,AG.refl hj.ok⟩,jr,Up.refl _ _ _ _⟩)
   |none =>
    refine CK ?_;refine xwn rfl rfl hj.hp (Uw _ _ _ _ _) rfl (xq1 rfl ⟨p,dx,mem,pr,g,G,Κ,N,b,r,m,n,l,e,rfl,hz,fin,cl,hl,hL,he,hκ,few,λx G' H' i' fr hz' go jr up=>?_⟩);apply AT;intro G_ hG_;have hj':=hz'.jw;obtain⟨kv',hd',dl',dk',dv'⟩:=hj'.me.sq e d ed;apply hG_;clear hG_ G_;refine xw2 rfl rfl (xq5 hj'.hp T.cl_Jumps T.na_Jumps_known_squares (WB _ _ _ _ _) (xwi rfl rfl rfl (SqL.of hj'.me.l) ed' (xq1 rfl ⟨d,(xq1 rfl ⟨Jq.k (k:=Sum.inl (n:Int)) hd' (J3 (show kv'.length<=9000000 by lia) A3),?_⟩)⟩)));have no':=up e n l hl (B6 l) (λd2 kv2 ed2 hd2=>by rw[ed]at ed2;cases ed2;rw[hd]at hd2;cases hd2;exact ev) d kv' ed hd';obtain⟨z1,z2⟩:=hz'.put fin ed hd' no' (go.lev hl) (by rw[Ck hj.ok go hl];exact hκ) jr;exact rest _ _ ⟨x,G',rfl,λb o e n1 n2 n3 n4 n5=>by rw[Ao (λz=>n5 (by rw[z];exact D2 ed))];exact fr _ _ e n1 n2 n3 n4 n5,z1,⟨i',go⟩,jr,(up.mono (R6 l)).trans z2 go⟩
  rintro σ H1 z2_;apply AT;intro G_ hG_;obtain⟨x,G',rfl,fr,hz',⟨i',go⟩,jr,up⟩:=z2_;apply hG_;clear hG_ G_;exact xq1 rfl (k x G' H1 i' fr hz' go jr up)
theorem Tj{f fh ff:Addr}{fd fdh fdf:FuncData}(F:Fun K "reckoned" "Jumps.reckoned" Cz f fd)(Fh:Fun K "four_halfway" "Jumps.four_halfway" AY fh fdh)(Ff:Fun K "fresh" "Jumps.fresh" BU ff fdf)(T:Top K mg a)(Me:Ol K a.c_Jumps "reckoned" f)(Bi:CH K fd Ba [])(Meh:Ol K a.c_Jumps "four_halfway" fh)(Bih:CH K fdh Bv [])(Mef:Ol K a.c_Jumps "fresh" ff)(Bif:CH K fdf CP [])(aB:BN P w K mg base CX0 7 a.c_Jumps "middle_after" BQ (OW a))(a8:BN P w K mg base CX0 2 a.c_Grove "linked" AN (Ee a))(aM:Cal P w K mg base CX0 3 "nine_parts" Du (MF a))(aP:Cal P w K mg base CX0 1 "fours_of" EM Jt)(aD:Cal P w K mg base CX0 3 "met_in_the_middle" BX (SV a)):∀L,AK P w K mg base CX0 (10+3*L) f fd Ba (Fq a L)
 |0=>(AK.no (k:=10)).imp λvs H Q E h=>by
  apply AT;intro G_ hG_;obtain⟨p,dx,mem,pr,g,G,Κ,N,b,r,m,n,l,e,_,_,_,_,_,hL,_⟩:=h;apply hG_;clear hG_ G_;exact absurd hL (L7 l)
 |L+1=>by
  have ih:=Tj F Fh Ff T Me Bi Meh Bih Mef Bif aB a8 aM aP aD L;have M1:BN P w K mg base CX0 (10+3*L) a.c_Jumps "reckoned" Ba (Fq a L):=⟨⟨_,_,ih,Me,Bi⟩,T.cl_Jumps⟩
  have h2:=Wd Fh T A0 aM aP a8 M1;have M2:BN P w K mg base CX0 (10+3*L+1) a.c_Jumps "four_halfway" Bv (Pb a L):=⟨⟨_,_,h2,Meh,Bih⟩,T.cl_Jumps⟩
  have h3:=ok_freA Ff T A0 aB a8 aM aP aD M1 M2;have M3:BN P w K mg base CX0 (10+3*L+2) a.c_Jumps "fresh" CP (RI a (L+1)):=⟨⟨_,_,h3,Mef,Bif⟩,T.cl_Jumps⟩
  exact ok_recB F T M3
theorem Us{L d:Nat}{f:Addr}{fd:FuncData}(F:Fun K "after" "Jumps.after" FA f fd)(T:Top K mg a)(d4:4<=d)(aV:BN P w K mg base CX0 4 a.c_Jumps "check_jump" CZ (spCj a))(aA:BN P w K mg base CX0 d a.c_Jumps "reckoned" Ba (Fq a L)):AK P w K mg base CX0 (d+1) f fd FH (Fq a L):=by
 refine F.ok MQ (λvs H Q E h=>?_) (λcdv A outer s H vs Q E hr h=>?_)
 ·apply AT;intro G_ hG_;obtain⟨p,dx,mem,pr,g,G,Κ,N,b,r,m,n,l,e,rfl,_⟩:=h;apply hG_;clear hG_ G_;rfl
 ·apply AT;intro G_ hG_;obtain⟨p,dx,mem,pr,g,G,Κ,N,b,r,m,n,l,e,rfl,hz,fin,cl,hl,hL,he,hκ,few,k⟩:=h;have hj:=hz.jw;have sz:=hz.sz fin;obtain⟨q,eq,el⟩:=id hl;apply hG_;clear hG_ G_;refine⟨_,(Ab (CB (AB (pv 0) aV (rm hr) An (Aa (pv 1) (Aa (pv 2) Ac)))) (Ag (Aw (AB (pv 0) aA (rm hr) An (Aa (pv 1) (Aa (pv 2) Ac)))))),?_⟩
  try dsimp only[cxK]
  refine xwn rfl rfl hj.hp (Ux _ _ _ _ _) rfl (xq1 rfl ⟨p,dx,g.p,mem,pr,m.l,m.kc,g,G,n,e,q,rfl,hj.hp,hj.gr,eq,by rw[el];lia,?_⟩);exact xwn rfl rfl hj.hp (JL _ _ _ _ _) rfl (xq1 rfl ⟨p,dx,mem,pr,g,G,Κ,N,b,r,m,n,l,e,rfl,hz,fin,cl,hl,hL,he,hκ,few,k⟩)
end
theorem Ci(l:Nat):(2:Int)^(l+1)=2^l+2^l:=by rw[T6];lia
def FZ(x y w h r:Int):Prop:=-r<=x/\-r<=y/\x+w<=r/\y+h<=r
instance(x y w h r:Int):Decidable (FZ x y w h r):=by unfold FZ;infer_instance
theorem lies_b(x y w h r:Int):(decide (-r<=x) && (decide (-r<=y) && (decide (x+w<=r) && decide (y+h<=r))))=decide (FZ x y w h r):=by
 rw[P6];simp only[O3,A2g];exact Iff.rfl
structure Wid(G:Gv)(n f w:Nat):Prop where
 ex:∃(q:Sq)(x y z v a b c d:Nat),GN G n f q x y z v/\G[a]?=some ⟨[(bareN n:Int),(bareN n:Int),(bareN n:Int),(x:Int)],(n:Int)+1⟩/\G[b]?=some ⟨[(bareN n:Int),(bareN n:Int),(y:Int),(bareN n:Int)],(n:Int)+1⟩ /\
  G[c]?=some ⟨[(bareN n:Int),(z:Int),(bareN n:Int),(bareN n:Int)],(n:Int)+1⟩/\G[d]?=some ⟨[(v:Int),(bareN n:Int),(bareN n:Int),(bareN n:Int)],(n:Int)+1⟩/\G[w]?=some ⟨[(a:Int),(b:Int),(c:Int),(d:Int)],(n:Int)+2⟩
theorem Wid.lev{G:Gv}{n f w:Nat}(h:Wid G n f w):Ak G w ((n+2:Nat):Int):=by
 obtain⟨q,x,y,z,v,a,b,c,d,nd,ea,eb,ec,ed,ew⟩:=h.ex;exact⟨_,ew,by show(n:Int)+2=_;lia⟩
theorem Wid.app{G G':Gv}{k n f w:Nat}(go:AG G G' k)(h:Wid G n f w):Wid G' n f w:=by
 obtain⟨q,x,y,z,v,a,b,c,d,nd,ea,eb,ec,ed,ew⟩:=h.ex;exact⟨q,x,y,z,v,a,b,c,d,nd.app go,go.get ea,go.get eb,go.get ec,go.get ed,go.get ew⟩
theorem FY{G r:Gv}(e:G=G0++r){n:Nat}(h:n<=48):Ak G (bareN n) (n:Int):=by
 rw[e];exact(WJ n h).app
theorem bareL_at'{l:Nat}(h:l<=48):((Cy 48).map V.int)[l]?=some (.int (bareN l:Int)):=by
 unfold Cy;rw[B7,B7,P3 A0];rfl
section
variable{P:Program}{w:World}{K:PySem.W.Frag}{mg:Str->Option Value}{base:Heap}{a:Ad}
inductive SpLie(vs:List V)(H:Hp)(Q:VK):Prop
 |mk (t:Addr) (x y w h r:Int) (_:vs=[.ref t,.int r]) (_:H t=some (.tup [.int x,.int y,.int w,.int h])) (_:Q (.bl (decide (FZ x y w h r))) H):SpLie vs H Q
def Qw:Sp:=λvs H Q _=>SpLie vs H Q
theorem ok_lie{f:Addr}{fd:FuncData}(F:Fun K "lies_within" "lies_within" Fw f fd)(T:Top K mg a):AK P w K mg base CX0 1 f fd CO Qw:=by
 refine F.ok ML (λvs H Q E h=>?_) (λcdv A outer s H vs Q E hr h=>?_)
 ·obtain⟨t,x,y,w,h,r,rfl,_⟩:=h;rfl
 ·obtain⟨t,x,y,wd,hh,r,rfl,ht,k⟩:=h;rw[<-lies_b]at k;refine⟨_,(Ag (Aw (Ii (DW JJ (Fj Di (pv 1)) (Aj Am (pv 0) Ae (λ_ _=>rfl)) (AI _)) (Ii (DW JJ (Fj Di (pv 1)) (Aj Am (pv 0) Ae (λ_ _=>rfl)) (AI _)) (Ii (DW JJ (AF Bl (Aj Am (pv 0) Ae (λ_ _=>rfl)) (Aj Am (pv 0) Ae (λ_ _=>rfl))) (pv 1) (AI _)) (Jh (DW JJ (AF Bl (Aj Am (pv 0) Ae (λ_ _=>rfl)) (Aj Am (pv 0) Ae (λ_ _=>rfl))) (pv 1) (AI _)))))))),?_⟩
  try dsimp only[cxK]
  refine xw3 rfl rfl rfl (xq4 rfl rfl (SqT.of ht) (Al (j:=0) rfl) (xq2 rfl rfl (Qd (λ_ Q1 q1=>?_) k)));refine xw3 rfl rfl rfl (xq4 rfl rfl (SqT.of ht) (Al (j:=1) rfl) (xq2 rfl rfl (Qd (λ_ Q2 q2=>?_) q1)));refine xwi rfl rfl rfl (SqT.of ht) (Al (j:=0) rfl) (xwi rfl rfl rfl (SqT.of ht) (Al (j:=2) rfl) (xq2 rfl rfl (xwb rfl rfl rfl (Qd (λ_ Q3 q3=>?_) q2))));exact xwi rfl rfl rfl (SqT.of ht) (Al (j:=1) rfl) (xwi rfl rfl rfl (SqT.of ht) (Al (j:=3) rfl) (xq2 rfl rfl (xwb rfl rfl rfl q3)))
inductive TL(a:Ad)(vs:List V)(H:Hp)(Q:VK):Prop
 |mk (g:GA) (G:Gv) (i n:Nat) (_:vs=[.ref g.p,.int i]) (_:AH a H g G) (_:Ak G i ((n+1:Nat):Int)) (_:n<48) (_:Q (.int (2^n)) H):TL a vs H Q
def IA(a:Ad):Sp:=λvs H Q _=>TL a vs H Q
theorem VY{f:Addr}{fd:FuncData}(F:Fun K "reach_of" "reach_of" IZ f fd)(T:Top K mg a)(a9:BN P w K mg base CX0 3 a.c_Grove "level_of" Bb (LP a)):AK P w K mg base CX0 4 f fd DK (IA a):=by
 refine F.ok Qy (λvs H Q E h=>?_) (λcdv A outer s H vs Q E hr h=>?_)
 ·obtain⟨g,G,i,n,rfl,_⟩:=h;rfl
 ·obtain⟨g,G,i,n,rfl,hg,⟨q,e,el⟩,n48,k⟩:=h;refine⟨_,(Ag (Aw (AF Db Ae (AF BG (AB (pv 0) a9 (rm hr) An (Aa (pv 1) Ac)) Ae)))),?_⟩
  try dsimp only[cxK]
  have en:q.lev=(n:Int)+1:=by rw[el];lia
  refine xwn rfl rfl hg.hp (DP g) rfl ⟨g,G,i,q,rfl,hg,e,(xq2 rfl rfl (xq2 rfl rfl ⟨⟨by lia,by lia,by decide⟩,?_⟩))⟩;show Q (.int (1*2^(q.lev-1).toNat)) H;rw[OR n en];exact k
inductive TX(a:Ad)(vs:List V)(H:Hp)(Q:VK):Prop
 |mk (g:GA) (G:Gv) (_:vs=[.ref g.p]) (_:Bc a H g G) (_:Q (.int (bareN 1:Int)) H):TX a vs H Q
def Mg(a:Ad):Sp:=λvs H Q _=>TX a vs H Q
theorem Wi{f:Addr}{fd:FuncData}(F:Fun K "bare_field" "bare_field" Gk f fd)(T:Top K mg a):AK P w K mg base CX0 1 f fd Eo (Mg a):=by
 refine F.ok NR (λvs H Q E h=>?_) (λcdv A outer s H vs Q E hr h=>?_)
 ·obtain⟨g,G,rfl,_⟩:=h;rfl
 ·obtain⟨g,G,rfl,fu,k⟩:=h;exact⟨_,(Ag (Aw (Aj Av (Ax (pv 0) rfl) (BP rfl T.k_LEAST_LEVEL) (λ_ _=>rfl)))),(xwf rfl rfl fu.at'.hp T.cl_Grove T.na_Grove_bares (Iw g) (xq4 rfl rfl (SqL.of fu.br) (Al (j:=1) (bareL_at' A0)) k))⟩
inductive SpWid(a:Ad)(vs:List V)(H:Hp)(Q:VK):Prop
 |mk (g:GA) (G:Gv) (f n:Nat) (_:vs=[.ref g.p,.int f]) (_:Bc a H g G) (_:Ak G f ((n+1:Nat):Int)) (_:n<47) (_:G.length<8900000) (_:∀(w:Nat)(G':Gv)(H':Hp),Fr g H H'->AH a H' g G'->AG G G' 5->Wid G' n f w->Q (.int w) H'):SpWid a vs H Q
def ST(a:Ad):Sp:=λvs H Q _=>SpWid a vs H Q
theorem ok_wid{f:Addr}{fd:FuncData}(F:Fun K "widened" "widened" Lg f fd)(T:Top K mg a)(a9:BN P w K mg base CX0 3 a.c_Grove "level_of" Bb (LP a))(a8:BN P w K mg base CX0 2 a.c_Grove "linked" AN (Ee a)):AK P w K mg base CX0 4 f fd IE (ST a):=by
 refine F.ok Gd (λvs H Q E h=>?_) (λcdv A outer s H vs Q E hr h=>?_)
 ·obtain⟨g,G,f',n,rfl,_⟩:=h;rfl
 ·obtain⟨g,G,f',n,rfl,fu,hl,n47,few,k⟩:=h;obtain⟨q,x,y,z,v,nd⟩:=BH fu.ok hl;have lq:=nd.lev;obtain⟨ts,h3,h4⟩:=fu.at'.pt;obtain⟨t,et,ht⟩:=PairedM.get h4 nd.g;have ht:H t=some (.tup [.int x,.int y,.int z,.int v]):=by
   have ht:H t=some (.tup (q.parts.map V.int)):=ht;rw[nd.ps]at ht;exact ht
  obtain⟨r,e0⟩:=fu.g0;have lb:=FY e0 (n:=n) A0;refine⟨_,(Ab (Aq (i:=2) Gd.nd rfl (Or.inl rfl) (AB (pv 0) a9 (rm hr) An (Aa (pv 1) Ac))) (Ab (AQ (PW.pt (MW (AD Io (pv 2) (BP rfl T.k_LEAST_LEVEL) (AI _)) (Ll (AD Ea (pv 2) (BP rfl T.k_TOP_LEVEL) (AI _))))) (Ag AZ) AE) (Ab (Aq (i:=3) Gd.nd rfl (Or.inl rfl) (Aj Av (Ax (pv 0) rfl) (pv 1) (λ_ _=>rfl))) (Ab (Aq (i:=4) Gd.nd rfl (Or.inl rfl) (Aj Av (Ax (pv 0) rfl) (AF BG (pv 2) Ae) (λ_ _=>rfl))) (Ag (Aw (AB (pv 0) a8 (rm hr) An (Bo (Aa (AB (pv 0) a8 (rm hr) An (Bo (Aa (pv 4) (Aa (pv 4) (Aa (pv 4) (Aa (Aj Am (pv 3) Ae (λ_ _=>rfl)) Ac)))) Ac)) (Aa (AB (pv 0) a8 (rm hr) An (Bo (Aa (pv 4) (Aa (pv 4) (Aa (Aj Am (pv 3) Ae (λ_ _=>rfl)) (Aa (pv 4) Ac)))) Ac)) (Aa (AB (pv 0) a8 (rm hr) An (Bo (Aa (pv 4) (Aa (Aj Am (pv 3) Ae (λ_ _=>rfl)) (Aa (pv 4) (Aa (pv 4) Ac)))) Ac)) (Aa (AB (pv 0) a8 (rm hr) An (Bo (Aa (Aj Am (pv 3) Ae (λ_ _=>rfl)) (Aa (pv 4) (Aa (pv 4) (Aa (pv 4) Ac)))) Ac)) Ac)))) Ac)))))))),?_⟩
  try dsimp only[cxK]
  refine xq1 rfl ⟨g.p,g.dx,(xq1 rfl ⟨fu.at'.hp,DP g,(xq1 rfl ⟨g,G,f',q,rfl,fu.at',nd.g,?_⟩)⟩)⟩;refine xwb rfl rfl rfl (xq1 rfl ?_);rw[W0 (by lia:¬q.lev<1)];refine Bw (xq1 rfl ⟨rfl,(xq1 rfl ?_)⟩);rw[W0 (by intro z;injection z with z;lia)];refine Bw (xwf rfl rfl fu.at'.hp T.cl_Grove T.na_Grove_parts (Ce g) (xwi rfl rfl rfl (SqL.of h3) (Al (by rw[B7,et];rfl)) ?_));refine xwf rfl rfl fu.at'.hp T.cl_Grove T.na_Grove_bares (Iw g) (xwb rfl rfl rfl (xq4 rfl rfl (SqL.of fu.br) (by rw[show q.lev-1=(n:Int) by lia];exact Al (bareL_at' A0)) ?_));refine xq1 rfl ⟨g.p,g.dx,(xq1 rfl ⟨fu.at'.hp,BI g,?_⟩)⟩;refine xq1 rfl ⟨g.p,g.dx,(xq1 rfl ⟨fu.at'.hp,BI g,(xw3 rfl rfl rfl (xwi rfl rfl rfl (SqT.of ht) (Al (j:=0) rfl) ⟨(by show 4<=sizeLine;decide),λt1 ht1=>?_⟩))⟩)⟩;have s1:=AJ (o:=.tup [.int (bareN n:Int),.int (bareN n:Int),.int (bareN n:Int),.int x]) ht1;refine⟨g,G,t1,bareN n,bareN n,bareN n,x,(n:Int),rfl,fu.at'.same s1,fu.ok,Af,⟨lb,lb,lb,nd.hx⟩,by lia,by lia,λa1 G1 H1 fr1 hg1 go1 e1=>?_⟩;have f1:=(AA.fr s1).trans fr1;have htA:=f1.tup fu.at' ht;have n1:=go1.few;refine xwn rfl rfl hg1.hp (BI g) rfl (xwj rfl rfl rfl rfl (SqT.of htA) (Al (j:=1) rfl) (xq1 rfl ⟨(by show 4<=sizeLine;decide),λt2 ht2=>?_⟩));have s2:=AJ (o:=.tup [.int (bareN n:Int),.int (bareN n:Int),.int y,.int (bareN n:Int)]) ht2;refine⟨g,G1,t2,bareN n,bareN n,y,bareN n,(n:Int),rfl,hg1.same s2,go1.ok,Af,⟨go1.lev lb,go1.lev lb,go1.lev nd.hy,go1.lev lb⟩,by lia,by lia,λa2 G2 H2 fr2 hg2 go2 e2=>?_⟩;have f2:=f1.trans ((AA.fr s2).trans fr2);have htB:=f2.tup fu.at' ht;have n2:=go2.few;have go12:=go1.trans go2;refine xwn rfl rfl hg2.hp (BI g) rfl (xwi rfl rfl rfl (SqT.of htB) (Al (j:=2) rfl) (xw2 rfl rfl ⟨(by show 4<=sizeLine;decide),λt3 ht3=>?_⟩));have s3:=AJ (o:=.tup [.int (bareN n:Int),.int z,.int (bareN n:Int),.int (bareN n:Int)]) ht3;refine⟨g,G2,t3,bareN n,z,bareN n,bareN n,(n:Int),rfl,hg2.same s3,go2.ok,Af,⟨go12.lev lb,go12.lev nd.hz,go12.lev lb,go12.lev lb⟩,by lia,by lia,λa3 G3 H3 fr3 hg3 go3 e3=>?_⟩;have f3:=f2.trans ((AA.fr s3).trans fr3);have htC:=f3.tup fu.at' ht;have n3:=go3.few;have go13:=go12.trans go3;refine xwn rfl rfl hg3.hp (BI g) rfl (xq4 rfl rfl (SqT.of htC) (Al (j:=3) rfl) (xw3 rfl rfl rfl ⟨(by show 4<=sizeLine;decide),λt4 ht4=>?_⟩));have s4:=AJ (o:=.tup [.int v,.int (bareN n:Int),.int (bareN n:Int),.int (bareN n:Int)]) ht4;refine⟨g,G3,t4,v,bareN n,bareN n,bareN n,(n:Int),rfl,hg3.same s4,go3.ok,Af,⟨go13.lev nd.hw,go13.lev lb,go13.lev lb,go13.lev lb⟩,by lia,by lia,λa4 G4 H4 fr4 hg4 go4 e4=>?_⟩;have f4:=f3.trans ((AA.fr s4).trans fr4);have n4:=go4.few;have go14:=go13.trans go4;refine⟨(by show 4<=sizeLine;decide),λt5 ht5=>?_⟩;have s5:=AJ (o:=.tup [.int a1,.int a2,.int a3,.int a4]) ht5;have E1:=(go2.trans (go3.trans go4)).get e1;have E2:=(go3.trans go4).get e2;have E3:=go4.get e3;refine⟨g,G4,t5,a1,a2,a3,a4,(n:Int)+1,rfl,hg4.same s5,go4.ok,Af,⟨⟨_,E1,rfl⟩,⟨_,E2,rfl⟩,⟨_,E3,rfl⟩,⟨_,e4,rfl⟩⟩,by lia,by lia,λw' G5 H5 fr5 hg5 go5 e5=>?_⟩;have go15:=go14.trans go5;exact k w' G5 H5 (f4.trans ((AA.fr s5).trans fr5)) hg5 go15 ⟨q,x,y,z,v,a1,a2,a3,a4,nd.app go15,go5.get E1,go5.get E2,go5.get E3,go5.get e4,by rw[e5,show(n:Int)+1+1=(n:Int)+2 by lia]⟩
end
structure Mc(G:Gv)(n i:Nat)(qs:Nat->Nat)(ps:Nat->Nat->Nat):Prop where
 node:∃q,GN G (n+1) i q (qs 0) (qs 1) (qs 2) (qs 3)
 sub:∀k,k<4->∃q,GN G n (qs k) q (ps k 0) (ps k 1) (ps k 2) (ps k 3)
theorem Mc.app{G G':Gv}{k n i:Nat}{qs:Nat->Nat}{ps:Nat->Nat->Nat}(go:AG G G' k)(h:Mc G n i qs ps):Mc G' n i qs ps:=by
 obtain⟨q,nd⟩:=h.node;exact⟨⟨q,nd.app go⟩,λk hk=>by obtain⟨q,nd⟩:=h.sub k hk;exact⟨q,nd.app go⟩⟩
def f4(x y z w:Nat)(k:Nat):Nat:=match k with|0=>x|1=>y|2=>z|_=>w
theorem deep_of{G:Gv}(ok:GOk G){n i:Nat}(h:Ak G i ((n+2:Nat):Int)):∃qs ps,Mc G n i qs ps:=by
 obtain⟨q,x,y,z,w,nd⟩:=BH ok (n:=n+1) h;obtain⟨_,x0,x1,x2,x3,nx⟩:=BH ok nd.hx;obtain⟨_,y0,y1,y2,y3,ny⟩:=BH ok nd.hy;obtain⟨_,z0,z1,z2,z3,nz⟩:=BH ok nd.hz;obtain⟨_,w0,w1,w2,w3,nw⟩:=BH ok nd.hw;refine⟨f4 x y z w,λk=>match k with|0=>f4 x0 x1 x2 x3|1=>f4 y0 y1 y2 y3|2=>f4 z0 z1 z2 z3|_=>f4 w0 w1 w2 w3,⟨q,nd⟩,λk hk=>?_⟩
 match k,hk with
 |0,_=>exact⟨_,nx⟩
 |1,_=>exact⟨_,ny⟩
 |2,_=>exact⟨_,nz⟩
 |3,_=>exact⟨_,nw⟩
theorem GN.nat{G:Gv}{n i:Nat}{q:Sq}{x y z w:Nat}(h:GN G n i q x y z w){j:Nat}(hj:j<4):q.parts[j]?=some ((f4 x y z w j:Nat):Int)/\Ak G (f4 x y z w j) n:=by
 rw[h.ps]
 match j,hj with
 |0,_=>exact⟨rfl,h.hx⟩
 |1,_=>exact⟨rfl,h.hy⟩
 |2,_=>exact⟨rfl,h.hz⟩
 |3,_=>exact⟨rfl,h.hw⟩
theorem Nz(p:Nat->Nat){j:Nat}(hj:j<4):f4 (p 0) (p 1) (p 2) (p 3) j=p j:=by
 match j,hj with
 |0,_=>rfl
 |1,_=>rfl
 |2,_=>rfl
 |3,_=>rfl
def BA(n:Nat)(ps:Nat->Nat->Nat):Prop:=∀k j,k<4->j<4->j+k≠3->ps k j=bareN n
def Em(G:Gv):Nat->Nat->Nat->Prop
 |0,_,_=>False
 |1,f,r=>r=f
 |n+2,f,r=>∃qs ps,Mc G n f qs ps/\((¬BA n ps/\r=f)\/(BA n ps/\∃m,G[m]?=some ⟨[(ps 0 3:Int),(ps 1 2:Int),(ps 2 1:Int),(ps 3 0:Int)],(n:Int)+1⟩/\Em G (n+1) m r))
theorem Em.app{G G':Gv}{k:Nat}(go:AG G G' k):∀{n f r:Nat},Em G n f r->Em G' n f r
 |0,_,_,h=>h
 |1,_,_,h=>h
 |n+2,f,r,h=>by
  obtain⟨qs,ps,d,h⟩:=h;refine⟨qs,ps,d.app go,?_⟩;rcases h with h|⟨h1,m,h2,h3⟩
  ·exact .inl h
  ·exact .inr ⟨h1,m,go.get h2,Em.app go h3⟩
section
variable{P:Program}{w:World}{K:PySem.W.Frag}{mg:Str->Option Value}{base:Heap}{a:Ad}
theorem Gw{H:Hp}{g:GA}{G:Gv}(h:AH a H g G){n i:Nat}{q:Sq}{x y z w:Nat}(nd:GN G n i q x y z w):∃(ts:List Addr)(t:Addr),H g.pt=some (.lst (ts.map V.ref))/\(ts.map V.ref)[i]?=some (.ref t)/\H t=some (.tup [.int x,.int y,.int z,.int w]):=by
 obtain⟨ts,h3,h4⟩:=h.pt;obtain⟨t,et,ht⟩:=PairedM.get h4 nd.g;refine⟨ts,t,h3,by rw[B7,et];rfl,?_⟩;have ht:H t=some (.tup (q.parts.map V.int)):=ht;rw[nd.ps]at ht;exact ht
inductive SpMid(a:Ad)(vs:List V)(H:Hp)(Q:VK):Prop
 |mk (g:GA) (G:Gv) (i n:Nat) (qs:Nat->Nat) (ps:Nat->Nat->Nat) (_:vs=[.ref g.p,.int i]) (_:AH a H g G) (_:GOk G) (_:Mc G n i qs ps) (_:n<47) (_:G.length<8900000) (_:∀(m:Nat)(G':Gv)(H':Hp),Fr g H H'->AH a H' g G'->AG G G' 1->G'[m]?=some ⟨[(ps 0 3:Int),(ps 1 2:Int),(ps 2 1:Int),(ps 3 0:Int)],(n:Int)+1⟩->Q (.int m) H'):SpMid a vs H Q
def Vu(a:Ad):Sp:=λvs H Q _=>SpMid a vs H Q
theorem ok_mid{f:Addr}{fd:FuncData}(F:Fun K "middle_of" "middle_of" Fc f fd)(T:Top K mg a)(a8:BN P w K mg base CX0 2 a.c_Grove "linked" AN (Ee a)):AK P w K mg base CX0 3 f fd Ik (Vu a):=by
 refine F.ok Jw (λvs H Q E h=>?_) (λcdv A outer s H vs Q E hr h=>?_)
 ·obtain⟨g,G,i,n,qs,ps,rfl,_⟩:=h;rfl
 ·obtain⟨g,G,i,n,qs,ps,rfl,hg,ok,dp,n47,few,k⟩:=h;obtain⟨q,nd⟩:=dp.node;obtain⟨ts,t,h3,et,ht⟩:=Gw hg nd;refine⟨_,(Ab (Gu (i:=2) rfl Jw.nd rfl rfl (BD.of (So:=Ah Fc) (No:=LR) (N:=["quarter","grove"]) (k:=1) (cs:=[0]) rfl rfl A1) (RO (Aj Av (Ax (pv 0) rfl) (pv 1) (λ_ _=>rfl))) (λ_ _ _=>(Bk (i:=0) A1 rfl rfl)) (λ_ _ _=>BL) (λ_ _ _=>(Aj (WE (K:=K) rfl) (Pj (K:=K) rfl (pv 1) rfl) (pv 0) (λ_ _=>rfl)))) (Ag (Aw (AB (pv 0) a8 (rm hr) An (Bo (Aa (Aj Am (Aj Av (pv 2) Ae (λ_ _=>rfl)) Ae (λ_ _=>rfl)) (Aa (Aj Am (Aj Av (pv 2) Ae (λ_ _=>rfl)) Ae (λ_ _=>rfl)) (Aa (Aj Am (Aj Av (pv 2) Ae (λ_ _=>rfl)) Ae (λ_ _=>rfl)) (Aa (Aj Am (Aj Av (pv 2) Ae (λ_ _=>rfl)) Ae (λ_ _=>rfl)) Ac)))) Ac))))),?_⟩
  try dsimp only[cxK]
  refine xwf rfl rfl hg.hp T.cl_Grove T.na_Grove_parts (Ce g) (xwi rfl rfl rfl (SqL.of h3) (Al et) ⟨t,rfl,⟨_,SqT.of ht⟩,?_⟩);have sub:∀k,k<4->∃tk,(ts.map V.ref)[qs k]?=some (.ref tk)/\H tk=some (.tup [.int (ps k 0),.int (ps k 1),.int (ps k 2),.int (ps k 3)]):=λk hk=>by
   obtain⟨qk,ndk⟩:=dp.sub k hk;obtain⟨ts',tk,h3',et',ht'⟩:=Gw hg ndk;rw[h3]at h3';have h3':=HO.lst.inj (W3 h3');exact⟨tk,by rw[h3'];exact et',ht'⟩
  obtain⟨t0,e0,p0⟩:=sub 0 A3;obtain⟨t1,e1,p1⟩:=sub 1 A3;obtain⟨t2,e2,p2⟩:=sub 2 A3;obtain⟨t3,e3,p3⟩:=sub 3 A3;have all:∀(j:Nat)(v:V),[V.int (qs 0:Int),V.int (qs 1:Int),V.int (qs 2:Int),V.int (qs 3:Int)][j]?=some v->∃(k:Nat)(tk:Addr),v=.int (k:Int)/\(ts.map V.ref)[k]?=some (.ref tk)/\[V.ref t0,V.ref t1,V.ref t2,V.ref t3][j]?=some (.ref tk):=λj v ev=>by
   match j,ev with
   |0,ev=>cases ev;exact⟨qs 0,t0,rfl,e0,rfl⟩
   |1,ev=>cases ev;exact⟨qs 1,t1,rfl,e1,rfl⟩
   |2,ev=>cases ev;exact⟨qs 2,t2,rfl,e2,rfl⟩
   |3,ev=>cases ev;exact⟨qs 3,t3,rfl,e3,rfl⟩
   |j+4,ev=>simp at ev
  refine PY (xs:=[.int (qs 0:Int),.int (qs 1:Int),.int (qs 2:Int),.int (qs 3:Int)]) (λj acc H2=>H=H2/\acc=[V.ref t0,V.ref t1,V.ref t2,V.ref t3].take j) ⟨rfl,rfl⟩ (λj acc H2 _ z=>z.1▸SqT.of ht) ?_ ?_
  ·rintro j v acc H2 ev ⟨rfl,rfl⟩;obtain⟨k',tk,rfl,ek,el⟩:=all j v ev;refine⟨⟨[some (.int k')],rfl,rfl⟩,by rw[F9];exact FR (by show min j 4<10000000;lia),GT (xwf rfl rfl hg.hp T.cl_Grove T.na_Grove_parts (Ce g) (xwi rfl rfl rfl (SqL.of h3) (Al ek) ⟨rfl,?_⟩))⟩;rw[F7,el];rfl
  ·rintro acc H2 ⟨rfl,rfl⟩ L hL;have s1:=AJ (o:=.lst [V.ref t0,V.ref t1,V.ref t2,V.ref t3]) hL;have hL1:upd H L (.lst [V.ref t0,V.ref t1,V.ref t2,V.ref t3]) L=some (.lst [V.ref t0,V.ref t1,V.ref t2,V.ref t3]):=Af;rw[show(List.take [V.int (qs 0:Int),V.int (qs 1:Int),V.int (qs 2:Int),V.int (qs 3:Int)].length [V.ref t0,V.ref t1,V.ref t2,V.ref t3])=[V.ref t0,V.ref t1,V.ref t2,V.ref t3]from rfl];generalize upd H L (.lst [V.ref t0,V.ref t1,V.ref t2,V.ref t3])=H1 at s1 hL1⊢;have hg1:=hg.same s1;refine xwn rfl rfl hg1.hp (BI g) rfl (xq4 rfl rfl (SqL.of hL1) (Al (j:=0) rfl) (xq4 rfl rfl (SqT.of (s1 _ _ p0)) (Al (j:=3) rfl) (xwi rfl rfl rfl (SqL.of hL1) (Al (j:=1) rfl) (xq4 rfl rfl (SqT.of (s1 _ _ p1)) (Al (j:=2) rfl) ?_))));refine xwi rfl rfl rfl (SqL.of hL1) (Al (j:=2) rfl) (xq4 rfl rfl (SqT.of (s1 _ _ p2)) (Al (j:=1) rfl) (xwi rfl rfl rfl (SqL.of hL1) (Al (j:=3) rfl) (xq4 rfl rfl (SqT.of (s1 _ _ p3)) (Al (j:=0) rfl) ⟨(by show 4<=sizeLine;decide),λt4 ht4=>?_⟩)));have s2:=AJ (o:=.tup [.int (ps 0 3),.int (ps 1 2),.int (ps 2 1),.int (ps 3 0)]) ht4;obtain⟨_,n0⟩:=dp.sub 0 A3;obtain⟨_,n1⟩:=dp.sub 1 A3;obtain⟨_,n2⟩:=dp.sub 2 A3;obtain⟨_,n3⟩:=dp.sub 3 A3;exact⟨g,G,t4,ps 0 3,ps 1 2,ps 2 1,ps 3 0,(n:Int),rfl,hg1.same s2,ok,Af,⟨n0.hw,n1.hz,n2.hy,n3.hx⟩,by lia,by lia,λm G' H' fr hg' go e=>k m G' H' ((AA.fr s1).trans ((AA.fr s2).trans fr)) hg' go e⟩
inductive SpBA(a:Ad)(vs:List V)(H:Hp)(Q:VK):Prop
 |mk (g:GA) (G:Gv) (i n:Nat) (qs:Nat->Nat) (ps:Nat->Nat->Nat) (_:vs=[.ref g.p,.int i]) (_:Bc a H g G) (_:Mc G n i qs ps) (_:n<47) (_:(BA n ps->∀H',AA H H'->Q (.bl true) H')) (_:(¬BA n ps->∀H',AA H H'->Q (.bl false) H')):SpBA a vs H Q
def spBA(a:Ad):Sp:=λvs H Q _=>SpBA a vs H Q
theorem ok_ba{f:Addr}{fd:FuncData}(F:Fun K "is_bare_around" "is_bare_around" DB f fd)(T:Top K mg a):AK P w K mg base CX0 1 f fd DM (spBA a):=by
 refine F.ok Bz (λvs H Q E h=>?_) (λcdv A outer s H vs Q E hr h=>?_)
 ·obtain⟨g,G,i,n,qs,ps,rfl,_⟩:=h;rfl
 ·obtain⟨g,G,i,n,qs,ps,rfl,fu,dp,n47,k1,k2⟩:=h;obtain⟨q,nd⟩:=dp.node;have lq:=nd.lev;obtain⟨ts,t,h3,et,ht⟩:=Gw fu.at' nd;refine⟨_,(Ab (Aq (i:=2) Bz.nd rfl (Or.inl rfl) (Aj Av (Ax (pv 0) rfl) (AF BG (Aj Av (Ax (pv 0) rfl) (pv 1) (λ_ _=>rfl)) Ae) (λ_ _=>rfl))) (Ab (EH Y4 rfl (Mj true rfl T.b_enumerate (Aa (Aj Av (Ax (pv 0) rfl) (pv 1) (λ_ _=>rfl)) Ac)) (Lp rfl (Cg (BO (i:=3) Bz.nd rfl (Or.inl rfl)) (Cg (BO (i:=4) Bz.nd rfl (Or.inl rfl)) IB))) (Ag (EH Y4 rfl (Mj true rfl T.b_enumerate (Aa (Aj Av (Ax (pv 0) rfl) (pv 4) (λ_ _=>rfl)) Ac)) (Lp rfl (Cg (BO (i:=5) Bz.nd rfl (Or.inl rfl)) (Cg (BO (i:=6) Bz.nd rfl (Or.inl rfl)) IB))) (Ag (AQ (PW.pt (MX (AD JI (pv 6) (pv 2) (AI _)) (JB (AD JI (pv 5) (AF BG Ae (pv 3)) (AI _))))) (Ag (Aw Ot)) AE))))) (Ag (Aw Ot)))),?_⟩
  try dsimp only[cxK]
  refine xwf rfl rfl fu.at'.hp T.cl_Grove T.na_Grove_bares (Iw g) (xwf rfl rfl fu.at'.hp T.cl_Grove T.na_Grove_levels (EW g) (xwi rfl rfl rfl (SqL.of fu.at'.lv) (Al (by rw[B7,nd.g];rfl)) (xq2 rfl rfl (xq4 rfl rfl (SqL.of fu.br) (by rw[show q.lev-2=(n:Int) by lia];exact Al (bareL_at' A0)) ?_))));refine xwf rfl rfl fu.at'.hp T.cl_Grove T.na_Grove_parts (Ce g) (xwi rfl rfl rfl (SqL.of h3) (Al et) ⟨t,rfl,⟨_,SqT.of ht⟩,?_⟩);refine JT (b:=true) (xs:=[.int (qs 0:Int),.int (qs 1:Int),.int (qs 2:Int),.int (qs 3:Int)]) (λj σ H2=>AA H H2/\(∃u3 u4 u5 u6:Option V,σ=[some (.ref g.p),some (.int i),some (.int (bareN n:Int)),u3,u4,u5,u6])/\∀k' j',k'<j->k'<4->j'<4->j'+k'≠3->ps k' j'=bareN n) ⟨AA.refl H,⟨none,none,none,none,rfl⟩,λk' j' h=>absurd h (L7 _)⟩ (λj σ H2 _ z=>SqT.of (z.1 _ _ ht)) ?_ ?_
  ·rintro j v σ H2 T' ev ⟨sm,⟨u3,u4,u5,u6,rfl⟩,al⟩ nT;have hj:j<4:=(B4.mp ev).1;have ev':v=.int (qs j:Int):=by
    match j,hj,ev with
    |0,_,ev=>cases ev;rfl
    |1,_,ev=>cases ev;rfl
    |2,_,ev=>cases ev;rfl
    |3,_,ev=>cases ev;rfl
   subst ev';obtain⟨qk,ndk⟩:=dp.sub j hj;have s2:=sm.trans (AJ (o:=.tup [.int j,.int (qs j)]) nT);refine Rf Af ?_;generalize upd H2 T' (.tup [.int j,.int (qs j)])=H3 at s2⊢;obtain⟨ts3,t3,h33,et3,ht3⟩:=Gw (fu.at'.same s2) ndk;refine xwf rfl rfl ((fu.at'.same s2).hp) T.cl_Grove T.na_Grove_parts (Ce g) (xwi rfl rfl rfl (SqL.of h33) (Al et3) ⟨t3,rfl,⟨_,SqT.of ht3⟩,?_⟩);refine JT (b:=true) (xs:=[.int (ps j 0:Int),.int (ps j 1:Int),.int (ps j 2:Int),.int (ps j 3:Int)]) (λj2 σ H4=>AA H3 H4/\(∃u5 u6:Option V,σ=[some (.ref g.p),some (.int i),some (.int (bareN n:Int)),some (.int j),some (.int (qs j)),u5,u6])/\∀j',j'<j2->j'<4->j'+j≠3->ps j j'=bareN n) ⟨AA.refl H3,⟨_,_,rfl⟩,λj' h=>absurd h (L7 _)⟩ (λj2 σ H4 _ z=>SqT.of (z.1 _ _ ht3)) ?_ ?_
   ·rintro j2 v σ H4 T2 ev ⟨sm2,⟨u5,u6,rfl⟩,al2⟩ nT2;have hj2:j2<4:=(B4.mp ev).1;have ev':v=.int (ps j j2:Int):=by
     match j2,hj2,ev with
     |0,_,ev=>cases ev;rfl
     |1,_,ev=>cases ev;rfl
     |2,_,ev=>cases ev;rfl
     |3,_,ev=>cases ev;rfl
    subst ev';have s4:=sm2.trans (AJ (o:=.tup [.int j2,.int (ps j j2)]) nT2);refine Rf Af ?_;generalize upd H4 T2 (.tup [.int j2,.int (ps j j2)])=H5 at s4⊢;refine xw2 rfl rfl ⟨rfl,(xq1 rfl ?_)⟩;refine Vj (b2:=!decide (V.int (j2:Int)=V.int (3-(j:Int)))) (λ_ Q' q=>(xw2 rfl rfl (xq2 rfl rfl ⟨rfl,(xq1 rfl q)⟩))) ?_;refine LY (λhc=>?_) (λhc=>?_)
    ·refine k2 (λba=>?_) H5 (s2.trans s4);rw[O3]at hc;have c2:¬j2+j=3:=λz=>by
      have:=hc.2;rw[V9 (show V.int (j2:Int)=V.int (3-(j:Int)) by congr 1;lia)]at this;cases this
     have c1:=hc.1;rw[ba j j2 hj hj2 c2,V9 rfl]at c1;cases c1
    ·refine⟨s4,⟨_,_,rfl⟩,λj' h1 h2 h3'=>?_⟩;rcases R9.mp h1 with h|h
     ·exact al2 j' h h2 h3'
     ·subst h;refine W5 λz=>hc ?_;rw[W0 (show ¬V.int (ps j j':Int)=V.int (bareN n:Int) by intro q;injection q with q;exact z (W6 q)),W0 (show ¬V.int (j':Int)=V.int (3-(j:Int)) by intro q;injection q with q;lia)];rfl
   ·rintro σ H4 ⟨sm2,⟨u5,u6,rfl⟩,al2⟩;refine⟨s2.trans sm2,⟨_,_,_,_,rfl⟩,λk' j' h1 h2 h3' h4=>?_⟩;rcases R9.mp h1 with h|h
    ·exact al k' j' h h2 h3' h4
    ·subst h;exact al2 j' h3' h3' h4
  ·rintro σ H2 ⟨sm,⟨u3,u4,u5,u6,rfl⟩,al⟩;exact k1 (λk' j' h1 h2 h3'=>al k' j' h1 h1 h2 h3') H2 sm
end
theorem Em.lev{G:Gv}:∀{l f r:Nat},Ak G f (l:Int)->Em G l f r->∃n,n+1<=l/\Ak G r ((n+1:Nat):Int)
 |0,_,_,_,h=>h.elim
 |1,f,r,hl,h=>by
  have h:r=f:=h;subst h;exact⟨0,B6 _,hl⟩
 |n+2,f,r,hl,h=>by
  apply AT;intro G_ hG_;obtain⟨qs,ps,d,h⟩:=h;apply hG_;clear hG_ G_;rcases h with ⟨_,rfl⟩|⟨_,m,e,h⟩
  ·exact⟨n+1,B6 _,hl⟩
  ·obtain⟨k,hk,lk⟩:=Em.lev (l:=n+1) ⟨_,e,by show(n:Int)+1=_;lia⟩ h;exact⟨k,by lia,lk⟩
section
variable{P:Program}{w:World}{K:PySem.W.Frag}{mg:Str->Option Value}{base:Heap}{a:Ad}
inductive Yh(a:Ad)(vs:List V)(H:Hp)(Q:VK):Prop
 |mk (g:GA) (G:Gv) (f n:Nat) (_:vs=[.ref g.p,.int f]) (_:Bc a H g G) (_:Ak G f ((n+1:Nat):Int)) (_:G.length<8800000) (_:∀(r:Nat)(G':Gv)(H':Hp),Fr g H H'->Bc a H' g G'->AG G G' 48->Em G' (n+1) f r->Q (.int r) H'):Yh a vs H Q
def MD(a:Ad):Sp:=λvs H Q _=>Yh a vs H Q
theorem ok_trim{f:Addr}{fd:FuncData}(F:Fun K "trimmed" "trimmed" Lh f fd)(T:Top K mg a)(a9:BN P w K mg base CX0 3 a.c_Grove "level_of" Bb (LP a))(b6:Cal P w K mg base CX0 1 "is_bare_around" DM (spBA a))(bV:Cal P w K mg base CX0 3 "middle_of" Ik (Vu a)):AK P w K mg base CX0 4 f fd FQ (MD a):=by
 refine F.ok IV (λvs H Q E h=>?_) (λcdv A outer s H vs Q E hr h=>?_)
 ·apply AT;intro G_ hG_;obtain⟨g,G,f',n,rfl,_⟩:=h;apply hG_;clear hG_ G_;rfl
 ·apply AT;intro G_ hG_;obtain⟨g,G,f',n,rfl,fu,hl,few,k⟩:=h;obtain⟨q,eq,lq⟩:=id hl;apply hG_;clear hG_ G_;have n48:n+1<=48:=by have:=(fu.ok.lev eq).2;lia
  refine⟨_,(Ab (AQ (AD Io (AB (pv 0) a9 (rm hr) An (Aa (pv 1) Ac)) (BP rfl T.k_LEAST_LEVEL) (AI _)) (Ag AZ) AE) (Ab (Aq (i:=2) IV.nd rfl (Or.inl rfl) (pv 1)) (Ab (Ig Y4 (PW.pt (MX (AD VU (Aj Av (Ax (pv 0) rfl) (pv 2) (λ_ _=>rfl)) (BP rfl T.k_LEAST_LEVEL) (AI _)) (JB (DG (Au b6 (rm hr) rfl An (Aa (pv 0) (Aa (pv 2) Ac))))))) (Ag (Aq (i:=2) IV.nd rfl (Or.inl rfl) (Au bV (rm hr) rfl An (Aa (pv 0) (Aa (pv 2) Ac)))))) (Ag (Aw (pv 2)))))),?_⟩
  try dsimp only[cxK]
  refine xq1 rfl ⟨g.p,g.dx,(xq1 rfl ⟨fu.at'.hp,DP g,(xq1 rfl ⟨g,G,f',q,rfl,fu.at',eq,(xq2 rfl rfl (xq1 rfl ?_))⟩)⟩)⟩;rw[W0 (by lia:¬q.lev<1)];refine Bw (xq1 rfl ?_);refine⟨λm σ H2=>∃(G':Gv)(c:Nat),σ=[some (.ref g.p),some (.int f'),some (.int c)]/\Fr g H H2/\Bc a H2 g G'/\AG G G' (n-m)/\m<=n/\Ak G' c ((m+1:Nat):Int)/\∀(r:Nat)(G'':Gv)(k:Nat),AG G' G'' k->Em G'' (m+1) c r->Em G'' (n+1) f' r,⟨n,G,f',rfl,Fr.refl g H,fu,(AG.refl fu.ok).mono A0,B6 _,hl,λ_ _ _ _ h=>h⟩,?_⟩;rintro m σ H2 z3_;apply AT;intro G_ hG_;obtain⟨G',c,rfl,fr,fu2,go,mn,lc,tr⟩:=z3_;apply hG_;clear hG_ G_;have gf:=go.few;obtain⟨qc,ec,lqc⟩:=id lc;refine xwf rfl rfl fu2.at'.hp T.cl_Grove T.na_Grove_levels (EW g) (xwi rfl rfl rfl (SqL.of fu2.at'.lv) (Al (by rw[B7,ec];rfl)) (xq2 rfl rfl (xq1 rfl ?_)));cases m with
  |zero =>
   rw[W0 (by lia:¬(1:Int)<qc.lev)];exact Bw (Bw (xq1 rfl (k c G' H2 fr fu2 (go.mono A0) (tr c G' 0 (AG.refl fu2.ok) rfl))))
  |succ m =>
   rw[V9 (by lia:(1:Int)<qc.lev)];obtain⟨qs,ps,dp⟩:=deep_of fu2.ok lc;refine CK (xw2 rfl rfl ⟨g,G',c,m,qs,ps,rfl,fu2,dp,by lia,λba H3 s3=>⟨true,rfl,CK ?_⟩,λnba H3 s3=>⟨false,rfl,Bw ?_⟩⟩)
   ·refine⟨fun σ' H'=>∃(G2:Gv)(c2:Nat),σ'=[some (.ref g.p),some (.int f'),some (.int c2)]/\Fr g H H'/\Bc a H' g G2/\AG G G2 (n-m)/\m<=n/\Ak G2 c2 ((m+1:Nat):Int)/\∀(r:Nat)(G'':Gv)(k:Nat),AG G2 G'' k->Em G'' (m+1) c2 r->Em G'' (n+1) f' r,fun σ' H' z=>⟨m,by lia,z⟩,?_⟩;refine xw2 rfl rfl ⟨g,G',c,m,qs,ps,rfl,fu2.at'.same s3,fu2.ok,dp,by lia,by lia,λc2 G2 H4 fr4 hg4 go4 e4=>?_⟩;have fu4:=(fu2.same s3).fr fr4 hg4 go4;refine⟨G2,c2,rfl,fr.trans ((AA.fr s3).trans fr4),fu4,(go.trans go4).mono A0,by lia,⟨_,e4,by show(m:Int)+1=_;lia⟩,λr G'' k' go5 t5=>?_⟩;exact tr r G'' _ (go4.trans go5) ⟨qs,ps,dp.app (go4.trans go5),.inr ⟨ba,c2,go5.get e4,t5⟩⟩
   ·exact xq1 rfl (k c G' H3 (fr.trans (AA.fr s3)) (fu2.same s3) (go.mono A0) (tr c G' 0 (AG.refl fu2.ok) ⟨qs,ps,dp,.inl ⟨nba,rfl⟩⟩))
def LK(G:Gv)(n f:Nat):Nat->Nat->Prop
 |0,w=>w=f
 |k+1,w=>∃u,LK G n f k u/\Wid G (n+k) u w
theorem LK.app{G G':Gv}{m n f:Nat}(go:AG G G' m):∀{k w:Nat},LK G n f k w->LK G' n f k w
 |0,_,h=>h
 |k+1,w,h=>by
  obtain⟨u,h1,h2⟩:=h;exact⟨u,LK.app go h1,h2.app go⟩
inductive SpWO(a:Ad)(vs:List V)(H:Hp)(Q:VK):Prop
 |mk (g:GA) (G:Gv) (f n:Nat) (t:Addr) (x y wd ht:Int) (_:vs=[.ref g.p,.int f,.ref t]) (_:Bc a H g G) (_:Ak G f ((n+1:Nat):Int)) (_:n<=40) (_:H t=some (.tup [.int x,.int y,.int wd,.int ht])) (_:FZ x y wd ht (2^40)) (_:G.length<8700000) (_:∀(k w:Nat)(G':Gv)(H':Hp),Fr g H H'->Bc a H' g G'->AG G G' (5*k)->n+k<=40->LK G' n f k w->Ak G' w ((n+k+1:Nat):Int)->FZ x y wd ht (2^(n+k))->(∀j,j<k->¬FZ x y wd ht (2^(n+j)))->Q (.int w) H'):SpWO a vs H Q
def spWO(a:Ad):Sp:=λvs H Q _=>SpWO a vs H Q
theorem ok_wo{f:Addr}{fd:FuncData}(F:Fun K "widened_over" "widened_over" Ez f fd)(T:Top K mg a)(aH:Cal P w K mg base CX0 1 "lies_within" CO Qw)(aI:Cal P w K mg base CX0 4 "reach_of" DK (IA a))(bB:Cal P w K mg base CX0 4 "widened" IE (ST a)):AK P w K mg base CX0 5 f fd EI (spWO a):=by
 refine F.ok Ef (λvs H Q E h=>?_) (λcdv A outer s H vs Q E hr h=>?_)
 ·apply AT;intro G_ hG_;obtain⟨g,G,f',n,t,x,y,wd,ht,rfl,_⟩:=h;apply hG_;clear hG_ G_;rfl
 ·apply AT;intro G_ hG_;obtain⟨g,G,f',n,t,x,y,wd,hh,rfl,fu,hl,n40,ht,li,few,k⟩:=h;apply hG_;clear hG_ G_;refine⟨_,(Ab (Aq (i:=3) Ef.nd rfl (Or.inl rfl) (pv 1)) (Ab (Ig Y4 (DH (DG (Au aH (rm hr) rfl An (Aa (pv 2) (Aa (Au aI (rm hr) rfl An (Aa (pv 0) (Aa (pv 3) Ac))) Ac))))) (Ag (Aq (i:=3) Ef.nd rfl (Or.inl rfl) (Au bB (rm hr) rfl An (Aa (pv 0) (Aa (pv 3) Ac)))))) (Ag (Aw (pv 3))))),?_⟩
  try dsimp only[cxK]
  refine xq1 rfl ?_;refine⟨λm σ H2=>∃(G':Gv)(c j:Nat),σ=[some (.ref g.p),some (.int f'),some (.ref t),some (.int c)]/\Fr g H H2/\Bc a H2 g G'/\AG G G' (5*j)/\n+j+m=40/\Ak G' c ((n+j+1:Nat):Int)/\LK G' n f' j c/\∀i,i<j->¬FZ x y wd hh (2^(n+i)),⟨40-n,G,f',0,rfl,Fr.refl g H,fu,AG.refl fu.ok,by lia,hl,rfl,λi hi=>absurd hi (L7 _)⟩,?_⟩;rintro m σ H2 z3_;apply AT;intro G_ hG_;obtain⟨G',c,j,rfl,fr,fu2,go,e40,lc,wn,no⟩:=z3_;apply hG_;clear hG_ G_;have gf:=go.few;have ht2:=fr.tup fu.at' ht;refine xq1 rfl (xq1 rfl (xq1 rfl ⟨g,G',c,n+j,rfl,fu2.at',lc,by lia,t,x,y,wd,hh,_,rfl,ht2,_,rfl,?_⟩));by_cases hL:FZ x y wd hh (2^(n+j))
  ·rw[V9 hL];exact Bw (xq1 rfl (k j c G' H2 fr fu2 go A0 wn lc hL no))
  ·rw[W0 hL];have m0:m≠0:=λz=>by
    subst z;have:n+j=40:=by lia
    rw[this]at hL;exact hL li
   refine CK ⟨fun σ' H'=>∃(G2:Gv)(c2 j2:Nat),σ'=[some (.ref g.p),some (.int f'),some (.ref t),some (.int c2)]/\Fr g H H'/\Bc a H' g G2/\AG G G2 (5*j2)/\n+j2+(m-1)=40/\Ak G2 c2 ((n+j2+1:Nat):Int)/\LK G2 n f' j2 c2/\∀i,i<j2->¬FZ x y wd hh (2^(n+i)),fun σ' H' z=>⟨m-1,by lia,z⟩,?_⟩;refine xw2 rfl rfl ⟨g,G',c,n+j,rfl,fu2,lc,by lia,by lia,λc2 G2 H3 fr3 hg3 go3 wi=>?_⟩;refine⟨G2,c2,j+1,rfl,fr.trans fr3,fu2.fr fr3 hg3 go3,(go.trans go3).mono A0,by lia,?_,⟨c,wn.app go3,wi⟩,λi hi=>?_⟩
   ·have:=wi.lev;rw[show n+(j+1)+1=n+j+2 by lia];exact this
   ·rcases R9.mp hi with h|h
    ·exact no i h
    ·rw[h];exact hL
end
def st4(x y z w k j:Nat)(i:Nat):Nat:=if i=k then j else f4 x y z w i
def quad(l x y:Nat):Nat:=x/2^l+2*(y/2^l)
theorem Fo{l x:Nat}(h:x<2^(l+1)):x/2^l<2:=by
 rw[U2 (R5 A3),Q8,<-D7];exact h
theorem CS{l x y:Nat}(hx:x<2^(l+1))(hy:y<2^(l+1)):quad l x y<4:=by
 have h1:=Fo hx;have h2:=Fo hy;unfold quad;lia
theorem FP(l:Nat):((2^l:Nat):Int)=(2:Int)^l:=F3 2 l
theorem quad_c(l x y:Nat):(x:Int)/2^l+2*((y:Int)/2^l)=((quad l x y:Nat):Int):=by
 unfold quad;rw[<-FP,N1,O4,T3,T3];rfl
theorem mod_c(l x:Nat):(x:Int)%2^l=((x%2^l:Nat):Int):=by rw[<-FP,Int.natCast_emod]
theorem set4(x y z w j:Nat){k:Nat}(hk:k<4):([V.int (x:Int),V.int (y:Int),V.int (z:Int),V.int (w:Int)].set k (.int j))=[V.int (st4 x y z w k j 0:Int),V.int (st4 x y z w k j 1:Int),V.int (st4 x y z w k j 2:Int),V.int (st4 x y z w k j 3:Int)]:=by
 match k,hk with
 |0,_=>rfl
 |1,_=>rfl
 |2,_=>rfl
 |3,_=>rfl
def Rep(G:Gv)(s:Nat):Nat->Nat->Nat->Nat->Nat->Prop
 |0,_,_,_,r=>r=s
 |l+1,i,x,y,r=>∃(q:Sq)(a b c d j:Nat),GN G l i q a b c d/\Rep G s l (f4 a b c d (quad l x y)) (x%2^l) (y%2^l) j/\G[r]?=some ⟨[(st4 a b c d (quad l x y) j 0:Int),(st4 a b c d (quad l x y) j 1:Int),(st4 a b c d (quad l x y) j 2:Int),(st4 a b c d (quad l x y) j 3:Int)],(l:Int)+1⟩
theorem Rep.app{G G':Gv}{m s:Nat}(go:AG G G' m):∀{l i x y r:Nat},Rep G s l i x y r->Rep G' s l i x y r
 |0,_,_,_,_,h=>h
 |l+1,i,x,y,r,h=>by
  obtain⟨q,a,b,c,d,j,nd,h1,e⟩:=h;exact⟨q,a,b,c,d,j,nd.app go,Rep.app go h1,go.get e⟩
theorem Rep.lev{G:Gv}(ok:GOk G){s:Nat}(hs:s<8):∀{l i x y r:Nat},Rep G s l i x y r->Ak G r (l:Int)
 |0,_,_,_,r,h=>by
  have h:r=s:=h;subst h;exact⟨_,ok.leaf r hs,rfl⟩
 |l+1,_,_,_,_,h=>by
  obtain⟨q,a,b,c,d,j,nd,h1,e⟩:=h;exact⟨_,e,by show(l:Int)+1=_;lia⟩
section
variable{P:Program}{w:World}{K:PySem.W.Frag}{mg:Str->Option Value}{base:Heap}{a:Ad}
inductive SpRep(a:Ad)(n:Nat)(vs:List V)(H:Hp)(Q:VK):Prop
 |mk (g:GA) (G:Gv) (i l x y s:Nat) (_:vs=[.ref g.p,.int i,.int x,.int y,.int s]) (_:AH a H g G) (_:GOk G) (_:Ak G i (l:Int)) (_:l<n) (_:x<2^l) (_:y<2^l) (_:s<8) (_:G.length+l<8900000) (_:∀(r:Nat)(G':Gv)(H':Hp),Fr g H H'->AH a H' g G'->AG G G' l->Rep G' s l i x y r->Q (.int r) H'):SpRep a n vs H Q
def SU(a:Ad)(n:Nat):Sp:=λvs H Q _=>SpRep a n vs H Q
theorem VX{f:Addr}{fd:FuncData}(F:Fun K "replaced" "replaced" IW f fd)(T:Top K mg a)(hm:mg "replaced" = some (.ref f))(Bi:CH K fd EJ [])(aN:BN P w K mg base CX0 3 a.c_Grove "leaf" Ep (OX a))(a8:BN P w K mg base CX0 2 a.c_Grove "linked" AN (Ee a)):∀n,AK P w K mg base CX0 (n+4) f fd EJ (SU a n)
 |0=>by
  refine F.ok De (λvs H Q E h=>?_) (λcdv A outer s H vs Q E hr h=>?_)
  ·obtain⟨g,G,i,l,x,y,s,rfl,_,_,_,h0,_⟩:=h;exact absurd h0 (L7 _)
  ·obtain⟨g,G,i,l,x,y,s,rfl,_,_,_,h0,_⟩:=h;exact absurd h0 (L7 _)
 |n+1=>by
  have bF:Cal P w K mg base CX0 (n+4) "replaced" EJ (SU a n):=⟨f,fd,VX F T hm Bi aN a8 n,hm,F.kp,Bi⟩
  refine F.ok De (λvs H Q E h=>?_) (λcdv A outer s H vs Q E hr h=>?_)
  ·obtain⟨g,G,i,l,x,y,s,rfl,_⟩:=h;rfl
  ·obtain⟨g,G,i,l,x,y,st,rfl,hg,ok,hl,ln,hx,hy,s8,few,k⟩:=h;obtain⟨q0,e0,l0⟩:=id hl;refine⟨_,(Ab (Aq (i:=5) De.nd rfl (Or.inl rfl) (Aj Av (Ax (pv 0) rfl) (pv 1) (λ_ _=>rfl))) (Ab (AQ (AD Ea (pv 5) Ae (AI _)) (Ag (Aw (AB (pv 0) aN (rm hr) An (Aa (pv 4) Ac)))) AE) (Ab (Aq (i:=6) De.nd rfl (Or.inl rfl) (AF Db Ae (AF BG (pv 5) Ae))) (Ab (Aq (i:=7) De.nd rfl (Or.inl rfl) (BB PX rfl T.b_list PyProof.Rows.boot_list (Aa (Aj Av (Ax (pv 0) rfl) (pv 1) (λ_ _=>rfl)) Ac))) (Ab (Aq (i:=8) De.nd rfl (Or.inl rfl) (AF Bl (AF QO (pv 2) (pv 6)) (AF ET Ae (AF QO (pv 3) (pv 6))))) (Ab (MY (Au bF (rm hr) rfl An (Aa (pv 0) (Aa (Aj Av (pv 7) (pv 8) (λ_ _=>rfl)) (Bq Cd (pv 2) (pv 6) (Bq Cd (pv 3) (pv 6) (Aa (pv 4) Ac)))))) (MZ (pv 7) (pv 8) GZ)) (Ag (Aw (AB (pv 0) a8 (rm hr) An (Aa (BB BV rfl T.b_tuple Z1 (Aa (pv 7) Ac)) Ac)))))))))),?_⟩
   try dsimp only[cxK]
   refine⟨_,rfl,g.p,_,g.dx,_,_,rfl,hg.hp,T.cl_Grove,T.na_Grove_levels,EW g,_,rfl,g.lv,_,(i:Int),.int q0.lev,rfl,rfl,SqL.of hg.lv,Al (by rw[B7,e0];rfl),?_⟩;cases l with
   |zero =>
    rw[l0];exact xq1 rfl ⟨rfl,(xq1 rfl (CK (xwn rfl rfl hg.hp (Tk g) rfl ⟨g.p,(st:Int),rfl,by lia,by lia,k st G H (Fr.refl g H) hg (AG.refl ok) rfl⟩)))⟩
   |succ l =>
    have l0':q0.lev=(l:Int)+1:=by rw[l0];lia
    have l48:=(ok.lev e0).2;have lt64:=pow2_lt (l:=l) A0;have lpos:=Ph l;obtain⟨q,p0,p1,p2,p3,nd⟩:=BH ok hl;obtain⟨ts,t,h3,et,ht⟩:=Gw hg nd;refine xq1 rfl ⟨rfl,(xq1 rfl ?_)⟩;rw[W0 (by intro z;injection z with z;lia)];refine Bw (xwb rfl rfl rfl (xq2 rfl rfl ⟨⟨by lia,by lia,by decide⟩,?_⟩));rw[show(λ(i j:Int)=>V.int (i*2^j.toNat)) 1 (q0.lev-1)=V.int (2^l)from W8 V.int (OR l l0')];refine xwf rfl rfl hg.hp T.cl_Grove T.na_Grove_parts (Ce g) (xwi rfl rfl rfl (SqL.of h3) (Al et) ⟨t,(xq1 rfl ⟨.inr (SqT.of ht),λL hL=>?_⟩)⟩);have aL:Ap g L:=Ap.new hg hL;have s1:=AJ (o:=.lst [.int p0,.int p1,.int p2,.int p3]) hL;have hL1:upd H L (.lst [.int p0,.int p1,.int p2,.int p3]) L=some (.lst [.int p0,.int p1,.int p2,.int p3]):=Af;generalize upd H L (.lst [.int p0,.int p1,.int p2,.int p3])=H1 at s1 hL1⊢;have hg1:=hg.same s1;have qk:=CS hx hy;refine xw2 rfl rfl (xq2 rfl rfl ⟨⟨lpos,lt64⟩,(xw2 rfl rfl (xq2 rfl rfl ⟨⟨lpos,lt64⟩,(xq2 rfl rfl ⟨.inl ⟨by decide,by decide⟩,(xq2 rfl rfl ?_)⟩)⟩))⟩);rw[show(λ(i j:Int)=>V.int (i+j)) ((x:Int)/2^l) (2*((y:Int)/2^l))=V.int ((quad l x y:Nat):Int)from W8 V.int (quad_c l x y)];have atq:[V.int (p0:Int),V.int (p1:Int),V.int (p2:Int),V.int (p3:Int)][quad l x y]?=some (.int (f4 p0 p1 p2 p3 (quad l x y):Int)):=by
     generalize quad l x y=kk at qk⊢
     match kk,qk with
     |0,_=>rfl
     |1,_=>rfl
     |2,_=>rfl
     |3,_=>rfl
    have lvq:Ak G (f4 p0 p1 p2 p3 (quad l x y)) (l:Int):=(nd.nat qk).2;refine xw3 rfl rfl rfl (xq4 rfl rfl (SqL.of hL1) (Al atq) (xw2 rfl rfl (xq2 rfl rfl ⟨lpos,(xw2 rfl rfl (xq2 rfl rfl ⟨lpos,(xq1 rfl ?_)⟩))⟩)));refine⟨g,G,f4 p0 p1 p2 p3 (quad l x y),l,x%2^l,y%2^l,st,by rw[<-mod_c,<-mod_c];rfl,hg1,ok,lvq,by lia,J7 _ (R5 A3),J7 _ (R5 A3),s8,by lia,λj G1 H2 fr hg2 go rp=>?_⟩;have gf:=go.few;have hL2:=fr.get aL hL1;refine xw2 rfl rfl ⟨L,_,((quad l x y:Nat):Int),quad l x y,rfl,rfl,hL2,by unfold ixN;rw[W2 A0,W2 (by show((quad l x y:Nat):Int)<((4:Nat):Int);lia),J1],?_⟩;rw[set4 p0 p1 p2 p3 j qk];have hg3:=hg2.put (o:=.lst [V.int (st4 p0 p1 p2 p3 (quad l x y) j 0:Int),V.int (st4 p0 p1 p2 p3 (quad l x y) j 1:Int),V.int (st4 p0 p1 p2 p3 (quad l x y) j 2:Int),V.int (st4 p0 p1 p2 p3 (quad l x y) j 3:Int)]) hL2 aL.1 aL.2.1;have hL3:upd H2 L (.lst [V.int (st4 p0 p1 p2 p3 (quad l x y) j 0:Int),V.int (st4 p0 p1 p2 p3 (quad l x y) j 1:Int),V.int (st4 p0 p1 p2 p3 (quad l x y) j 2:Int),V.int (st4 p0 p1 p2 p3 (quad l x y) j 3:Int)]) L=some (.lst [V.int (st4 p0 p1 p2 p3 (quad l x y) j 0:Int),V.int (st4 p0 p1 p2 p3 (quad l x y) j 1:Int),V.int (st4 p0 p1 p2 p3 (quad l x y) j 2:Int),V.int (st4 p0 p1 p2 p3 (quad l x y) j 3:Int)]):=Af;have fr3:Fr g H (upd H2 L (.lst [V.int (st4 p0 p1 p2 p3 (quad l x y) j 0:Int),V.int (st4 p0 p1 p2 p3 (quad l x y) j 1:Int),V.int (st4 p0 p1 p2 p3 (quad l x y) j 2:Int),V.int (st4 p0 p1 p2 p3 (quad l x y) j 3:Int)])):=λb o e m1 m2 m3=>by
     rw[Ao (Ar e hL)];exact fr _ _ (s1 _ _ e) m1 m2 m3
    generalize upd H2 L (.lst [V.int (st4 p0 p1 p2 p3 (quad l x y) j 0:Int),V.int (st4 p0 p1 p2 p3 (quad l x y) j 1:Int),V.int (st4 p0 p1 p2 p3 (quad l x y) j 2:Int),V.int (st4 p0 p1 p2 p3 (quad l x y) j 3:Int)])=H3 at hg3 hL3 fr3⊢;refine xwn rfl rfl hg3.hp (BI g) rfl ⟨L,(xq1 rfl (.inl ⟨SqL.of hL3,λt4 ht4=>?_⟩))⟩;have s4:=AJ (o:=.tup [V.int (st4 p0 p1 p2 p3 (quad l x y) j 0:Int),V.int (st4 p0 p1 p2 p3 (quad l x y) j 1:Int),V.int (st4 p0 p1 p2 p3 (quad l x y) j 2:Int),V.int (st4 p0 p1 p2 p3 (quad l x y) j 3:Int)]) ht4;have ndG:=nd.app go;have lj:=rp.lev go.ok s8;have lst:∀ii,ii<4->Ak G1 (st4 p0 p1 p2 p3 (quad l x y) j ii) (l:Int):=λii hi=>by
     unfold st4;split
     ·exact lj
     ·exact(ndG.nat hi).2
    refine⟨g,G1,t4,_,_,_,_,(l:Int),rfl,hg3.same s4,go.ok,Af,⟨lst 0 A3,lst 1 A3,lst 2 A3,lst 3 A3⟩,by lia,by lia,λr G2 H4 fr4 hg4 go4 e4=>?_⟩;exact k r G2 H4 (fr3.trans ((AA.fr s4).trans fr4)) hg4 (go.trans go4) ⟨q,p0,p1,p2,p3,j,nd.app (go.trans go4),rp.app go4,e4⟩
structure IK(G:Gv)(n f:Nat)(x y:Int)(s r:Nat)(k w i:Nat):Prop where
 le:n+k<=40
 wid:LK G n f k w
 lw:Ak G w ((n+k+1:Nat):Int)
 li:FZ x y 1 1 (2^(n+k))
 no:∀j,j<k->¬FZ x y 1 1 (2^(n+j))
 rep:Rep G s (n+k+1) w (x+2^(n+k)).toNat (y+2^(n+k)).toNat i
 tr:Em G (n+k+1) i r
theorem Ts{x y:Int}{m:Nat}(h:FZ x y 1 1 (2^m)):(x+2^m).toNat<2^(m+1)/\(y+2^m).toNat<2^(m+1)/\0<=x+2^m/\0<=y+2^m:=by
 obtain⟨h1,h2,h3,h4⟩:=h;have e:=FP (m+1);rw[Ci]at e;have p:=Ph m;refine⟨?_,?_,by lia,by lia⟩<;>lia
inductive TN(a:Ad)(vs:List V)(H:Hp)(Q:VK):Prop
 |mk (g:GA) (G:Gv) (f n:Nat) (x y:Int) (s:Nat) (_:vs=[.ref g.p,.int f,.int x,.int y,.int s]) (_:Bc a H g G) (_:Ak G f ((n+1:Nat):Int)) (_:n<=40) (_:FZ x y 1 1 (2^40)) (_:s<8) (_:G.length<8000000) (_:∀(r k w i:Nat)(G':Gv)(H':Hp),Fr g H H'->Bc a H' g G'->AG G G' 400->IK G' n f x y s r k w i->Q (.int r) H'):TN a vs H Q
def OV(a:Ad):Sp:=λvs H Q _=>TN a vs H Q
theorem Wa{f:Addr}{fd:FuncData}(F:Fun K "planted" "planted" Li f fd)(T:Top K mg a)(aH:Cal P w K mg base CX0 1 "lies_within" CO Qw)(aZ:Cal P w K mg base CX0 2 "is_state" Gz spIS)(aI:Cal P w K mg base CX0 4 "reach_of" DK (IA a))(bE:Cal P w K mg base CX0 5 "widened_over" EI (spWO a))
  (bF:Cal P w K mg base CX0 54 "replaced" EJ (SU a 50)) (aR:Cal P w K mg base CX0 4 "trimmed" FQ (MD a)):AK P w K mg base CX0 55 f fd Lq (OV a):=by
 refine F.ok Ge (λvs H Q E h=>?_) (λcdv A outer s H vs Q E hr h=>?_)
 ·obtain⟨g,G,f',n,x,y,st,rfl,_⟩:=h;rfl
 ·obtain⟨g,G,f',n,x,y,st,rfl,fu,hl,n40,li,s8,few,k⟩:=h;refine⟨_,(Ab (Aq (i:=5) Ge.nd rfl (Or.inl rfl) (Ih (Aa (pv 2) (Aa (pv 3) (AX (AX Ac)))))) (Ab (AQ (DH (DG (Au aH (rm hr) rfl An (Aa (pv 5) (Aa (BP rfl T.k_LIMIT) Ac))))) (Ag AZ) AE) (Ab (AQ (DH (DG (Au aZ (rm hr) rfl An (Aa (pv 4) Ac)))) (Ag AZ) AE) (Ab (Aq (i:=6) Ge.nd rfl (Or.inl rfl) (Au bE (rm hr) rfl An (Aa (pv 0) (Aa (pv 1) (Aa (pv 5) Ac))))) (Ab (Aq (i:=7) Ge.nd rfl (Or.inl rfl) (Au aI (rm hr) rfl An (Aa (pv 0) (Aa (pv 6) Ac)))) (Ag (Aw (Au aR (rm hr) rfl An (Aa (pv 0) (Aa (Au bF (rm hr) rfl An (Aa (pv 0) (Aa (pv 6) (Bq Bl (pv 2) (pv 7) (Bq Bl (pv 3) (pv 7) (Aa (pv 4) Ac)))))) Ac)))))))))),?_⟩
  try dsimp only[cxK]
  refine xw2 rfl rfl ⟨(by show 4<=sizeLine;decide),λt ht=>?_⟩;have s1:=AJ (o:=.tup [.int x,.int y,.int 1,.int 1]) ht;have ht1:upd H t (.tup [.int x,.int y,.int 1,.int 1]) t=some (.tup [.int x,.int y,.int 1,.int 1]):=Af;generalize upd H t (.tup [.int x,.int y,.int 1,.int 1])=H1 at s1 ht1⊢;have fu1:=fu.same s1;refine xq1 rfl ⟨t,x,y,1,1,_,rfl,ht1,_,rfl,?_⟩;rw[V9 (show FZ x y 1 1 1099511627776 from li)];refine Bw (xq1 rfl ⟨(st:Int),rfl,by lia,by lia,true,rfl,Bw ?_⟩);refine xw3 rfl rfl rfl ⟨g,G,f',n,t,x,y,1,1,rfl,fu1,hl,n40,ht1,li,by lia,λkk w' G1 H2 fr2 fu2 go2 le wn lw lf no=>?_⟩;have gf2:=go2.few;refine xw2 rfl rfl ⟨g,G1,w',n+kk,rfl,fu2.at',lw,by lia,?_⟩;obtain⟨b1,b2,b3,b4⟩:=Ts lf;refine xw3 rfl rfl rfl (xw2 rfl rfl (xq2 rfl rfl (xw2 rfl rfl (xq2 rfl rfl (xq1 rfl ?_)))));refine⟨g,G1,w',n+kk+1,(x+2^(n+kk)).toNat,(y+2^(n+kk)).toNat,st,by rw[P4 b3,P4 b4];rfl,fu2.at',fu2.ok,lw,by lia,b1,b2,s8,by lia,λi' G2 H3 fr3 hg3 go3 rp=>?_⟩;have gf3:=go3.few;have fu3:=fu2.fr fr3 hg3 go3;have li':=rp.lev go3.ok s8;refine⟨g,G2,i',n+kk,rfl,fu3,li',by lia,λr G3 H4 fr4 fu4 go4 tr=>?_⟩;have go34:=go3.trans go4;exact k r kk w' i' G3 H4 ((AA.fr s1).trans (fr2.trans (fr3.trans fr4))) fu4 ((go2.trans go34).mono A0) ⟨le,wn.app go34,go34.lev lw,lf,no,rp.app go4,tr⟩
end
structure Cl where
 x:Int
 y:Int
 s:Nat
def ClAt(H:Hp)(t:Addr)(c:Cl):Prop:=H t=some (.tup [.int c.x,.int c.y,.int c.s])
structure ClOk(c:Cl):Prop where
 li:FZ c.x c.y 1 1 (2^40)
 s:c.s<8
theorem IK.app{G G':Gv}{m n f:Nat}{x y:Int}{s r k w i:Nat}(go:AG G G' m)(h:IK G n f x y s r k w i):IK G' n f x y s r k w i:=⟨h.le,h.wid.app go,go.lev h.lw,h.li,h.no,h.rep.app go,h.tr.app go⟩
inductive Qf(G:Gv):List Cl->Nat->Nat->Prop
 |nil:Qf G [] 0 (bareN 1)
 |cons {cs:List Cl} {c:Cl} {n f r k w i m:Nat} (h:Qf G cs n f) (l:Ak G f ((n+1:Nat):Int)) (p:IK G n f c.x c.y c.s r k w i) (l':Ak G r ((m+1:Nat):Int)):Qf G (c::cs) m r
theorem Qf.app{G G':Gv}{m:Nat}(go:AG G G' m){cs:List Cl}{n f:Nat}(h:Qf G cs n f):Qf G' cs n f:=by
 induction h with
 |nil=>exact .nil
 |cons _ l p l' ih=>exact .cons ih (go.lev l) (p.app go) (go.lev l')
section
variable{P:Program}{w:World}{K:PySem.W.Frag}{mg:Str->Option Value}{base:Heap}{a:Ad}
inductive SpFld(a:Ad)(vs:List V)(H:Hp)(Q:VK):Prop
 |mk (g:GA) (G:Gv) (L:Addr) (ts:List Addr) (cs:List Cl) (_:vs=[.ref g.p,.ref L]) (_:Bc a H g G) (_:H L=some (.lst (ts.map V.ref))) (_:L≠g.lv) (_:L≠g.pt) (_:Paired (ClAt H) ts cs) (_:(∀c∈cs,ClOk c)) (_:G.length+400*cs.length<8000000) (_:∀(f n:Nat)(G':Gv)(H':Hp),Fr g H H'->Bc a H' g G'->AG G G' (400*cs.length)->n<=40->Ak G' f ((n+1:Nat):Int)->Qf G' cs.reverse n f->Q (.int f) H'):SpFld a vs H Q
def Vy(a:Ad):Sp:=λvs H Q _=>SpFld a vs H Q
theorem ok_fld{f:Addr}{fd:FuncData}(F:Fun K "field_of" "field_of" Jd f fd)(T:Top K mg a)(aS:Cal P w K mg base CX0 1 "bare_field" Eo (Mg a))(cB:Cal P w K mg base CX0 55 "planted" Lq (OV a)):AK P w K mg base CX0 56 f fd Ji (Vy a):=by
 refine F.ok Fb (λvs H Q E h=>?_) (λcdv A outer s H vs Q E hr h=>?_)
 ·obtain⟨g,G,L,ts,cs,rfl,_⟩:=h;rfl
 ·obtain⟨g,G,L,ts,cs,rfl,fu,hL,n1,n2,pr,oks,few,k⟩:=h;obtain⟨r0,e0⟩:=fu.g0;have lts:=W9 pr;refine⟨_,(Ab (Aq (i:=2) Fb.nd rfl (Or.inl rfl) (Au aS (rm hr) rfl An (Aa (pv 0) Ac))) (Ab (EH Y4 rfl (CC (pv 1)) (BO (i:=3) Fb.nd rfl (Or.inl rfl)) (Ag (Aq (i:=2) Fb.nd rfl (Or.inl rfl) (Au cB (rm hr) rfl An (Aa (pv 0) (Aa (pv 2) (Aa (Aj Am (pv 3) Ae (λ_ _=>rfl)) (Aa (Aj Am (pv 3) Ae (λ_ _=>rfl)) (Aa (Aj Am (pv 3) Ae (λ_ _=>rfl)) Ac))))))))) (Ag (Aw (pv 2))))),?_⟩
  try dsimp only[cxK]
  refine xq1 rfl ⟨g,G,rfl,fu,?_⟩;refine xq1 rfl ⟨L,rfl,⟨_,SqL.of hL⟩,?_⟩;refine Ri (xs:=ts.map V.ref) (λj σ H2=>∃(G':Gv)(f n:Nat)(u3:Option V),σ=[some (.ref g.p),some (.ref L),some (.int f),u3]/\Fr g H H2/\Bc a H2 g G'/\AG G G' (400*j)/\n<=40/\Ak G' f ((n+1:Nat):Int)/\Qf G' (cs.take j).reverse n f) ⟨G,bareN 1,0,none,rfl,Fr.refl g H,fu,AG.refl fu.ok,by lia,FY e0 A0,.nil⟩ (λj σ H2 _ ⟨_,_,_,_,_,fr,_⟩=>SqL.of (fr _ _ hL n1 n2 (Ay hL fu.at'.nm A2))) ?_ ?_
  ·rintro j v σ H2 ev ⟨G',f',n,u3,rfl,fr,fu2,go,n40,lf,fl⟩;rw[B7]at ev;obtain⟨t,et,rfl⟩:=C9.mp ev;obtain⟨c,ec,hc⟩:=PairedM.getL pr et;have cok:=oks c (D2 ec);have hj:j<cs.length:=(B4.mp ec).1;have hc2:=fr.tup fu.at' hc;have gf:=go.few;refine xw3 rfl rfl rfl (xq4 rfl rfl (SqT.of hc2) (Al (j:=0) rfl) (xwi rfl rfl rfl (SqT.of hc2) (Al (j:=1) rfl) (xwi rfl rfl rfl (SqT.of hc2) (Al (j:=2) rfl) ?_)));refine⟨g,G',f',n,c.x,c.y,c.s,rfl,fu2,lf,n40,cok.li,cok.s,by lia,λr kk w' i' G2 H3 fr3 fu3 go3 pl=>?_⟩;have li':=pl.rep.lev fu3.ok cok.s;obtain⟨m,lm,lr⟩:=Em.lev li' pl.tr;have le:=pl.le;refine⟨G2,r,m,(xq1 rfl ⟨fr.trans fr3,fu3,(go.trans go3).mono A0,by lia,lr,?_⟩)⟩;rw[F7,ec,N8,List.reverse_append];exact .cons (fl.app go3) (go3.lev lf) pl lr
  ·rintro σ H2 ⟨G',f',n,u3,rfl,fr,fu2,go,n40,lf,fl⟩;rw[B5,lts]at go fl;rw[J0]at fl;exact xq1 rfl (k f' n G' H2 fr fu2 go n40 lf fl)
end
def Iz(G:Gv)(n f:Nat):Prop:=n=0\/∃m qs ps,n=m+1/\Mc G m f qs ps/\¬BA m ps
theorem Iz.app{G G':Gv}{k n f:Nat}(go:AG G G' k)(h:Iz G n f):Iz G' n f:=by
 rcases h with h|⟨m,qs,ps,e,d,b⟩
 ·exact .inl h
 ·exact .inr ⟨m,qs,ps,e,d.app go,b⟩
end J
namespace J
open PySem L2
def CG(G:Gv):Nat->Nat->Nat->Nat->Nat
 |0,i,_,_=>i
 |n+1,i,x,y=>match G[i]? with
  |some q=>CG G n (q.parts.getD (quad n x y) 0).toNat (x%2^n) (y%2^n)
  |none=>0
theorem Bd(n:Nat):0<2^n:=R5 A3
theorem BC{G:Gv}{n i:Nat}{q:Sq}{a b c d:Nat}(h:GN G n i q a b c d){x y:Nat}(hx:x<2^(n+1))(hy:y<2^(n+1)):CG G (n+1) i x y=CG G n (f4 a b c d (quad n x y)) (x%2^n) (y%2^n):=by
 rw[show CG G (n+1) i x y=(match G[i]? with|some q=>CG G n (q.parts.getD (quad n x y) 0).toNat (x%2^n) (y%2^n)|none=>0)from rfl,h.g];show CG G n (q.parts.getD (quad n x y) 0).toNat _ _=_;have:=(h.nat (CS hx hy)).1;rw[D9,this];rfl
theorem Rs{G G':Gv}{k:Nat}(ok:GOk G)(go:AG G G' k):∀{n i x y:Nat},Ak G i (n:Int)->x<2^n->y<2^n->CG G' n i x y=CG G n i x y
 |0,_,_,_,_,_,_=>rfl
 |n+1,i,x,y,h,hx,hy=>by
  obtain⟨q,a,b,c,d,nd⟩:=BH ok h;rw[BC nd hx hy,BC (nd.app go) hx hy];exact Rs ok go (nd.nat (CS hx hy)).2 (J7 _ (Bd n)) (J7 _ (Bd n))
theorem FV{G r:Gv}(e:G=G0++r)(ok:GOk G):∀{n x y:Nat},n<=48->x<2^n->y<2^n->CG G n (bareN n) x y=0
 |0,_,_,_,_,_=>rfl
 |n+1,x,y,hn,hx,hy=>by
  obtain⟨q,a,b,c,d,nd⟩:=BH ok (FY e (n:=n+1) hn);have bn:a=bareN n/\b=bareN n/\c=bareN n/\d=bareN n:=by
   have g:=nd.g;rw[show bareN (n+1)=8+n from rfl,WI e n A0]at g;cases g;have s:[(bareN n:Int),(bareN n:Int),(bareN n:Int),(bareN n:Int)]=[(a:Int),(b:Int),(c:Int),(d:Int)]:=nd.ps;injection s with s0 s
   injection s with s1 s
   injection s with s2 s
   injection s with s3 s
   exact⟨(W6 s0).symm,(W6 s1).symm,(W6 s2).symm,(W6 s3).symm⟩
  obtain⟨rfl,rfl,rfl,rfl⟩:=bn;rw[BC nd hx hy];have:f4 (bareN n) (bareN n) (bareN n) (bareN n) (quad n x y)=bareN n:=by unfold f4;split<;>rfl
  rw[this];exact FV e ok A0 (J7 _ (Bd n)) (J7 _ (Bd n))
theorem GK{n k x y:Nat}(hk:k<4)(hx:x<2^n)(hy:y<2^n):(x+2^n*(k%2))<2^(n+1)/\(y+2^n*(k/2))<2^(n+1)/\quad n (x+2^n*(k%2)) (y+2^n*(k/2))=k/\(x+2^n*(k%2))%2^n=x/\(y+2^n*(k/2))%2^n=y:=by
 have p:=Bd n;have e:2^(n+1)=2*2^n:=by rw[D7];lia
 unfold quad;rw[M8 _ _ p,M8 _ _ p,O1,O1,L6 hx,L6 hy,N4 hx,N4 hy,e];generalize 2^n=h at *
 match k,hk with
 |0,_=>exact⟨by lia,by lia,rfl,rfl,rfl⟩
 |1,_=>exact⟨by lia,by lia,rfl,rfl,rfl⟩
 |2,_=>exact⟨by lia,by lia,rfl,rfl,rfl⟩
 |3,_=>exact⟨by lia,by lia,rfl,rfl,rfl⟩
theorem LH{G:Gv}(ok:GOk G):∀{n i j:Nat},Ak G i (n:Int)->Ak G j (n:Int)->(∀x y,x<2^n->y<2^n->CG G n i x y=CG G n j x y)->i=j
 |0,i,j,_,_,h=>h 0 0 A3 A3
 |n+1,i,j,hi,hj,h=>by
  obtain⟨q,a,b,c,d,nd⟩:=BH ok hi;obtain⟨q',a',b',c',d',nd'⟩:=BH ok hj;have key:∀k,k<4->f4 a b c d k=f4 a' b' c' d' k:=λk hk=>by
   refine LH ok (nd.nat hk).2 (nd'.nat hk).2 λx y hx hy=>?_;obtain⟨h1,h2,h3,h4,h5⟩:=GK hk hx hy;have:=h _ _ h1 h2;rw[BC nd h1 h2,BC nd' h1 h2,h3,h4,h5]at this;exact this
  have k0:a=a':=key 0 A3;have k1:b=b':=key 1 A3;have k2:c=c':=key 2 A3;have k3:d=d':=key 3 A3;subst k0 k1 k2 k3;exact ok.one nd.g nd'.g (nd.ps.trans nd'.ps.symm)
theorem Qv{n x X:Nat}(h1:x/2^n=X/2^n)(h2:x%2^n=X%2^n):x=X:=by
 rw[<-L9 x (2^n),<-L9 X (2^n),h1,h2]
theorem QE{G:Gv}(ok:GOk G){s:Nat}(hs:s<8):∀{n i X Y r x y:Nat},X<2^n->Y<2^n->x<2^n->y<2^n->Rep G s n i X Y r->CG G n r x y=if x=X/\y=Y then s else CG G n i x y
 |0,i,X,Y,r,x,y,hX,hY,hx,hy,h=>by
  have h:r=s:=h;have e1:X=0:=U6.mp hX;have e2:Y=0:=U6.mp hY;have e3:x=0:=U6.mp hx;have e4:y=0:=U6.mp hy;subst e1 e2 e3 e4 h;rfl
 |n+1,i,X,Y,r,x,y,hX,hY,hx,hy,h=>by
  obtain⟨q,a,b,c,d,j,nd,h1,e⟩:=h;have lj:=h1.lev ok hs;have lst:∀ii,ii<4->Ak G (st4 a b c d (quad n X Y) j ii) (n:Int):=λii hi=>by
   unfold st4;split
   ·exact lj
   ·exact(nd.nat hi).2
  have nr:GN G n r _ (st4 a b c d (quad n X Y) j 0) (st4 a b c d (quad n X Y) j 1) (st4 a b c d (quad n X Y) j 2) (st4 a b c d (quad n X Y) j 3):=⟨e,rfl,rfl,lst 0 A3,lst 1 A3,lst 2 A3,lst 3 A3⟩
  have qk:=CS hx hy;rw[BC nr hx hy,BC nd hx hy,Nz (st4 a b c d (quad n X Y) j) qk];have m:=Bd n;have x2:=Fo hx;have y2:=Fo hy;have X2:=Fo hX;have Y2:=Fo hY;unfold st4;by_cases hq:quad n x y=quad n X Y
  ·rw[W2 hq,QE ok hs (J7 _ m) (J7 _ m) (J7 _ m) (J7 _ m) h1,hq];have exy:x/2^n=X/2^n/\y/2^n=Y/2^n:=by
    unfold quad at hq;generalize x/2^n=A at *
    generalize X/2^n=B at *
    generalize y/2^n=C at *
    generalize Y/2^n=D at *
    lia
   obtain⟨ex,ey⟩:=exy;by_cases hxy:x=X/\y=Y
   ·rw[W2 hxy,W2 ⟨by rw[hxy.1],by rw[hxy.2]⟩]
   ·rw[V8 hxy,V8 λz=>hxy ⟨Qv ex z.1,Qv ey z.2⟩]
  ·rw[V8 hq,V8 λz=>hq (by rw[z.1,z.2])]
def fieldF(G:Gv)(n f:Nat)(x y:Int):Nat:=if -(2^n)<=x/\x<2^n/\-(2^n)<=y/\y<2^n then CG G (n+1) f (x+2^n).toNat (y+2^n).toNat else 0
theorem GO{n:Nat}{x:Int}(h0:-(2^n)<=x)(h1:x<2^n):(x+2^n).toNat<2^(n+1):=by
 have e:=FP (n+1);rw[Ci]at e;lia
theorem FT{G G':Gv}{k n f:Nat}(ok:GOk G)(go:AG G G' k)(h:Ak G f ((n+1:Nat):Int))(x y:Int):fieldF G' n f x y=fieldF G n f x y:=by
 unfold fieldF;split
 ·rename_i z;exact Rs ok go h (GO z.1 z.2.1) (GO z.2.2.1 z.2.2.2)
 ·rfl
theorem PD{h X:Nat}(u:Nat)(h1:h*u<=X)(h2:X<h*(u+1)):X/h=u/\X%h=X-h*u:=by
 have e:X/h=u:=Nat.div_eq_of_lt_le (by rw[Q8];exact h1) (by rw[Q8];exact h2);exact⟨e,by have:=L9 X h;rw[e]at this;lia⟩
theorem JN(x n:Nat):x%2^(n+1)%2^n=x%2^n:=Nat.mod_mod_of_dvd x ⟨2,by rw[D7]⟩
theorem LG{G:Gv}{n i:Nat}{qs:Nat->Nat}{ps:Nat->Nat->Nat}(h:Mc G n i qs ps){x y:Nat}(hx:x<2^(n+2))(hy:y<2^(n+2)):CG G (n+2) i x y=CG G n (ps (quad (n+1) x y) (quad n (x%2^(n+1)) (y%2^(n+1)))) (x%2^n) (y%2^n):=by
 obtain⟨q,nd⟩:=h.node;have qk:=CS (l:=n+1) hx hy;have hx1:x%2^(n+1)<2^(n+1):=J7 _ (Bd _);have hy1:y%2^(n+1)<2^(n+1):=J7 _ (Bd _);obtain⟨q',nk⟩:=h.sub _ qk;rw[BC nd hx hy,Nz qs qk,BC nk hx1 hy1,Nz (ps _) (CS hx1 hy1),JN,JN]
theorem bits{h u:Nat}(hu:u<2*h):(u+h)/(2*h)=u/h/\(u+h)%(2*h)/h=1-u/h/\(u+h)%h=u%h/\u/h<2:=by
 have p:0<h:=by lia
 rcases Nat.lt_or_ge u h with z|z
 ·have e1:u/h=0:=L6 z;have e2:(u+h)/(2*h)=0:=L6 A0;have e3:(u+h)%(2*h)=u+h:=N4 A0;have e4:(u+h)/h=1:=(PD (X:=u+h) 1 A0 A0).1;exact⟨by rw[e1,e2],by rw[e3,e4,e1],Nat.add_mod_right u h,by lia⟩
 ·have e1:u/h=1:=(PD 1 A0 A0).1;have e2:=PD (h:=2*h) (X:=u+h) 1 A0 A0;have e3:(u+h-2*h*1)/h=0:=L6 A0;exact⟨by rw[e1,e2.1],by rw[e2.2,e3,e1],Nat.add_mod_right u h,by lia⟩
theorem QJ(n:Nat):2^(n+1)=2*2^n:=by rw[D7];lia
theorem Wr{G:Gv}(ok:GOk G){n i m:Nat}{qs:Nat->Nat}{ps:Nat->Nat->Nat}(h:Mc G n i qs ps)(em:G[m]?=some ⟨[(ps 0 3:Int),(ps 1 2:Int),(ps 2 1:Int),(ps 3 0:Int)],(n:Int)+1⟩){u v:Nat}(hu:u<2^(n+1))(hv:v<2^(n+1)):CG G (n+2) i (u+2^n) (v+2^n)=CG G (n+1) m u v:=by
 have lp:∀k j,k<4->j<4->Ak G (ps k j) (n:Int):=λk j hk hj=>by
  obtain⟨q,nk⟩:=h.sub k hk;have:=(nk.nat hj).2;rw[Nz (ps k) hj]at this;exact this
 have nm:GN G n m _ (ps 0 3) (ps 1 2) (ps 2 1) (ps 3 0):=⟨em,rfl,rfl,lp 0 3 A3 A3,lp 1 2 A3 A3,lp 2 1 A3 A3,lp 3 0 A3 A3⟩
 have e1:=QJ n;have e2:2^(n+2)=2*2^(n+1):=QJ (n+1);have p:=Bd n;rw[LG h A0 A0,BC nm hu hv];unfold quad;rw[e1];rw[e1]at hu hv;apply AT;intro G_ hG_;obtain⟨a1,a2,a3,a4⟩:=bits hu;obtain⟨b1,b2,b3,b4⟩:=bits hv;apply hG_;clear hG_ G_;rw[a1,a2,a3,b1,b2,b3];have two:∀{A:Nat},A<2->A=0\/A=1:=λ{A} h=>by lia
 have hu2:=two a4;have hv2:=two b4;rcases hu2 with z|z<;>rcases hv2 with z'|z'<;>rw[z,z']<;>rfl
theorem mid_iff'{m X Y:Nat}{x y:Int}(eX:(X:Int)=x+2^(m+1))(eY:(Y:Int)=y+2^(m+1))(hX:X<2^(m+2))(hY:Y<2^(m+2)):quad m (X%2^(m+1)) (Y%2^(m+1))+quad (m+1) X Y=3↔(-(2^m)<=x/\x<2^m/\-(2^m)<=y/\y<2^m):=by
 have p:=Bd m;have e1:=QJ m;have e2:2^(m+2)=2*2^(m+1):=QJ (m+1);have c1:=FP m;have c2:=FP (m+1);rw[e1]at c2;unfold quad;rw[e1];rw[e2,e1]at hX hY;rw[<-c2]at eX eY;rw[<-c1];generalize 2^m=h at *
 have key:∀{X:Nat}{x:Int},(X:Int)=x+((2*h:Nat):Int)->X<2*(2*h)->(X%(2*h)/h+X/(2*h)=1 ↔ -(h:Int)<=x/\x<(h:Int))/\X%(2*h)/h<2/\X/(2*h)<2:=by
  intro X x e l;have h2:0<2*h:=by lia
  have q2:X/(2*h)<2:=by rw[U2 h2];exact l
  have r2:X%(2*h)<2*h:=J7 _ h2;have q1:X%(2*h)/h<2:=by rw[U2 p];exact r2
  have d2:=L9 X (2*h);have d1:=L9 (X%(2*h)) h;have m1:=J7 (X%(2*h)) p;refine⟨?_,q1,q2⟩;generalize X/(2*h)=u at *
  generalize X%(2*h)/h=v at *
  generalize X%(2*h)%h=t at *
  generalize X%(2*h)=rr at *
  have hu:u=0\/u=1:=by lia
  have hv:v=0\/v=1:=by lia
  rcases hu with rfl|rfl<;>rcases hv with rfl|rfl<;>simp only[Nat.mul_zero,Nat.mul_one,M7]at d1 d2<;>lia
 obtain⟨kx,x1,x2⟩:=key eX hX;obtain⟨ky,y1,y2⟩:=key eY hY;clear key;generalize X%(2*h)/h=A at *
 generalize X/(2*h)=B at *
 generalize Y%(2*h)/h=C at *
 generalize Y/(2*h)=D at *
 constructor
 ·intro z;have zx:=kx.mp A0;have zy:=ky.mp A0;exact⟨zx.1,zx.2,zy.1,zy.2⟩
 ·rintro z0_;apply AT;intro G_ hG_;obtain⟨z1,z2,z3,z4⟩:=z0_;apply hG_;clear hG_ G_;have zx:=kx.mpr ⟨z1,z2⟩;have zy:=ky.mpr ⟨z3,z4⟩;lia
theorem Ox{G r:Gv}(e0:G=G0++r)(ok:GOk G){n i m:Nat}(hn:n<=46){qs:Nat->Nat}{ps:Nat->Nat->Nat}(h:Mc G n i qs ps)(ba:BA n ps)(em:G[m]?=some ⟨[(ps 0 3:Int),(ps 1 2:Int),(ps 2 1:Int),(ps 3 0:Int)],(n:Int)+1⟩)(x y:Int):fieldF G (n+1) i x y=fieldF G n m x y:=by
 have s1:=Ci n;have p:=Ph n;unfold fieldF;by_cases hin:-(2^n)<=x/\x<2^n/\-(2^n)<=y/\y<2^n
 ·apply AT;intro G_ hG_;obtain⟨a1,a2,a3,a4⟩:=hin;apply hG_;clear hG_ G_;rw[W2 ⟨by lia,by lia,by lia,by lia⟩,W2 ⟨a1,a2,a3,a4⟩];have hu:=GO a1 a2;have hv:=GO a3 a4;have c:=FP n;have ex:(x+2^(n+1)).toNat=(x+2^n).toNat+2^n:=by lia
  have ey:(y+2^(n+1)).toNat=(y+2^n).toNat+2^n:=by lia
  rw[ex,ey];exact Wr ok h em hu hv
 ·rw[V8 hin];split
  ·rename_i z;apply AT;intro G_ hG_;obtain⟨z1,z2,z3,z4⟩:=z;apply hG_;clear hG_ G_;have hX:=GO z1 z2;have hY:=GO z3 z4;rw[LG h hX hY];have ne:¬quad n ((x+2^(n+1)).toNat%2^(n+1)) ((y+2^(n+1)).toNat%2^(n+1))+quad (n+1) (x+2^(n+1)).toNat (y+2^(n+1)).toNat=3:=λq=>hin ((mid_iff' (P4 A0) (P4 A0) hX hY).mp q);rw[ba _ _ (CS hX hY) (CS (J7 _ (Bd _)) (J7 _ (Bd _))) ne];exact FV e0 ok A0 (J7 _ (Bd _)) (J7 _ (Bd _))
  ·rfl
theorem Gc{G r0:Gv}(e0:G=G0++r0)(ok:GOk G):∀{n f r:Nat},n<=47->Ak G f ((n+1:Nat):Int)->Em G (n+1) f r->∃m,m<=n/\Ak G r ((m+1:Nat):Int)/\Iz G m r/\∀x y,fieldF G m r x y=fieldF G n f x y
 |0,f,r,_,hl,h=>by
  have h:r=f:=h;subst h;exact⟨0,B6 _,hl,.inl rfl,λ_ _=>rfl⟩
 |n+1,f,r,hn,hl,h=>by
  apply AT;intro G_ hG_;obtain⟨qs,ps,d,h⟩:=h;apply hG_;clear hG_ G_;rcases h with ⟨nb,rfl⟩|⟨ba,m,em,h⟩
  ·exact⟨n+1,B6 _,hl,.inr ⟨n,qs,ps,rfl,d,nb⟩,λ_ _=>rfl⟩
  ·obtain⟨k,hk,lk,tk,ek⟩:=Gc e0 ok A0 ⟨_,em,by show(n:Int)+1=_;lia⟩ h;refine⟨k,by lia,lk,tk,λx y=>?_⟩;rw[ek x y,Ox e0 ok A0 d ba em x y]
theorem Ub{G r:Gv}(e0:G=G0++r)(ok:GOk G){n f w:Nat}(hn:n<=46)(h:Wid G n f w)(x y:Int):fieldF G (n+1) w x y=fieldF G n f x y:=by
 apply AT;intro G_ hG_;obtain⟨q,a,b,c,d,w0,w1,w2,w3,nd,ea,eb,ec,ed,ew⟩:=h.ex;apply hG_;clear hG_ G_;have lb:=FY e0 (n:=n) A0;have lv:∀{p:Nat}{l:List Int},G[p]?=some ⟨l,(n:Int)+1⟩->Ak G p ((n+1:Nat):Int):=λ{p l} e=>⟨_,e,by show(n:Int)+1=_;lia⟩
 have dp:Mc G n w (f4 w0 w1 w2 w3) (λk j=>if j+k=3 then f4 a b c d k else bareN n):=by
  refine⟨⟨_,ew,rfl,by show(n:Int)+2=_;lia,lv ea,lv eb,lv ec,lv ed⟩,λk hk=>?_⟩
  match k,hk with
  |0,_=>exact⟨_,ea,rfl,rfl,lb,lb,lb,nd.hx⟩
  |1,_=>exact⟨_,eb,rfl,rfl,lb,lb,nd.hy,lb⟩
  |2,_=>exact⟨_,ec,rfl,rfl,lb,nd.hz,lb,lb⟩
  |3,_=>exact⟨_,ed,rfl,rfl,nd.hw,lb,lb,lb⟩
 have g:=nd.g;have l:=nd.lev;have ps:=nd.ps;refine Ox e0 ok hn dp (λk j _ _ ne=>V8 ne) ?_ x y;rw[g];cases q with
 |mk pp ll=>cases ps;cases l;rfl
theorem IU{G r:Gv}(e0:G=G0++r)(ok:GOk G){n f:Nat}:∀{k w:Nat},n+k<=46->LK G n f k w->∀x y,fieldF G (n+k) w x y=fieldF G n f x y
 |0,w,_,h,x,y=>by
  have h:w=f:=h;subst h;rfl
 |k+1,w,hk,h,x,y=>by
  obtain⟨u,h1,h2⟩:=h;rw[show n+(k+1)=n+k+1 by lia,Ub e0 ok A0 h2 x y];exact IU e0 ok A0 h1 x y
theorem QK{G r0:Gv}(e0:G=G0++r0)(ok:GOk G){n f s r k w i:Nat}{X Y:Int}(hs:s<8)(h:IK G n f X Y s r k w i):∃m,m<=40/\Ak G r ((m+1:Nat):Int)/\Iz G m r/\∀x y,fieldF G m r x y=if x=X/\y=Y then s else fieldF G n f x y:=by
 have le:=h.le;have li:=h.rep.lev ok hs;obtain⟨m,hm,lm,tm,em⟩:=Gc e0 ok A0 li h.tr;refine⟨m,by lia,lm,tm,λx y=>?_⟩;rw[em x y,<-IU e0 ok A0 h.wid x y];apply AT;intro G_ hG_;obtain⟨b1,b2,b3,b4⟩:=Ts h.li;obtain⟨l1,l2,l3,l4⟩:=h.li;apply hG_;clear hG_ G_;unfold fieldF;split
 ·rename_i z;apply AT;intro G_ hG_;obtain⟨z1,z2,z3,z4⟩:=z;apply hG_;clear hG_ G_;rw[QE ok hs b1 b2 (GO z1 z2) (GO z3 z4) h.rep];by_cases hxy:x=X/\y=Y
  ·rw[W2 hxy,W2 ⟨by rw[hxy.1],by rw[hxy.2]⟩]
  ·rw[V8 hxy,V8 λq=>hxy ⟨by lia,by lia⟩]
 ·rename_i z;rw[V8 λq=>z ⟨by lia,by lia,by lia,by lia⟩]
theorem Wv{G r:Gv}(e0:G=G0++r)(ok:GOk G){n i:Nat}(hn:n<=48)(h:Ak G i (n:Int))(ne:i≠bareN n):∃x y,x<2^n/\y<2^n/\CG G n i x y≠0:=by
 refine W5 λz=>ne (LH ok h (FY e0 hn) λx y hx hy=>?_);rw[FV e0 ok hn hx hy];exact W5 λq=>z ⟨x,y,hx,hy,q⟩
theorem Qj{G r:Gv}(e0:G=G0++r)(ok:GOk G){m f:Nat}(hm:m<=46)(h:Iz G (m+1) f):∃x y:Int,¬(-(2^m)<=x/\x<2^m/\-(2^m)<=y/\y<2^m)/\fieldF G (m+1) f x y≠0:=by
 rcases h with h|⟨m',qs,ps,e,dp,nb⟩
 ·lia
 ·have:m'=m:=by lia
  subst this;have:∃k j,k<4/\j<4/\j+k≠3/\ps k j≠bareN m':=by
   refine W5 λz=>nb λk j hk hj ne=>W5 λq=>z ⟨k,j,hk,hj,ne,q⟩
  apply AT;intro G_ hG_;obtain⟨k,j,hk,hj,ne,nbare⟩:=this;obtain⟨qk,nk⟩:=dp.sub k hk;apply hG_;clear hG_ G_;have lp:Ak G (ps k j) (m':Int):=by
   have:=(nk.nat hj).2;rw[Nz (ps k) hj]at this;exact this
  obtain⟨u,v,hu,hv,hc⟩:=Wv e0 ok A0 lp nbare;apply AT;intro G_ hG_;obtain⟨a1,a2,a3,a4,a5⟩:=GK hj hu hv;obtain⟨b1,b2,b3,b4,b5⟩:=GK (n:=m'+1) hk a1 a2;apply hG_;clear hG_ G_;generalize hX:u+2^m'*(j%2)+2^(m'+1)*(k%2)=X at *
  generalize hY:v+2^m'*(j/2)+2^(m'+1)*(k/2)=Y at *
  have c1:=FP (m'+1);have c2:=FP (m'+2);have s2:=Ci (m'+1);rw[s2]at c2;refine⟨(X:Int)-2^(m'+1),(Y:Int)-2^(m'+1),λz=>ne ?_,?_⟩
  ·have:=(mid_iff' (X:=X) (Y:=Y) A0 A0 b1 b2).mpr z;rw[b3,b4,b5,a3]at this;exact this
  ·unfold fieldF;rw[W2 ⟨by lia,by lia,by lia,by lia⟩,show((X:Int)-2^(m'+1)+2^(m'+1)).toNat=X by lia,show((Y:Int)-2^(m'+1)+2^(m'+1)).toNat=Y by lia,LG dp b1 b2,b3,b4,b5,a3];have d1:X%2^m'=u:=by rw[<-JN,b4,a4]
   have d2:Y%2^m'=v:=by rw[<-JN,b5,a5]
   rw[d1,d2];exact hc
theorem Ny{G r:Gv}(e0:G=G0++r)(ok:GOk G){n m f f':Nat}(hn:n<=47)(hm:m<=47)(lf:Ak G f ((n+1:Nat):Int))(lf':Ak G f' ((m+1:Nat):Int))(t:Iz G n f)(t':Iz G m f')(h:∀x y,fieldF G n f x y=fieldF G m f' x y):n=m/\f=f':=by
 have le:∀{n m f f':Nat},m<=47->Iz G m f'->(∀x y,fieldF G n f x y=fieldF G m f' x y)->m<=n:=by
  intro n m f f' hm t' h;refine N5 λz=>?_;obtain⟨k,rfl⟩:∃k,m=k+1:=⟨m-1,by lia⟩
  obtain⟨x,y,out,lv⟩:=Qj e0 ok A0 t';rw[<-h x y]at lv;unfold fieldF at lv;split at lv
  ·rename_i q;have:(2:Int)^n<=2^k:=by
    have:=L5 (show 0<2 by decide) (show n<=k by lia)
    exact_mod_cast this
   exact out ⟨by lia,by lia,by lia,by lia⟩
  ·exact lv rfl
 have e1:=le hm t' h;have e2:=le hn t λx y=>(h x y).symm;have e:n=m:=by lia
 subst e;refine⟨rfl,LH ok lf lf' λx y hx hy=>?_⟩;have c1:=FP n;have c2:=FP (n+1);have s2:=Ci n;rw[s2]at c2;have:=h ((x:Int)-2^n) ((y:Int)-2^n);unfold fieldF at this;rw[W2 ⟨by lia,by lia,by lia,by lia⟩,W2 ⟨by lia,by lia,by lia,by lia⟩,show((x:Int)-2^n+2^n).toNat=x by lia,show((y:Int)-2^n+2^n).toNat=y by lia]at this;exact this
def Fix:HO->Prop
 |.tup _=>True
 |.ins _ _ _=>True
 |_=>False
def Fx(l:List Addr)(H H':Hp):Prop:=∀b o,H b=some o->(b∈l->Fix o)->H' b=some o
theorem Fx.get{l:List Addr}{H1 H2:Hp}(h:Fx l H1 H2){b:Addr}{o:HO}(n:b∉l)(e:H1 b=some o):H2 b=some o:=h b o e λz=>absurd z n
theorem Fx.tup{l:List Addr}{H1 H2:Hp}(h:Fx l H1 H2){b:Addr}{xs:List V}(e:H1 b=some (.tup xs)):H2 b=some (.tup xs):=h b _ e λ_=>True.intro
theorem Fr.fx{a:Ad}{g:GA}{G:Gv}{H H':Hp}(h:Fr g H H')(at':AH a H g G):Fx [g.lv,g.pt,g.nm] H H':=λb o e f=>by
 obtain⟨ts,h3,_⟩:=at'.pt;refine h b o e (λz=>?_) (λz=>?_) (λz=>?_)
 ·subst z;rw[at'.lv]at e;cases e;exact f A4
 ·subst z;rw[h3]at e;cases e;exact f A4
 ·subst z;rw[at'.nm]at e;cases e;exact f A4
def FS(g:GA):List Addr:=[g.lv,g.pt,g.nm,g.br,g.am,g.bx]
theorem Bc.fx{a:Ad}{g:GA}{G:Gv}{H H':Hp}{l:List Addr}(h:Bc a H g G)(f:Fx l H H')(n:∀x∈FS g,x∉l):Bc a H' g G:=by
 obtain⟨at',ok,g0,br,⟨ks,h1,h2⟩,⟨ks',h3,h4⟩,n1,n2,n3⟩:=h;obtain⟨p1,p2,⟨ts,p3,p4⟩,p5,p6⟩:=at';have m:∀x∈FS g,∀o,H x=some o->H' x=some o:=λx hx o e=>f.get (n x hx) e;refine⟨⟨f _ _ p1 λ_=>True.intro,m _ (by simp[FS]) _ p2,⟨ts,m _ (by simp[FS]) _ p3,PairedM.imp (λt q z=>f.tup z) p4⟩,m _ (by simp[FS]) _ p5,p6⟩,ok,g0,m _ (by simp[FS]) _ br,⟨ks,m _ (by simp[FS]) _ h1,h2⟩,⟨ks',m _ (by simp[FS]) _ h3,h4.keys,λi v e=>?_⟩,n1,n2,n3⟩;obtain⟨l,b,t,e1,e2,e3,e4⟩:=h4.val i v e;exact⟨l,b,t,e1,e2,e3,f.tup e4⟩
theorem AA.noneOf{H H':Hp}(s:AA H H'){x:Addr}(n:H' x=none):H x=none:=by
 cases e:H x with
 |none=>rfl
 |some o=>rw[s _ _ e]at n;cases n
theorem CT{H:Hp}{x y:Addr}{o:HO}(h:upd H x o y=none):H y=none:=by
 by_cases e:y=x
 ·subst e;rw[Af]at h;cases h
 ·rw[Ao e]at h;exact h
theorem RC.none{a:Ad}{H H':Hp}{x dx:Addr}{o o':HO}{g:GA}{G:Gv}{B:List Int}{am:List (Key×V)}(N:RC a (upd (upd H dx o) x o') H' g G B am):∀y∈FS g,H y=none:=λy hy=>by
 obtain⟨f1,f2,f3,f4,f5,f6⟩:=N.fresh;simp only[FS,B8,D0,Y5]at hy;rcases hy with rfl|rfl|rfl|rfl|rfl|rfl
 ·exact CT (CT f1)
 ·exact CT (CT f2)
 ·exact CT (CT f3)
 ·exact CT (CT f4)
 ·exact CT (CT f5)
 ·exact CT (CT f6)
structure NL(L:Int->Int->Prop)(b:Bx):Prop where
 inn:∀u v,L u v->b.l<=u/\u<b.l+b.w/\b.t<=v/\v<b.t+b.h
 le:∃v,L b.l v
 to:∃u,L u b.t
 ri:∃v,L (b.l+b.w-1) v
 bo:∃u,L u (b.t+b.h-1)
theorem QX{l:List Int}(h:l≠[]):mnL l∈l/\∀x∈l,mnL l<=x:=by
 unfold mnL;cases e:l.min? with
 |none=>exact absurd (List.min?_eq_none_iff.mp e) h
 |some m=>exact List.min?_eq_some_iff.mp e
theorem QV{l:List Int}(h:l≠[]):mxL l∈l/\∀x∈l,x<=mxL l:=by
 unfold mxL;cases e:l.max? with
 |none=>exact absurd (List.max?_eq_none_iff.mp e) h
 |some m=>exact List.max?_eq_some_iff.mp e
theorem Ue{L:Int->Int->Prop}{bs:List Bx}(ne:bs≠[])(h1:∀b∈bs,∃M:Int->Int->Prop,NL M b/\∀u v,M u v->L u v)(h2:∀u v,L u v->∃b∈bs,b.l<=u/\u<b.l+b.w/\b.t<=v/\v<b.t+b.h):NL L (Np bs):=by
 have n1:bs.map (·.l)≠[]:=λz=>ne (P2.mp z);have n2:bs.map (·.t)≠[]:=λz=>ne (P2.mp z);have n3:(bs.map λb=>b.l+b.w)≠[]:=λz=>ne (P2.mp z);have n4:(bs.map λb=>b.t+b.h)≠[]:=λz=>ne (P2.mp z);obtain⟨m1,a1⟩:=QX n1;obtain⟨m2,a2⟩:=QX n2;obtain⟨m3,a3⟩:=QV n3;obtain⟨m4,a4⟩:=QV n4;obtain⟨b1,hb1,e1⟩:=D1.mp m1;obtain⟨b2,hb2,e2⟩:=D1.mp m2;obtain⟨b3,hb3,e3⟩:=D1.mp m3;obtain⟨b4,hb4,e4⟩:=D1.mp m4;unfold Np;refine⟨λu v q=>?_,?_,?_,?_,?_⟩
 ·obtain⟨b,hb,q1,q2,q3,q4⟩:=h2 u v q;have c1:=a1 _ (D1.mpr ⟨b,hb,rfl⟩);have c2:=a2 _ (D1.mpr ⟨b,hb,rfl⟩);have c3:=a3 _ (D1.mpr ⟨b,hb,rfl⟩);have c4:=a4 _ (D1.mpr ⟨b,hb,rfl⟩);dsimp only at c1 c2 c3 c4⊢;lia
 ·obtain⟨M,t,s⟩:=h1 b1 hb1;obtain⟨v,x⟩:=t.le;exact⟨v,by rw[e1]at x;exact s _ _ x⟩
 ·obtain⟨M,t,s⟩:=h1 b2 hb2;obtain⟨v,x⟩:=t.to;exact⟨v,by rw[e2]at x;exact s _ _ x⟩
 ·obtain⟨M,t,s⟩:=h1 b3 hb3;obtain⟨v,x⟩:=t.ri;refine⟨v,?_⟩;dsimp only at e3⊢;rw[e3]at x;have:=s _ _ x;rw[show mnL (bs.map (·.l))+(mxL (bs.map λb=>b.l+b.w)-mnL (bs.map (·.l)))-1=mxL (bs.map λb=>b.l+b.w)-1 by lia];exact this
 ·obtain⟨M,t,s⟩:=h1 b4 hb4;obtain⟨v,x⟩:=t.bo;refine⟨v,?_⟩;dsimp only at e4⊢;rw[e4]at x;have:=s _ _ x;rw[show mnL (bs.map (·.t))+(mxL (bs.map λb=>b.t+b.h)-mnL (bs.map (·.t)))-1=mxL (bs.map λb=>b.t+b.h)-1 by lia];exact this
theorem Nl{half:Int}{b:Bx}:∀{obs:List (Option Bx)}{k:Nat},b∈Dh half k obs ↔ ∃(j:Nat)(c:Bx),obs[j]?=some (some c)/\b=shB half (k+j) c
 |[],k=>⟨(λh=>by cases h),(λh=>by obtain⟨j,c,h,_⟩:=h;simp at h)⟩
 |none::r,k=>by
  rw[show Dh half k (none::r)=Dh half (k+1) r from rfl,Nl];constructor
  ·rintro⟨j,c,h,e⟩;exact⟨j+1,c,by simpa using h,by rw[e,show k+1+j=k+(j+1) by lia]⟩
  ·rintro⟨j,c,h,e⟩;cases j with
   |zero=>simp at h
   |succ j=>exact⟨j,c,by simpa using h,by rw[e,show k+1+j=k+(j+1) by lia]⟩
 |some d::r,k=>by
  rw[show Dh half k (some d::r)=shB half k d::Dh half (k+1) r from rfl,B8,Nl];constructor
  ·rintro(h|⟨j,c,h,e⟩)
   ·exact⟨0,d,rfl,h⟩
   ·exact⟨j+1,c,by simpa using h,by rw[e,show k+1+j=k+(j+1) by lia]⟩
  ·rintro⟨j,c,h,e⟩;cases j with
   |zero =>
    have h:d=c:=by simpa using h
    subst h;exact .inl e
   |succ j=>exact .inr ⟨j,c,by simpa using h,by rw[e,show k+1+j=k+(j+1) by lia]⟩
def Lv(G:Gv)(n i:Nat)(u v:Int):Prop:=∃a b:Nat,u=a/\v=b/\a<2^n/\b<2^n/\CG G n i a b≠0
theorem Tr{G:Gv}{n i:Nat}{q:Sq}{a b c d:Nat}(nd:GN G n i q a b c d)(u v:Int):Lv G (n+1) i u v ↔ ∃k,k<4/\Lv G n (f4 a b c d k) (u-2^n*((k:Int)%2)) (v-2^n*((k:Int)/2)):=by
 have cc:=FP n;constructor
 ·rintro⟨x,y,rfl,rfl,hx,hy,ne⟩;rw[BC nd hx hy]at ne;have x2:=Fo hx;have y2:=Fo hy;refine⟨quad n x y,CS hx hy,x%2^n,y%2^n,?_,?_,J7 _ (Bd n),J7 _ (Bd n),ne⟩
  ·have e:=L9 x (2^n);have q2:((quad n x y:Nat):Int)%2=((x/2^n:Nat):Int):=by
    unfold quad;generalize x/2^n=A at *
    generalize y/2^n=B at *
    lia
   rw[q2,<-cc,<-O4];lia
  ·have e:=L9 y (2^n);have q2:((quad n x y:Nat):Int)/2=((y/2^n:Nat):Int):=by
    unfold quad;generalize x/2^n=A at *
    generalize y/2^n=B at *
    lia
   rw[q2,<-cc,<-O4];lia
 ·rintro⟨k,hk,x,y,ex,ey,hx,hy,ne⟩;obtain⟨h1,h2,h3,h4,h5⟩:=GK hk hx hy;refine⟨x+2^n*(k%2),y+2^n*(k/2),?_,?_,h1,h2,?_⟩
  ·rw[N1,O4,cc,show((k%2:Nat):Int)=(k:Int)%2 from rfl];lia
  ·rw[N1,O4,cc,show((k/2:Nat):Int)=(k:Int)/2 from rfl];lia
  ·rw[BC nd h1 h2,h3,h4,h5];exact ne
theorem Oq{L:Int->Int->Prop}{b:Bx}{half:Int}{k:Nat}(h:NL L b):NL (λu v=>L (u-half*((k:Int)%2)) (v-half*((k:Int)/2))) (shB half k b):=by
 obtain⟨v1,a1⟩:=h.le;obtain⟨v2,a2⟩:=h.to;obtain⟨v3,a3⟩:=h.ri;obtain⟨v4,a4⟩:=h.bo;unfold shB;generalize half*((k:Int)%2)=p;generalize half*((k:Int)/2)=q;refine⟨λu v m=>?_,⟨v1+q,?_⟩,⟨v2+p,?_⟩,⟨v3+q,?_⟩,⟨v4+p,?_⟩⟩
 ·have:=h.inn _ _ m;dsimp only;lia
 ·show L (b.l+p-p) (v1+q-q);rw[M6,M6];exact a1
 ·show L (v2+p-p) (b.t+q-q);rw[M6,M6];exact a2
 ·show L (b.l+p+b.w-1-p) (v3+q-q);rw[M6,show b.l+p+b.w-1-p=b.l+b.w-1 by lia];exact a3
 ·show L (v4+p-p) (b.t+q+b.h-1-q);rw[M6,show b.t+q+b.h-1-q=b.t+b.h-1 by lia];exact a4
theorem LI{G:Gv}(ok:GOk G):∀{n i:Nat}{b:Bx},Ak G i (n:Int)->BJ G n i=some b->NL (Lv G n i) b
 |0,i,b,_,h=>by
  have h:(if i=0 then none else some (⟨0,0,1,1⟩:Bx))=some b:=h;by_cases z:i=0
  ·rw[W2 z]at h;cases h
  ·rw[V8 z]at h;cases h;have l0:Lv G 0 i 0 0:=⟨0,0,rfl,rfl,by decide,by decide,z⟩
   refine⟨λu v m=>?_,⟨0,l0⟩,⟨0,l0⟩,⟨0,l0⟩,⟨0,l0⟩⟩;obtain⟨x,y,rfl,rfl,hx,hy,_⟩:=m;have hx:x<1:=hx;have hy:y<1:=hy;dsimp only;lia
 |n+1,i,b,l,h=>by
  obtain⟨q,a,b',c,d,nd⟩:=BH ok l;rw[Ev nd]at h;have obs:∀k,k<4->[BJ G n a,BJ G n b',BJ G n c,BJ G n d][k]?=some (BJ G n (f4 a b' c d k)):=λk hk=>by
   match k,hk with
   |0,_=>rfl
   |1,_=>rfl
   |2,_=>rfl
   |3,_=>rfl
  have key:∀e,e∈Dh (2^n) 0 [BJ G n a,BJ G n b',BJ G n c,BJ G n d] ↔ ∃k e',k<4/\BJ G n (f4 a b' c d k)=some e'/\e=shB (2^n) k e':=λe=>by
   rw[Nl];constructor
   ·rintro⟨j,c',hj,rfl⟩;have j4:j<4:=(B4.mp hj).1;rw[obs j j4]at hj;exact⟨j,c',j4,W3 hj,by rw[M7]⟩
   ·rintro⟨k,e',hk,h1,rfl⟩;exact⟨k,e',by rw[obs k hk,h1],by rw[M7]⟩
  unfold NX at h;cases hg:Dh (2^n) 0 [BJ G n a,BJ G n b',BJ G n c,BJ G n d]with
  |nil=>rw[hg]at h;cases h
  |cons e0 es =>
   rw[hg]at h;have h:=W3 h;rw[hg]at key;subst h;refine Ue A4 (λe he=>?_) λu v m=>?_
   ·obtain⟨k,e',hk,h1,rfl⟩:=(key e).mp he;refine⟨_,Oq (LI ok (nd.nat hk).2 h1),λu v m=>(Tr nd u v).mpr ⟨k,hk,m⟩⟩
   ·obtain⟨k,hk,m⟩:=(Tr nd u v).mp m;cases hb:BJ G n (f4 a b' c d k)with
    |none =>
     have c0:=(JY ok n _ (nd.nat hk).2).mp hb;obtain⟨x,y,_,_,hx,hy,ne⟩:=m;exact absurd (cell_none ok (nd.nat hk).2 c0 hx hy) ne
    |some e' =>
     have t:=Oq (half:=2^n) (k:=k) (LI ok (nd.nat hk).2 hb);exact⟨_,(key _).mpr ⟨k,e',hk,hb,rfl⟩,t.inn u v m⟩
where cell_none {G:Gv} (ok:GOk G):∀{n i x y:Nat},Ak G i (n:Int)->Dc G n i=0->x<2^n->y<2^n->CG G n i x y=0
 |0,i,x,y,_,h,_,_=>by
  have h:(if i=0 then(0:Int)else 1)=0:=h;show i=0;by_cases z:i=0
  ·exact z
  ·rw[V8 z]at h;lia
 |n+1,i,x,y,l,h,hx,hy=>by
  obtain⟨q,a,b,c,d,nd⟩:=BH ok l;have e:=II nd;have e:Dc G (n+1) i=Dc G n a+(Dc G n b+(Dc G n c+(Dc G n d+0))):=e;have ea:=Es G n a;have eb:=Es G n b;have ec:=Es G n c;have ed:=Es G n d;have qk:=CS hx hy;rw[BC nd hx hy];refine cell_none ok (nd.nat qk).2 ?_ (J7 _ (Bd n)) (J7 _ (Bd n));generalize quad n x y=k at qk
  match k,qk with
  |0,_=>show Dc G n a=0;lia
  |1,_=>show Dc G n b=0;lia
  |2,_=>show Dc G n c=0;lia
  |3,_=>show Dc G n d=0;lia
seal L2.PA L2.PE L2.PS L2.PSs L2.PT L2.PW
theorem Ra{G:Gv}{n f:Nat}(x y:Int):Lv G (n+1) f (x+2^n) (y+2^n)↔fieldF G n f x y≠0:=by
 have c:=FP n;have e:=QJ n;constructor
 ·rintro⟨u,v,eu,ev,hu,hv,ne⟩;unfold fieldF;rw[W2 ⟨by lia,by lia,by lia,by lia⟩,show(x+2^n).toNat=u by lia,show(y+2^n).toNat=v by lia];exact ne
 ·intro ne;unfold fieldF at ne;split at ne
  ·rename_i z;obtain⟨z1,z2,z3,z4⟩:=z;exact⟨(x+2^n).toNat,(y+2^n).toNat,by lia,by lia,GO z1 z2,GO z3 z4,ne⟩
  ·exact absurd rfl ne
def mvB(r:Int)(b:Bx):Bx:=⟨b.l+-r,b.t+-r,b.w,b.h⟩
theorem Qk{G:Gv}(ok:GOk G){n f:Nat}(l:Ak G f ((n+1:Nat):Int)){b:Bx}(h:BJ G (n+1) f=some b):NL (λx y=>fieldF G n f x y≠0) (mvB (2^n) b):=by
 have t:=LI ok l h;obtain⟨v1,a1⟩:=t.le;obtain⟨v2,a2⟩:=t.to;obtain⟨v3,a3⟩:=t.ri;obtain⟨v4,a4⟩:=t.bo;have go:∀{u v:Int},Lv G (n+1) f u v->fieldF G n f (u+-(2^n)) (v+-(2^n))≠0:=λ{u v} m=>(Ra _ _).mp (by rw[show u+-(2^n)+2^n=u by lia,show v+-(2^n)+2^n=v by lia];exact m);unfold mvB;refine⟨λx y m=>?_,⟨_,go a1⟩,⟨_,go a2⟩,⟨v3+-(2^n),?_⟩,⟨v4+-(2^n),?_⟩⟩
 ·have:=t.inn _ _ ((Ra x y).mpr m);dsimp only;lia
 ·have:=go a3;rw[show b.l+b.w-1+-(2^n)=b.l+-(2^n)+b.w-1 by lia]at this;exact this
 ·have:=go a4;rw[show b.t+b.h-1+-(2^n)=b.t+-(2^n)+b.h-1 by lia]at this;exact this
section
variable{P:Program}{w:World}{K:PySem.W.Frag}{mg:Str->Option Value}{base:Heap}{a:Ad}
inductive TW(a:Ad)(vs:List V)(H:Hp)(Q:VK):Prop
 |mk (g:GA) (G:Gv) (f n:Nat) (_:vs=[.ref g.p,.int f]) (_:Bc a H g G) (_:Ak G f ((n+1:Nat):Int)) (_:n<48) (_:G.length<8000000) (_:(BJ G (n+1) f=none->∀H',FrQ g H H'->Bc a H' g G->Q .non H')) (_:∀b,BJ G (n+1) f=some b->∀t H',FrQ g H H'->Bc a H' g G->LN H' t (mvB (2^n) b)->Q (.ref t) H'):TW a vs H Q
def Pd(a:Ad):Sp:=λvs H Q _=>TW a vs H Q
theorem Wg{f:Addr}{fd:FuncData}(F:Fun K "box_of" "box_of" MT f fd)(T:Top K mg a)(bO:BN P w K mg base CX0 101 a.c_Grove "span" GG (RF a))(aI:Cal P w K mg base CX0 4 "reach_of" DK (IA a))(aG:Cal P w K mg base CX0 1 "shifted_box" CN Js):AK P w K mg base CX0 102 f fd Nb (Pd a):=by
 refine F.ok Le (λvs H Q E h=>?_) (λcdv A outer s H vs Q E hr h=>?_)
 ·obtain⟨g,G,f',n,rfl,_⟩:=h;rfl
 ·obtain⟨g,G,f',n,rfl,fu,lf,n48,few,k0,k1⟩:=h;refine⟨_,(Ab (Aq (i:=2) Le.nd rfl (Or.inl rfl) (AB (pv 0) bO (rm hr) An (Aa (pv 1) Ac))) (Ab (AQ (AD Jk (pv 2) DI (AI _)) (Ag (Aw DI)) AE) (Ab (Aq (i:=3) Le.nd rfl (Or.inl rfl) (Au aI (rm hr) rfl An (Aa (pv 0) (Aa (pv 1) Ac)))) (Ag (Aw (Au aG (rm hr) rfl An (Aa (pv 2) (Aa (Fj Di (pv 3)) (Aa (Fj Di (pv 3)) Ac))))))))),?_⟩
  try dsimp only[cxK]
  refine xq1 rfl ⟨g.p,g.dx,(xq1 rfl ⟨fu.at'.hp,no_span g,(xq1 rfl ⟨g,G,f',n+1,rfl,fu,lf,by lia,λhn H1 fr1 fu1=>?_,λb hb t H1 fr1 fu1 ht=>?_⟩)⟩)⟩
  ·exact xq1 rfl ⟨rfl,(xq1 rfl (CK (k0 hn H1 fr1 fu1)))⟩
  ·refine xq1 rfl ⟨rfl,(xq1 rfl (Bw ?_))⟩;refine xw2 rfl rfl ⟨g,G,f',n,rfl,fu1.at',lf,n48,?_⟩;refine xw3 rfl rfl rfl (xw2 rfl rfl ⟨t,b,_,_,rfl,ht,λt' ht'=>?_⟩);have s2:=AJ (o:=.tup [.int (b.l+-(2^n)),.int (b.t+-(2^n)),.int b.w,.int b.h]) ht';exact k1 b hb t' _ (fr1.trans (AA.frq s2)) (fu1.same s2) Af
end
end J
namespace J
open PySem L2
theorem cel_F{G:Gv}(ok:GOk G):∀{n i x y:Nat},Ak G i (n:Int)->x<2^n->y<2^n->cel G n i x y=CG G n i x y
 |0,_,_,_,_,_,_=>rfl
 |n+1,i,x,y,h,hx,hy=>by
  obtain⟨q,a,b,c,d,nd⟩:=BH ok h;rw[BC nd hx hy];have p:=Bd n;have hx2:x/2^n<2:=Nat.div_lt_of_lt_mul (by rw[D7]at hx;lia);have hy2:y/2^n<2:=Nat.div_lt_of_lt_mul (by rw[D7]at hy;lia);have e:qO G i ((x/2^n)%2+2*((y/2^n)%2))=f4 a b c d (quad n x y):=by
   have:=(nd.nat (CS hx hy)).1;unfold qO;rw[nd.g,N4 hx2,N4 hy2];show(q.parts.getD (quad n x y) 0).toNat=_;rw[D9,this];rfl
  show cel G n (qO G i ((x/2^n)%2+2*((y/2^n)%2))) x y=_;rw[e,<-cel_F ok (nd.nat (CS hx hy)).2 (J7 _ p) (J7 _ p)];have:=PV G n (f4 a b c d (quad n x y)) (x%2^n) (y%2^n) (x/2^n) (y/2^n);rw[Nat.mod_add_div,Nat.mod_add_div]at this;exact this
theorem Mt{α β:Type}(f:α->List β)(m:Nat):∀l:List α,(∀x∈l,(f x).length<=m)->(l.flatMap f).length<=l.length*m
 |[],_=>by simp
 |a::l,h=>by
  have:=Mt f m l λx hx=>h x (C1 _ hx);have:=h a C0;rw[V6,C4,D8,Nat.succ_mul];lia
structure ZS(a:Ad)(H:Hp)(g:GA)(G:Gv)(Κ:KTy)(N b:Nat)(p dx mem pr:Addr)(r:AC)(m:MA):Prop where
 jz:JZ a H g G Κ N b p dx mem pr r m
 fu:Bc a H g G
 na:g.am∉m.ds
 nb:g.bx∉m.ds
def FrZ(g:GA)(m:MA)(H H':Hp):Prop:=∀b o,H b=some o->b∉[g.lv,g.pt,g.nm,g.am,g.bx,m.kc]->b∉m.ds->H' b=some o
section
variable{a:Ad}{H H' H1 H2 H3:Hp}{g:GA}{G G':Gv}{Κ:KTy}{N b i:Nat}{p dx mem pr:Addr}{r:AC}{m:MA}
theorem FrZ.trans(h:FrZ g m H1 H2)(k:FrZ g m H2 H3):FrZ g m H1 H3:=λb o e n1 n2=>k b o (h b o e n1 n2) n1 n2
theorem AA.z(s:AA H H'):FrZ g m H H':=λb o e _ _=>s b o e
theorem Fr.z(f:Fr g H H'):FrZ g m H H':=λb o e n1 _=>f b o e (λz=>n1 (by simp[z])) (λz=>n1 (by simp[z])) (λz=>n1 (by simp[z]))
theorem FrQ.z(f:FrQ g H H'):FrZ g m H H':=λb o e n1 _=>f b o e (λz=>n1 (by simp[z])) (λz=>n1 (by simp[z]))
theorem FrJ.z(f:FrJ g m H H'):FrZ g m H H':=λb o e n1 n2=>f b o e (λz=>n1 (by simp[z])) (λz=>n1 (by simp[z])) (λz=>n1 (by simp[z])) (λz=>n1 (by simp[z])) n2
theorem ZS.same(h:ZS a H g G Κ N b p dx mem pr r m)(s:AA H H'):ZS a H' g G Κ N b p dx mem pr r m:=⟨h.jz.same s,h.fu.same s,h.na,h.nb⟩
theorem ZS.mono{b':Nat}(h:ZS a H g G Κ N b p dx mem pr r m)(e:b<=b'):ZS a H g G Κ N b' p dx mem pr r m:=⟨h.jz.mono e,h.fu,h.na,h.nb⟩
theorem ZS.fr(h:ZS a H g G Κ N b p dx mem pr r m)(f:Fr g H H')(fu:Bc a H' g G')(go:AG G G' i):ZS a H' g G' Κ N (b+i) p dx mem pr r m:=⟨h.jz.fr f fu.at' go,fu,h.na,h.nb⟩
theorem ZS.frQ(h:ZS a H g G Κ N b p dx mem pr r m)(f:FrQ g H H')(fu:Bc a H' g G):ZS a H' g G Κ N b p dx mem pr r m:=by
 have hj:=h.jz.jw;have nd:∀{x:Addr}{o:HO},H x=some o->(∀ks,o≠.dK ks)->H' x=some o:=λ{x o} e n=>f _ _ e (h.fu.ne_am e n).1 (h.fu.ne_am e n).2;have kd:∀d∈m.ds,∀o,H d=some o->H' d=some o:=λd hd o e=>f _ _ e (λz=>h.na (z▸hd)) (λz=>h.nb (z▸hd));obtain⟨kc,c1,_⟩:=hj.me.ce;have me:GX H' g G N (b+10*N) r m:=hj.me.kp hj.ok (AG.refl hj.ok) λx o e w=>by
  rcases w with z|z|z|z
  ·subst z;exact nd e (by rw[hj.me.tp]at e;cases e;intro ks z;cases z)
  ·subst z;exact nd e (by rw[hj.me.l]at e;cases e;intro ks z;cases z)
  ·exact kd x z o e
  ·subst z;exact nd e (by rw[c1]at e;cases e;intro ks z;cases z)
 obtain⟨ff,cn⟩:=h.jz.cn;refine⟨⟨⟨fu.at',hj.ok,hj.bs,fu.br,hj.nbr,nd hj.hp (by intro ks z;cases z),hj.ru.kp λx o e n=>nd e (by intro ks z;rw[z]at n;cases n),hj.rok,hj.rest,me⟩,ff,cn.kp (i:=0) hj.ok (AG.refl hj.ok) kd λkc' e=>⟨kc',nd e (by intro ks z;cases z),B6 _⟩⟩,fu,h.na,h.nb⟩
theorem ZS.aft(h:ZS a H g G Κ N b p dx mem pr r m)(f:FrJ g m H H')(jz:JZ a H' g G' Κ N b p dx mem pr r m)(go:AG G G' i):ZS a H' g G' Κ N b p dx mem pr r m:=by
 have hj:=h.jz.jw;refine⟨jz,?_,h.na,h.nb⟩;obtain⟨at',ok,⟨r0,g0⟩,br,⟨ks,h1,h2⟩,⟨ks',h3,h4⟩,n1,n2,n3⟩:=h.fu;obtain⟨us,hp,_⟩:=at'.pt;obtain⟨kc,c1,_⟩:=hj.me.ce;have nds:∀{x:Addr}{o:HO},H x=some o->(∀ks,o≠.dK ks)->x∉m.ds:=λ{x o} e n z=>by
  obtain⟨j,hj'⟩:=F4 z;obtain⟨kv,e2,_⟩:=hj.me.sq j x hj';rw[e]at e2;cases e2;exact n _ rfl
 obtain⟨t,et⟩:=go.pre;have dk:∀{x:Addr}{ks:List (Key×V)},H x=some (.dK ks)->x∉m.ds->H' x=some (.dK ks):=λ{x ks} e n=>f _ _ e (Ay e at'.lv A2) (Ay e hp A2) (Ay e at'.nm A2) (Ay e c1 A2) n;refine⟨jz.jw.gr,go.ok,⟨r0++t,by rw[et,g0,O7]⟩,jz.jw.br,⟨ks,dk h1 h.na,h2.app ok go⟩,⟨ks',dk h3 h.nb,h4.keys.app go.le,λi v e=>?_⟩,n1,n2,n3⟩;obtain⟨l,bb,t,e1,e2,e3,e4⟩:=h4.val i v e;exact⟨l,bb,t,go.lev e1,by rw[FX ok go l i e1];exact e2,e3,f _ _ e4 (Ay e4 at'.lv A2) (Ay e4 hp A2) (Ay e4 at'.nm A2) (Ay e4 c1 A2) (nds e4 (by intro ks z;cases z))⟩
theorem ZS.keep(h:ZS a H g G Κ N b p dx mem pr r m)(f:FrZ g m H H'){x:Addr}{o:HO}(e:H x=some o)(k1:∀xs,o≠.lst xs)(k2:∀ks,o≠.dK ks)(k3:∀ks,o≠.dT ks):H' x=some o:=by
 have hj:=h.jz.jw;obtain⟨us,hp,_⟩:=h.fu.at'.pt;obtain⟨kc,c1,_⟩:=hj.me.ce;have n1:=h.fu.ne_am e k2;refine f _ _ e (λz=>?_) (λz=>?_)
 ·simp only[B8,D0,Y5]at z;rcases z with z|z|z|z|z|z
  ·exact Ay e h.fu.at'.lv (k1 _) z
  ·exact Ay e hp (k1 _) z
  ·exact Ay e h.fu.at'.nm (k3 _) z
  ·exact n1.1 z
  ·exact n1.2 z
  ·exact Ay e c1 (k3 _) z
 ·obtain⟨j,hj'⟩:=F4 z;obtain⟨kv,e2,_⟩:=hj.me.sq j x hj';exact Ay e e2 (k2 _) rfl
theorem ZS.new(h:ZS a H g G Κ N b p dx mem pr r m){x:Addr}(n:H x=none):x∉[g.lv,g.pt,g.nm,g.am,g.bx,m.kc]/\x∉m.ds:=by
 have hj:=h.jz.jw;obtain⟨us,hp,_⟩:=h.fu.at'.pt;obtain⟨kc,c1,_⟩:=hj.me.ce;obtain⟨ks,h1,_⟩:=h.fu.am;obtain⟨ks',h3,_⟩:=h.fu.bx;refine⟨λz=>?_,λz=>?_⟩
 ·simp only[B8,D0,Y5]at z;rcases z with rfl|rfl|rfl|rfl|rfl|rfl
  ·rw[h.fu.at'.lv]at n;cases n
  ·rw[hp]at n;cases n
  ·rw[h.fu.at'.nm]at n;cases n
  ·rw[h1]at n;cases n
  ·rw[h3]at n;cases n
  ·rw[c1]at n;cases n
 ·obtain⟨j,hj'⟩:=F4 z;obtain⟨kv,e2,_⟩:=hj.me.sq j x hj';rw[e2]at n;cases n
end
theorem JW.putL{a:Ad}{H:Hp}{g:GA}{G:Gv}{N M:Nat}{p dx mem pr x:Addr}{r:AC}{m:MA}{xs:List V}{o:HO}(h:JW a H g G N M p dx mem pr r m)(hx:H x=some (.lst xs))(n1:x≠g.lv)(n2:x≠g.pt)(n3:x≠g.br)(n4:x≠m.l):JW a (upd H x o) g G N M p dx mem pr r m:=by
 have other:∀{b v},H b=some v->(∀l,v≠.lst l)->upd H x o b=some v:=λ{b v} e n=>by rw[Ao (Ay e hx (n _))];exact e
 refine⟨h.gr.put hx n1 n2,h.ok,h.bs,by rw[Ao (W4 n3)];exact h.br,h.nbr,other h.hp A6,h.ru.kp λb o e n=>other e λl z=>(by rw[z]at n;cases n),h.rok,h.rest,h.me.kp h.ok (AG.refl h.ok) λb o e w=>?_⟩;rcases w with z|z|z|z
 ·have e2:=h.me.tp;rw[<-z,e]at e2;cases e2;exact other e A6
 ·rw[z]at e⊢;rw[Ao (W4 n4)];exact e
 ·obtain⟨j,hj⟩:=F4 z;obtain⟨kv,e2,_⟩:=h.me.sq j b hj;rw[e]at e2;cases e2;exact other e A6
 ·obtain⟨kc,e2,_⟩:=h.me.ce;rw[z]at e⊢;rw[e]at e2;cases e2;exact other e A6
structure ApZ(g:GA)(m:MA)(x:Addr):Prop where
 n0:x∉[g.lv,g.pt,g.nm,g.am,g.bx,m.kc]
 n1:x∉m.ds
 n2:x≠g.br
 n3:x≠m.l
section
variable{a:Ad}{H H':Hp}{g:GA}{G G':Gv}{Κ:KTy}{N b i:Nat}{p dx mem pr:Addr}{r:AC}{m:MA}
theorem ZS.ap(h:ZS a H g G Κ N b p dx mem pr r m){x:Addr}(n:H x=none):ApZ g m x:=by
 obtain⟨n0,n1⟩:=h.new n;refine⟨n0,n1,λz=>?_,λz=>?_⟩
 ·rw[z,h.fu.br]at n;cases n
 ·rw[z,h.jz.jw.me.l]at n;cases n
theorem ZS.putL{x:Addr}{xs:List V}{o:HO}(h:ZS a H g G Κ N b p dx mem pr r m)(hx:H x=some (.lst xs))(ap:ApZ g m x):ZS a (upd H x o) g G Κ N b p dx mem pr r m:=by
 have lv:x≠g.lv:=λz=>ap.n0 (by simp[z]);have pt:x≠g.pt:=λz=>ap.n0 (by simp[z]);obtain⟨f,c⟩:=h.jz.cn;refine⟨⟨h.jz.jw.putL hx lv pt ap.n2 ap.n3,f,c.kp (i:=0) h.jz.jw.ok (AG.refl h.jz.jw.ok) (λd hd o' e=>?_) λkc e=>⟨kc,?_,B6 _⟩⟩,h.fu.put hx lv pt ap.n2,h.na,h.nb⟩
 ·rw[Ao (λz:d=x=>ap.n1 (z▸hd))];exact e
 ·rw[Ao (Ay e hx A2)];exact e
end
theorem PP{G:Gv}(ok:GOk G){n f:Nat}(lf:Ak G f ((n+1:Nat):Int)){x y:Nat}(hx:x<2^(n+1))(hy:y<2^(n+1)):BZ G (n+1) f x y=(fieldF G n f ((x:Int)-2^n) ((y:Int)-2^n):Nat):=by
 unfold BZ fieldF;have p:((2^(n+1):Nat):Int)=2^n+2^n:=by rw[F3];exact Ci n
 rw[W2 A0,cel_F ok lf hx hy];congr 2<;>lia
seal L2.PA L2.PE L2.PS L2.PSs L2.PT L2.PW
section
variable{P:Program}{w:World}{K:PySem.W.Frag}{mg:Str->Option Value}{base:Heap}{a:Ad}
inductive SpLvF(a:Ad)(vs:List V)(H:Hp)(Q:VK):Prop
 |mk (g:GA) (G:Gv) (f n e:Nat) (_:vs=[.ref g.p,.int f,.int e]) (_:AH a H g G) (_:Ak G f ((n+1:Nat):Int)) (_:n<=40) (_:e<=40) (_:∀l:Nat,l<=41->n<=l->e<=l->2^n+2^e<=2^l->Q (.int ((l+2:Nat):Int)) H):SpLvF a vs H Q
def Vv(a:Ad):Sp:=λvs H Q _=>SpLvF a vs H Q
theorem ok_lvf{f:Addr}{fd:FuncData}(F:Fun K "level_for" "level_for" Id f fd)(T:Top K mg a)(aI:Cal P w K mg base CX0 4 "reach_of" DK (IA a)):AK P w K mg base CX0 5 f fd Il (Vv a):=by
 refine F.ok En (λvs H Q E h=>?_) (λcdv A outer s H vs Q E hr h=>?_)
 ·obtain⟨g,G,f',n,e,rfl,_⟩:=h;rfl
 ·obtain⟨g,G,f',n,e,rfl,hg,lf,n40,e40,k⟩:=h;refine⟨_,(Ab (Aq (i:=3) En.nd rfl (Or.inl rfl) (AF Bl (Au aI (rm hr) rfl An (Aa (pv 0) (Aa (pv 1) Ac))) (AF Db Ae (pv 2)))) (Ab (Aq (i:=4) En.nd rfl (Or.inl rfl) Ae) (Ab (Ig Y4 (AD Io (AF Db Ae (AF BG (pv 4) Ae)) (pv 3) (AI _)) (Ag (Aq (i:=4) En.nd rfl (Or.inl rfl) (AF Bl (pv 4) Ae)))) (Ag (Aw (pv 4)))))),?_⟩
  try dsimp only[cxK]
  refine Br ?_;intro r1 s1 k1 hk1 E1;refine xw2 rfl rfl ⟨g,G,f',n,rfl,hg,lf,by lia,?_⟩;refine xwb rfl rfl rfl ⟨⟨by lia,by lia,by decide⟩,_,_,rfl,rfl,?_⟩;have eR:(2:Int)^n+1*2^(e:Int).toNat=((2^n+2^e:Nat):Int):=by
   rw[J1,U9,N1,F3,F3];rfl
  have pn:2^n<=2^40:=L5 A3 n40;have pe:2^e<=2^40:=L5 A3 e40;have pn0:=Bd n;have pe0:=Bd e;rw[show(λi j:Int=>V.int (i+j)) (2^n) ((λi j:Int=>i*2^j.toNat) 1 (e:Int))=V.int ((2^n+2^e:Nat):Int)from W8 V.int eR];generalize hR:2^n+2^e=R at k;have R41:R<=2^41:=by rw[<-hR];lia
  refine hk1 ?_;refine Br ?_;intro r2 s2 k2 hk2 E2;refine hk2 ?_;refine⟨λm σ H2=>∃j:Nat,σ=[some (.ref g.p),some (.int f'),some (.int (e:Int)),some (.int (R:Int)),some (.int ((j+2:Nat):Int))]/\H2=H/\j+m=41,⟨41,0,rfl,rfl,rfl⟩,?_⟩;rintro m σ H2 ⟨j,rfl,rfl,jm⟩;refine xwb rfl rfl rfl ⟨_,_,rfl,rfl,⟨by lia,by lia,by decide⟩,_,rfl,_,_,rfl,rfl,_,rfl,?_⟩;have eJ:(1:Int)*2^(((j+2:Nat):Int)-2).toNat=((2^j:Nat):Int):=by
   rw[show(((j+2:Nat):Int)-2).toNat=j by lia,U9,F3];rfl
  refine LY (λhc=>?_) (λhc=>?_)
  ·have hc:=Y7 hc;have hc:(1:Int)*2^(((j+2:Nat):Int)-2).toNat<(R:Int):=hc;rw[eJ]at hc;have m0:m≠0:=λz=>by
    subst z;have:j=41:=by lia
    subst this;lia
   refine⟨fun σ' H'=>∃j2:Nat,σ'=[some (.ref g.p),some (.int f'),some (.int (e:Int)),some (.int (R:Int)),some (.int ((j2+2:Nat):Int))]/\H'=H2/\j2+(m-1)=41,fun σ' H' z=>⟨m-1,by lia,z⟩,?_⟩;have ej:((j+2:Nat):Int)+1=((j+1+2:Nat):Int):=by lia
   exact xwb rfl rfl rfl ⟨j+1,W8 (λz:Int=>[some (V.ref g.p),some (V.int f'),some (V.int (e:Int)),some (V.int (R:Int)),some (V.int z)]) ej,rfl,by lia⟩
  ·have hc:¬(1:Int)*2^(((j+2:Nat):Int)-2).toNat<(R:Int):=λz=>hc (V9 z);rw[eJ]at hc;have le:R<=2^j:=by lia
   refine⟨_,rfl,k j A0 ?_ ?_ le⟩
   ·refine N5 λz=>?_;have:2^j<2^n:=U5 A3 z;lia
   ·refine N5 λz=>?_;have:2^j<2^e:=U5 A3 z;lia
inductive SpWT(a:Ad)(vs:List V)(H:Hp)(Q:VK):Prop
 |mk (g:GA) (G:Gv) (f n k:Nat) (_:vs=[.ref g.p,.int f,.int ((n+k+1:Nat):Int)]) (_:Bc a H g G) (_:Ak G f ((n+1:Nat):Int)) (_:n+k<=46) (_:G.length<8000000) (_:∀(v:Nat)(G':Gv)(H':Hp),Fr g H H'->Bc a H' g G'->AG G G' (5*k)->LK G' n f k v->Ak G' v ((n+k+1:Nat):Int)->Q (.int v) H'):SpWT a vs H Q
def spWT(a:Ad):Sp:=λvs H Q _=>SpWT a vs H Q
theorem ok_wt{f:Addr}{fd:FuncData}(F:Fun K "widened_to" "widened_to" Gf f fd)(T:Top K mg a)(a9:BN P w K mg base CX0 3 a.c_Grove "level_of" Bb (LP a))(bB:Cal P w K mg base CX0 4 "widened" IE (ST a)):AK P w K mg base CX0 5 f fd Gx (spWT a):=by
 refine F.ok Fs (λvs H Q E h=>?_) (λcdv A outer s H vs Q E hr h=>?_)
 ·obtain⟨g,G,f',n,kk,rfl,_⟩:=h;rfl
 ·obtain⟨g,G,f',n,kk,rfl,fu,hl,n46,few,k⟩:=h;refine⟨_,(Ab (Aq (i:=3) Fs.nd rfl (Or.inl rfl) (pv 1)) (Ab (Ig Y4 (AD Io (AB (pv 0) a9 (rm hr) An (Aa (pv 3) Ac)) (pv 2) (AI _)) (Ag (Aq (i:=3) Fs.nd rfl (Or.inl rfl) (Au bB (rm hr) rfl An (Aa (pv 0) (Aa (pv 3) Ac)))))) (Ag (Aw (pv 3))))),?_⟩
  try dsimp only[cxK]
  refine xq1 rfl ?_;refine⟨λm σ H2=>∃(G':Gv)(c j:Nat),σ=[some (.ref g.p),some (.int f'),some (.int ((n+kk+1:Nat):Int)),some (.int c)]/\Fr g H H2/\Bc a H2 g G'/\AG G G' (5*j)/\j+m=kk/\Ak G' c ((n+j+1:Nat):Int)/\LK G' n f' j c,⟨kk,G,f',0,rfl,Fr.refl g H,fu,AG.refl fu.ok,by lia,hl,rfl⟩,?_⟩;rintro m σ H2 ⟨G',c,j,rfl,fr,fu2,go,e40,lc,wn⟩;have gf:=go.few;obtain⟨q,eq,el⟩:=id lc;refine⟨_,rfl,g.p,g.dx,_,rfl,fu2.at'.hp,DP g,_,rfl,⟨g,G',c,q,rfl,fu2.at',eq,?_⟩⟩;rw[el];refine⟨_,rfl,_,_,rfl,rfl,_,rfl,LY (λhc=>?_) (λhc=>?_)⟩
  ·have hc:((n+j+1:Nat):Int)<((n+kk+1:Nat):Int):=Y7 hc;refine⟨fun σ' H'=>∃(G2:Gv)(c2 j2:Nat),σ'=[some (.ref g.p),some (.int f'),some (.int ((n+kk+1:Nat):Int)),some (.int c2)]/\Fr g H H'/\Bc a H' g G2/\AG G G2 (5*j2)/\j2+(m-1)=kk/\Ak G2 c2 ((n+j2+1:Nat):Int)/\LK G2 n f' j2 c2,fun σ' H' z=>⟨m-1,by lia,z⟩,?_⟩;refine xw2 rfl rfl ⟨g,G',c,n+j,rfl,fu2,lc,by lia,by lia,λc2 G2 H3 fr3 hg3 go3 wi=>?_⟩;refine⟨G2,c2,j+1,rfl,fr.trans fr3,fu2.fr fr3 hg3 go3,(go.trans go3).mono A0,by lia,?_,⟨c,wn.app go3,wi⟩⟩;have:=wi.lev;rw[show n+(j+1)+1=n+j+2 by lia];exact this
  ·have hc:¬((n+j+1:Nat):Int)<((n+kk+1:Nat):Int):=λz=>hc (V9 z);have:j=kk:=by lia
   subst this;exact⟨_,rfl,k c G' H2 fr fu2 go wn lc⟩
end
end J
namespace J
open PySem L2
def sF(r:AC)(φ:Int->Int->Nat):Int->Int->Nat:=λx y=>(CQ r (φ x y:Nat) [((φ (x-1) (y-1):Nat):Int),((φ x (y-1):Nat):Int),((φ (x+1) (y-1):Nat):Int),((φ (x-1) y:Nat):Int),((φ (x+1) y:Nat):Int),((φ (x-1) (y+1):Nat):Int),((φ x (y+1):Nat):Int),((φ (x+1) (y+1):Nat):Int)]).toNat
def sFN(r:AC):Nat->(Int->Int->Nat)->Int->Int->Nat
 |0,φ=>φ
 |n+1,φ=>sF r (sFN r n φ)
theorem Jz(r:AC)(φ:Int->Int->Nat)(n:Nat):∀m,sFN r (m+n) φ=sFN r m (sFN r n φ)
 |0=>by rw[M7];rfl
 |m+1=>by
  rw[show m+1+n=(m+n)+1 by lia];show sF r (sFN r (m+n) φ)=sF r (sFN r m (sFN r n φ));rw[Jz r φ n m]
theorem Tc(r:AC){φ ψ:Int->Int->Nat}{X Y:Int}:∀(k:Nat)(x y:Int),(∀u v,x-k<=u->u<=x+k->y-k<=v->v<=y+k->φ u v=ψ (u+X) (v+Y))->sFN r k φ x y=sFN r k ψ (x+X) (y+Y)
 |0,x,y,h=>h x y A0 A0 A0 A0
 |k+1,x,y,h=>by
  have ih:∀u v,x-1<=u->u<=x+1->y-1<=v->v<=y+1->sFN r k φ u v=sFN r k ψ (u+X) (v+Y):=λu v h1 h2 h3 h4=>Tc r k u v λa b q1 q2 q3 q4=>h a b A0 A0 A0 A0;show sF r (sFN r k φ) x y=sF r (sFN r k ψ) (x+X) (y+Y);unfold sF;rw[ih x y A0 A0 A0 A0,ih (x-1) (y-1) A0 A0 A0 A0,ih x (y-1) A0 A0 A0 A0,ih (x+1) (y-1) A0 A0 A0 A0,ih (x-1) y A0 A0 A0 A0,ih (x+1) y A0 A0 A0 A0,ih (x-1) (y+1) A0 A0 A0 A0,ih x (y+1) A0 A0 A0 A0,ih (x+1) (y+1) A0 A0 A0 A0];rw[show x-1+X=x+X-1 by lia,show y-1+Y=y+Y-1 by lia,show x+1+X=x+X+1 by lia,show y+1+Y=y+Y+1 by lia]
theorem Ie{r:AC}(h:CQ r 0 CI=0):∀k,sFN r k (λ_ _=>0)=λ_ _=>0
 |0=>rfl
 |k+1=>by
  show sF r (sFN r k λ_ _=>0)=_;rw[Ie h k]
  funext x y
  show(CQ r ((0:Nat):Int) CI).toNat=0;rw[show((0:Nat):Int)=0 from rfl,h];rfl
theorem MU{r:AC}(h:CQ r 0 CI=0){φ:Int->Int->Nat}{k:Nat}{x y:Int}(z:sFN r k φ x y≠0):∃u v,x-k<=u/\u<=x+k/\y-k<=v/\v<=y+k/\φ u v≠0:=by
 refine W5 λno=>z ?_;have:=Tc r (φ:=φ) (ψ:=λ_ _=>0) (X:=0) (Y:=0) k x y λu v h1 h2 h3 h4=>W5 λq=>no ⟨u,v,h1,h2,h3,h4,q⟩;rw[this,Ie h]
theorem bec_nn{r:AC}(h:La r){cell:Int}(hc:0<=cell)(ar:List Int):0<=CQ r cell ar:=by
 cases e:Ma r cell ar with
 |none=>rw[NI e];exact hc
 |some i =>
  obtain⟨c,h1,h2⟩:=NH e;rw[h2];exact(h.ok c (D2 h1)).makes.1
theorem Mh{r:AC}(ro:La r){c:Nat->Nat->Int}{φ:Int->Int->Nat}{X Y:Int}:∀(k x y:Nat),k<=x->k<=y->(∀u v:Nat,x-k<=u->u<=x+k->y-k<=v->v<=y+k->c u v=(φ ((u:Int)+X) ((v:Int)+Y):Nat))->Bg r k c x y=(sFN r k φ ((x:Int)+X) ((y:Int)+Y):Nat)
 |0,x,y,_,_,h=>h x y A0 A0 A0 A0
 |k+1,x,y,hx,hy,h=>by
  have ih:∀u v:Nat,x-1<=u->u<=x+1->y-1<=v->v<=y+1->Bg r k c u v=(sFN r k φ ((u:Int)+X) ((v:Int)+Y):Nat):=λu v h1 h2 h3 h4=>Mh ro k u v A0 A0 λa b q1 q2 q3 q4=>h a b A0 A0 A0 A0;show CQ r (Bg r k c x y) [Bg r k c (x-1) (y-1),Bg r k c x (y-1),Bg r k c (x+1) (y-1),Bg r k c (x-1) y,Bg r k c (x+1) y,Bg r k c (x-1) (y+1),Bg r k c x (y+1),Bg r k c (x+1) (y+1)]=((sF r (sFN r k φ) ((x:Int)+X) ((y:Int)+Y):Nat):Int)
  unfold sF;rw[P4 (bec_nn ro (Int.natCast_nonneg _) _)];rw[ih x y A0 A0 A0 A0,ih (x-1) (y-1) A0 A0 A0 A0,ih x (y-1) A0 A0 A0 A0,ih (x+1) (y-1) A0 A0 A0 A0,ih (x-1) y A0 A0 A0 A0,ih (x+1) y A0 A0 A0 A0,ih (x-1) (y+1) A0 A0 A0 A0,ih x (y+1) A0 A0 A0 A0,ih (x+1) (y+1) A0 A0 A0 A0];rw[show((x-1:Nat):Int)+X=x+X-1 by lia,show((y-1:Nat):Int)+Y=y+Y-1 by lia,show((x+1:Nat):Int)+X=x+X+1 by lia,show((y+1:Nat):Int)+Y=y+Y+1 by lia]
theorem fld_jg{G:Gv}(ok:GOk G){r:AC}(ro:La r)(re:CQ r 0 CI=0){l e f k:Nat}(lf:Ak G f ((l+1+1:Nat):Int))(jr:JR r G e f k){φ:Int->Int->Nat}(h:∀x y,fieldF G (l+1) f x y=φ x y)(far:∀x y,φ x y≠0->-(2^l)+2^e<=x/\x+2^e<2^l/\-(2^l)+2^e<=y/\y+2^e<2^l):Ak G k ((l+1:Nat):Int)/\∀x y,fieldF G l k x y=sFN r (2^e) φ x y:=by
 obtain⟨l',h1,h2,h3,h4⟩:=jr;have e':l'=l:=by
  have:=h1.one lf;lia
 subst e';have p:((2^(l'+1):Nat):Int)=2^l'+2^l':=by rw[F3];exact Ci l'
 have p0:((2^l':Nat):Int)=2^l':=F3 2 l';have pe:((2^e:Nat):Int)=2^e:=F3 2 e;have p2:((2^(l'+2):Nat):Int)=2^l'+2^l'+(2^l'+2^l'):=by
  rw[F3];show(2:Int)^(l'+2)=_;rw[show(2:Int)^(l'+2)=2^(l'+1)+2^(l'+1)from Ci (l'+1),Ci]
 have le:2^e<=2^l':=L5 A3 h2;refine⟨h3,λx y=>?_⟩;by_cases z:-(2^l')<=x/\x<2^l'/\-(2^l')<=y/\y<2^l'
 ·obtain⟨a1,a2,b1,b2⟩:=z;have at':(fieldF G l' k x y:Int)=Bg r (2^e) (BZ G (l'+2) f) ((x+2^l').toNat+2^l') ((y+2^l').toNat+2^l'):=by
   rw[<-h4 _ _ A0 A0,PP ok h3 A0 A0];congr 2<;>lia
  have e2:∀u:Int,-(2^l')<=u->((((u+2^l').toNat+2^l':Nat):Int)+-(2^(l'+1)))=u:=λu hu=>by
   rw[Ci,N1,p0];lia
  rw[Mh ro (φ:=φ) (X:=-(2^(l'+1))) (Y:=-(2^(l'+1))) _ _ _ A0 A0 (λu v q1 q2 q3 q4=>?_),e2 x a1,e2 y b1]at at'
  ·exact W6 at'
  ·rw[PP ok lf A0 A0,h];rfl
 ·unfold fieldF;rw[V8 z];refine(W5 λq=>?_);obtain⟨u,v,q1,q2,q3,q4,q5⟩:=MU re (λw=>q w.symm);have:=far u v q5;lia
def wl(W T l:Nat):Nat:=(W+2*T)/2^l+5
def Vf(ψ:Int->Int->Nat)(l:Nat)(i j:Int):Sht:=λx y=>(ψ ((x:Int)+2^l*i) ((y:Int)+2^l*j):Nat)
theorem Rj{α β:Type}(f:α->List β)(m:α->Nat):∀l:List α,(∀x∈l,(f x).length<=m x)->(l.flatMap f).length<=(l.map m).sum
 |[],_=>by simp
 |a::l,h=>by
  have:=Rj f m l λx hx=>h x (C1 _ hx);have:=h a C0;rw[V6,C4,F1,N3];lia
theorem Ve{l T W t:Nat}{x:Nat}{i X u:Int}(hx:x<2^(l+2))(ht:t<=T)(h1:(x:Int)+2^l*i-t<=u)(h2:u<=(x:Int)+2^l*i+t)(h3:X<=u)(h4:u<X+W):∃d,d<wl W T l/\i=(X-T)/2^l-3+((d:Nat):Int):=by
 have pz:(0:Int)<2^l:=by have:=Bd l;have e:((2^l:Nat):Int)=2^l:=F3 2 l;lia
 have p2:((2^(l+2):Nat):Int)=2^l*4:=by rw[F3];show(2:Int)^(l+2)=_;rw[T6,T6];lia
 have ec:(((W+2*T)/2^l:Nat):Int)=((W:Int)+2*T)/2^l:=by rw[T3,F3];rfl
 generalize eP:(2:Int)^l=P at *
 generalize eq:(X-T)/P=q;have d1:=U4 (X-T) P;have d2:=P5 (X-T) (Int.ne_of_gt pz);have d3:=M5 (X-T) pz;rw[eq]at d1;have f1:=U4 ((W:Int)+2*T) P;have f3:=M5 ((W:Int)+2*T) pz;generalize eb:((W:Int)+2*T)/P=b at *
 have lo:P*(q-4)<P*i:=by rw[Int.mul_sub];lia
 have hi:P*i<P*(q+b+2):=by rw[Q6,Q6];lia
 have lo:=Int.lt_of_mul_lt_mul_left lo (Int.le_of_lt pz);have hi:=Int.lt_of_mul_lt_mul_left hi (Int.le_of_lt pz);refine⟨(i-q+3).toNat,?_,by lia⟩;unfold wl;lia
seal L2.PA L2.PE L2.PS L2.PSs L2.PT L2.PW
def Oh(φ:Int->Int->Nat)(k:Nat):Prop:=∀x y,φ x y≠0->-(2^40)+(k:Int)<=x/\x+k<2^40/\-(2^40)+(k:Int)<=y/\y+k<2^40
theorem Wm {φ:Int->Int->Nat} {b:Bx} (t:NL (λx y=>φ x y≠0) b) (k:Nat):FZ (b.l-k) (b.t-k) (b.w+2*k) (b.h+2*k) (2^40)↔Oh φ k:=by
 unfold FZ;constructor
 ·rintro⟨h1,h2,h3,h4⟩ x y h;have:=t.inn x y h;lia
 ·intro h;obtain⟨v1,h1⟩:=t.le;obtain⟨v2,h2⟩:=t.to;obtain⟨v3,h3⟩:=t.ri;obtain⟨v4,h4⟩:=t.bo;have a1:=h _ _ h1;have a2:=h _ _ h2;have a3:=h _ _ h3;have a4:=h _ _ h4;lia
section
variable{P:Program}{w:World}{K:PySem.W.Frag}{mg:Str->Option Value}{base:Heap}{a:Ad}
inductive SpChG(a:Ad)(vs:List V)(H:Hp)(Q:VK):Prop
 |mk (g:GA) (G:Gv) (f n k:Nat) (_:vs=[.ref g.p,.int f,.int (k:Int)]) (_:Bc a H g G) (_:Ak G f ((n+1:Nat):Int)) (_:n<48) (_:G.length<8000000) (_:Oh (fieldF G n f) k) (_:∀H',FrQ g H H'->Bc a H' g G->Q .non H'):SpChG a vs H Q
def VC(a:Ad):Sp:=λvs H Q _=>SpChG a vs H Q
theorem ok_chg'{f:Addr}{fd:FuncData}(F:Fun K "check_leap" "check_leap" Gj f fd)(T:Top K mg a)(aJ:Cal P w K mg base CX0 1 "is_whole" DL Uf)(cG:Cal P w K mg base CX0 102 "box_of" Nb (Pd a))(aH:Cal P w K mg base CX0 1 "lies_within" CO Qw):AK P w K mg base CX0 103 f fd GB (VC a):=by
 refine F.ok IO (λvs H Q E h=>?_) (λcdv A outer s H vs Q E hr h=>?_)
 ·obtain⟨g,G,f',n,k,rfl,_⟩:=h;rfl
 ·obtain⟨g,G,f',n,k,rfl,fu,lf,n48,few,nr,kn⟩:=h;refine⟨_,(Ab (AQ (PW.pt (MW (DH (DG (Au aJ (rm hr) rfl An (Aa (pv 2) Ac)))) (Ll (AD Io (pv 2) Ae (AI _))))) (Ag AZ) AE) (Ab (Aq (i:=3) IO.nd rfl (Or.inl rfl) (Au cG (rm hr) rfl An (Aa (pv 0) (Aa (pv 1) Ac)))) (Ag (AQ (PW.pt (MX (AD Ti (pv 3) DI (AI _)) (JB (DH (DG (Au aH (rm hr) rfl An (Bo (Bq BG (Aj Am (pv 3) Ae (λ_ _=>rfl)) (pv 2) (Bq BG (Aj Am (pv 3) Ae (λ_ _=>rfl)) (pv 2) (Bq Bl (Aj Am (pv 3) Ae (λ_ _=>rfl)) (AF ET Ae (pv 2)) (Bq Bl (Aj Am (pv 3) Ae (λ_ _=>rfl)) (AF ET Ae (pv 2)) Ac)))) (Aa (BP rfl T.k_LIMIT) Ac)))))))) (Ag AZ) AE)))),?_⟩
  try dsimp only[cxK]
  refine Br ?_;intro r1 s1 k1 hk1 E1;refine⟨_,rfl,(k:Int),rfl,true,rfl,Bw ?_⟩;refine⟨_,rfl,_,_,rfl,rfl,_,rfl,?_⟩;rw[W0 A0];refine Bw ?_;refine hk1 ?_;refine Br ?_;intro r2 s2 k2 hk2 E2;refine xw2 rfl rfl ⟨g,G,f',n,rfl,fu,lf,n48,few,λeb H1 fq fu1=>?_,λbb eb t H1 fq fu1 ht=>?_⟩
  ·refine hk2 ?_;refine⟨_,rfl,rfl,false,rfl,Bw ?_⟩;exact kn H1 fq fu1
  ·refine hk2 ?_;have tg:=Qk fu.ok lf eb;generalize mvB (2^n) bb=B at ht tg;have ht:H1 t=some (.tup [.int B.l,.int B.t,.int B.w,.int B.h]):=ht;have nb:=Wm tg k;refine⟨_,rfl,rfl,true,rfl,CK ?_⟩;refine⟨_,rfl,t,_,0,.int B.l,rfl,rfl,SqT.of ht,Al (j:=0) rfl,_,rfl,_,_,rfl,rfl,?_⟩;refine⟨_,rfl,t,_,1,.int B.t,rfl,rfl,SqT.of ht,Al (j:=1) rfl,_,rfl,_,_,rfl,rfl,?_⟩;refine⟨_,rfl,t,_,2,.int B.w,rfl,rfl,SqT.of ht,Al (j:=2) rfl,_,rfl,_,_,rfl,rfl,.inl ⟨by decide,by decide⟩,_,_,rfl,rfl,?_⟩;refine⟨_,rfl,t,_,3,.int B.h,rfl,rfl,SqT.of ht,Al (j:=3) rfl,_,rfl,_,_,rfl,rfl,.inl ⟨by decide,by decide⟩,_,_,rfl,rfl,?_⟩;refine⟨by show 4<=sizeLine;decide,λu hu=>?_⟩;refine⟨u,B.l-k,B.t-k,B.w+2*k,B.h+2*k,2^40,rfl,Af,?_⟩;generalize eH:upd H1 u _=H2;have s2':AA H1 H2:=eH▸AJ hu;clear eH;rw[V9 (nb.mpr nr)];exact⟨true,rfl,Bw (kn H2 (fq.trans (AA.frq s2')) (fu1.same s2'))⟩
end
theorem bare0{G r:Gv}(e:G=G0++r)(ok:GOk G):Ak G (bareN 1) ((0+1:Nat):Int)/\Iz G 0 (bareN 1)/\∀x y,fieldF G 0 (bareN 1) x y=0:=by
 refine⟨FY e (n:=1) A3,.inl rfl,λx y=>?_⟩;unfold fieldF;by_cases z:-(2^0)<=x/\x<2^0/\-(2^0)<=y/\y<2^0
 ·rw[W2 z];exact FV e ok (n:=1) A3 (by show _<2;have:(2:Int)^0=1:=rfl;lia) (by show _<2;have:(2:Int)^0=1:=rfl;lia)
 ·rw[V8 z]
theorem near_lt{φ:Int->Int->Nat}{k:Nat}(h:Oh φ k){x y:Int}(hx:φ x y≠0):k<2^40:=by
 have:=h x y hx;lia
theorem Tm{r:AC}(re:CQ r 0 CI=0){φ:Int->Int->Nat}{k t:Nat}(h:Oh φ k)(tk:t<=k){x y:Int}(hx:sFN r t φ x y≠0):-(2^40)<=x/\x<2^40/\-(2^40)<=y/\y<2^40:=by
 obtain⟨u,v,h1,h2,h3,h4,h5⟩:=MU re hx;have:=h u v h5;lia
theorem near_st{r:AC}(re:CQ r 0 CI=0){φ:Int->Int->Nat}{k t:Nat}(h:Oh φ (k+t)):Oh (sFN r t φ) k:=λx y hx=>by
 obtain⟨u,v,h1,h2,h3,h4,h5⟩:=MU re hx;have:=h u v h5;lia
theorem SI{G r:Gv}(e:G=G0++r)(ok:GOk G){n f:Nat}(hn:n<=47)(t:Iz G n f)(h:∀x y,fieldF G n f x y≠0->-(2^40)<=x/\x<2^40/\-(2^40)<=y/\y<2^40):n<=40:=by
 refine N5 λz=>?_;obtain⟨m,rfl⟩:∃m,n=m+1:=⟨n-1,by lia⟩
 obtain⟨x,y,h1,h2⟩:=Qj e ok A0 t;have:=h x y h2;have p:2^40<=2^m:=L5 A3 A0;have p1:((2^m:Nat):Int)=2^m:=F3 2 m;lia
def SE(Κ:KTy)(r:AC)(φ:Int->Int->Nat)(k:Nat):Prop:=∀(j l:Nat)(G:Gv)(f:Nat),k/2^j%2=1->j<=l->l<=41->GOk G->Ak G f ((l+1+1:Nat):Int)->(∀x y,fieldF G (l+1) f x y=sFN r (k%2^j) φ x y)->Κ l j (BZ G (l+2) f)
def TY(H:Hp)(G:Gv)(ψ:Int->Int->Nat)(ts:List Addr):Prop:=∃(t:Addr)(sq e res l:Nat),ts.getLast?=some t/\H t=some (.tup [.int sq,.int e,.int res])/\l<=41/\Ak G res ((l+1:Nat):Int)/\∀x y,fieldF G l res x y=ψ x y
section
variable{P:Program}{w:World}{K:PySem.W.Frag}{mg:Str->Option Value}{base:Heap}{a:Ad}
inductive SpRdG(a:Ad)(vs:List V)(H:Hp)(Q:VK):Prop
 |mk (p dx mem pr:Addr) (g:GA) (G:Gv) (Κ:KTy) (φ:Int->Int->Nat) (N b:Nat) (r:AC) (m:MA) (f n k:Nat) (_:vs=[.ref p,.int f,.int (k:Int)]) (_:ZS a H g G Κ N b p dx mem pr r m) (_:NM Κ N) (_:ClK r Κ) (_:SE Κ r φ k) (_:Ak G f ((n+1:Nat):Int)) (_:n<=40) (_:Iz G n f) (_:∀x y,fieldF G n f x y=φ x y) (_:Oh φ k) (_:b+12000+10*N<7900000) (_:∀(L:Addr)(ts:List Addr)(G':Gv)(H':Hp)(i:Nat),FrZ g m H H'->ZS a H' g G' Κ N (b+12000) p dx mem pr r m->AG G G' i->H L=none->H' L=some (.lst (ts.map V.ref))->((ts=[]/\∀x y,sFN r k φ x y=φ x y)\/TY H' G' (sFN r k φ) ts)->Q (.ref L) H'):SpRdG a vs H Q
def Vp(a:Ad):Sp:=λvs H Q _=>SpRdG a vs H Q
theorem ok_rdg{f:Addr}{fd:FuncData}(F:Fun K "road" "road" RM f fd)(T:Top K mg a)(bR:Cal P w K mg base CX0 103 "check_leap" GB (VC a))(aS:Cal P w K mg base CX0 1 "bare_field" Eo (Mg a))(bW:Cal P w K mg base CX0 5 "level_for" Il (Vv a))(bP:Cal P w K mg base CX0 5 "widened_to" Gx (spWT a))(bK:BN P w K mg base CX0 149 a.c_Jumps "after" FH (Fq a 46))(aR:Cal P w K mg base CX0 4 "trimmed" FQ (MD a)):AK P w K mg base CX0 150 f fd RP (Vp a):=by
 refine F.ok Dk (λvs H Q E h=>?_) (λcdv A outer s H vs Q E hr h=>?_)
 ·obtain⟨p,dx,mem,pr,g,G,Κ,φ,N,b,r,m,f',n,k,rfl,_⟩:=h;rfl
 ·obtain⟨p,dx,mem,pr,g,G,Κ,φ,N,b,r,m,f',n,k,rfl,zs,fin,cl,ask,lf,n40,tr,hf,nr,few,kn⟩:=h;refine⟨_,(Ab (Aq (i:=3) Dk.nd rfl (Or.inl rfl) (Ax (pv 0) rfl)) (Ab (CB (Au bR (rm hr) rfl An (Aa (pv 3) (Aa (pv 1) (Aa (pv 2) Ac))))) (Ab (Aq (i:=4) Dk.nd rfl (Or.inl rfl) (CY Ac)) (Ab (Aq (i:=5) Dk.nd rfl (Or.inl rfl) (pv 1)) (Ab (Aq (i:=6) Dk.nd rfl (Or.inl rfl) (pv 2)) (Ab (Aq (i:=7) Dk.nd rfl (Or.inl rfl) Ae) (Ab (Ig Y4 (PW.pt (MX (AD VU (pv 6) Ae (AI _)) (JB (AD JI (pv 5) (Au aS (rm hr) rfl An (Aa (pv 3) Ac)) (AI _))))) (Ab (AQ (AD Ea (AF Cd (pv 6) Ae) Ae (AI _)) (Ab (Aq (i:=8) Dk.nd rfl (Or.inl rfl) (Au bP (rm hr) rfl An (Aa (pv 3) (Aa (pv 5) (Aa (Au bW (rm hr) rfl An (Aa (pv 3) (Aa (pv 5) (Aa (pv 7) Ac)))) Ac))))) (Ab (Aq (i:=9) Dk.nd rfl (Or.inl rfl) (AB (pv 0) bK (rm hr) An (Aa (pv 8) (Aa (pv 7) Ac)))) (Ab (CB (GS Z0 Z2 Z3 Et (pv 4) (Bo (Aa (pv 8) (Aa (pv 7) (Aa (pv 9) Ac))) Ac))) (Ag (Aq (i:=5) Dk.nd rfl (Or.inl rfl) (Au aR (rm hr) rfl An (Aa (pv 3) (Aa (pv 9) Ac)))))))) AE) (Ab (Aq (i:=6) Dk.nd rfl (Or.inl rfl) (AF JK (pv 6) Ae)) (Ag (Aq (i:=7) Dk.nd rfl (Or.inl rfl) (AF Bl (pv 7) Ae)))))) (Ag (Aw (pv 4)))))))))),?_⟩
  try dsimp only[cxK]
  have sz:=zs.jz.sz fin;have re:=zs.jz.jw.rest;have ro:=zs.jz.jw.rok;refine Br ?_;intro r1 s1 k1 hk1 E1;refine xwf rfl rfl zs.jz.jw.hp T.cl_Jumps T.na_Jumps_grove (Dv _ _ _ _ _) ?_;refine hk1 ?_;refine Br ?_;intro r2 s2 k2 hk2 E2;refine xw3 rfl rfl rfl ⟨g,G,f',n,k,rfl,zs.fu,lf,by lia,by lia,(λx y h=>nr x y (by rw[<-hf];exact h)),λH1 fq fu1=>?_⟩;have zs1:=zs.frQ fq fu1;have fz1:FrZ g m H H1:=FrQ.z fq;refine hk2 ?_;refine Br ?_;intro r3 s3 k3 hk3 E3;refine⟨by show 0<=sizeLine;decide,λL nL=>?_⟩;generalize eH:upd H1 L _=H2;have s2':AA H1 H2:=eH▸AJ nL;have hL2:H2 L=some (.lst (([]:List Addr).map V.ref)):=eH▸Af;clear eH;have zs2:=zs1.same s2';obtain⟨nL1,nL2⟩:=zs1.new nL;have apL:=zs1.ap nL;refine hk3 ?_;refine Br ?_;intro r4 s4 k4 hk4 E4;refine xq1 rfl (hk4 ?_);refine Br ?_;intro r5 s5 k5 hk5 E5;refine xq1 rfl (hk5 ?_);refine Br ?_;intro r6 s6 k6 hk6 E6;refine hk6 ?_;refine Br ?_;intro r7 s7 k7 hk7 E7;have hL0:H L=none:=by
   cases e:H L with
   |none=>rfl
   |some o =>
    have h1:=fq L o e (λz=>nL1 (by simp[z])) (λz=>nL1 (by simp[z]));rw[nL]at h1;cases h1
  have fz2:FrZ g m H H2:=fz1.trans (AA.z s2');have hk0:k/2^0=k:=by rw[Nat.pow_zero,Nat.div_one]
  have hm0:k%2^0=0:=by rw[Nat.pow_zero,Nat.mod_one]
  refine⟨fun μ σ H3=>∃(j:Nat)(G':Gv)(ts:List Addr)(h nh:Nat)(u8 u9:Option V)(i:Nat),σ=[some (.ref p),some (.int f'),some (.int (k:Int)),some (.ref g.p),some (.ref L),some (.int h),some (.int ((k/2^j:Nat):Int)),some (.int (j:Int)),u8,u9]/\j+μ=41/\FrZ g m H H3/\ZS a H3 g G' Κ N (b+270*ts.length) p dx mem pr r m/\AG G G' i/\H3 L=some (.lst (ts.map V.ref))/\ts.length<=j/\(nh<=40/\Ak G' h ((nh+1:Nat):Int)/\Iz G' nh h/\∀x y,fieldF G' nh h x y=sFN r (k%2^j) φ x y)/\((ts=[]/\∀x y,sFN r (k%2^j) φ x y=φ x y)\/TY H3 G' (sFN r (k%2^j) φ) ts),⟨41,0,G,[],f',n,none,none,0,(by rw[hk0];rfl),rfl,fz2,zs2,AG.refl zs.fu.ok,hL2,B6 _,⟨n40,lf,tr,by rw[hm0];exact hf⟩,.inl ⟨rfl,by rw[hm0];exact λ_ _=>rfl⟩⟩,?_⟩;rintro μ σ H3 ⟨j,G',ts,h,nh,u8,u9,i,rfl,jm,fz3,zs3,go3,hL3,tl,⟨nh40,lh,th,fh⟩,la⟩;have sz3:=zs3.jz.sz fin;obtain⟨r3',e3⟩:=zs3.fu.g0;have done:(k/2^j=0\/h=bareN 1)->k7 [some (.ref p),some (.int f'),some (.int (k:Int)),some (.ref g.p),some (.ref L),some (.int h),some (.int ((k/2^j:Nat):Int)),some (.int (j:Int)),u8,u9] H3:=λex=>by
   have eq:sFN r k φ=sFN r (k%2^j) φ:=by
    rcases ex with ex|rfl
    ·have:k%2^j=k:=by
      have:=L9 k (2^j);rw[ex,Nat.mul_zero,M7]at this;exact this
     rw[this]
    ·obtain⟨b1,b2,b3⟩:=bare0 e3 zs3.fu.ok;have n0:nh=0:=by
      have:=lh.one b1;lia
     subst n0;have z:sFN r (k%2^j) φ=λ_ _=>0:=by
      funext x y
      rw[<-fh,b3]
     have:=Jz r φ (k%2^j) (2^j*(k/2^j));rw[L9]at this;rw[this,z,Ie re]
   refine hk7 ?_;refine xq1 rfl (kn L ts G' H3 i fz3 (zs3.mono A0) go3 hL0 hL3 ?_);rw[eq];exact la
  refine⟨_,rfl,_,_,rfl,rfl,_,rfl,LY (λhc=>?_) (λhc=>?_)⟩
  ·have hc:((k/2^j:Nat):Int) > 0:=Y7 hc;have kj:k/2^j≠0:=by lia
   refine⟨_,rfl,_,rfl,g,G',rfl,zs3.fu,rfl,_,rfl,?_⟩;by_cases hb:h=bareN 1
   ·subst hb;rw[V9 rfl];exact Bw (done (.inr rfl))
   ·rw[W0 (λz=>hb (by injection z with z;exact W6 z))];refine CK ?_;obtain⟨x0,y0,h0⟩:∃x y,φ x y≠0:=by
     refine W5 λno=>hb ?_;have z:φ=λ_ _=>0:=by
      funext x y
      exact W5 λz=>no ⟨x,y,z⟩
     obtain⟨b1,b2,b3⟩:=bare0 e3 zs3.fu.ok;refine(Ny e3 zs3.fu.ok A0 A3 lh b1 th b2 λx y=>?_).2;rw[b3,fh,z,Ie re]
    have k40:=near_lt nr h0;have j40:j<40:=by
     refine S6 λz=>kj (L6 (D5 k40 (L5 A3 z)))
    refine⟨fun σ' H4=>∃(j:Nat)(G':Gv)(ts:List Addr)(h nh:Nat)(u8 u9:Option V)(i:Nat),σ'=[some (.ref p),some (.int f'),some (.int (k:Int)),some (.ref g.p),some (.ref L),some (.int h),some (.int ((k/2^j:Nat):Int)),some (.int (j:Int)),u8,u9]/\j+(μ-1)=41/\FrZ g m H H4/\ZS a H4 g G' Κ N (b+270*ts.length) p dx mem pr r m/\AG G G' i/\H4 L=some (.lst (ts.map V.ref))/\ts.length<=j/\(nh<=40/\Ak G' h ((nh+1:Nat):Int)/\Iz G' nh h/\∀x y,fieldF G' nh h x y=sFN r (k%2^j) φ x y)/\((ts=[]/\∀x y,sFN r (k%2^j) φ x y=φ x y)\/TY H4 G' (sFN r (k%2^j) φ) ts),fun σ' H4 z=>⟨μ-1,by lia,z⟩,?_⟩;have dv:k/2^(j+1)=k/2^j/2:=by rw[D7,Nat.div_div_eq_div_mul]
    have md:k%2^(j+1)=k%2^j+2^j*(k/2^j%2):=Nat.mod_pow_succ;refine Br ?_;intro r8 s8 k8 hk8 E8;apply Tp (T:=k8) (fun σ' H4=>∃(G':Gv)(ts:List Addr)(h nh:Nat)(u8 u9:Option V)(i:Nat),σ'=[some (.ref p),some (.int f'),some (.int (k:Int)),some (.ref g.p),some (.ref L),some (.int h),some (.int ((k/2^j:Nat):Int)),some (.int (j:Int)),u8,u9]/\FrZ g m H H4/\ZS a H4 g G' Κ N (b+270*ts.length) p dx mem pr r m/\AG G G' i/\H4 L=some (.lst (ts.map V.ref))/\ts.length<=j+1/\(nh<=40/\Ak G' h ((nh+1:Nat):Int)/\Iz G' nh h/\∀x y,fieldF G' nh h x y=sFN r (k%2^(j+1)) φ x y)/\((ts=[]/\∀x y,sFN r (k%2^(j+1)) φ x y=φ x y)\/TY H4 G' (sFN r (k%2^(j+1)) φ) ts))
    ·intro rest;refine xwb rfl rfl rfl ⟨(by show(0:Int)<2;decide),rfl,(xq1 rfl (LY (λhc=>?_) (λhc=>?_)))⟩
     ·have hc:((k/2^j:Nat):Int)%2=1:=by
       have:=Y7 hc;injection this
      have od:k/2^j%2=1:=by lia
      have tk:2^j+k%2^j<=k:=by
       have d:=L9 k (2^j);have p:2^j*1<=2^j*(k/2^j):=J6 _ A0;lia
      refine Br ?_;intro r9 s9 k9 hk9 E9;refine⟨_,rfl,_,rfl,_,rfl,_,rfl,_,rfl,⟨g,G',h,nh,j,rfl,zs3.fu.at',lh,nh40,by lia,λl l41 nl jl le=>?_⟩⟩;have el:nh+(l+1-nh)+1=l+2:=by lia
      refine⟨g,G',h,nh,l+1-nh,by rw[el];rfl,zs3.fu,lh,by lia,by lia,λv G2 H4 fr4 fu4 go4 wn lv=>?_⟩;have zs4:=zs3.fr fr4 fu4 go4;have sz4:=zs4.jz.sz fin;obtain⟨r4,e4⟩:=fu4.g0;have wf:∀x y,fieldF G2 (l+1) v x y=sFN r (k%2^j) φ x y:=λx y=>by
       have:=IU e4 fu4.ok (k:=l+1-nh) (w:=v) A0 wn x y;rw[show nh+(l+1-nh)=l+1 by lia]at this;rw[this,FT zs3.fu.ok go4 lh,fh]
      have lv2:Ak G2 v ((l+1+1:Nat):Int):=by rw[show l+1+1=nh+(l+1-nh)+1 by lia];exact lv
      have go24:=go3.trans go4;refine hk9 ?_;refine Br ?_;intro r10 s10 k10 hk10 E10;refine xwn rfl rfl zs4.jz.jw.hp (Uy _ _ _ _ _) rfl (xq1 rfl ⟨p,dx,mem,pr,g,G2,Κ,N,_,r,m,v,l,j,rfl,zs4.jz,fin,cl,lv2,by lia,jl,ask j l G2 v od jl l41 fu4.ok lv2 wf,by lia,λres G3 H5 i5 fj jz5 go5 jr up=>?_⟩);have zs5:=zs4.aft fj jz5 go5;have sz5:=zs5.jz.sz fin;have fz5:FrZ g m H H5:=(fz3.trans (Fr.z fr4)).trans (FrJ.z fj);have wf5:∀x y,fieldF G3 (l+1) v x y=sFN r (k%2^j) φ x y:=λx y=>by rw[FT fu4.ok go5 lv2];exact wf x y
      obtain⟨lr,rs⟩:=fld_jg zs5.fu.ok ro re (go5.lev lv2) jr wf5 (λx y hxy=>by
       rw[<-fh]at hxy;have p0:((2^nh:Nat):Int)=2^nh:=F3 2 nh;have p1:((2^l:Nat):Int)=2^l:=F3 2 l;have p3:((2^j:Nat):Int)=2^j:=F3 2 j;have:=W5 λz:¬(-(2^nh)<=x/\x<2^nh/\-(2^nh)<=y/\y<2^nh)=>hxy (by unfold fieldF;rw[V8 z]);lia)
      have rs:∀x y,fieldF G3 l res x y=sFN r (k%2^(j+1)) φ x y:=λx y=>by rw[rs,<-Jz,md,od,Nat.mul_one,Nat.add_comm]
      have hL5:H5 L=some (.lst (ts.map V.ref)):=FrJ.z fj _ _ (Fr.z (m:=m) fr4 _ _ hL3 apL.n0 apL.n1) apL.n0 apL.n1;refine hk10 ?_;refine Br ?_;intro r11 s11 k11 hk11 E11;refine⟨_,rfl,.inl ⟨rfl,_,SqL.of hL5⟩,_,rfl,_,rfl,_,rfl,by show 3<=sizeLine;decide,λt nt=>?_⟩;have s6':=AJ (o:=.tup [.int (v:Int),.int (j:Int),.int (res:Int)]) nt;have ht6:upd H5 t (.tup [.int (v:Int),.int (j:Int),.int (res:Int)]) t=some (.tup [.int (v:Int),.int (j:Int),.int (res:Int)]):=Af;generalize upd H5 t (.tup [.int (v:Int),.int (j:Int),.int (res:Int)])=H6 at s6' ht6⊢;have zs6:=zs5.same s6';have hL6:=s6' _ _ hL5;refine⟨L,_,_,rfl,rfl,hL6,by rw[B5];exact FR A0,?_⟩;have zs7:=zs6.putL (o:=.lst (ts.map V.ref++[.ref t])) hL6 apL;have ht7:upd H6 L (.lst (ts.map V.ref++[.ref t])) t=some (.tup [.int (v:Int),.int (j:Int),.int (res:Int)]):=by rw[Ao (Ay ht6 hL6 A2)];exact ht6
      have fz7:FrZ g m H (upd H6 L (.lst (ts.map V.ref++[.ref t]))):=λb' o e n1 n2=>by
       rw[Ao (Ar e hL0)];exact s6' _ _ (fz5 _ _ e n1 n2)
      have hL7:upd H6 L (.lst (ts.map V.ref++[.ref t])) L=some (.lst ((ts++[t]).map V.ref)):=by rw[Af,C7];rfl
      generalize upd H6 L (.lst (ts.map V.ref++[.ref t]))=H7 at zs7 ht7 fz7 hL7⊢;refine hk11 ?_;refine xw2 rfl rfl ⟨g,G3,res,l,rfl,zs7.fu,lr,by lia,λnw G8 H8 fr8 fu8 go8 tr8=>?_⟩;have zs8:=zs7.fr fr8 fu8 go8;obtain⟨r8,e8⟩:=fu8.g0;obtain⟨m8,ml8,lv8,tm8,fe8⟩:=Gc e8 fu8.ok A0 (go8.lev lr) tr8;have fa:∀x y,fieldF G8 l res x y=sFN r (k%2^(j+1)) φ x y:=λx y=>by rw[FT zs5.fu.ok go8 lr];exact rs x y
      have fe:∀x y,fieldF G8 m8 nw x y=sFN r (k%2^(j+1)) φ x y:=λx y=>by rw[fe8,fa]
      have tk1:k%2^(j+1)<=k:=Nat.mod_le _ _;have m40:=SI e8 fu8.ok A0 tm8 (λx y hxy=>Tm re nr tk1 (by rw[<-fe];exact hxy));have ht8:=zs7.keep (Fr.z fr8) ht7 (by intro xs z;cases z) (by intro xs z;cases z) (by intro xs z;cases z);have hL8:H8 L=some (.lst ((ts++[t]).map V.ref)):=Fr.z (m:=m) fr8 _ _ hL7 apL.n0 apL.n1;have goz:=(go24.trans go5).trans go8;refine rest _ _ ⟨G8,ts++[t],nw,m8,_,_,_,rfl,fz7.trans (Fr.z fr8),zs8.mono ?_,goz,hL8,by rw[C4];show ts.length+1<=_;lia,⟨m40,lv8,tm8,fe⟩,.inr ⟨t,v,j,res,l,by rw[List.getLast?_append];rfl,ht8,l41,go8.lev lr,fa⟩⟩;rw[C4];show _<=b+270*(ts.length+1)
      lia
     ·have hc:¬((k/2^j:Nat):Int)%2=1:=λz=>hc (V9 (W8 V.int z));have ev:k/2^j%2=0:=by lia
      have md:k%2^(j+1)=k%2^j:=by rw[md,ev,Nat.mul_zero,Nat.add_zero]
      exact rest _ _ ⟨G',ts,h,nh,u8,u9,i,rfl,fz3,zs3,go3,hL3,by lia,by rw[md];exact⟨nh40,lh,th,fh⟩,by rw[md];exact la⟩
    ·rintro σ' H4 ⟨G2,ts2,h2,nh2,v8,v9,i2,rfl,fz4,zs4,go4,hL4,tl4,mo4,la4⟩;refine hk8 ?_;refine Br ?_;intro r9 s9 k9 hk9 E9;refine xwb rfl rfl rfl ⟨⟨by decide,by decide⟩,?_⟩;refine hk9 ?_;have ed:((k/2^j:Nat):Int)/2=((k/2^(j+1):Nat):Int):=by rw[dv];lia
     have ej:(j:Int)+1=((j+1:Nat):Int):=by lia
     refine xwb rfl rfl rfl ⟨j+1,G2,ts2,h2,nh2,v8,v9,i2,?_,by lia,fz4,zs4,go4,hL4,tl4,mo4,la4⟩;exact(W8 (λu:Int=>[some (V.ref p),some (V.int f'),some (V.int (k:Int)),some (V.ref g.p),some (V.ref L),some (V.int h2),some (V.int u),some (V.int ((j:Int)+1)),v8,v9]) ed).trans (W8 (λv:Int=>[some (V.ref p),some (V.int f'),some (V.int (k:Int)),some (V.ref g.p),some (V.ref L),some (V.int h2),some (V.int ((k/2^(j+1):Nat):Int)),some (V.int v),v8,v9]) ej)
  ·have hc:¬((k/2^j:Nat):Int) > 0:=λz=>hc (V9 z);exact Bw (done (.inl A0))
end
theorem ifT{b:Bool}{A B:Prop}(h:b=true)(x:A):if b=true then A else B:=by rw[h];exact CK x
theorem ifF{b:Bool}{A B:Prop}(h:b=false)(x:B):if b=true then A else B:=by rw[h];exact Bw x
structure Fv(G:Gv)(f:Nat)(φ:Int->Int->Nat):Prop where
 ex:∃n:Nat,n<=40/\Ak G f ((n+1:Nat):Int)/\Iz G n f/\∀x y,fieldF G n f x y=φ x y
theorem Fv.app{G G':Gv}{k f:Nat}{φ:Int->Int->Nat}(ok:GOk G)(go:AG G G' k)(h:Fv G f φ):Fv G' f φ:=by
 obtain⟨n,h1,h2,h3,h4⟩:=h.ex;exact⟨n,h1,go.lev h2,h3.app go,λx y=>by rw[FT ok go h2];exact h4 x y⟩
theorem Fv.eq{G r:Gv}(e0:G=G0++r)(ok:GOk G){f f':Nat}{φ ψ:Int->Int->Nat}(h:Fv G f φ)(h':Fv G f' ψ)(e:∀x y,φ x y=ψ x y):f=f':=by
 obtain⟨n,h1,h2,h3,h4⟩:=h.ex;obtain⟨m,g1,g2,g3,g4⟩:=h'.ex;exact(Ny e0 ok A0 A0 h2 g2 h3 g3 λx y=>by rw[h4,g4,e]).2
theorem Fv.to{G:Gv}{f:Nat}{φ ψ:Int->Int->Nat}(h:Fv G f φ)(e:∀x y,φ x y=ψ x y):Fv G f ψ:=by
 obtain⟨n,h1,h2,h3,h4⟩:=h.ex;exact⟨n,h1,h2,h3,λx y=>by rw[h4,e]⟩
section
variable{P:Program}{w:World}{K:PySem.W.Frag}{mg:Str->Option Value}{base:Heap}{a:Ad}
inductive SpJpG(a:Ad)(vs:List V)(H:Hp)(Q:VK):Prop
 |mk (p dx mem pr:Addr) (g:GA) (G:Gv) (Κ:KTy) (φ:Int->Int->Nat) (N b:Nat) (r:AC) (m:MA) (f k:Nat) (_:vs=[.ref p,.int f,.int (k:Int)]) (_:ZS a H g G Κ N b p dx mem pr r m) (_:NM Κ N) (_:ClK r Κ) (_:SE Κ r φ k) (_:Fv G f φ) (_:Oh φ k) (_:b+12000+10*N<7900000) (_:∀(d:Nat)(G':Gv)(H':Hp)(i:Nat),FrZ g m H H'->ZS a H' g G' Κ N (b+12048) p dx mem pr r m->AG G G' i->Fv G' d (sFN r k φ)->Q (.int d) H'):SpJpG a vs H Q
def Vx(a:Ad):Sp:=λvs H Q _=>SpJpG a vs H Q
theorem ok_jpg{f:Addr}{fd:FuncData}(F:Fun K "jump" "jump" RN f fd)(T:Top K mg a)(cQ:Cal P w K mg base CX0 150 "road" RP (Vp a))(aR:Cal P w K mg base CX0 4 "trimmed" FQ (MD a)):AK P w K mg base CX0 151 f fd RQ (Vx a):=by
 refine F.ok Tb (λvs H Q E h=>?_) (λcdv A outer s H vs Q E hr h=>?_)
 ·obtain⟨p,dx,mem,pr,g,G,Κ,φ,N,b,r,m,f',k,rfl,_⟩:=h;rfl
 ·obtain⟨p,dx,mem,pr,g,G,Κ,φ,N,b,r,m,f',k,rfl,zs,fin,cl,ask,fv,nr,few,kn⟩:=h;obtain⟨n,n40,lf,tr,hf⟩:=id fv.ex;have re:=zs.jz.jw.rest;refine⟨_,(Ab (Aq (i:=3) Tb.nd rfl (Or.inl rfl) (Au cQ (rm hr) rfl An (Aa (pv 0) (Aa (pv 1) (Aa (pv 2) Ac))))) (Ab (AQ (AD Ea (AS CF rfl T.b_len Z6 (Aa (pv 3) Ac)) Ae (AI _)) (Ag (Aw (pv 1))) AE) (Ag (Aw (Au aR (rm hr) rfl An (Aa (Ax (pv 0) rfl) (Aa (Aj Am (Aj Av (pv 3) (Fj Di Ae) (λ_ _=>rfl)) Ae (λ_ _=>rfl)) Ac))))))),?_⟩
  try dsimp only[cxK]
  refine Br ?_;intro r1 s1 k1 hk1 E1;refine xw3 rfl rfl rfl (.mk p dx mem pr g G Κ φ N b r m f' n k rfl zs fin cl ask lf n40 tr hf nr few (λL ts G1 H1 i1 fz1 zs1 go1 nL hL ca=>?_));refine hk1 ?_;refine Br ?_;intro r2 s2 k2 hk2 E2;refine⟨_,rfl,L,_,rfl,.inl (SqL.of hL),rfl,_,rfl,?_⟩;rcases ca with ⟨rfl,ca⟩|⟨t,sq,e,res,l,la,ht,l41,lr,rs⟩
  ·exact ifT rfl ⟨_,rfl,kn f' G1 H1 i1 fz1 (zs1.mono A0) go1 ((fv.app zs.fu.ok go1).to λx y=>(ca x y).symm)⟩
  ·have ne:ts≠[]:=λz=>by rw[z]at la;cases la
   have tl:1<=ts.length:=Q7.mpr ne;refine ifF (W0 (λz=>by injection z with z;rw[B5]at z;lia)) ?_;refine hk2 ?_;have li:atI (ts.map V.ref) (-1)=some (.ref t):=by
    unfold atI;have:ixN (ts.map V.ref).length (-1)=some (ts.length-1):=by
     unfold ixN;rw[B5,V8 A3,W2 A0];congr 1;lia
    rw[this];show(ts.map V.ref)[ts.length-1]?=_;rw[B7,<-List.getLast?_eq_getElem?,la];rfl
   refine xwf rfl rfl zs1.jz.jw.hp T.cl_Jumps T.na_Jumps_grove (Dv _ _ _ _ _) ?_;refine⟨_,rfl,1,rfl,L,_,-1,.ref t,rfl,rfl,SqL.of hL,li,t,_,2,.int (res:Int),rfl,rfl,SqT.of ht,Al (j:=2) rfl,?_⟩;have sz1:=zs1.jz.sz fin;refine⟨g,G1,res,l,rfl,zs1.fu,lr,by lia,λnh G8 H8 fr8 fu8 go8 tr8=>?_⟩;have zs8:=zs1.fr fr8 fu8 go8;obtain⟨r8,e8⟩:=fu8.g0;obtain⟨m8,ml8,lv8,tm8,fe8⟩:=Gc e8 fu8.ok A0 (go8.lev lr) tr8;have goz:=go1.trans go8;have fe:∀x y,fieldF G8 m8 nh x y=sFN r k φ x y:=λx y=>by rw[fe8,FT zs1.fu.ok go8 lr];exact rs x y
   have m40:=SI e8 fu8.ok A0 tm8 (λx y hxy=>Tm re nr (B6 k) (by rw[<-fe];exact hxy));exact kn nh G8 H8 _ (fz1.trans (Fr.z fr8)) (zs8.mono A0) goz ⟨m8,m40,lv8,tm8,fe⟩
end
end J
namespace J
open PySem L2
abbrev Bf:=Int->Int->Bool
def vsF(s:Nat)(b:Bf):Int->Int->Nat:=λx y=>if b x y then s else 0
def GU(dx dy:Int)(h:Int)(b:Bf):Bf:=λx y=>(b (x+h*dx) (y+h*dy)).xor (b (x-h*dx) (y-h*dy))
def Xr(r:AC)(s:Nat)(dx dy:Int):Prop:=∀b:Bf,sF r (vsF s b)=vsF s (GU dx dy 1 b)
theorem two_two(dx dy h:Int)(b:Bf):GU dx dy h (GU dx dy h b)=GU dx dy (2*h) b:=by
 funext x y
 unfold GU;have e1:∀x dx:Int,x+h*dx+h*dx=x+2*h*dx:=λx dx=>by rw[O5];lia
 have e2:∀x dx:Int,x-h*dx-h*dx=x-2*h*dx:=λx dx=>by rw[O5];lia
 rw[e1,e1,e2,e2,M6,M6,Int.sub_add_cancel,Int.sub_add_cancel];generalize b (x+2*h*dx) (y+2*h*dy)=p;generalize b (x-2*h*dx) (y-2*h*dy)=q;generalize b x y=z;cases p<;>cases q<;>cases z<;>rfl
theorem Ew{r:AC}{s:Nat}{dx dy:Int}(xr:Xr r s dx dy):∀(e:Nat)(b:Bf),sFN r (2^e) (vsF s b)=vsF s (GU dx dy (2^e:Nat) b)
 |0,b=>xr b
 |e+1,b=>by
  rw[D7,Nat.mul_two,Jz,Ew xr e,Ew xr e,two_two];congr 2;lia
def comS(dx dy:Int)(h:Int)(b:Bf):List Int->Bf
 |[],_,_=>false
 |m::S,x,y=>(b (x+m*h*dx) (y+m*h*dy)).xor (comS dx dy h b S x y)
theorem Mw{dx dy h:Int}{b:Bf}:∀(S T:List Int)(x y:Int),comS dx dy h b (S++T) x y=(comS dx dy h b S x y).xor (comS dx dy h b T x y)
 |[],T,x,y=>by rw[List.nil_append];show _=Bool.xor false _;rw[R4]
 |m::S,T,x,y=>by
  rw[List.cons_append];show Bool.xor _ (comS dx dy h b (S++T) x y)=Bool.xor (Bool.xor _ _) _;rw[Mw S T,Bool.xor_assoc]
theorem PR{dx dy h k:Int}{b:Bf}:∀(S:List Int)(x y:Int),comS dx dy h b S (x+k*h*dx) (y+k*h*dy)=comS dx dy h b (S.map (·+k)) x y
 |[],x,y=>rfl
 |m::S,x,y=>by
  rw[F1];unfold comS;have e:∀x dx:Int,x+k*h*dx+m*h*dx=x+(m+k)*h*dx:=λx dx=>by rw[P8,P8];lia
  rw[PR S,e,e]
theorem com_two{dx dy h:Int}{b:Bf}(S:List Int):GU dx dy h (comS dx dy h b S)=comS dx dy h b (S.map (·+1)++S.map (·+-1)):=by
 funext x y
 unfold GU;rw[Mw,<-PR,<-PR];congr 2<;>lia
theorem Rn{dx dy h:Int}{b:Bf}:∀S:List Int,comS dx dy (2*h) b S=comS dx dy h b (S.map (2 * ·))
 |[]=>rfl
 |m::S=>by
  funext x y
  rw[F1];unfold comS;rw[Rn S,show m*(2*h)=2*m*h by rw[<-O5,T7 m 2]]
theorem TC{dx dy h:Int}{b:Bf}:∀S:List Int,comS dx dy h (GU dx dy h b) S=comS dx dy h b (S.map (·+1)++S.map (·+-1))
 |[]=>rfl
 |m::S=>by
  funext x y
  rw[Mw,F1,F1];unfold comS;rw[TC S,Mw];unfold GU;have e1:∀x dx:Int,x+m*h*dx+h*dx=x+(m+1)*h*dx:=λx dx=>by rw[P8,P8];lia
  have e2:∀x dx:Int,x+m*h*dx-h*dx=x+(m+-1)*h*dx:=λx dx=>by rw[P8,P8];lia
  rw[e1,e1,e2,e2];generalize b (x+(m+1)*h*dx) (y+(m+1)*h*dy)=p;generalize b (x+(m+-1)*h*dx) (y+(m+-1)*h*dy)=q;generalize comS dx dy h b (S.map (·+1)) x y=u;generalize comS dx dy h b (S.map (·+-1)) x y=v;cases p<;>cases q<;>cases u<;>cases v<;>rfl
def cmbN(dx dy:Int)(h:Int)(b:Bf)(f:Nat->Bool):Nat->Bf
 |0,_,_=>false
 |n+1,x,y=>(f n && b (x+n*h*dx) (y+n*h*dy)).xor (cmbN dx dy h b f n x y)
def parL(S:List Int)(j:Nat):Bool:=S.foldr (λm q=>(decide (m=(j:Int))).xor q) false
theorem TD{dx dy h:Int}{b:Bf}{x y m:Int}(p:Nat->Bool):∀n:Nat,cmbN dx dy h b (λj:Nat=>(decide (m=(j:Int))).xor (p j)) n x y=(decide (0<=m/\m<n) && b (x+m*h*dx) (y+m*h*dy)).xor (cmbN dx dy h b p n x y)
 |0=>by
  rw[show decide (0<=m/\m<(0:Nat))=false from W0 A0];rfl
 |n+1=>by
  unfold cmbN;rw[TD p n];by_cases e:m=(n:Int)
  ·rw[V9 e,W0 (show ¬(0<=m/\m<(n:Nat)) by lia),V9 (show 0<=m/\m<((n+1:Nat):Int) by lia),e];generalize b (x+n*h*dx) (y+n*h*dy)=u;generalize cmbN dx dy h b p n x y=v;cases p n<;>cases u<;>cases v<;>rfl
  ·rw[W0 e,show decide (0<=m/\m<((n+1:Nat):Int))=decide (0<=m/\m<(n:Int))from decide_eq_decide.mpr A0];generalize (decide (0<=m/\m<(n:Int)) && b (x+m*h*dx) (y+m*h*dy))=u;generalize cmbN dx dy h b p n x y=v;generalize b (x+n*h*dx) (y+n*h*dy)=z;cases p n<;>cases u<;>cases v<;>cases z<;>rfl
theorem WY{dx dy h:Int}{b:Bf}{x y:Int}:∀n:Nat,cmbN dx dy h b (λ_=>false) n x y=false
 |0=>rfl
 |n+1=>by unfold cmbN;rw[WY n];rfl
theorem WX{dx dy h:Int}{b:Bf}{x y:Int}(n:Nat):∀S:List Int,(∀m∈S,¬(0<=m/\m<(n:Int))->b (x+m*h*dx) (y+m*h*dy)=false)->comS dx dy h b S x y=cmbN dx dy h b (parL S) n x y
 |[],_=>(WY n).symm
 |m::S,hS=>by
  have e:parL (m::S)=λj:Nat=>(decide (m=(j:Int))).xor (parL S j):=rfl;rw[e,TD,<-WX n S λk hk=>hS k (C1 _ hk)];show Bool.xor _ (comS dx dy h b S x y)=_;congr 1;by_cases z:0<=m/\m<(n:Int)
  ·rw[V9 z,Bool.true_and]
  ·rw[W0 z,hS m C0 z,Bool.false_and]
def MC:Nat->List (Nat->Bool)
 |0=>[λ_=>false]
 |n+1=>(MC n).flatMap λf=>[f,λj=>if j=n then true else f j]
theorem Qm:∀n,(MC n).length=2^n
 |0=>rfl
 |n+1=>by
  have:∀l:List (Nat->Bool),(l.flatMap λf=>[f,λj=>if j=n then true else f j]).length=2*l.length:=λl=>by
   induction l with
   |nil=>rfl
   |cons a l ih=>rw[V6,C4,ih];show 2+_=_;rw[D8];lia
  show((MC n).flatMap _).length=_;rw[this,Qm n,D7,Q8]
theorem SQ:∀(n:Nat),∀f∈MC n,∀j,n<=j->f j=false
 |0,f,hf,j,_=>by rw[C3.mp hf]
 |n+1,f,hf,j,hj=>by
  obtain⟨g,hg,h⟩:=N6.mp hf;have:=SQ n g hg j A0;rcases B8.mp h with h|h
  ·rw[h];exact this
  ·rw[C3.mp h];show(if j=n then true else g j)=false;rw[V8 A0];exact this
theorem Qn(p:Nat->Bool):∀n:Nat,∃f∈MC n,∀j,j<n->f j=p j
 |0=>⟨_,C3.mpr rfl,λj hj=>absurd hj (L7 _)⟩
 |n+1=>by
  obtain⟨f,hf,h⟩:=Qn p n;cases e:p n with
  |false =>
   refine⟨f,N6.mpr ⟨f,hf,C0⟩,λj hj=>?_⟩;by_cases z:j=n
   ·rw[z,e];exact SQ n f hf n (B6 _)
   ·exact h j A0
  |true =>
   refine⟨λj=>if j=n then true else f j,N6.mpr ⟨f,hf,C1 _ C0⟩,λj hj=>?_⟩;by_cases z:j=n
   ·rw[z,e];exact W2 rfl
   ·exact(V8 z).trans (h j A0)
theorem WZ{dx dy h:Int}{b:Bf}{x y:Int}{f g:Nat->Bool}:∀n:Nat,(∀j,j<n->f j=g j)->cmbN dx dy h b f n x y=cmbN dx dy h b g n x y
 |0,_=>rfl
 |n+1,e=>by unfold cmbN;rw[e n A0,WZ n λj hj=>e j A0]
theorem Rc{p:Int->Prop}:∀S:List Int,(∃m∈S,p m)->∃m∈S,p m/\∀k∈S,p k->m<=k
 |[],⟨_,h,_⟩=>nomatch h
 |a::S,h=>by
  by_cases z:∃m∈S,p m
  ·obtain⟨m,hm,pm,le⟩:=Rc S z;by_cases q:p a/\a<m
   ·refine⟨a,C0,q.1,λk hk pk=>?_⟩;rcases B8.mp hk with rfl|hk
    ·exact V0 _
    ·have:=le k hk pk;lia
   ·refine⟨m,C1 _ hm,pm,λk hk pk=>?_⟩;rcases B8.mp hk with rfl|hk
    ·exact Int.not_lt.mp λl=>q ⟨pk,l⟩
    ·exact le k hk pk
  ·obtain⟨m,hm,pm⟩:=h;rcases B8.mp hm with rfl|hm
   ·refine⟨m,C0,pm,λk hk pk=>?_⟩;rcases B8.mp hk with rfl|hk
    ·exact V0 _
    ·exact absurd ⟨k,hk,pk⟩ z
   ·exact absurd ⟨m,hm,pm⟩ z
def OT(dx dy:Int)(b:Bf):Option Nat->Bf
 |none=>b
 |some t=>GU dx dy (2^t:Nat) b
def LJ(dx dy:Int)(b:Bf)(l:Nat):Option Nat->Bf
 |none=>b
 |some t=>if l<=t then b else GU dx dy (2^t:Nat) b
theorem SS(dx dy:Int)(b:Bf)(l:Nat)(q:Option Nat):∃S,OT dx dy b q=comS dx dy (2^l:Nat) (LJ dx dy b l q) S:=by
 have one:∀c:Bf,c=comS dx dy (2^l:Nat) c [0]:=λc=>by
  funext x y
  show _=Bool.xor (c _ _) false;rw[R3,T5,T5,T5,R0,R0]
 match q with
 |none=>exact⟨[0],one _⟩
 |some t =>
  by_cases z:l<=t
  ·obtain⟨d,rfl⟩:=Nat.exists_eq_add_of_le z;refine⟨[((2^d:Nat):Int),-((2^d:Nat):Int)],?_⟩;unfold OT LJ;dsimp only;rw[W2 z]
   funext x y
   show Bool.xor _ _=Bool.xor (b _ _) (Bool.xor (b _ _) false);have e:((2^(l+d):Nat):Int)=((2^d:Nat):Int)*((2^l:Nat):Int):=by rw[Nat.pow_add,Q8];rfl
   rw[R3,e,O8,O8,O8,<-R1,<-R1]
  ·refine⟨[0],?_⟩;unfold LJ;dsimp only;rw[V8 z];exact one _
theorem Rv(dx dy:Int)(b:Bf)(l:Nat)(q:Option Nat)(S:List Int):∃S',comS dx dy (2^(l+1):Nat) (LJ dx dy b (l+1) q) S=comS dx dy (2^l:Nat) (LJ dx dy b l q) S':=by
 have e:((2^(l+1):Nat):Int)=2*((2^l:Nat):Int):=by rw[D7];lia
 rw[e,Rn]
 match q with
 |none=>exact⟨_,rfl⟩
 |some t =>
  unfold LJ;dsimp only;by_cases z:l+1<=t
  ·rw[W2 z,W2 A0];exact⟨_,rfl⟩
  ·rw[V8 z];by_cases y:l=t
   ·subst y;rw[W2 (B6 _),TC];exact⟨_,rfl⟩
   ·rw[V8 A0];exact⟨_,rfl⟩
def IL(s:Nat)(β:Bf)(l:Nat)(i j:Int):Sht:=Vf (vsF s β) l i j
def Kx(s:Nat)(dx dy:Int)(b:Bf)(Q:List (Option Nat)):KTy:=λl e ψ=>l<47/\((∀x y,x<2^(l+2)->y<2^(l+2)->ψ x y=0)\/(e<=7/\∃q∈Q,∃i j:Int,(e<l/\NN l ψ (IL s (OT dx dy b q) l i j))\/(e=l/\∃S,NN l ψ (IL s (comS dx dy (2^l:Nat) (LJ dx dy b l q) S) l i j))))
theorem kx_cl{r:AC}(ro:La r)(re:CQ r 0 CI=0){s:Nat}{dx dy:Int}(xr:Xr r s dx dy)(b:Bf)(Q:List (Option Nat)):ClK r (Kx s dx dy b Q):=by
 have p1:∀l,2^(l+1)=2^l*2:=λl=>D7 ..;have q1:∀l:Nat,(2:Int)^(l+1)=2^l*2:=λl=>T6 ..;have p2:∀l,2^(l+2)=2^l*2*2:=λl=>by rw[D7,D7]
 have p3:∀l,2^(l+1+2)=2^l*2*2*2:=λl=>by rw[D7,D7,D7]
 have e1:∀(l x i:Nat)(i':Int),((x+2^(l+1)*i:Nat):Int)+2^(l+1)*i'=(x:Int)+2^l*(2*i'+2*(i:Int)):=λl x i i'=>by
  rw[N1,O4,F3];show(x:Int)+2^(l+1)*(i:Int)+2^(l+1)*i'=_;rw[q1,Q6,O5,O5];lia
 have sub:∀{l i j:Nat}{ψ:Sht}{β:Bf}{i' j':Int},i<3->j<3->NN (l+1) ψ (IL s β (l+1) i' j')->NN l (λx y=>ψ (x+2^(l+1)*i) (y+2^(l+1)*j)) (IL s β l (2*i'+2*(i:Int)) (2*j'+2*(j:Int))):=λ{l i j ψ β i' j'} hi hj h x y hx hy=>by
  have b1:2^(l+1)*i<=2^(l+1)*2:=J6 _ A0;have b2:2^(l+1)*j<=2^(l+1)*2:=J6 _ A0;have a1:=p1 l;have a2:=p2 l;have a3:=p3 l;have:=h (x+2^(l+1)*i) (y+2^(l+1)*j) A0 A0;refine this.trans ?_;unfold IL Vf;rw[e1,e1]
 have zer:∀{l i j:Nat}{ψ:Sht},i<3->j<3->(∀x y,x<2^(l+1+2)->y<2^(l+1+2)->ψ x y=0)->∀x y,x<2^(l+2)->y<2^(l+2)->ψ (x+2^(l+1)*i) (y+2^(l+1)*j)=0:=λ{l i j ψ} hi hj h x y hx hy=>by
  have b1:2^(l+1)*i<=2^(l+1)*2:=J6 _ A0;have b2:2^(l+1)*j<=2^(l+1)*2:=J6 _ A0;have a1:=p1 l;have a2:=p2 l;have a3:=p3 l;exact h _ _ A0 A0
 refine⟨λ{l e ψ} h he i j hi hj=>?_,λ{l ψ} h i j hi hj=>?_,λ{l ψ} h i j hi hj=>?_⟩
 ·refine⟨by have:=h.1;lia,?_⟩;rcases h.2 with z|⟨e7,q,hq,i',j',⟨_,z⟩|⟨z,_⟩⟩
  ·exact .inl (zer hi hj z)
  ·refine .inr ⟨e7,q,hq,2*i'+2*(i:Int),2*j'+2*(j:Int),?_⟩;by_cases y:e<l
   ·exact .inl ⟨y,sub hi hj z⟩
   ·obtain⟨S,hS⟩:=SS dx dy b l q;exact .inr ⟨by lia,S,hS▸sub hi hj z⟩
  ·exact absurd z A0
 ·refine⟨by have:=h.1;lia,?_⟩;rcases h.2 with z|⟨e7,q,hq,i',j',⟨y,z⟩|⟨y,S,z⟩⟩
  ·exact .inl (zer hi hj z)
  ·exact absurd y A0
  ·obtain⟨S',hS⟩:=Rv dx dy b l q S;exact .inr ⟨by lia,q,hq,_,_,.inr ⟨rfl,S',hS▸sub hi hj z⟩⟩
 ·have b1:2^(l+1)*i<=2^(l+1)*1:=J6 _ A0;have b2:2^(l+1)*j<=2^(l+1)*1:=J6 _ A0;have a1:=p1 l;have a2:=p2 l;have a3:=p3 l;refine⟨by have:=h.1;lia,?_⟩;rcases h.2 with z|⟨e7,q,hq,i',j',⟨y,z⟩|⟨y,S,z⟩⟩
  ·refine .inl λx y hx hy=>?_;have:=Mh ro (c:=ψ) (φ:=λ_ _=>0) (X:=0) (Y:=0) (2^l) (x+(2^(l+1)*i+2^l)) (y+(2^(l+1)*j+2^l)) A0 A0 λu v h1 h2 h3 h4=>z u v A0 A0;rw[Ie re]at this;exact this
  ·exact absurd y A0
  ·obtain⟨S',hS⟩:=Rv dx dy b l q S;rw[hS]at z;refine .inr ⟨by lia,q,hq,2*i'+(2*(i:Int)+1),2*j'+(2*(j:Int)+1),.inr ⟨rfl,S'.map (·+1)++S'.map (·+-1),λx y hx hy=>?_⟩⟩;have:=Mh ro (c:=ψ) (φ:=vsF s (comS dx dy (2^l:Nat) (LJ dx dy b l q) S')) (X:=2^(l+1)*i') (Y:=2^(l+1)*j') (2^l) (x+(2^(l+1)*i+2^l)) (y+(2^(l+1)*j+2^l)) A0 A0 λu v h1 h2 h3 h4=>z u v A0 A0;refine this.trans ?_;rw[Ew xr,com_two];unfold IL Vf;have e2:∀(x i:Nat)(i':Int),((x+(2^(l+1)*i+2^l):Nat):Int)+2^(l+1)*i'=(x:Int)+2^l*(2*i'+(2*(i:Int)+1)):=λx i i'=>by
    rw[N1,N1,O4,F3,F3];show(x:Int)+(2^(l+1)*(i:Int)+2^l)+2^(l+1)*i'=_;rw[q1,Q6,Q6,O5,O5,Int.mul_one];lia
   rw[e2,e2]
theorem PF{r:AC}{s:Nat}{dx dy:Int}{b:Bf}{Q:List (Option Nat)}{φ:Int->Int->Nat}{k:Nat}(h:∀j,k/2^j%2=1->j<=7/\∃q∈Q,sFN r (k%2^j) φ=vsF s (OT dx dy b q)):SE (Kx s dx dy b Q) r φ k:=λj l G f' hb hl l41 ok lf hf=>by
 obtain⟨j7,q,hq,e⟩:=h j hb;have w:NN l (BZ G (l+2) f') (IL s (OT dx dy b q) l (-2) (-2)):=λx y hx hy=>by
  rw[PP ok lf hx hy,hf,e];have e:(2:Int)^(l+1)=2^l*2:=T6 ..;rw[e];have e2:∀x:Nat,(x:Int)-2^l*2=(x:Int)+2^l * -2:=λx=>by lia
  rw[e2,e2];rfl
 refine⟨by lia,.inr ⟨j7,q,hq,-2,-2,?_⟩⟩;by_cases y:j<l
 ·exact .inl ⟨y,w⟩
 ·obtain⟨S,hS⟩:=SS dx dy b l q;exact .inr ⟨by lia,S,hS▸w⟩
def Jl(l:Nat):Option Nat->Int
 |none=>0
 |some t=>if l<=t then 0 else(2^t:Nat)
def shsX:Option Nat->List Int
 |none=>[0]
 |some t=>[(2^t:Nat),-(2^t:Nat)]
def nX(l:Nat):Nat:=(4+2^l)/2^l+5
def wX(l:Nat):Nat:=wl (4+2^l) 0 l
def idX(X:Int)(w l d:Nat):Int:=(X-(0:Nat))/2^l-3+((d%w:Nat):Int)
def idY(Y:Int)(w l d:Nat):Int:=(Y-(0:Nat))/2^l-3+((d/w:Nat):Int)
def SF(s:Nat)(dx dy:Int)(b:Bf)(X Y:Int)(l:Nat)(q:Option Nat):List (Nat×Sht):=(shsX q).flatMap λc=>(List.range (wl 4 0 l*wl 4 0 l)).map λd=>(l,IL s (OT dx dy b q) l (idX (X-c*dx) (wl 4 0 l) l d) (idY (Y-c*dy) (wl 4 0 l) l d))
def SG(s:Nat)(dx dy:Int)(b:Bf)(X Y:Int)(l:Nat)(q:Option Nat):List (Nat×Sht):=(List.range (wX l*wX l)).flatMap λd=>(MC (nX l)).map λf=>(l,IL s (cmbN dx dy (2^l:Nat) (LJ dx dy b l q) f (nX l)) l (idX (X-Jl l q) (wX l) l d) (idY (Y-Jl l q) (wX l) l d))
def Rb(s:Nat)(dx dy:Int)(b:Bf)(X Y:Int)(Q:List (Option Nat))(e:Nat):List (Nat×Sht):=(List.range 47).flatMap λl=>(l,λ_ _=>0)::if e<=7 then Q.flatMap λq=>if e<l then SF s dx dy b X Y l q else if e=l then SG s dx dy b X Y l q else []else []
def mX(e l:Nat):Nat:=1+if e<=7 then 3*(if e<l then 2*(wl 4 0 l*wl 4 0 l)else if e=l then wX l*wX l*2^nX l else 0)else 0
theorem UG(s:Nat)(dx dy:Int)(b:Bf)(X Y:Int){Q:List (Option Nat)}(q3:Q.length<=3)(e:Nat):(Rb s dx dy b X Y Q e).length<=((List.range 47).map (mX e)).sum:=by
 unfold Rb;refine Rj _ _ _ λl _=>?_;rw[D8];unfold mX;by_cases h:e<=7
 ·rw[W2 h,W2 h];have:=Mt (λq=>if e<l then SF s dx dy b X Y l q else if e=l then SG s dx dy b X Y l q else []) (if e<l then 2*(wl 4 0 l*wl 4 0 l)else if e=l then wX l*wX l*2^nX l else 0) Q λq _=>by
   by_cases z:e<l
   ·rw[W2 z,W2 z];unfold SF;have:=Mt (λc=>(List.range (wl 4 0 l*wl 4 0 l)).map λd=>(l,IL s (OT dx dy b q) l (idX (X-c*dx) (wl 4 0 l) l d) (idY (Y-c*dy) (wl 4 0 l) l d))) (wl 4 0 l*wl 4 0 l) (shsX q) λc _=>by rw[B5,O2];exact B6 _
    refine C2 this (Nat.mul_le_mul_right _ ?_);cases q
    ·exact(by decide:1<=2)
    ·exact B6 2
   ·rw[V8 z,V8 z];by_cases y:e=l
    ·rw[W2 y,W2 y];unfold SG;have:=Mt (λd=>(MC (nX l)).map λf=>(l,IL s (cmbN dx dy (2^l:Nat) (LJ dx dy b l q) f (nX l)) l (idX (X-Jl l q) (wX l) l d) (idY (Y-Jl l q) (wX l) l d))) (2^nX l) (List.range (wX l*wX l)) λd _=>by rw[B5,Qm];exact B6 _
     rw[O2]at this;exact this
    ·rw[V8 y,V8 y];exact F8 _
  have m:=Nat.mul_le_mul_right (if e<l then 2*(wl 4 0 l*wl 4 0 l)else if e=l then wX l*wX l*2^nX l else 0) q3;lia
 ·rw[V8 h,V8 h];exact B6 _
theorem nXX:s47 (λe=>((List.range 47).map (mX e)).sum)<=600000:=by decide +kernel
theorem dpair{w d1 d2:Nat}(l1:d1<w)(l2:d2<w):d1+w*d2<w*w/\(d1+w*d2)%w=d1/\(d1+w*d2)/w=d2:=by
 have hw:0<w:=by lia
 refine⟨?_,by rw[O1,N4 l1],by rw[M8 _ _ hw,L6 l1,M7]⟩;have:w*(d2+1)<=w*w:=J6 _ l2;rw[Nat.mul_add]at this;lia
theorem Ya{W l x y:Nat}{i j X Y:Int}(hx:x<2^(l+2))(hy:y<2^(l+2))(h1:X<=(x:Int)+2^l*i)(h2:(x:Int)+2^l*i<X+W)(h3:Y<=(y:Int)+2^l*j)(h4:(y:Int)+2^l*j<Y+W):∃d,d<wl W 0 l*wl W 0 l/\i=idX X (wl W 0 l) l d/\j=idY Y (wl W 0 l) l d:=by
 obtain⟨d1,l1,e1⟩:=Ve (T:=0) (t:=0) (W:=W) (i:=i) (X:=X) (u:=(x:Int)+2^l*i) hx (B6 _) A0 A0 h1 h2;obtain⟨d2,l2,e2⟩:=Ve (T:=0) (t:=0) (W:=W) (i:=j) (X:=Y) (u:=(y:Int)+2^l*j) hy (B6 _) A0 A0 h3 h4;obtain⟨p1,p2,p3⟩:=dpair l1 l2;refine⟨_,p1,?_,?_⟩
 ·unfold idX;rw[p2];exact e1
 ·unfold idY;rw[p3];exact e2
structure Dir(dx dy:Int):Prop where
 x1:-1<=dx
 x2:dx<=1
 y1:-1<=dy
 y2:dy<=1
 ne:dx≠0\/dy≠0
theorem Dir.mul{dx dy:Int}(h:Dir dx dy){m:Int}(m0:0<=m):(-m<=m*dx/\m*dx<=m)/\-m<=m*dy/\m*dy<=m:=by
 have t:∀z:Int,-1<=z->z<=1->-m<=m*z/\m*z<=m:=λz h1 h2=>by
  rcases(show z=-1\/z=0\/z=1 by lia)with e|e|e<;>rw[e]<;>lia
 exact⟨t _ h.x1 h.x2,t _ h.y1 h.y2⟩
theorem bas_box{dx dy:Int}(dr:Dir dx dy){b:Bf}{X Y:Int}(hb:∀u v,b u v=true->X<=u/\u<X+4/\Y<=v/\v<Y+4)(l:Nat)(q:Option Nat){u v:Int}(h:LJ dx dy b l q u v=true):X-Jl l q<=u/\u<X-Jl l q+(4+2^l:Nat)/\Y-Jl l q<=v/\v<Y-Jl l q+(4+2^l:Nat):=by
 have p:=Bd l
 match q,h with
 |none,h =>
  have:=hb u v h;show X-0<=u/\u<X-0+(4+2^l:Nat)/\Y-0<=v/\v<Y-0+(4+2^l:Nat)
  lia
 |some t,h =>
  unfold LJ at h;unfold Jl;dsimp only at h⊢;by_cases z:l<=t
  ·rw[W2 z]at h⊢;have:=hb u v h;lia
  ·rw[V8 z]at h⊢;have p2:2*2^t<=2^l:=by
    have:=L5 (show 0<2 by decide) (show t+1<=l by lia);rw[D7]at this;lia
   have m:=dr.mul (m:=((2^t:Nat):Int)) (Int.natCast_nonneg _);unfold GU at h;generalize (2^t:Nat)=T at *
   by_cases y:b (u+(T:Int)*dx) (v+(T:Int)*dy)=true
   ·have:=hb _ _ y;lia
   ·rw[Bool.not_eq_true]at y;rw[y,R4]at h;have:=hb _ _ h;lia
theorem WP{P m dx:Int}{W:Nat}{x x':Nat}{i X:Int}(pz:0<P)(hx:(x:Int)<P*4)(hx':(x':Int)<P*4)(d1:dx=1\/dx=-1)(m0:0<=m)(h1:X<=(x:Int)+P*i)(h2:(x:Int)+P*i<X+W)(h3:X<=(x':Int)+P*i+m*P*dx)(h4:(x':Int)+P*i+m*P*dx<X+W):m<(W:Int)/P+5:=by
 refine Int.lt_of_not_ge λz=>?_;have e1:=U4 (W:Int) P;have e2:=M5 (W:Int) pz;have g:P*((W:Int)/P+5)<=P*m:=Int.mul_le_mul_of_nonneg_left z (Int.le_of_lt pz);rw[Q6]at g;rw[T7 m P]at h3 h4;rcases d1 with e|e<;>rw[e]at h3 h4<;>lia
theorem kx_fin{s:Nat}{dx dy:Int}(dr:Dir dx dy){b:Bf}{X Y:Int}(hb:∀u v,b u v=true->X<=u/\u<X+4/\Y<=v/\v<Y+4){Q:List (Option Nat)}(q3:Q.length<=3):NM (Kx s dx dy b Q) 600000:=by
 refine⟨⟨_,nXX,λe=>⟨Rb s dx dy b X Y Q e,UG s dx dy b X Y q3 e,λl ψ h=>?_⟩⟩,λ{l e φ' ψ} h q=>⟨h.1,?_⟩⟩
 ·obtain⟨h1,h2⟩:=h;have zero:(∀x y,x<2^(l+2)->y<2^(l+2)->ψ x y=0)->∃ψ',(l,ψ')∈Rb s dx dy b X Y Q e/\NN l ψ ψ':=λz=>⟨λ_ _=>0,N6.mpr ⟨l,J9.mpr h1,C0⟩,z⟩
  by_cases z:∀x y,x<2^(l+2)->y<2^(l+2)->ψ x y=0
  ·exact zero z
  ·rcases h2 with h2|⟨e7,q,hq,i,j,h2⟩
   ·exact absurd h2 z
   ·obtain⟨x,z⟩:=Classical.not_forall.mp z;obtain⟨y,z⟩:=Classical.not_forall.mp z;obtain⟨hx,z⟩:=Classical.not_imp.mp z;obtain⟨hy,z⟩:=Classical.not_imp.mp z;have inn:∀{ψ'},(l,ψ')∈(if e<l then SF s dx dy b X Y l q else if e=l then SG s dx dy b X Y l q else [])->(l,ψ')∈Rb s dx dy b X Y Q e:=λh=>N6.mpr ⟨l,J9.mpr h1,C1 _ (by rw[W2 e7];exact N6.mpr ⟨q,hq,h⟩)⟩;have liv:∀{β:Bf},NN l ψ (IL s β l i j)->β ((x:Int)+2^l*i) ((y:Int)+2^l*j)=true:=λ{β} h=>by
     rw[h x y hx hy]at z;unfold IL Vf vsF at z;refine W5 λn=>z ?_;rw[V8 n];rfl
    rcases h2 with ⟨el,h2⟩|⟨el,S,h2⟩
    ·have li:=liv h2;have:∃c∈shsX q,X<=(x:Int)+2^l*i+c*dx/\(x:Int)+2^l*i+c*dx<X+4/\Y<=(y:Int)+2^l*j+c*dy/\(y:Int)+2^l*j+c*dy<Y+4:=by
      match q,li with
      |none,li=>exact⟨0,C3.mpr rfl,by rw[T5,T5,R0,R0];exact hb _ _ li⟩
      |some t,li =>
       unfold OT GU at li;dsimp only at li;by_cases y':b ((x:Int)+2^l*i+((2^t:Nat):Int)*dx) ((y:Int)+2^l*j+((2^t:Nat):Int)*dy)=true
       ·exact⟨_,C0,hb _ _ y'⟩
       ·rw[Bool.not_eq_true]at y';rw[y',R4]at li;refine⟨_,C1 _ C0,?_⟩;rw[O8,O8,<-R1,<-R1];exact hb _ _ li
     obtain⟨c,hc,c1,c2,c3,c4⟩:=this;obtain⟨d,hd,e1,e2⟩:=Ya (W:=4) (i:=i) (j:=j) (X:=X-c*dx) (Y:=Y-c*dy) hx hy A0 A0 A0 A0;refine⟨IL s (OT dx dy b q) l i j,inn ?_,h2⟩;rw[W2 el,e1,e2];exact N6.mpr ⟨c,hc,D1.mpr ⟨d,J9.mpr hd,rfl⟩⟩
    ·have li:=liv h2;subst el;generalize hβ:LJ dx dy b e q=β at *
     have bb:∀u v,β u v=true->X-Jl e q<=u/\u<X-Jl e q+(4+2^e:Nat)/\Y-Jl e q<=v/\v<Y-Jl e q+(4+2^e:Nat):=λu v h=>bas_box dr hb e q (by rw[hβ];exact h);have pe:((2^e:Nat):Int)=2^e:=F3 2 e;have pz:(0:Int)<2^e:=by have:=Bd e;lia
     have p4:((2^(e+2):Nat):Int)=2^e*4:=by rw[D7,D7];lia
     let hit:=λm:Int=>∃x y:Nat,x<2^(e+2)/\y<2^(e+2)/\β ((x:Int)+2^e*i+m*((2^e:Nat):Int)*dx) ((y:Int)+2^e*j+m*((2^e:Nat):Int)*dy)=true;have some:∀S:List Int,comS dx dy (2^e:Nat) β S ((x:Int)+2^e*i) ((y:Int)+2^e*j)=true->∃m∈S,hit m:=λS=>by
      induction S with
      |nil=>intro h;cases h
      |cons m S ih =>
       intro h;by_cases y':β ((x:Int)+2^e*i+m*((2^e:Nat):Int)*dx) ((y:Int)+2^e*j+m*((2^e:Nat):Int)*dy)=true
       ·exact⟨m,C0,x,y,hx,hy,y'⟩
       ·rw[Bool.not_eq_true]at y';unfold comS at h;rw[y',R4]at h;obtain⟨k,h1,h2⟩:=ih h;exact⟨k,C1 _ h1,h2⟩
     obtain⟨m,hm,⟨x1,y1,hx1,hy1,b1⟩,le⟩:=Rc S (some S li);obtain⟨g1,g2,g3,g4⟩:=bb _ _ b1;have ei:∀(x:Int)(i dx:Int),x+2^e*i+m*((2^e:Nat):Int)*dx=x+2^e*(i+m*dx):=λx i dx=>by
      rw[pe,Q6,T7 m (2^e),O5];lia
     rw[ei]at g1 g2 g3 g4;obtain⟨d,hd,e1,e2⟩:=Ya (W:=4+2^e) (i:=i+m*dx) (j:=j+m*dy) (X:=X-Jl e q) (Y:=Y-Jl e q) hx1 hy1 g1 g2 g3 g4;obtain⟨f,hf,ef⟩:=Qn (parL (S.map (·+-m))) (nX e);refine⟨IL s (cmbN dx dy (2^e:Nat) β f (nX e)) e (i+m*dx) (j+m*dy),inn ?_,λx y hx hy=>?_⟩
     ·rw[V8 (N2 _),W2 rfl,e1,e2];refine N6.mpr ⟨d,J9.mpr hd,D1.mpr ⟨f,hf,?_⟩⟩;rw[hβ];rfl
     ·rw[h2 x y hx hy];unfold IL Vf vsF;rw[WZ _ ef,<-WX (nX e) (S.map (·+-m)) ?_,<-PR]
      ·have eb:∀(x i dx:Int),x+2^e*(i+m*dx)+-m*((2^e:Nat):Int)*dx=x+2^e*i:=λx i dx=>by
        rw[<-ei,O8,O8];lia
       rw[eb,eb]
      ·intro k hk out;obtain⟨k0,hk0,rfl⟩:=D1.mp hk;refine W5 λnb=>out ?_;rw[Bool.not_eq_false]at nb;have ek:∀(x i dx:Int),x+2^e*(i+m*dx)+(k0+-m)*((2^e:Nat):Int)*dx=x+2^e*i+k0*((2^e:Nat):Int)*dx:=λx i dx=>by
        rw[<-ei,P8,P8,O8,O8];lia
       have nb':=nb;rw[ek,ek]at nb';have lk:=le k0 hk0 ⟨x,y,hx,hy,nb'⟩;obtain⟨f1,f2,f3,f4⟩:=bb _ _ nb;have k0':0<=k0+-m:=by lia
       refine⟨k0',?_⟩;have en:((nX e:Nat):Int)=(((4+2^e:Nat):Int))/2^e+5:=by
        unfold nX;rw[N1,T3,pe];rfl
       rw[en];rw[pe]at f1 f2 f3 f4;have hx':(x:Int)<2^e*4:=by lia
       have hy':(y:Int)<2^e*4:=by lia
       have hx1':(x1:Int)<2^e*4:=by lia
       have hy1':(y1:Int)<2^e*4:=by lia
       by_cases zx:dx=0
       ·have zy:dy=1\/dy=-1:=by
         have:=dr.ne;have:=dr.y1;have:=dr.y2;lia
        exact WP pz hy1' hy' zy k0' g3 g4 f3 f4
       ·have zx':dx=1\/dx=-1:=by
         have:=dr.x1;have:=dr.x2;lia
        exact WP pz hx1' hx' zx' k0' g1 g2 f1 f2
 ·rcases h.2 with h2|⟨e7,u,hu,i,j,⟨el,h2⟩|⟨el,S,h2⟩⟩
  ·exact .inl λx y hx hy=>(q x y hx hy).symm.trans (h2 x y hx hy)
  ·exact .inr ⟨e7,u,hu,i,j,.inl ⟨el,λx y hx hy=>(q x y hx hy).symm.trans (h2 x y hx hy)⟩⟩
  ·exact .inr ⟨e7,u,hu,i,j,.inr ⟨el,S,λx y hx hy=>(q x y hx hy).symm.trans (h2 x y hx hy)⟩⟩
theorem GX.new{a:Ad}{H H':Hp}{g:GA}{G:Gv}{N M:Nat}{r:AC}{m:MA}(hg:AH a H g G)(nl:H m.l=none)(nk:H m.kc=none)(h4:H' m.tp=some (.tup [.ref m.l,.ref m.kc]))(h5:H' m.l=some (.lst (m.ds.map V.ref)))(h6:H' m.kc=some (.dT []))(h7:∀d∈m.ds,H' d=some (.dK []))(h8:m.ds.length=47)(h9:m.ds.Nodup):GX H' g G N M r m:=by
 obtain⟨ts,h3,_⟩:=hg.pt;exact⟨h4,h5,⟨W4 (Ar hg.lv nl),W4 (Ar h3 nl),W4 (Ar hg.nm nk)⟩,h8,h9,λe d ed=>⟨[],h7 d (D2 ed),F8 _,λp hp=>(nomatch hp),λn v hv=>by cases hv⟩,⟨[],h6,F8 _,λks v hv=>by cases hv⟩⟩
def zL(g:GA)(m:MA):List Addr:=[g.lv,g.pt,g.nm,g.am,g.bx,m.kc]++m.ds
section
variable{a:Ad}{H H':Hp}{g:GA}{G G':Gv}{Κ:KTy}{N b i:Nat}{p dx mem pr:Addr}{r:AC}{m:MA}
theorem FrZ.fx(h:ZS a H g G Κ N b p dx mem pr r m)(f:FrZ g m H H'):Fx (zL g m) H H':=λx o e z=>by
 obtain⟨ts,h3,_⟩:=h.fu.at'.pt;obtain⟨ka,a1,_⟩:=h.fu.am;obtain⟨kb,b1,_⟩:=h.fu.bx;obtain⟨kc,c1,_⟩:=h.jz.jw.me.ce;refine f x o e (λy=>?_) (λy=>?_)
 ·have z':=z (D4.mpr (.inl y));clear z;simp only[B8,D0,Y5]at y;rcases y with y|y|y|y|y|y<;>subst y
  ·rw[h.fu.at'.lv]at e;cases e;exact z'
  ·rw[h3]at e;cases e;exact z'
  ·rw[h.fu.at'.nm]at e;cases e;exact z'
  ·rw[a1]at e;cases e;exact z'
  ·rw[b1]at e;cases e;exact z'
  ·rw[c1]at e;cases e;exact z'
 ·have z':=z (D4.mpr (.inr y));obtain⟨j,hj⟩:=F4 y;obtain⟨kv,e2,_⟩:=h.jz.jw.me.sq j x hj;rw[e2]at e;cases e;exact z'
theorem ZS.fx{l:List Addr}(h:ZS a H g G Κ N b p dx mem pr r m)(f:Fx l H H')(n:∀x∈[g.br,m.l]++zL g m,x∉l):ZS a H' g G Κ N b p dx mem pr r m:=by
 have nz:∀x∈zL g m,x∉l:=λx hx=>n x (D4.mpr (.inr hx));have nbr:g.br∉l:=n _ A4;have nml:m.l∉l:=n _ A4;have fu':=h.fu.fx f λx hx=>by
  simp only[FS,B8,D0,Y5]at hx;rcases hx with z|z|z|z|z|z<;>subst z
  ·exact nz _ (by simp[zL])
  ·exact nz _ (by simp[zL])
  ·exact nz _ (by simp[zL])
  ·exact nbr
  ·exact nz _ (by simp[zL])
  ·exact nz _ (by simp[zL])
 have jw:=h.jz.jw;obtain⟨kc,c1,_⟩:=jw.me.ce;have kds:∀d∈m.ds,∀o,H d=some o->H' d=some o:=λd hd o e=>f.get (nz d (D4.mpr (.inr hd))) e;have kkc:∀o,H m.kc=some o->H' m.kc=some o:=λo e=>f.get (nz _ (by simp[zL])) e;have me:GX H' g G N (b+10*N) r m:=jw.me.kp jw.ok (AG.refl jw.ok) λx o e w=>by
  rcases w with rfl|rfl|w|rfl
  ·rw[jw.me.tp]at e;cases e;exact f.tup jw.me.tp
  ·exact f.get nml e
  ·exact kds x w o e
  ·exact kkc o e
 obtain⟨fc,cn⟩:=h.jz.cn;refine⟨⟨⟨fu'.at',jw.ok,jw.bs,f.get nbr jw.br,jw.nbr,f _ _ jw.hp λ_=>True.intro,jw.ru.kp λx o e nv=>f _ _ e λ_=>?_,jw.rok,jw.rest,me⟩,fc,cn.kp (i:=0) jw.ok (AG.refl jw.ok) kds λkc e=>⟨kc,kkc _ e,B6 _⟩⟩,fu',h.na,h.nb⟩;cases nv<;>exact True.intro
theorem jnew{Q:VK}{H7:Hp}(fu:Bc a H7 g G)(ro:La r)(rz:CQ r 0 CI=0)(hR:Cf a H7 pr (CM r) r)(np:H7 p=none)(ndp:H7 dx=none)(nep:dx≠p)(few:G.length<=b)(k:∀(H8:Hp)(mem:Addr)(m:MA),AA H7 H8->ZS a H8 g G Κ N b p dx mem pr r m->(∀y∈m.l::m.kc::m.ds,H7 y=none)->H8 mem=some (.dK (mK [(CM r,m)]))->H7 mem=none->mem∉m.ds->Q .non H8):Qe a [.ref p,.ref g.p,.ref pr] (upd (upd H7 dx (.own p)) p (.ins a.c_Jumps dx [])) Q:=by
 have nq:upd H7 dx (.own p) p=none:=by rw[Ao (W4 nep)];exact np
 have sj:AA H7 (upd (upd H7 dx (.own p)) p (.ins a.c_Jumps dx [])):=(show AA H7 _ from Az ndp).trans (Az nq);refine⟨p,dx,g.p,pr,CM r,r,rfl,Af,hR.same sj,λH8 mem m fr8 nmem hp8 hmem8 fre htp hl hkc hds lds nds nmd=>?_⟩;have s8':AA H7 H8:=λb o e=>fr8 b o (sj b o e) (Ar e np);have mn:∀{y:Addr},upd (upd H7 dx (.own p)) p (.ins a.c_Jumps dx []) y=none->H7 y=none:=λ{y} e=>AA.noneN sj e;have fu8:=fu.same s8';have hw:GX H8 g G N (b+10*N) r m:=(GX.new (N:=0) (M:=0) fu.at' (mn fre.2.1) (mn fre.2.2.1) htp hl hkc hds lds nds).mono (F8 _) (F8 _);have nds7:∀dd∈m.ds,H7 dd=none:=λdd hdd=>mn (fre.2.2.2 dd hdd);obtain⟨rr5,e5⟩:=fu.g0;have bs5:Bs G:=λj hj=>by
  have:=Ms j hj;rw[e5];exact JQ this
 obtain⟨ka,ha1,_⟩:=fu.am;obtain⟨kb,hb1,_⟩:=fu.bx;refine k H8 mem m s8' ⟨⟨⟨fu8.at',fu8.ok,bs5,fu8.br,⟨fu8.n1,fu8.n2⟩,hp8,hR.same s8',ro,rz,hw⟩,λ_=>0,λe dd ed=>⟨[],hds dd (D2 ed),rfl,P9,λk hk=>nomatch hk⟩,C2 few (S7 _ _),[],hkc,F8 _⟩,fu8,λz=>?_,λz=>?_⟩ (λy hy=>?_) hmem8 (mn nmem) (λz=>nmd mem z rfl)
 ·rw[nds7 _ z]at ha1;cases ha1
 ·rw[nds7 _ z]at hb1;cases hb1
 ·rcases B8.mp hy with rfl|hy
  ·exact mn fre.2.1
  ·rcases B8.mp hy with rfl|hy
   ·exact mn fre.2.2.1
   ·exact nds7 y hy
end
seal L2.PA L2.PE L2.PS L2.PSs L2.PT L2.PW
def pl2(i:Nat)(s t:Int):List (Option Int):=(List.range 8).map λj=>if j=i then some s else if j=7-i then some t else none
def r59(s i:Nat):AC:=[⟨none,[.pl (pl2 i s 0)],s⟩,⟨none,[.pl (pl2 i 0 s)],s⟩,⟨none,[.pl (List.replicate 8 none)],0⟩]
def dX:Nat->Int
 |0=>-1|1=>0|2=>1|_=>-1
def dY:Nat->Int
 |0=>-1|1=>-1|2=>-1|_=>0
theorem dir59:∀{i:Nat},i<4->Dir (dX i) (dY i)
 |0,_=>⟨by decide,by decide,by decide,by decide,by decide⟩
 |1,_=>⟨by decide,by decide,by decide,by decide,by decide⟩
 |2,_=>⟨by decide,by decide,by decide,by decide,by decide⟩
 |3,_=>⟨by decide,by decide,by decide,by decide,by decide⟩
theorem Os{i:Nat}(hi:i<4)(s t a0 a1 a2 a3 a4 a5 a6 a7:Int):(Bn.pl (pl2 i s t)).holds [a0,a1,a2,a3,a4,a5,a6,a7]=(decide (s=[a0,a1,a2,a3,a4,a5,a6,a7].getD i 0) && decide (t=[a0,a1,a2,a3,a4,a5,a6,a7].getD (7-i) 0)):=by
 match i,hi with
 |0,_=>simp[Bn.holds,pl2,Dj,List.range,List.range.loop]
 |1,_=>simp[Bn.holds,pl2,Dj,List.range,List.range.loop]
 |2,_=>simp[Bn.holds,pl2,Dj,List.range,List.range.loop]
 |3,_=>simp[Bn.holds,pl2,Dj,List.range,List.range.loop]
theorem r59_bec{i s:Nat}(hi:i<4)(s1:1<=s)(c a0 a1 a2 a3 a4 a5 a6 a7:Int){p q:Bool}(e1:[a0,a1,a2,a3,a4,a5,a6,a7].getD i 0=((if p then s else 0:Nat):Int))(e2:[a0,a1,a2,a3,a4,a5,a6,a7].getD (7-i) 0=((if q then s else 0:Nat):Int)):CQ (r59 s i) c [a0,a1,a2,a3,a4,a5,a6,a7]=((if p.xor q then s else 0:Nat):Int):=by
 have f1:Be.fits c [a0,a1,a2,a3,a4,a5,a6,a7] ⟨none,[.pl (pl2 i s 0)],s⟩=(p && !q):=by
  show(true && ((Bn.pl (pl2 i s 0)).holds [a0,a1,a2,a3,a4,a5,a6,a7] && true))=_;rw[Os hi,e1,e2];cases p<;>cases q<;>simp<;>lia
 have f2:Be.fits c [a0,a1,a2,a3,a4,a5,a6,a7] ⟨none,[.pl (pl2 i 0 s)],s⟩=(!p && q):=by
  show(true && ((Bn.pl (pl2 i 0 s)).holds [a0,a1,a2,a3,a4,a5,a6,a7] && true))=_;rw[Os hi,e1,e2];cases p<;>cases q<;>simp<;>lia
 have f3:Be.fits c [a0,a1,a2,a3,a4,a5,a6,a7] ⟨none,[.pl (List.replicate 8 none)],0⟩=true:=rfl;unfold CQ r59;rw[M9,M9,M9,f1,f2,f3];cases p<;>cases q<;>rfl
theorem r59_xr{i s:Nat}(hi:i<4)(s1:1<=s):Xr (r59 s i) s (dX i) (dY i):=λb=>by
 funext x y
 unfold sF;rw[r59_bec hi s1 _ _ _ _ _ _ _ _ _ (p:=b (x+1*dX i) (y+1*dY i)) (q:=b (x-1*dX i) (y-1*dY i)) ?_ ?_,J1]
 ·rfl
 ·match i,hi with
  |0,_=>rfl
  |1,_=>show((vsF s b x (y-1):Nat):Int)=(vsF s b (x+0) (y-1):Nat);rw[R0]
  |2,_=>rfl
  |3,_=>show((vsF s b (x-1) y:Nat):Int)=(vsF s b (x-1) (y+0):Nat);rw[R0]
 ·match i,hi with
  |0,_=>show((vsF s b (x+1) (y+1):Nat):Int)=(vsF s b (x - -1) (y - -1):Nat);rw[U8,U8]
  |1,_=>show((vsF s b x (y+1):Nat):Int)=(vsF s b (x-0) (y - -1):Nat);rw[U8,Int.sub_zero]
  |2,_=>show((vsF s b (x-1) (y+1):Nat):Int)=(vsF s b (x-1) (y - -1):Nat);rw[U8]
  |3,_=>show((vsF s b (x+1) y:Nat):Int)=(vsF s b (x - -1) (y-0):Nat);rw[U8,Int.sub_zero]
theorem VJ:∀i:Nat,i<4->∀s:Nat,s<8->1<=s->CQ (r59 s i) 0 CI=0:=by decide +kernel
theorem VN{i:Nat}{s t:Int}(h1:GY s)(h2:GY t):(Bn.pl (pl2 i s t)).ok:=by
 refine⟨by unfold pl2;rw[B5,O2],λv hv=>?_⟩;obtain⟨j,_,rfl⟩:=D1.mp hv;split
 ·exact h1
 ·split
  ·exact h2
  ·exact True.intro
theorem r59_ok{i s:Nat}(s7:s<=7):La (r59 s i):=by
 have s1:GY (s:Int):=⟨by lia,by lia⟩
 have s0:GY 0:=⟨by decide,by decide⟩
 refine⟨by show 3<=50;decide,λc hc=>?_⟩;rcases B8.mp hc with e|hc
 ·rw[e];exact⟨True.intro,s1,by show 1<=50;decide,λd hd=>by rw[C3.mp hd];exact VN s1 s0⟩
 ·rcases B8.mp hc with e|hc
  ·rw[e];exact⟨True.intro,s1,by show 1<=50;decide,λd hd=>by rw[C3.mp hd];exact VN s0 s1⟩
  ·rw[C3.mp hc];refine⟨True.intro,s0,by show 1<=50;decide,λd hd=>?_⟩;rw[C3.mp hd];exact⟨rfl,λv hv=>by rw[(List.mem_replicate.mp hv).2];exact True.intro⟩
abbrev stS:Str:=Str.ofString "*"
def L8(i:Nat)(s t:Str):List Str:=(List.range 8).map λj=>if j=i then s else if j=7-i then t else stS
theorem set8{i:Nat}(hi:i<4)(s t:Str):([V.str stS,.str stS,.str stS,.str stS,.str stS,.str stS,.str stS,.str stS].set i (.str s)).set (7-i) (.str t)=(L8 i s t).map V.str:=by
 match i,hi with
 |0,_=>rfl
 |1,_=>rfl
 |2,_=>rfl
 |3,_=>rfl
abbrev noS:Str:=Str.ofString "0"
abbrev st8:List V:=[V.str stS,.str stS,.str stS,.str stS,.str stS,.str stS,.str stS,.str stS]
theorem ix8:∀i:Nat,i<8->ixN 8 (i:Int)=some i:=by decide +kernel
theorem l8_join:∀i:Nat,i<4->∀s:Nat,s<8->JoinOk (Str.ofString "") (L8 i (sgD s) noS)=true/\JoinOk (Str.ofString "") (L8 i noS (sgD s))=true:=by decide +kernel
theorem l8_len:∀i:Nat,i<4->∀s:Nat,s<8->(Str.join (Str.ofString "") (L8 i (sgD s) noS)).length=8/\(Str.join (Str.ofString "") (L8 i noS (sgD s))).length=8:=by decide +kernel
theorem VI:∀i:Nat,i<4->∀s:Nat,s<8->(((Str.ofString "* " ++ Str.join (Str.ofString "") (L8 i (sgD s) noS))++(Str.ofString " " ++ sgD s++Str.ofString "; * "))++Str.join (Str.ofString "") (L8 i noS (sgD s)))++(Str.ofString " " ++ sgD s++Str.ofString "; * ******** 0")=CM (r59 s i):=by decide +kernel
section
variable{P:Program}{w:World}{K:PySem.W.Frag}{mg:Str->Option Value}{base:Heap}{a:Ad}
inductive SpRby(vs:List V)(H:Hp)(Q:VK):Prop
 |mk (s i:Nat) (_:vs=[.int (s:Int),.int (i:Int)]) (_:s<=7) (_:i<4) (_:∀H':Hp,AA H H'->Q (.str (CM (r59 s i))) H'):SpRby vs H Q
def Vq:Sp:=λvs H Q _=>SpRby vs H Q
theorem ok_rby{f:Addr}{fd:FuncData}(F:Fun K "_law_rule_by" "_law_rule_by" ED f fd)(T:Top K mg a):AK P w K mg base CX0 1 f fd EO Vq:=by
 refine F.ok Eh (λvs H Q E h=>?_) (λcdv A outer s H vs Q E hr h=>?_)
 ·obtain⟨s,i,rfl,_⟩:=h;rfl
 ·obtain⟨s,i,rfl,s7,i4,k⟩:=h;refine⟨_,(Ab (Aq (i:=2) Eh.nd rfl (Or.inl rfl) (CY (Cm (Cm (Cm (Cm (Cm (Cm (Cm (Cm Ac)))))))))) (Ab (Aq (i:=3) Eh.nd rfl (Or.inl rfl) (CY (Cm (Cm (Cm (Cm (Cm (Cm (Cm (Cm Ac)))))))))) (Ab (MY (BB JX rfl T.b_str A0b (Aa (pv 0) Ac)) (MZ (pv 2) (pv 1) GZ)) (Ab (MY Ej (MZ (pv 2) (AF BG Ae (pv 1)) GZ)) (Ab (MY Ej (MZ (pv 3) (pv 1) GZ)) (Ab (MY (BB JX rfl T.b_str A0b (Aa (pv 0) Ac)) (MZ (pv 3) (AF BG Ae (pv 1)) GZ)) (Ag (Aw (AF GI (AF GI (AF GI (AF GI Ej (GS X4 PySem.F.slot_str_join PySem.F.type_str_join Tn Ej (Aa (pv 2) Ac))) (QN Ej (pv 0) Ej)) (GS X4 PySem.F.slot_str_join PySem.F.type_str_join Tn Ej (Aa (pv 3) Ac))) (QN Ej (pv 0) Ej)))))))))),?_⟩
  try dsimp only[cxK]
  have e7:(7:Int)-(i:Int)=((7-i:Nat):Int):=by lia
  have lg:(s:Int).natAbs.log2<1920:=Ug A0 A0;have dg:Str.ofString (toString (s:Int))=sgD s:=Tx.WV A0 A0;have l1:(sgD s).length=1:=rfl;refine⟨(by show 8<=sizeLine;decide),λS1 n1=>?_⟩;have s1:=AJ (o:=.lst st8) n1;have h1:upd H S1 (.lst st8) S1=some (.lst st8):=Af;generalize upd H S1 (.lst st8)=H1 at s1 h1⊢;refine⟨(by show 8<=sizeLine;decide),λS2 n2=>?_⟩;have s2:=AJ (o:=.lst st8) n2;have h2:upd H1 S2 (.lst st8) S2=some (.lst st8):=Af;have h1':=s2 _ _ h1;have ne:S1≠S2:=Ar h1 n2;have n2':H S2=none:=AA.noneOf s1 n2;replace s2:=s1.trans s2;generalize upd H1 S2 (.lst st8)=H2 at s2 h1' h2⊢;clear s1 h1 n2;refine⟨_,rfl,(s:Int),rfl,lg,_,rfl,_,rfl,S1,_,_,_,rfl,rfl,h1',ix8 i A0,?_⟩;rw[dg];have s3:AA H (upd H2 S1 (.lst (st8.set i (.str (sgD s))))):=λb o e=>by rw[Ao (Ar e n1)];exact s2 _ _ e
  have h3:upd H2 S1 (.lst (st8.set i (.str (sgD s)))) S1=some (.lst (st8.set i (.str (sgD s)))):=Af;have g3:upd H2 S1 (.lst (st8.set i (.str (sgD s)))) S2=some (.lst st8):=by rw[Ao (W4 ne)];exact h2
  generalize upd H2 S1 (.lst (st8.set i (.str (sgD s))))=H3 at s3 h3 g3⊢;clear s2 h1' h2;refine⟨_,rfl,_,rfl,_,_,rfl,rfl,S1,_,_,_,rfl,rfl,h3,(by rw[List.length_set,e7];exact ix8 (7-i) A0),?_⟩;rw[set8 i4];have s4:AA H (upd H3 S1 (.lst ((L8 i (sgD s) noS).map V.str))):=λb o e=>by rw[Ao (Ar e n1)];exact s3 _ _ e
  have h4:upd H3 S1 (.lst ((L8 i (sgD s) noS).map V.str)) S1=some (.lst ((L8 i (sgD s) noS).map V.str)):=Af;have g4:upd H3 S1 (.lst ((L8 i (sgD s) noS).map V.str)) S2=some (.lst st8):=by rw[Ao (W4 ne)];exact g3
  generalize upd H3 S1 (.lst ((L8 i (sgD s) noS).map V.str))=H4 at s4 h4 g4⊢;clear s3 h3 g3;refine⟨_,rfl,_,rfl,S2,_,_,_,rfl,rfl,g4,ix8 i A0,?_⟩;have s5:AA H (upd H4 S2 (.lst (st8.set i (.str noS)))):=λb o e=>by rw[Ao (Ar e n2')];exact s4 _ _ e
  have g5:upd H4 S2 (.lst (st8.set i (.str noS))) S2=some (.lst (st8.set i (.str noS))):=Af;have h5:upd H4 S2 (.lst (st8.set i (.str noS))) S1=some (.lst ((L8 i (sgD s) noS).map V.str)):=by rw[Ao ne];exact h4
  generalize upd H4 S2 (.lst (st8.set i (.str noS)))=H5 at s5 g5 h5⊢;clear s4 h4 g4;refine⟨_,rfl,(s:Int),rfl,lg,_,rfl,_,rfl,_,_,rfl,rfl,S2,_,_,_,rfl,rfl,g5,(by rw[List.length_set,e7];exact ix8 (7-i) A0),?_⟩;rw[dg,set8 i4];have s6:AA H (upd H5 S2 (.lst ((L8 i noS (sgD s)).map V.str))):=λb o e=>by rw[Ao (Ar e n2')];exact s5 _ _ e
  have g6:upd H5 S2 (.lst ((L8 i noS (sgD s)).map V.str)) S2=some (.lst ((L8 i noS (sgD s)).map V.str)):=Af;have h6:upd H5 S2 (.lst ((L8 i noS (sgD s)).map V.str)) S1=some (.lst ((L8 i (sgD s) noS).map V.str)):=by rw[Ao ne];exact h5
  generalize upd H5 S2 (.lst ((L8 i noS (sgD s)).map V.str))=H6 at s6 g6 h6⊢;clear s5 h5 g5;have jn:=l8_join i i4 s A0;have ln:=l8_len i i4 s A0;have q1:(Str.ofString "* ").length=2:=by decide
  have q2:(Str.ofString " ").length=1:=by decide
  have q3:(Str.ofString "; * ").length=4:=by decide
  have q4:(Str.ofString "; * ******** 0").length=14:=by decide
  refine⟨rfl,_,rfl,_,S1,_,rfl,rfl,SqL.of h6,jn.1,_,_,rfl,rfl,Mn (by rw[q1,ln.1];decide),_,rfl,(by rw[q2];decide),_,rfl,(s:Int),rfl,lg,_,rfl,(by rw[q3];decide),_,_,rfl,rfl,?_⟩;rw[dg];have lm:∀x:Str,(Str.ofString " " ++ sgD s++x).length=2+x.length:=λx=>by rw[K3,K3,q2,l1]
  have lA:(Str.ofString "* " ++ Str.join (Str.ofString "") (L8 i (sgD s) noS)).length=10:=by rw[K3,q1,ln.1]
  refine⟨Mn (by rw[lA,lm,q3];decide),rfl,_,rfl,_,S2,_,rfl,rfl,SqL.of g6,jn.2,_,_,rfl,rfl,Mn (by rw[K3,lA,lm,q3,ln.2];decide),_,rfl,(by rw[q2];decide),_,rfl,(s:Int),rfl,lg,_,rfl,(by rw[q4];decide),_,_,rfl,rfl,?_⟩;rw[dg];refine⟨Mn (by rw[K3,K3,lA,lm,lm,q3,q4,ln.2];decide),?_⟩;rw[VI i i4 s A0];exact k H6 s6
end
abbrev Pl:=Int×Int
def kvP(ps:List Pl):List (List Key×V):=ps.map λp=>(kOf [p.1,p.2],V.bl true)
def inP(ps:List Pl):Bf:=λx y=>decide ((x,y)∈ps)
theorem Sk{p q:Pl}(h:kOf [p.1,p.2]=kOf [q.1,q.2]):p=q:=by
 have:=Mq h;injection this with a b
 injection b with b _
 exact A1d a b
theorem PK:∀{ps:List Pl}{p:Pl},p∈ps->Bu (kvP ps) (kOf [p.1,p.2])=some (.bl true)
 |q::ps,p,h=>by
  by_cases z:q=p
  ·subst z;exact BE (p:=(kOf [q.1,q.2],V.bl true)) rfl
  ·rw[show kvP (q::ps)=(kOf [q.1,q.2],V.bl true)::kvP ps from rfl,Bh (λe=>z (Sk e))];exact PK ((B8.mp h).resolve_left λe=>z e.symm)
theorem PJ:∀{ps:List Pl}{p:Pl},p∉ps->Bu (kvP ps) (kOf [p.1,p.2])=none
 |[],_,_=>rfl
 |q::ps,p,h=>by
  rw[show kvP (q::ps)=(kOf [q.1,q.2],V.bl true)::kvP ps from rfl,Bh (λe=>h (by rw[Sk e];exact C0))];exact PJ λz=>h (C1 _ z)
theorem LT{ps:List Pl}{p:Pl}(h:p∉ps):Dw (kvP ps) (kOf [p.1,p.2]) (.bl true)=kvP (ps++[p]):=by
 unfold Dw;rw[V8 (by rw[Ex,PJ h];exact C5)];unfold kvP;rw[C7];rfl
theorem Sj{ps:List Pl}{p:Pl}(h:p∈ps):Dw (kvP ps) (kOf [p.1,p.2]) (.bl true)=kvP ps:=by
 unfold Dw;rw[W2 (by rw[Ex,PK h];rfl)];unfold kvP;rw[Q0];refine List.map_congr_left λq _=>?_;show(if kOf [q.1,q.2]=kOf [p.1,p.2]then(kOf [q.1,q.2],V.bl true)else(kOf [q.1,q.2],V.bl true))=_;rw[ite_self]
theorem Mp(ps:List Pl):(kvP ps).length=ps.length:=B5 _
theorem kvP_del{ps:List Pl}(nd:ps.Nodup){p:Pl}{j:Nat}{u:V}(h:(kvP ps)[j]?=some (kOf [p.1,p.2],u)):(kvP ps).eraseIdx j=kvP (ps.eraseIdx j)/\∀z,z∈ps.eraseIdx j↔z∈ps/\z≠p:=by
 refine⟨(JO _ ps j).symm,λz=>?_⟩;unfold kvP at h;rw[B7]at h;obtain⟨q,hq,e⟩:=C9.mp h;have:q=p:=Sk (W8 (·.1) e);subst this;rw[List.mem_eraseIdx_iff_getElem?];constructor
 ·rintro⟨i,ne,hi⟩;refine⟨D2 hi,λe=>ne ?_⟩;subst e;obtain⟨l1,e1⟩:=B4.mp hi;obtain⟨l2,e2⟩:=B4.mp hq;exact(S8 nd).mp (e1.trans e2.symm)
 ·rintro⟨hz,ne⟩;obtain⟨i,hi⟩:=F4 hz;refine⟨i,λe=>ne ?_,hi⟩;subst e;rw[hq]at hi;exact(W3 hi).symm
structure Tg(ps ps':List Pl)(p:Pl):Prop where
 nd:ps'.Nodup
 len:ps'.length<=ps.length+1
 mem:∀x y,inP ps' x y=(inP ps x y).xor (decide ((x,y)=p))
theorem Vi{ps:List Pl}(nd:ps.Nodup){p:Pl}(h:p∉ps):Tg ps (ps++[p]) p:=by
 refine⟨O6.mpr ⟨nd,by simp,λx hx y hy e=>h (by rw[<-C3.mp hy,<-e];exact hx)⟩,by rw[C4];exact B6 _,λx y=>?_⟩;unfold inP;by_cases z:(x,y)=p
 ·rw[V9 z,z,V9 (D4.mpr (.inr (C3.mpr rfl))),W0 h];rfl
 ·rw[W0 z,R3];exact decide_eq_decide.mpr ⟨λq=>(D4.mp q).resolve_right λe=>z (C3.mp e),λq=>D4.mpr (.inl q)⟩
theorem tg_del{ps:List Pl}(nd:ps.Nodup){p:Pl}(h:p∈ps){j:Nat}(m:∀z,z∈ps.eraseIdx j↔z∈ps/\z≠p):Tg ps (ps.eraseIdx j) p:=by
 refine⟨nd.sublist (List.eraseIdx_sublist ..),C2 (List.length_eraseIdx_le ..) (R6 _),λx y=>?_⟩;unfold inP;by_cases z:(x,y)=p
 ·rw[V9 z,z,W0 (λq=>((m p).mp q).2 rfl),V9 h];rfl
 ·rw[W0 z,R3];exact decide_eq_decide.mpr ⟨λq=>((m _).mp q).1,λq=>(m _).mpr ⟨q,z⟩⟩
structure Cop(ps:List Pl)(dx dy:Int)(ps':List Pl):Prop where
 nd:ps'.Nodup
 len:ps'.length<=2*ps.length
 mem:∀x y,inP ps' x y=(inP ps (x-dx) (y-dy)).xor (inP ps (x+dx) (y+dy))
theorem Cop.nil(dx dy:Int):Cop [] dx dy []:=⟨by simp,B6 _,λx y=>rfl⟩
theorem Cop.two{ps p1 p2 p3:List Pl}{dx dy:Int}{q:Pl}(h:Cop ps dx dy p1)(nq:q∉ps)(t1:Tg p1 p2 (q.1+dx,q.2+dy))(t2:Tg p2 p3 (q.1-dx,q.2-dy)):Cop (ps++[q]) dx dy p3:=by
 refine⟨t2.nd,?_,λx y=>?_⟩
 ·have:=h.len;have:=t1.len;have:=t2.len;rw[C4,M4];lia
 ·rw[t2.mem,t1.mem,h.mem];have e:∀u v,inP (ps++[q]) u v=(inP ps u v).xor (decide ((u,v)=q)):=λu v=>by
   unfold inP;by_cases z:(u,v)=q
   ·rw[V9 z,z,V9 (D4.mpr (.inr (C3.mpr rfl))),W0 nq];rfl
   ·rw[W0 z,R3];exact decide_eq_decide.mpr ⟨λr=>(D4.mp r).resolve_right λe=>z (C3.mp e),λr=>D4.mpr (.inl r)⟩
  rw[e,e,show decide ((x,y)=(q.1+dx,q.2+dy))=decide ((x-dx,y-dy)=q)from decide_eq_decide.mpr ⟨λz=>by injection z with z1 z2;exact A1d (by show x-dx=q.1;lia) (by show y-dy=q.2;lia),λz=>by rw[<-z];exact A1d (by show x=x-dx+dx;lia) (by show y=y-dy+dy;lia)⟩,show decide ((x,y)=(q.1-dx,q.2-dy))=decide ((x+dx,y+dy)=q)from decide_eq_decide.mpr ⟨λz=>by injection z with z1 z2;exact A1d (by show x+dx=q.1;lia) (by show y+dy=q.2;lia),λz=>by rw[<-z];exact A1d (by show x=x+dx-dx;lia) (by show y=y+dy-dy;lia)⟩];generalize inP ps (x-dx) (y-dy)=a;generalize inP ps (x+dx) (y+dy)=b;generalize decide ((x-dx,y-dy)=q)=c;generalize decide ((x+dx,y+dy)=q)=d;cases a<;>cases b<;>cases c<;>cases d<;>rfl
def FrO(d:Addr)(H H':Hp):Prop:=∀b o,H b=some o->b≠d->H' b=some o
theorem FrO.fx{dd:Addr}{H H':Hp}{kvs:List (List Key×V)}(rd:Rd H dd (.dT kvs))(f:FrO dd H H'):Fx [dd] H H':=λb o e z=>by
 refine f b o e λy=>?_;subst y;have z:=z (C3.mpr rfl);rcases rd with rd|⟨oo,rd⟩<;>rw[e]at rd<;>cases rd<;>exact z
section
variable{P:Program}{w:World}{K:PySem.W.Frag}{mg:Str->Option Value}{base:Heap}{a:Ad}
inductive SpCop(vs:List V)(H:Hp)(Q:VK):Prop
 |mk (D:Addr) (ps:List Pl) (dx dy:Int) (_:vs=[.ref D,.int dx,.int dy]) (_:Rd H D (.dT (kvP ps))) (_:ps.Nodup) (_:ps.length<=100) (_:∀(o:Obj)(E:Addr)(ps':List Pl)(H':Hp),FrO D H H'->H' D=some (.frz o (.dT (kvP ps)))->H E=none->H' E=some (.dT (kvP ps'))->Cop ps dx dy ps'->Q (.ref E) H'):SpCop vs H Q
def VA:Sp:=λvs H Q _=>SpCop vs H Q
theorem ok_cop{f:Addr}{fd:FuncData}(F:Fun K "_law_copies" "_law_copies" Fy f fd)(T:Top K mg a):AK P w K mg base CX0 1 f fd FF VA:=by
 refine F.ok Cs (λvs H Q E h=>?_) (λcdv A outer s H vs Q E hr h=>?_)
 ·obtain⟨D,ps,dx,dy,rfl,_⟩:=h;rfl
 ·obtain⟨D,ps,dx,dy,rfl,rd,nd,l100,k⟩:=h;refine⟨_,(Ab (Aq (i:=3) Cs.nd rfl (Or.inl rfl) JD) (Ab (EH Y4 rfl (QL (pv 0)) (Lp rfl (Cg (BO (i:=4) Cs.nd rfl (Or.inl rfl)) (Cg (BO (i:=5) Cs.nd rfl (Or.inl rfl)) IB))) (Ag (EH Y4 rfl (CC (CY (Bo (Bq Bl (pv 4) (pv 1) (Bq Bl (pv 5) (pv 2) Ac)) (Bo (Bq BG (pv 4) (pv 1) (Bq BG (pv 5) (pv 2) Ac)) Ac)))) (BO (i:=6) Cs.nd rfl (Or.inl rfl)) (Ag (AQ (VL (pc_din (Ec hr) (pv 6) (pv 3))) (Ag (CB (pe_dpop (Ec hr) (pv 3) (pv 6) ⟨rfl,rfl,rfl,rfl⟩))) (Ag (Fe (Ec hr) (pv 3) (pv 6) Ot rfl))))))) (Ag (Aw (pv 3))))),?_⟩
  try dsimp only[cxK]
  have nD:∀{x:Addr},H x=none->x≠D:=λ{x} n z=>by
   rw[z]at n;rcases rd with y|⟨o,y⟩
   ·rw[y]at n;cases n
   ·rw[y]at n;cases n
  refine λE hE=>?_;have s1:=AJ (o:=.dT []) hE;have h1:upd H E (.dT []) E=some (.dT (kvP [])):=Af;generalize upd H E (.dT [])=H1 at s1 h1⊢;have rd1:Rd H1 D (.dT (kvP ps)):=by
   rcases rd with y|⟨o,y⟩
   ·exact .inl (s1 _ _ y)
   ·exact .inr ⟨o,s1 _ _ y⟩
  refine⟨_,rfl,D,kvP ps,rfl,rd1,λo H2 hD2 fr2=>?_⟩;have h2:=fr2 _ _ h1 (nD hE);have fr02:FrO D H H2:=λb u e n=>fr2 _ _ (s1 _ _ e) n;refine for_dT (kvs:=kvP ps) (λj σ H3=>∃(p1:List Pl)(u4 u5 u6:Option V),σ=[some (.ref D),some (.int dx),some (.int dy),some (.ref E),u4,u5,u6]/\(∀b u,H2 b=some u->b≠E->H3 b=some u)/\H3 E=some (.dT (kvP p1))/\Cop (ps.take j) dx dy p1) ⟨[],none,none,none,rfl,λb u e _=>e,h2,Cop.nil dx dy⟩ (λj σ H3 _ z=>by obtain⟨_,_,_,_,_,z,_⟩:=z;exact z _ _ hD2 (W4 (nD hE))) ?_ ?_
  ·rintro j kb kv v σ H3 ev hb ⟨p1,u4,u5,u6,rfl,k3,h3,cp⟩;obtain⟨q,eq,ee⟩:∃q,ps[j]?=some q/\(kOf [q.1,q.2],V.bl true)=(kv,v):=by
    unfold kvP at ev;rw[B7]at ev;obtain⟨c,ec,e⟩:=C9.mp ev;exact⟨c,ec,e⟩
   cases ee;have jl:j<ps.length:=(B4.mp eq).1;have hb':H3 kb=some (.tup [.int q.1,.int q.2]):=hb;refine⟨kb,_,rfl,SqT.of hb',rfl,_,_,rfl,_,_,rfl,rfl,?_⟩;refine⟨_,rfl,_,rfl,_,_,rfl,rfl,_,rfl,_,rfl,_,_,rfl,rfl,(by show 2<=sizeLine;decide),λt1 ht1=>?_⟩;have s4:=AJ (o:=.tup [.int (q.1+dx),.int (q.2+dy)]) ht1;have g1:upd H3 t1 (.tup [.int (q.1+dx),.int (q.2+dy)]) t1=some (.tup [.int (q.1+dx),.int (q.2+dy)]):=Af;generalize upd H3 t1 (.tup [.int (q.1+dx),.int (q.2+dy)])=H4 at s4 g1⊢;refine⟨_,rfl,_,rfl,_,_,rfl,rfl,_,rfl,_,rfl,_,_,rfl,rfl,(by show 2<=sizeLine;decide),λt2 ht2=>?_⟩;have s5:=AJ (o:=.tup [.int (q.1-dx),.int (q.2-dy)]) ht2;have g2:upd H4 t2 (.tup [.int (q.1-dx),.int (q.2-dy)]) t2=some (.tup [.int (q.1-dx),.int (q.2-dy)]):=Af;generalize upd H4 t2 (.tup [.int (q.1-dx),.int (q.2-dy)])=H5 at s5 g2⊢;refine⟨(by show 2<=sizeLine;decide),λL hL=>?_⟩;have s6:=AJ (o:=.lst [.ref t1,.ref t2]) hL;have gL:upd H5 L (.lst [.ref t1,.ref t2]) L=some (.lst [.ref t1,.ref t2]):=Af;generalize upd H5 L (.lst [.ref t1,.ref t2])=H6 at s6 gL⊢;have s36:=(s4.trans s5).trans s6;replace g1:=s6 _ _ (s5 _ _ g1);replace g2:=s6 _ _ g2;have hE6:=s36 _ _ h3;have nLE:L≠E:=W4 (Ar (s5 _ _ (s4 _ _ h3)) hL);have k6:∀b u,H2 b=some u->b≠E->H6 b=some u:=λb u e n=>s36 _ _ (k3 _ _ e n);clear s4 s5 s6 s36 ht1 ht2 hL h3 k3;refine⟨L,rfl,⟨_,SqL.of gL⟩,?_⟩;have step:∀{p1:List Pl}{H7:Hp}{tt:Addr}{z:Pl}{R:Hp->Prop},p1.Nodup->p1.length<=300->H7 E=some (.dT (kvP p1))->H7 tt=some (.tup [.int z.1,.int z.2])->(∀p2,Tg p1 p2 z->R (upd H7 E (.dT (kvP p2))))->∃o,EZ H7 E (.ref tt) o/\((o.isSome=true->∃b kvs kk v,V.ref tt=.ref b/\H7 b=some (.tup (kk.map kV))/\H7 E=some (.dT kvs)/\Bu kvs kk=some v/\∀j u,kvs[j]?=some (kk,u)->R (upd H7 E (.dT (kvs.eraseIdx j))))/\(o.isSome=false->∃H8,Jq H7 E (.ref tt) (.bl true) H8/\R H8)):=λ{p1 H7 tt z R} nd1 l1 e1 e2 kR=>by
    refine⟨_,EZ.t (k:=kOf [z.1,z.2]) e1 e2,λso=>?_,λno=>?_⟩
    ·have zi:z∈p1:=W5 λn=>by rw[PJ n]at so;cases so
     refine⟨tt,kvP p1,kOf [z.1,z.2],_,rfl,e2,e1,PK zi,λi u hi=>?_⟩;obtain⟨d1,d2⟩:=kvP_del nd1 hi;rw[d1];exact kR _ (tg_del nd1 zi d2)
    ·have zo:z∉p1:=λn=>by rw[PK n]at no;cases no
     refine⟨_,Jq.t (k:=kOf [z.1,z.2]) e1 e2 (FR (by rw[Mp];lia)),?_⟩;rw[LT zo];exact kR _ (Vi nd1 zo)
   have lj:(ps.take j).length<=100:=by rw[F9];lia
   have nq:q∉ps.take j:=λz=>by
    obtain⟨i,hi⟩:=F4 z;rw[List.getElem?_take]at hi;split at hi
    ·obtain⟨l1,e1⟩:=B4.mp hi;obtain⟨l2,e2⟩:=B4.mp eq;have:=(S8 nd).mp (e1.trans e2.symm);lia
    ·cases hi
   refine Ri (K:=K) (a:=L) (xs:=[.ref t1,.ref t2]) (λi σ H7=>∃(p2:List Pl)(u6:Option V),σ=[some (.ref D),some (.int dx),some (.int dy),some (.ref E),some (.int q.1),some (.int q.2),u6]/\(∀b u,H6 b=some u->b≠E->H7 b=some u)/\H7 E=some (.dT (kvP p2))/\((i=0/\p2=p1)\/(i=1/\Tg p1 p2 (q.1+dx,q.2+dy))\/(i=2/\Cop (ps.take (j+1)) dx dy p2))) ⟨p1,u6,rfl,λb u e _=>e,hE6,.inl ⟨rfl,rfl⟩⟩ (λi σ H7 _ z=>by obtain⟨_,_,_,z,_⟩:=z;exact SqL.of (z _ _ gL nLE)) ?_ ?_
   ·rintro i x σ H7 hx ⟨p2,u7,rfl,k7,h7,ca⟩;have lp:=cp.len;obtain⟨tt,z,ex,et,nd2,l2,kk⟩:∃(tt:Addr)(z:Pl),x=.ref tt/\H6 tt=some (.tup [.int z.1,.int z.2])/\p2.Nodup/\p2.length<=300/\∀p3,Tg p2 p3 z->((i+1=0/\p3=p1)\/(i+1=1/\Tg p1 p3 (q.1+dx,q.2+dy))\/(i+1=2/\Cop (ps.take (j+1)) dx dy p3)):=by
     rcases ca with ⟨rfl,rfl⟩|⟨rfl,tg⟩|⟨rfl,_⟩
     ·exact⟨t1,(q.1+dx,q.2+dy),(W3 hx).symm,g1,cp.nd,by lia,λp3 tg=>.inr (.inl ⟨rfl,tg⟩)⟩
     ·refine⟨t2,(q.1-dx,q.2-dy),(W3 hx).symm,g2,tg.nd,by have:=tg.len;lia,λp3 tg2=>.inr (.inr ⟨rfl,?_⟩)⟩;rw[F7,eq,N8];exact cp.two nq tg tg2
     ·cases hx
    subst ex;have et7:=k7 _ _ et (Ay et hE6 A2);obtain⟨o',dg,y1,y2⟩:=step (R:=λH8=>∃(p2:List Pl)(u6:Option V),[some (V.ref D),some (.int dx),some (.int dy),some (.ref E),some (.int q.1),some (.int q.2),some (.ref tt)]=[some (.ref D),some (.int dx),some (.int dy),some (.ref E),some (.int q.1),some (.int q.2),u6]/\(∀b u,H6 b=some u->b≠E->H8 b=some u)/\H8 E=some (.dT (kvP p2))/\((i+1=0/\p2=p1)\/(i+1=1/\Tg p1 p2 (q.1+dx,q.2+dy))\/(i+1=2/\Cop (ps.take (j+1)) dx dy p2))) nd2 l2 h7 et7 λp3 tg=>⟨p3,_,rfl,λb u e n=>by rw[Ao n];exact k7 _ _ e n,Af,kk p3 tg⟩
    refine⟨_,rfl,_,rfl,E,o',rfl,dg,_,rfl,LY (λso=>?_) (λno=>?_)⟩
    ·obtain⟨b,kvs,kk',v,r1,r2,r3,r4,r5⟩:=y1 so;exact⟨_,rfl,E,rfl,.inr ⟨_,.inl h7⟩,_,rfl,b,kvs,kk',v,r1,r2,r3,r4,r5⟩
    ·obtain⟨H8,dp,r⟩:=y2 (R8.mpr no);exact⟨_,rfl,_,rfl,E,H8,rfl,dp,r⟩
   ·rintro σ H7 ⟨p2,u7,rfl,k7,h7,ca⟩;rcases ca with ⟨z,_⟩|⟨z,_⟩|⟨_,ca⟩
    ·cases z
    ·cases z
    ·exact⟨p2,_,_,_,rfl,λb u e n=>k7 _ _ (k6 _ _ e n) n,h7,ca⟩
  ·rintro σ H3 ⟨p1,u4,u5,u6,rfl,k3,h3,cp⟩;rw[Mp,J0]at cp;refine⟨_,rfl,k o E p1 H3 (λb u e n=>k3 _ _ (fr02 _ _ e n) (Ar e hE)) (k3 _ _ hD2 (W4 (nD hE))) hE h3 cp⟩
end
def stC:List Cl->Int->Int->Nat
 |[],_,_=>0
 |c::cs,x,y=>if x=c.x/\y=c.y then c.s else stC cs x y
theorem UP{G r0:Gv}(e0:G=G0++r0)(ok:GOk G){cs:List Cl}{n f:Nat}(h:Qf G cs n f):(∀c∈cs,c.s<8)->Iz G n f/\∀x y,fieldF G n f x y=stC cs x y:=by
 induction h with
 |nil =>
  intro _;refine⟨.inl rfl,λx y=>?_⟩;unfold fieldF;split
  ·rename_i z;exact FV e0 ok A3 (GO z.1 z.2.1) (GO z.2.2.1 z.2.2.2)
  ·rfl
 |@cons cs c n f r k w i m h l p l' ih =>
  intro hs;obtain⟨t,e⟩:=ih λc hc=>hs c (C1 _ hc);obtain⟨m',_,lm,tm,em⟩:=QK e0 ok (hs c (C0 ..)) p;have:m'=m:=by
   have:=W6 (lm.uniq l');lia
  subst this;refine⟨tm,λx y=>?_⟩;rw[em x y,e x y];rfl
def clP(s:Nat)(p:Pl):Cl:=⟨p.1,p.2,s⟩
theorem stC_P(s:Nat)(ps:List Pl)(x y:Int):stC (ps.map (clP s)) x y=vsF s (inP ps) x y:=by
 unfold vsF inP;induction ps with
 |nil=>rfl
 |cons p ps ih =>
  show(if x=p.1/\y=p.2 then s else stC (ps.map (clP s)) x y)=_;by_cases z:x=p.1/\y=p.2
  ·rw[W2 z,W2 (V9 (by rw[z.1,z.2];exact C0))]
  ·rw[V8 z,ih];have e:decide ((x,y)∈p::ps)=decide ((x,y)∈ps):=decide_eq_decide.mpr ⟨λq=>(B8.mp q).resolve_left λe=>z ⟨W8 (·.1) e,W8 (·.2) e⟩,λq=>C1 _ q⟩;rw[e]
theorem inP_rev(ps:List Pl):inP ps.reverse=inP ps:=by
 funext x y
 exact decide_eq_decide.mpr List.mem_reverse
def InG(ps:List Pl):Prop:=∀p∈ps,FZ p.1 p.2 1 1 (2^40)
section
variable{P:Program}{w:World}{K:PySem.W.Frag}{mg:Str->Option Value}{base:Heap}{a:Ad}
inductive SpNb(a:Ad)(vs:List V)(H:Hp)(Q:VK):Prop
 |mk (g:GA) (G:Gv) (D:Addr) (ps:List Pl) (s:Nat) (_:vs=[.ref g.p,.ref D,.int (s:Int)]) (_:Bc a H g G) (_:Rd H D (.dT (kvP ps))) (_:InG ps) (_:s<8) (_:ps.length<=100) (_:G.length<7900000) (_:∀x∈FS g,x≠D) (_:∀(o:Obj)(r:Nat)(G':Gv)(H1 H':Hp),FrO D H H1->H1 D=some (.frz o (.dT (kvP ps)))->Bc a H1 g G->Fr g H1 H'->Bc a H' g G'->AG G G' 40000->Fv G' r (vsF s (inP ps))->Q (.int r) H'):SpNb a vs H Q
def spNb(a:Ad):Sp:=λvs H Q _=>SpNb a vs H Q
theorem ok_nb{f:Addr}{fd:FuncData}(F:Fun K "_law_number" "_law_number" DT f fd)(T:Top K mg a)(bY:Cal P w K mg base CX0 56 "field_of" Ji (Vy a)):AK P w K mg base CX0 57 f fd FE (spNb a):=by
 refine F.ok MO (λvs H Q E h=>?_) (λcdv A outer s H vs Q E hr h=>?_)
 ·obtain⟨g,G,D,ps,s,rfl,_⟩:=h;rfl
 ·obtain⟨g,G,D,ps,s,rfl,fu,rd,ing,s8,l100,few,nD,k⟩:=h;refine⟨_,(Ag (Aw (Au bY (rm hr) rfl An (Aa (pv 0) (Aa (Co rfl (BD.of (So:=Ah DT) (No:=IS) (N:=["_law_place_here","_law_state"]) (k:=1) (cs:=[2]) rfl rfl A1) (QL (pv 1)) (λ_ _ _=>(Bk (i:=0) A1 rfl rfl)) (λ_ _ _=>BL) (λ_ _ _=>(Ih (Aa (Aj (Fn (K:=K) rfl) (pv 0) Ae (λ_ _=>rfl)) (Aa (Aj (Fn (K:=K) rfl) (pv 0) Ae (λ_ _=>rfl)) (Aa (pv 1) Ac)))))) Ac))))),?_⟩
  try dsimp only[cxK]
  have fx0:∀{H1:Hp},FrO D H H1->Bc a H1 g G:=λf=>fu.fx (f.fx rd) λx hx z=>nD x hx (C3.mp z);refine⟨_,rfl,_,rfl,D,kvP ps,rfl,rd,λo H1 hD1 fr1=>?_⟩;have fu1:=fx0 fr1;refine blk_dT (kvs:=kvP ps) (λi acc H3=>∃ts:List Addr,acc=ts.map V.ref/\AA H1 H3/\Paired (ClAt H3) ts ((ps.take i).map (clP s))) ⟨[],rfl,λb o e=>e,.nil⟩ (λi acc H3 _ z=>by obtain⟨_,_,z,_⟩:=z;exact z _ _ hD1) ?_ ?_
  ·rintro i kb kv v acc H3 ev hb ⟨ts,rfl,sm,pr⟩;obtain⟨q,eq,ee⟩:∃q,ps[i]?=some q/\(kOf [q.1,q.2],V.bl true)=(kv,v):=by
    unfold kvP at ev;rw[B7]at ev;obtain⟨c,ec,e⟩:=C9.mp ev;exact⟨c,ec,e⟩
   cases ee;have il:i<ps.length:=(B4.mp eq).1;have hb':H3 kb=some (.tup [.int q.1,.int q.2]):=hb;have lt:=W9 pr;rw[B5,F9]at lt;refine⟨⟨[some (.ref kb)],rfl,rfl⟩,by rw[B5];exact FR A0,GT ⟨_,rfl,kb,_,0,.int q.1,rfl,rfl,SqT.of hb',Al (j:=0) rfl,_,rfl,kb,_,1,.int q.2,rfl,rfl,SqT.of hb',Al (j:=1) rfl,_,rfl,(by show 3<=sizeLine;decide),λt ht=>?_⟩⟩;have s4:=AJ (o:=.tup [.int q.1,.int q.2,.int (s:Int)]) ht;refine⟨ts++[t],by rw[C7];rfl,sm.trans s4,?_⟩;rw[F7,eq,N8,C7];exact K6 (PairedM.imp (λb c z=>s4 _ _ z) pr) (show ClAt _ t (clP s q)from Af)
  ·rintro acc H3 ⟨ts,rfl,sm,pr⟩ L hL;rw[Mp,J0]at pr;have s4:=AJ (o:=.lst (ts.map V.ref)) hL;have h4:upd H3 L (.lst (ts.map V.ref)) L=some (.lst (ts.map V.ref)):=Af;have ap:Ap g L:=Ap.new (fu1.same sm).at' hL;generalize upd H3 L (.lst (ts.map V.ref))=H4 at s4 h4⊢;have fu4:=fu1.same (sm.trans s4);refine⟨g,G,L,ts,ps.map (clP s),rfl,fu4,h4,ap.1,ap.2.1,PairedM.imp (λb c z=>s4 _ _ z) pr,λc hc=>?_,by rw[B5];lia,λf1 n1 G5 H5 fr5 fu5 go5 n40 lf5 fl5=>?_⟩
   ·obtain⟨p,hp,rfl⟩:=D1.mp hc;exact⟨ing p hp,s8⟩
   ·obtain⟨r5,e5⟩:=fu5.g0;rw[<-List.map_reverse]at fl5;obtain⟨tr5,ef5⟩:=UP e5 fu5.ok fl5 (λc hc=>by obtain⟨p,_,rfl⟩:=D1.mp hc;exact s8);refine k o f1 G5 H1 H5 fr1 hD1 fu1 (λb o e n1 n2 n3=>fr5 b o ((sm.trans s4) _ _ e) n1 n2 n3) fu5 (go5.mono (by rw[B5];lia)) ⟨n1,n40,lf5,tr5,λu v=>?_⟩;rw[ef5,stC_P,inP_rev]
inductive Yp(vs:List V)(H:Hp)(Q:VK):Prop
 |mk (c k:Int) (_:vs=[.int c,.int k]) (_:0<=k) (_:k<=1000) (_:∀v:Int,Q (.int v) H):Yp vs H Q
def OY:Sp:=λvs H Q _=>Yp vs H Q
theorem ok_lmix{f:Addr}{fd:FuncData}(F:Fun K "_law_mix" "_law_mix" Jf f fd)(T:Top K mg a):AK P w K mg base CX0 1 f fd GE OY:=by
 refine F.ok Ib (λvs H Q E h=>?_) (λcdv A outer s H vs Q E hr h=>?_)
 ·obtain⟨c,k,rfl,_⟩:=h;rfl
 ·obtain⟨c,k,rfl,k0,k1,q⟩:=h;refine⟨_,(Ab (Aq (i:=2) Ib.nd rfl (Or.inl rfl) (AF Bl (AF Bl (AF Cd (pv 0) Ae) (AF ET Ae (pv 1))) Ae)) (Ab (Aq (i:=2) Ib.nd rfl (Or.inl rfl) (AF Cd (AF ET (pv 2) (AF Bl Ae (AF ET Ae (pv 1)))) Ae)) (Ag (Aw (AF Cd (AF ET (AF Bl (AF JK (pv 2) Ae) (AF ET (pv 2) Ae)) Ae) Ae))))),?_⟩
  try dsimp only[cxK]
  refine xwb rfl rfl rfl ⟨B2,(xwb rfl rfl rfl ⟨.inl ⟨by decide,by decide⟩,(xq2 rfl rfl (xq2 rfl rfl ?_))⟩)⟩;refine xw2 rfl rfl (xq2 rfl rfl ⟨.inl ⟨by decide,by decide⟩,(xq2 rfl rfl (xq2 rfl rfl ⟨.inr ⟨by lia,by lia⟩,(xq2 rfl rfl ⟨B2,?_⟩)⟩))⟩);exact xwb rfl rfl rfl ⟨⟨by decide,by decide⟩,(xwb rfl rfl rfl ⟨.inr ⟨by decide,by decide⟩,(xq2 rfl rfl (xq2 rfl rfl ⟨.inr ⟨by decide,by decide⟩,(xq2 rfl rfl ⟨B2,q _⟩)⟩))⟩)⟩
inductive Yl(vs:List V)(H:Hp)(Q:VK):Prop
 |mk (c k:Int) (_:vs=[.int c,.int k,.int 38]) (_:0<=k) (_:k<=1000) (_:∀p:Int,-(2^38)<=p->p<2^38->Q (.int p) H):Yl vs H Q
def RH:Sp:=λvs H Q _=>Yl vs H Q
theorem ok_pl38{f:Addr}{fd:FuncData}(F:Fun K "_law_place" "_law_place" Gn f fd)(T:Top K mg a)(b8:Cal P w K mg base CX0 1 "_law_mix" GE OY):AK P w K mg base CX0 2 f fd GD RH:=by
 refine F.ok NT (λvs H Q E h=>?_) (λcdv A outer s H vs Q E hr h=>?_)
 ·obtain⟨c,k,rfl,_⟩:=h;rfl
 ·obtain⟨c,k,rfl,k0,k1,q⟩:=h;refine⟨_,(Ag (Aw (AF BG (AF Cd (Au b8 (rm hr) rfl An (Aa (pv 0) (Aa (pv 1) Ac))) (AF Db Ae (pv 2))) (AF Db Ae (pv 2))))),?_⟩
  try dsimp only[cxK]
  refine xw2 rfl rfl ⟨c,k,rfl,k0,k1,λv=>?_⟩;refine xwb rfl rfl rfl ⟨⟨by decide,by decide,by decide⟩,(xq2 rfl rfl ⟨(by show(0:Int)<2*2^38;decide),(xwb rfl rfl rfl ⟨⟨by decide,by decide,by decide⟩,(xq2 rfl rfl ?_)⟩)⟩)⟩;have m1:=P5 v (show(2*2^38:Int)≠0 by decide);have m2:=M5 v (show(0:Int)<2*2^38 by decide);exact q _ (by show -(2^38)<=v%(2*2^38)-1*2^38;lia) (by show v%(2*2^38)-1*2^38<2^38;lia)
structure Dp(ps:List Pl)(n:Nat)(X Y:Int):Prop where
 nd:ps.Nodup
 len:ps.length<=n
 ib:∀p∈ps,X<=p.1/\p.1<X+4/\Y<=p.2/\p.2<Y+3
inductive SpPb(K:PySem.W.Frag)(vs:List V)(H:Hp)(Q:VK):Prop
 |mk (l:Addr) (ns:List Int) (_:vs=[.ref l]) (_:SqL K H l (ns.map V.int)) (_:∀(D:Addr)(ps:List Pl)(X Y:Int)(H':Hp),AA H H'->H D=none->H' D=some (.dT (kvP ps))->Dp ps 6 X Y->-(2^38)<=X->X<2^38->-(2^38)<=Y->Y<2^38->Q (.ref D) H'):SpPb K vs H Q
def spPb(K:PySem.W.Frag):Sp:=λvs H Q _=>SpPb K vs H Q
theorem ok_pb{f:Addr}{fd:FuncData}(F:Fun K "_law_places_by" "_law_places_by" DC f fd)(T:Top K mg a)(aE:Cal P w K mg base CX0 1 "_law_at" IG (spAt K))(b8:Cal P w K mg base CX0 1 "_law_mix" GE OY)(bA:Cal P w K mg base CX0 2 "_law_place" GD RH):AK P w K mg base CX0 3 f fd DN (spPb K):=by
 refine F.ok AU (λvs H Q E h=>?_) (λcdv A outer s H vs Q E hr h=>?_)
 ·obtain⟨l,ns,rfl,_⟩:=h;rfl
 ·obtain⟨l,ns,rfl,hS,k⟩:=h;refine⟨_,(Ab (Aq (i:=1) AU.nd rfl (Or.inl rfl) (AF BG (AF Cd (Au aE (rm hr) rfl An (Aa (pv 0) (AX Ac))) Ae) Ae)) (Ab (Aq (i:=2) AU.nd rfl (Or.inl rfl) (AF BG (AF Cd (Au aE (rm hr) rfl An (Aa (pv 0) (AX Ac))) Ae) Ae)) (Ab (AQ (AD Ea (AF Cd (Au aE (rm hr) rfl An (Aa (pv 0) (AX Ac))) Ae) Ae (AI _)) (Ab (Aq (i:=1) AU.nd rfl (Or.inl rfl) (Au bA (rm hr) rfl An (Aa (Au aE (rm hr) rfl An (Aa (pv 0) (AX Ac))) (AX (AX Ac))))) (Ag (Aq (i:=2) AU.nd rfl (Or.inl rfl) (Au bA (rm hr) rfl An (Aa (Au aE (rm hr) rfl An (Aa (pv 0) (AX Ac))) (AX (AX Ac))))))) AE) (Ab (Aq (i:=3) AU.nd rfl (Or.inl rfl) JD) (Ab (EH Y4 rfl (Lo rfl T.b_range (Bq Cd (Au aE (rm hr) rfl An (Aa (pv 0) (AX Ac))) Ae Ac)) (BO (i:=4) AU.nd rfl (Or.inl rfl)) (Ab (Aq (i:=5) AU.nd rfl (Or.inl rfl) (Au b8 (rm hr) rfl An (Aa (Au aE (rm hr) rfl An (Aa (pv 0) (Bq Bl Ae (pv 4) Ac))) (Bq Bl Ae (pv 4) Ac)))) (Ag (Fe (Ec hr) (pv 3) (Ih (Bq Bl (pv 1) (AF Cd (pv 5) Ae) (Bq Bl (pv 2) (AF Cd (AF JK (pv 5) Ae) Ae) Ac))) Ot rfl)))) (Ag (Aw (pv 3)))))))),?_⟩
  try dsimp only[cxK]
  refine Br ?_;intro r1 s1 k1 hk1 E1;refine⟨_,rfl,l,ns,4,rfl,hS,by decide,_,_,rfl,rfl,(by show(0:Int)<9;decide),_,_,rfl,rfl,?_⟩;refine hk1 ?_;refine Br ?_;intro r2 s2 k2 hk2 E2;refine⟨_,rfl,l,ns,5,rfl,hS,by decide,_,_,rfl,rfl,(by show(0:Int)<9;decide),_,_,rfl,rfl,?_⟩;refine hk2 ?_;refine Br ?_;intro r3 s3 k3 hk3 E3;apply Tp (T:=k3) (fun σ' H5=>∃X Y:Int,σ'=[some (.ref l),some (.int X),some (.int Y),none,none,none]/\H5=H/\-(2^38)<=X/\X<2^38/\-(2^38)<=Y/\Y<2^38)
  ·intro rest;refine⟨_,rfl,l,ns,3,rfl,hS,by decide,_,_,rfl,rfl,(by show(0:Int)<4;decide),rfl,_,rfl,LY (λ_=>?_) (λ_=>rest _ _ ⟨_,_,rfl,rfl,?_⟩)⟩
   ·refine⟨_,rfl,l,ns,4,rfl,hS,by decide,_,11,rfl,by decide,by decide,λX x1 x2=>?_⟩;refine⟨_,rfl,l,ns,5,rfl,hS,by decide,_,12,rfl,by decide,by decide,λY y1 y2=>?_⟩;exact rest _ _ ⟨X,Y,rfl,rfl,x1,x2,y1,y2⟩
   ·show -(2^38)<=atN ns 4%9-6/\atN ns 4%9-6<2^38/\-(2^38)<=atN ns 5%9-6/\atN ns 5%9-6<2^38;lia
  ·rintro σ' H5 ⟨X,Y,rfl,rfl,x1,x2,y1,y2⟩;refine hk3 ?_;refine Br ?_;intro r4 s4 k4 hk4 E4;refine λD hD=>?_;refine hk4 ?_;have s1:=AJ (o:=.dT []) hD;have hD1:upd H5 D (.dT []) D=some (.dT (kvP [])):=Af;generalize upd H5 D (.dT [])=H1 at s1 hD1⊢;obtain⟨m,hm⟩:=F6 (P5 (atN ns 6) (by decide:(7:Int)≠0));have m6:m<=6:=by have:=M5 (atN ns 6) (by decide:(0:Int)<7);lia
   refine⟨_,rfl,l,ns,6,rfl,s1.seq hS,by decide,_,_,rfl,rfl,(by show(0:Int)<7;decide),(m:Int),W8 (λz=>[V.int z]) hm,by lia,by lia,?_⟩;rw[J1];refine LE (n:=m) (λj σ H3=>∃(ps:List Pl)(u4 u5:Option V),σ=[some (.ref l),some (.int X),some (.int Y),some (.ref D),u4,u5]/\AA H5 H3/\H3 D=some (.dT (kvP ps))/\Dp ps j X Y) ⟨[],none,none,rfl,s1,hD1,by simp,B6 _,λp hp=>nomatch hp⟩ ?_ ?_
   ·rintro j σ H3 hj ⟨ps,u4,u5,rfl,sm,hD3,dp⟩;refine⟨_,rfl,_,rfl,_,_,rfl,rfl,l,ns,_,rfl,sm.seq hS,by show 0<=7+(0+(j:Int));lia,_,rfl,_,_,rfl,rfl,_,_,rfl,by show 0<=21+(0+(j:Int));lia,by show 21+(0+(j:Int))<=1000;lia,λv=>?_⟩;refine⟨_,rfl,_,rfl,_,rfl,_,_,rfl,rfl,(by show(0:Int)<4;decide),_,_,rfl,rfl,_,rfl,_,rfl,_,_,rfl,rfl,⟨by decide,by decide⟩,_,_,rfl,rfl,(by show(0:Int)<3;decide),_,_,rfl,rfl,(by show 2<=sizeLine;decide),λt ht=>?_⟩;have s6:=AJ (o:=.tup [.int (X+v%4),.int (Y+v/4%3)]) ht;have h6:upd H3 t (.tup [.int (X+v%4),.int (Y+v/4%3)]) t=some (.tup [.int (X+v%4),.int (Y+v/4%3)]):=Af;have hD6:=s6 _ _ hD3;have dl:=dp.len;generalize upd H3 t (.tup [.int (X+v%4),.int (Y+v/4%3)])=H6 at s6 h6 hD6⊢;refine⟨D,_,rfl,Jq.t (k:=kOf [X+v%4,Y+v/4%3]) hD6 h6 (FR (by rw[Mp];lia)),?_⟩;have sH:∀{o:HO},AA H5 (upd H6 D o):=λ{o} b u e=>by
     rw[Ao (Ar e hD)];exact s6 _ _ (sm _ _ e)
    by_cases z:(X+v%4,Y+v/4%3)∈ps
    ·refine⟨ps,_,_,rfl,sH,by rw[Af,Sj (p:=(X+v%4,Y+v/4%3)) z],dp.nd,by lia,dp.ib⟩
    ·refine⟨ps++[(X+v%4,Y+v/4%3)],_,_,rfl,sH,by rw[Af,LT (p:=(X+v%4,Y+v/4%3)) z],(Vi dp.nd z).nd,by rw[C4,M4];lia,λp hp=>?_⟩;rcases D4.mp hp with hp|hp
     ·exact dp.ib p hp
     ·rw[C3.mp hp];dsimp only;lia
   ·rintro σ H3 ⟨ps,u4,u5,rfl,sm,hD3,dp⟩;exact⟨_,rfl,k D ps X Y H3 sm hD hD3 ⟨dp.nd,C2 dp.len m6,dp.ib⟩ x1 x2 y1 y2⟩
end
end J
namespace J
open PySem L2
def DD(H:Hp)(g:GA)(m:MA)(D:Addr)(ps:List Pl):Prop:=Rd H D (.dT (kvP ps))/\∀x∈[g.br,m.l]++zL g m,x≠D
theorem VG{l:List Addr}{H H':Hp}{D:Addr}{u:HO}(h:Rd H D u)(f:Fx l H H')(n:D∉l):Rd H' D u:=by
 rcases h with h|⟨o,h⟩
 ·exact .inl (f.get n h)
 ·exact .inr ⟨o,f.get n h⟩
section
variable{a:Ad}{H H':Hp}{g:GA}{G G':Gv}{Κ:KTy}{N b i:Nat}{p dx mem pr:Addr}{r:AC}{m:MA}{D E:Addr}{ps qs:List Pl}
theorem DD.fz(h:DD H g m D ps)(zs:ZS a H g G Κ N b p dx mem pr r m)(f:FrZ g m H H'):DD H' g m D ps:=⟨VG h.1 (f.fx zs) λz=>h.2 D (D4.mpr (.inr z)) rfl,h.2⟩
theorem DD.fr(h:DD H g m D ps)(zs:ZS a H g G Κ N b p dx mem pr r m)(f:Fr g H H'):DD H' g m D ps:=⟨VG h.1 (f.fx zs.fu.at') λz=>h.2 D (D4.mpr (.inr (by simp only[B8,D0,Y5]at z;rcases z with z|z|z<;>simp[zL,z]))) rfl,h.2⟩
theorem ZS.fo(zs:ZS a H g G Κ N b p dx mem pr r m)(h:DD H g m D ps)(f:FrO D H H'):ZS a H' g G Κ N b p dx mem pr r m:=zs.fx (f.fx h.1) λx hx z=>h.2 x hx (C3.mp z)
theorem DD.new(zs:ZS a H g G Κ N b p dx mem pr r m)(n:H E=none)(e:H' E=some (.dT (kvP qs))):DD H' g m E qs:=by
 obtain⟨n0,n1,n2,n3⟩:=zs.ap n;refine⟨.inl e,λx hx z=>?_⟩;subst z;rcases D4.mp hx with y|y
 ·rcases B8.mp y with y|y
  ·exact n2 y
  ·exact n3 (C3.mp y)
 ·unfold zL at y;rcases D4.mp y with y|y
  ·exact n0 y
  ·exact n1 y
theorem DD.ga(h:DD H g m D ps):∀x∈FS g,x≠D:=λx hx=>h.2 x (by
 simp only[FS,B8,D0,Y5]at hx;rcases hx with z|z|z|z|z|z<;>simp[zL,z])
end
def Nr(ps:List Pl)(M:Int):Prop:=∀p∈ps,-M<=p.1/\p.1<=M/\-M<=p.2/\p.2<=M
theorem Nr.ing{ps:List Pl}{M:Int}(h:Nr ps M)(l:M<2^40):InG ps:=λp hp=>by
 have:=h p hp;unfold FZ;lia
theorem Cop.nr{ps ps':List Pl}{dx dy M c:Int}(h:Cop ps dx dy ps')(n:Nr ps M)(h1:-c<=dx/\dx<=c)(h2:-c<=dy/\dy<=c):Nr ps' (M+c):=λp hp=>by
 have e:=h.mem p.1 p.2;rw[show inP ps' p.1 p.2=true from V9 hp]at e;by_cases z:(p.1-dx,p.2-dy)∈ps
 ·have:=n _ z;dsimp only at this;lia
 ·rw[show inP ps (p.1-dx) (p.2-dy)=false from W0 z,R4]at e;have:=n _ (Y7 e.symm);dsimp only at this;lia
theorem Nr.near{ps:List Pl}{M:Int}(h:Nr ps M)(s k:Nat)(l:M+k<2^40):Oh (vsF s (inP ps)) k:=λx y z=>by
 have:(x,y)∈ps:=W5 λn=>z (by unfold vsF inP;rw[V8 (by rw[W0 n];exact C5)]);have:=h _ this;dsimp only at this;lia
theorem TB{ps ps':List Pl}{dx dy:Int}{e:Nat}(h:Cop ps (dx*(2^e:Nat)) (dy*(2^e:Nat)) ps'):inP ps'=GU dx dy (2^e:Nat) (inP ps):=by
 funext x y
 rw[h.mem,Bool.xor_comm];unfold GU;rw[T7 dx,T7 dy]
theorem Tw:∀{i e:Nat},i<4->e<=7->(-128<=dX i*(2^e:Nat)/\dX i*(2^e:Nat)<=128)/\-128<=dY i*(2^e:Nat)/\dY i*(2^e:Nat)<=128:=λ{i e} hi he=>(show ∀i:Nat,i<4->∀e:Nat,e<8->(-128<=dX i*(2^e:Nat)/\dX i*(2^e:Nat)<=128)/\-128<=dY i*(2^e:Nat)/\dY i*(2^e:Nat)<=128 by decide +kernel) i hi e A0
theorem bit1:∀e:Nat,e<8->∀j:Nat,j<8->2^e/2^j%2=1->2^e%2^j=0:=by decide +kernel
def bitB(e f j:Nat):Bool:=e==f || (2^e+2^f)/2^j%2==0 || (2^e+2^f)%2^j==0 || (2^e+2^f)%2^j==2^e || (2^e+2^f)%2^j==2^f
theorem bit2':∀e:Nat,e<8->∀f:Nat,f<8->∀j:Nat,j<8->bitB e f j=true:=by decide +kernel
theorem bit2{e f j:Nat}(he:e<8)(hf:f<8)(hj:j<8)(ne:e≠f)(h:(2^e+2^f)/2^j%2=1):(2^e+2^f)%2^j=0\/(2^e+2^f)%2^j=2^e\/(2^e+2^f)%2^j=2^f:=by
 have:=bit2' e he f hf j hj;unfold bitB at this;simp only[Bool.or_eq_true,beq_iff_eq]at this;rcases this with (((z|z)|z)|z)|z
 ·exact absurd z ne
 ·rw[h]at z;cases z
 ·exact .inl z
 ·exact .inr (.inl z)
 ·exact .inr (.inr z)
theorem Sy{k j:Nat}(h:k<256)(b:k/2^j%2=1):j<=7:=Nat.le_of_lt_succ (S6 λz=>by
 have:k/2^j=0:=L6 (D5 h (L5 (show 0<2 by decide) z));rw[this]at b;cases b)
theorem Uk:∀e:Nat,e<8->2^e<=128:=by decide +kernel
section
variable{r:AC}{s:Nat}{dx dy:Int}{b:Bf}{e f:Nat}
theorem ask_1(e7:e<=7):SE (Kx s dx dy b [none,some e,some f]) r (vsF s b) (2^e):=PF λj hj=>by
 have p:=Uk e A0;have j7:=Sy A0 hj;exact⟨j7,none,by simp,by rw[bit1 e A0 j A0 hj];rfl⟩
theorem ask_0:SE (Kx s dx dy b [none,some e,some f]) r (vsF s b) 0:=PF λj hj=>by
 rw[Nat.zero_div]at hj;cases hj
theorem ask_2(xr:Xr r s dx dy)(e7:e<=7)(f7:f<=7)(ne:e≠f):SE (Kx s dx dy b [none,some e,some f]) r (vsF s b) (2^e+2^f):=PF λj hj=>by
 have p:=Uk e A0;have q:=Uk f A0;have j7:j<=7:=by
  by_cases z:2^e+2^f<256
  ·exact Sy z hj
  ·have:e=7/\f=7:=by
    have le:∀e:Nat,e<8->e≠7->2^e<=64:=by decide +kernel
    refine W5 λn=>z ?_;by_cases y:e=7
    ·have:=le f A0 A0;lia
    ·have:=le e A0 y;lia
   lia
 refine⟨j7,?_⟩;rcases bit2 A0 A0 A0 ne hj with z|z|z<;>rw[z]
 ·exact⟨none,by simp,rfl⟩
 ·exact⟨some e,by simp,Ew xr e b⟩
 ·exact⟨some f,by simp,Ew xr f b⟩
theorem ask_3(xr:Xr r s dx dy)(f7:f<=7):SE (Kx s dx dy b [none,some e,some f]) r (sFN r (2^e) (vsF s b)) (2^f):=PF λj hj=>by
 have p:=Uk f A0;have j7:=Sy A0 hj;exact⟨j7,some e,by simp,by rw[bit1 f A0 j A0 hj];exact Ew xr e b⟩
end
seal L2.PA L2.PE L2.PS L2.PSs L2.PT L2.PW
section
variable{P:Program}{w:World}{K:PySem.W.Frag}{mg:Str->Option Value}{base:Heap}{a:Ad}
theorem at4:∀i:Nat,i<4->atI [V.int (-1),.int 0,.int 1,.int (-1)] (i:Int)=some (.int (dX i))/\atI [V.int (-1),.int (-1),.int (-1),.int 0] (i:Int)=some (.int (dY i))
 |0,_=>⟨rfl,rfl⟩
 |1,_=>⟨rfl,rfl⟩
 |2,_=>⟨rfl,rfl⟩
 |3,_=>⟨rfl,rfl⟩
theorem ok_law{f:Addr}{fd:FuncData}(F:Fun K "law" "law" VE f fd)(T:Top K mg a)(cM:Qg P w K mg base CX0 2 "Grove" a.c_Grove GH (Pc a))(aE:Cal P w K mg base CX0 1 "_law_at" IG (spAt K))(bS:Cal P w K mg base CX0 1 "_law_whole" GC spWh)(b7:Cal P w K mg base CX0 3 "_law_places_by" DN (spPb K))(bJ:Cal P w K mg base CX0 1 "_law_rule_by" EO Vq)(bU:Cal P w K mg base CX0 8 "read_rule" Ij (spRR a))(aU:Cal P w K mg base CX0 57 "_law_number" FE (spNb a))(b9:Cal P w K mg base CX0 1 "_law_copies" FF VA)(cL:Qg P w K mg base CX0 3 "Jumps" a.c_Jumps GF (Pa a))(cC:Cal P w K mg base CX0 151 "jump" RQ (Vx a)):AK P w K mg base CX0 152 f fd p_law (SW K):=by
 refine F.ok CV (λvs H Q E h=>?_) (λcdv A outer s H vs Q E hr h=>?_)
 ·obtain⟨l,ns,rfl,_⟩:=h;rfl
 ·obtain⟨l,ns,rfl,hS,hlen,kq⟩:=h;refine⟨_,(Ab (Aq (i:=1) CV.nd rfl (Or.inl rfl) (AF Bl Ae (AF Cd (Au aE (rm hr) rfl An (Aa (pv 0) (AX Ac))) Ae))) (Ab (Aq (i:=2) CV.nd rfl (Or.inl rfl) (AF Cd (Au aE (rm hr) rfl An (Aa (pv 0) (AX Ac))) Ae)) (Ab (Aq (i:=3) CV.nd rfl (Or.inl rfl) (Aj Av (CY (Aa (Fj Di Ae) (AX (AX (Aa (Fj Di Ae) Ac))))) (pv 2) (λ_ _=>rfl))) (Ab (Aq (i:=4) CV.nd rfl (Or.inl rfl) (Aj Av (CY (Aa (Fj Di Ae) (Aa (Fj Di Ae) (Aa (Fj Di Ae) (AX Ac))))) (pv 2) (λ_ _=>rfl))) (Ab (Aq (i:=5) CV.nd rfl (Or.inl rfl) (AF Bl Ae (AF ET Ae (BB UY rfl T.b_int Z7 (Aa (DW Ea (AF Cd (Au aE (rm hr) rfl An (Aa (pv 0) (AX Ac))) Ae) Ae (AI _)) Ac))))) (Ab (Aq (i:=6) CV.nd rfl (Or.inl rfl) (AF Cd (AF JK (Au aE (rm hr) rfl An (Aa (pv 0) (AX Ac))) Ae) (pv 5))) (Ab (Aq (i:=7) CV.nd rfl (Or.inl rfl) (AF Cd (Au aE (rm hr) rfl An (Aa (pv 0) (AX Ac))) (pv 5))) (Ab (Aq (i:=8) CV.nd rfl (Or.inl rfl) (Au b7 (rm hr) rfl An (Aa (pv 0) Ac))) (Ab (Aq (i:=9) CV.nd rfl (Or.inl rfl) (VT cM (rm hr) rfl An)) (Ab (Aq (i:=10) CV.nd rfl (Or.inl rfl) (JG cL (rm hr) rfl An (Aa (pv 9) (Aa (Au bU (rm hr) rfl An (Aa (Au bJ (rm hr) rfl An (Aa (pv 1) (Aa (pv 2) Ac))) Ac)) Ac)))) (Ab (Aq (i:=11) CV.nd rfl (Or.inl rfl) (Au aU (rm hr) rfl An (Aa (pv 9) (Aa (pv 8) (Aa (pv 1) Ac))))) (Ab (Aq (i:=12) CV.nd rfl (Or.inl rfl) (Au b9 (rm hr) rfl An (Aa (pv 8) (Bq Db (pv 3) (pv 6) (Bq Db (pv 4) (pv 6) Ac))))) (Ab (Aq (i:=13) CV.nd rfl (Or.inl rfl) (Au cC (rm hr) rfl An (Aa (pv 10) (Aa (pv 11) (Bq Db Ae (pv 6) Ac))))) (Ab (AQ (PW.pt (MW (DH (DG (Au bS (rm hr) rfl An (Aa (pv 13) Ac)))) (MW (AD JI (pv 13) (Au aU (rm hr) rfl An (Aa (pv 9) (Aa (pv 12) (Aa (pv 1) Ac)))) (AI _)) (Ll (AD JI (Au cC (rm hr) rfl An (Aa (pv 10) (Aa (pv 11) (AX Ac)))) (pv 11) (AI _)))))) (Ag (Aw Ot)) AE) (Ab (AQ (AD Ea (pv 6) (pv 7) (AI _)) (Ag (Aw Ot)) AE) (Ab (Aq (i:=14) CV.nd rfl (Or.inl rfl) (Au aU (rm hr) rfl An (Aa (pv 9) (Aa (Au b9 (rm hr) rfl An (Aa (pv 12) (Bq Db (pv 3) (pv 7) (Bq Db (pv 4) (pv 7) Ac)))) (Aa (pv 1) Ac))))) (Ag (Aw (Ii (DW Ea (Au cC (rm hr) rfl An (Aa (pv 10) (Aa (pv 11) (Bq Bl (AF Db Ae (pv 6)) (AF Db Ae (pv 7)) Ac)))) (pv 14) (AI _)) (Jh (DW Ea (Au cC (rm hr) rfl An (Aa (pv 10) (Aa (pv 13) (Bq Db Ae (pv 7) Ac)))) (pv 14) (AI _)))))))))))))))))))))),?_⟩
  try dsimp only[cxK]
  refine Br ?_;intro r1 s1 k1 hk1 E1;obtain⟨s,hs⟩:=F6 (show 0<=1+atN ns 0%7 by lia);have s1':1<=s:=by lia
  have s7:s<=7:=by lia
  refine⟨_,rfl,l,ns,0,rfl,hS,by decide,_,_,rfl,rfl,(by show(0:Int)<7;decide),_,_,rfl,rfl,?_⟩;rw[show(λi j:Int=>V.int (i+j)) 1 (atN ns 0%7)=V.int (s:Int)from W8 V.int hs];clear hs;refine hk1 ?_;refine Br ?_;intro r2 s2 k2 hk2 E2;obtain⟨i,hi⟩:=F6 (P5 (atN ns 1) (by decide:(4:Int)≠0));have i4:i<4:=by have:=M5 (atN ns 1) (by decide:(0:Int)<4);lia
  refine⟨_,rfl,l,ns,1,rfl,hS,by decide,_,_,rfl,rfl,(by show(0:Int)<4;decide),?_⟩;rw[show(λi j:Int=>V.int (i%j)) (atN ns 1) 4=V.int (i:Int)from W8 V.int hi];clear hi;refine hk2 ?_;refine Br ?_;intro r3 s3 k3 hk3 E3;refine⟨_,rfl,_,rfl,(by show 4<=sizeLine;decide),λL3 n3=>⟨_,rfl,L3,_,_,_,rfl,rfl,SqL.of Af,(at4 i i4).1,?_⟩⟩;refine hk3 ?_;have sm3:=AJ (o:=.lst [V.int (-1),.int 0,.int 1,.int (-1)]) n3;generalize upd H L3 (.lst [V.int (-1),.int 0,.int 1,.int (-1)])=H3 at sm3⊢;refine Br ?_;intro r4 s4 k4 hk4 E4;refine⟨_,rfl,_,rfl,_,rfl,(by show 4<=sizeLine;decide),λL4 n4=>⟨_,rfl,L4,_,_,_,rfl,rfl,SqL.of Af,(at4 i i4).2,?_⟩⟩;refine hk4 ?_;have sm4:=sm3.trans (AJ (o:=.lst [V.int (-1),.int (-1),.int (-1),.int 0]) n4);generalize upd H3 L4 (.lst [V.int (-1),.int (-1),.int (-1),.int 0])=H4 at sm4⊢;have hS4:=sm4.seq hS;clear sm3 n3 n4;refine Br ?_;intro r5 s5 k5 hk5 E5;refine⟨_,rfl,l,ns,2,rfl,hS4,by decide,_,_,rfl,rfl,(by show(0:Int)<6;decide),rfl,.inr ⟨_,rfl,_,_,rfl,rfl,.inl ⟨by decide,by decide⟩,_,_,rfl,rfl,?_⟩⟩;obtain⟨mo,hmo,mo8⟩:∃mo:Nat,(4:Int)+4*(if decide (V.int (atN ns 2%6)=V.int 5)=true then 1 else 0)=(mo:Int)/\(mo=4\/mo=8):=by
   by_cases z:decide (V.int (atN ns 2%6)=V.int 5)=true
   ·exact⟨8,by rw[W2 z];rfl,.inr rfl⟩
   ·exact⟨4,by rw[V8 z];rfl,.inl rfl⟩
  rw[show(λi j:Int=>V.int (i+j)) 4 (4*(if decide (V.int (atN ns 2%6)=V.int 5)=true then 1 else 0))=V.int (mo:Int)from W8 V.int hmo];clear hmo;have mo0:(0:Int)<(mo:Int):=by lia
  refine hk5 ?_;refine Br ?_;intro r6 s6 k6 hk6 E6;obtain⟨e,he⟩:=F6 (P5 (atN ns 2/6) (Int.ne_of_gt mo0));have e7:e<=7:=by have:=M5 (atN ns 2/6) mo0;lia
  refine⟨_,rfl,l,ns,2,rfl,hS4,by decide,_,_,rfl,rfl,⟨by decide,by decide⟩,_,rfl,_,_,rfl,rfl,mo0,?_⟩;rw[show(λi j:Int=>V.int (i%j)) (atN ns 2/6) (mo:Int)=V.int (e:Int)from W8 V.int he];clear he;refine hk6 ?_;refine Br ?_;intro r7 s7_ k7 hk7 E7;obtain⟨f',hf⟩:=F6 (P5 (atN ns 13) (Int.ne_of_gt mo0));have f7:f'<=7:=by have:=M5 (atN ns 13) mo0;lia
  refine⟨_,rfl,l,ns,13,rfl,hS4,by decide,_,rfl,_,_,rfl,rfl,mo0,?_⟩;rw[show(λi j:Int=>V.int (i%j)) (atN ns 13) (mo:Int)=V.int (f':Int)from W8 V.int hf];clear hf;refine hk7 ?_;refine Br ?_;intro r8 s8 k8 hk8 E8;have es:s8=[some (.ref l),some (.int (s:Int)),some (.int (i:Int)),some (.int (dX i)),some (.int (dY i)),some (.int (mo:Int)),some (.int (e:Int)),some (.int (f':Int)),none,none,none,none,none,none,none]:=rfl
  clear_value s8
  subst es;refine⟨_,rfl,l,ns,rfl,hS4,λD ps X Y H8 sm8 nD hD8 dp x1 x2 y1 y2=>?_⟩;refine hk8 ?_;clear mo0 mo8 hS4 sm4 sm8 nD;refine Br ?_;intro r9 s9 k9 hk9 E9;refine λx dx' nx ndx nex=>⟨x,dx',rfl,Af,λg H9 gp' N=>⟨rfl,?_⟩⟩
  have sm9:AA H8 H9:=λb o e=>N.kp b o (by rw[Ao (Ar e nx),Ao (Ar e ndx)];exact e) (gp'▸Ar e nx);subst gp';have fu9:=Bc.new N;have ng:=N.none;clear N;refine hk9 ?_;refine Br ?_;intro r10 s10 k10 hk10 E10;generalize hb:inP ps=b;have dr:=dir59 i4;have xr:=r59_xr i4 s1';have rok:=r59_ok (i:=i) s7;have bz:=VJ i i4 s A0 s1';have fin:NM (Kx s (dX i) (dY i) b [none,some e,some f']) 600000:=kx_fin dr (X:=X) (Y:=Y) (λu v z=>by
   rw[<-hb]at z;have:=dp.ib _ (Y7 z);dsimp only at this;lia) (B6 3)
  have cl:=kx_cl rok bz xr b [none,some e,some f'];refine⟨_,rfl,_,rfl,_,rfl,s,i,rfl,s7,i4,λH10 sm10=>?_⟩;refine⟨r59 s i,rfl,rok,bz,λpr H11 sm11 hR=>?_⟩;refine λp dxp np ndp nep=>jnew (Κ:=Kx s (dX i) (dY i) b [none,some e,some f']) (N:=600000) (b:=1000) (fu9.same (sm10.trans sm11)) rok bz hR np ndp nep (by rw[PM];decide) λH12 mem m sm12 zs12 fr12 _ _ _=>⟨rfl,?_⟩
  have sm:=((sm9.trans sm10).trans sm11).trans sm12;have dd:DD H12 g m D ps:=by
   refine⟨.inl (sm _ _ hD8),λy hy z=>?_⟩;have hD11:=((sm9.trans sm10).trans sm11) _ _ hD8;subst z;rcases D4.mp hy with hy|hy
   ·rcases B8.mp hy with hy|hy
    ·rw[hy,ng _ (by simp[FS])]at hD8;cases hD8
    ·rw[C3.mp hy,fr12 _ A4]at hD11;cases hD11
   ·simp only[zL,List.cons_append,List.nil_append,B8]at hy;rcases hy with hy|hy|hy|hy|hy|hy|hy
    ·rw[hy,ng _ (by simp[FS])]at hD8;cases hD8
    ·rw[hy,ng _ (by simp[FS])]at hD8;cases hD8
    ·rw[hy,ng _ (by simp[FS])]at hD8;cases hD8
    ·rw[hy,ng _ (by simp[FS])]at hD8;cases hD8
    ·rw[hy,ng _ (by simp[FS])]at hD8;cases hD8
    ·rw[hy,fr12 _ A4]at hD11;cases hD11
    ·rw[fr12 _ (by simp[hy])]at hD11;cases hD11
  clear sm9 sm10 sm11 sm12 sm fr12 ng fu9 hR np ndp nep hD8 nx ndx nex;refine hk10 ?_;refine Br ?_;intro r11 s11 k11 hk11 E11;have es:s11=[some (.ref l),some (.int (s:Int)),some (.int (i:Int)),some (.int (dX i)),some (.int (dY i)),some (.int (mo:Int)),some (.int (e:Int)),some (.int (f':Int)),some (.ref D),some (.ref g.p),some (.ref p),none,none,none,none]:=rfl
  clear_value s11
  subst es;have nr0:Nr ps (2^38+4):=λp hp=>by have:=dp.ib p hp;lia
  refine⟨_,rfl,_,rfl,_,rfl,g,G0,D,ps,s,rfl,zs12.fu,dd.1,nr0.ing A3,by lia,C2 dp.len A3,by rw[PM];decide,dd.ga,λo r G13 H13 H14 fo13 hD13 fu13 fr14 fu14 go14 fv=>?_⟩;have zs14:=(zs12.fo dd fo13).fr fr14 fu14 go14;have dd14:DD H14 g m D ps:=DD.fr (D:=D) ⟨.inr ⟨o,hD13⟩,dd.2⟩ (zs12.fo dd fo13) fr14;clear dd zs12 fo13 hD13 fu13 fr14 fu14 go14;rw[hb]at fv;refine hk11 ?_;have pw:∀k:Nat,(2:Int)^((k:Int)).toNat=((2^k:Nat):Int):=λk=>by rw[J1,F3];rfl
  have p1:∀k:Nat,(λi j:Int=>V.int (i*2^j.toNat)) 1 (k:Int)=V.int ((2^k:Nat):Int):=λk=>W8 V.int (by rw[pw];lia);have ab:(dX i).natAbs<2^64/\(dY i).natAbs<2^64:=by
   have:=dr.x1;have:=dr.x2;have:=dr.y1;have:=dr.y2;lia
  have cp:∀{k:Nat},k<=7->CPow (dX i) (k:Int)/\CPow (dY i) (k:Int)/\CPow 1 (k:Int):=λ{k} h=>⟨⟨by lia,by lia,ab.1⟩,⟨by lia,by lia,ab.2⟩,by lia,by lia,by decide⟩
  refine Br ?_;intro r12 s12 k12 hk12 E12;refine⟨_,rfl,_,rfl,_,rfl,_,_,rfl,rfl,(cp e7).1,_,rfl,_,rfl,_,_,rfl,rfl,(cp e7).2.1,D,ps,_,_,rfl,dd14.1,dp.nd,C2 dp.len A3,λo1 E1 ps1 H15 fo15 hD15 nE1 hE1 cop1=>?_⟩;have zs15:=zs14.fo dd14 fo15;have de15:DD H15 g m E1 ps1:=DD.new zs14 nE1 hE1;rw[pw]at cop1;have two1:=TB cop1;rw[hb]at two1;have nr1:=cop1.nr nr0 (Tw i4 e7).1 (Tw i4 e7).2;have l1:=cop1.len;have dl:=dp.len;refine hk12 ?_;clear zs14 dd14 fo15 hD15 nE1 hE1;refine Br ?_;intro r13 s13 k13 hk13 E13;have q1:=Uk e A0;have q2:=Uk f' A0;have nrP:∀k:Nat,k<=1000->Oh (vsF s b) k:=λk hk=>hb▸nr0.near s k A0;refine⟨_,rfl,_,rfl,_,rfl,_,_,rfl,rfl,(cp e7).2.2,.mk p dxp mem pr g G13 _ (vsF s b) 600000 _ (r59 s i) m r (2^e) (by rw[p1];rfl) zs15 fin cl (ask_1 e7) fv (nrP _ A0) A3 λd G16 H16 i16 fz16 zs16 go16 fv16=>?_⟩;have de16:=de15.fz zs15 fz16;have fvr:=fv.app zs15.fu.ok go16;refine hk13 ?_;clear zs15 de15 fz16;refine Br ?_;intro r14 s14 k14 hk14 E14;have es:s14=[some (.ref l),some (.int (s:Int)),some (.int (i:Int)),some (.int (dX i)),some (.int (dY i)),some (.int (mo:Int)),some (.int (e:Int)),some (.int (f':Int)),some (.ref D),some (.ref g.p),some (.ref p),some (.int (r:Int)),some (.ref E1),some (.int (d:Int)),none]:=rfl
  clear_value s14
  subst es;have tr:∀{x y:Nat},x=y->(!decide (V.int (x:Int)=V.int (y:Int)))=false:=λ{x y} e=>by rw[e,V9 rfl];rfl
  have tq:∀{x y:Nat},x=y->decide (V.int (x:Int)=V.int (y:Int))=true:=λ{x y} e=>by rw[e];exact V9 rfl
  have sz16:=zs16.jz.sz fin;refine⟨_,rfl,.inl ⟨_,rfl,_,rfl,Bw ?_⟩⟩;refine⟨_,rfl,_,rfl,_,rfl,_,rfl,.mk g G16 E1 ps1 s rfl zs16.fu de16.1 (nr1.ing A3) A0 A0 A0 de16.ga λo2 d2 G17 H17 H18 fo17 hE17 fu17 fr18 fu18 go18 fv18=>?_⟩;have zs18:=(zs16.fo de16 fo17).fr fr18 fu18 go18;have de18:DD H18 g m E1 ps1:=DD.fr (D:=E1) ⟨.inr ⟨o2,hE17⟩,de16.2⟩ (zs16.fo de16 fo17) fr18;have fvr18:=fvr.app zs16.fu.ok go18;have fvd18:=fv16.app zs16.fu.ok go18;obtain⟨rr,err⟩:=fu18.g0;have ed:d=d2:=fvd18.eq err fu18.ok fv18 λx y=>by rw[Ew xr,two1]
  clear zs16 de16 fo17 hE17 fu17 fr18 fvr fv16 fv18 sz16 err;refine⟨rfl,_,rfl,ifF (tr ed) ?_⟩;clear ed;refine⟨_,rfl,_,rfl,.mk p dxp mem pr g G17 _ (vsF s b) 600000 _ (r59 s i) m r 0 rfl zs18 fin cl ask_0 fvr18 (nrP _ A3) A3 λd3 G19 H19 i19 fz19 zs19 go19 fv19=>?_⟩;have de19:=de18.fz zs18 fz19;have fvr19:=fvr18.app zs18.fu.ok go19;have fvd19:=fvd18.app zs18.fu.ok go19;obtain⟨rr,err⟩:=zs19.fu.g0;have ed:d3=r:=fv19.eq err zs19.fu.ok fvr19 λx y=>rfl;clear zs18 de18 fz19 fvr18 fvd18 fv19 err;refine⟨_,rfl,rfl,_,rfl,ifF (tr ed) ?_⟩;clear ed;refine hk14 ?_;refine Br ?_;intro r15 s15 k15 hk15 E15;refine⟨_,rfl,_,rfl,rfl,_,rfl,LY (λ_=>kq _) (λhne=>?_)⟩;have ne:e≠f':=λz=>hne (tq z);refine hk15 ?_;refine Br ?_;intro r16 s16 k16 hk16 E16;have es:s16=[some (.ref l),some (.int (s:Int)),some (.int (i:Int)),some (.int (dX i)),some (.int (dY i)),some (.int (mo:Int)),some (.int (e:Int)),some (.int (f':Int)),some (.ref D),some (.ref g.p),some (.ref p),some (.int (r:Int)),some (.ref E1),some (.int (d:Int)),none]:=rfl
  clear_value s16
  subst es;have sz19:=zs19.jz.sz fin;refine⟨_,rfl,_,rfl,_,rfl,_,rfl,_,_,rfl,rfl,(cp f7).1,_,rfl,_,rfl,_,_,rfl,rfl,(cp f7).2.1,E1,ps1,_,_,rfl,de19.1,cop1.nd,by lia,λo3 E2 ps2 H20 fo20 hE20 nE2 hE2 cop2=>?_⟩;have zs20:=zs19.fo de19 fo20;have df20:DD H20 g m E2 ps2:=DD.new zs19 nE2 hE2;rw[pw]at cop2;have two2:=TB cop2;rw[two1]at two2;have nr2:=cop2.nr nr1 (Tw i4 f7).1 (Tw i4 f7).2;have l2:=cop2.len;clear zs19 de19 fo20 hE20 nE2 hE2;refine⟨_,rfl,.mk g G19 E2 ps2 s rfl zs20.fu df20.1 (nr2.ing A3) A0 A0 A0 df20.ga λo4 d4 G21 H21 H22 fo21 hE21 fu21 fr22 fu22 go22 fv22=>?_⟩;have zs22:=(zs20.fo df20 fo21).fr fr22 fu22 go22;have fvr22:=fvr19.app zs20.fu.ok go22;have fvd22:=fvd19.app zs20.fu.ok go22;rw[two2]at fv22;clear zs20 df20 fo21 hE21 fu21 fr22 fvr19 fvd19 sz19;refine hk16 ?_;have eT:∀x y,sFN (r59 s i) (2^e+2^f') (vsF s b) x y=vsF s (GU (dX i) (dY i) (2^f':Nat) (GU (dX i) (dY i) (2^e:Nat) b)) x y:=λx y=>by rw[Nat.add_comm,Jz,Ew xr,Ew xr]
  refine⟨_,rfl,_,rfl,_,rfl,_,_,rfl,rfl,(cp e7).2.2,_,rfl,_,_,rfl,rfl,(cp f7).2.2,_,_,rfl,rfl,.mk p dxp mem pr g G21 _ (vsF s b) 600000 _ (r59 s i) m r (2^e+2^f') ?_ zs22 fin cl (ask_2 xr e7 f7 ne) fvr22 (nrP _ A0) A3 λd5 G23 H23 i23 fz23 zs23 go23 fv23=>?_⟩
  ·exact W8 (λz=>[V.ref p,V.int (r:Int),V.int z]) (show 1*(2:Int)^((e:Int)).toNat+1*2^((f':Int)).toNat=((2^e+2^f':Nat):Int) by rw[pw,pw,U9,U9];rfl)
  have fvd23:=fvd22.app zs22.fu.ok go23;have fv223:=fv22.app zs22.fu.ok go23;obtain⟨rr,err⟩:=zs23.fu.g0;have ed:d5=d4:=fv23.eq err zs23.fu.ok fv223 eT;clear zs22 fz23 fvr22 fvd22 fv22 fv23 err;refine⟨_,rfl,rfl,_,rfl,ifT (tq ed) ?_⟩;clear ed;refine⟨_,rfl,_,rfl,_,rfl,_,_,rfl,rfl,(cp f7).2.2,.mk p dxp mem pr g G23 _ (sFN (r59 s i) (2^e) (vsF s b)) 600000 _ (r59 s i) m d (2^f') (by rw[p1];rfl) zs23 fin cl (ask_3 xr f7) fvd23 (near_st bz (nrP _ A0)) A3 λd6 G24 H24 i24 fz24 zs24 go24 fv24=>?_⟩;have fv224:=fv223.app zs23.fu.ok go24;obtain⟨rr,err⟩:=zs24.fu.g0;have ed:d6=d4:=fv24.eq err zs24.fu.ok fv224 λx y=>by rw[Ew xr,Ew xr]
  refine⟨_,rfl,rfl,?_⟩;rw[tq ed];exact kq _
end
end J
namespace J
open PySem L2
theorem ar1{α:Type}:∀us:List α,us.length=1->∃a0,us=[a0]
 |[a0],_=>⟨a0,rfl⟩
theorem ar2{α:Type}:∀us:List α,us.length=2->∃a0 a1,us=[a0,a1]
 |[a0,a1],_=>⟨a0,a1,rfl⟩
theorem ar3{α:Type}:∀us:List α,us.length=3->∃a0 a1 a2,us=[a0,a1,a2]
 |[a0,a1,a2],_=>⟨a0,a1,a2,rfl⟩
theorem ar4{α:Type}:∀us:List α,us.length=4->∃a0 a1 a2 a3,us=[a0,a1,a2,a3]
 |[a0,a1,a2,a3],_=>⟨a0,a1,a2,a3,rfl⟩
theorem ar5{α:Type}:∀us:List α,us.length=5->∃a0 a1 a2 a3 a4,us=[a0,a1,a2,a3,a4]
 |[a0,a1,a2,a3,a4],_=>⟨a0,a1,a2,a3,a4,rfl⟩
structure Fg(K:PySem.W.Frag)(x:Str)(st:Stmt)(f:Addr)(fd:FuncData):Prop where
 at_:PySem.W.nsIn K mainGlobals x=some (some (.ref f))
 fn:Fun K x x st f fd
structure Fm(K:PySem.W.Frag)(C:Addr)(m q:Str)(st:Stmt)(f:Addr)(fd:FuncData):Prop where
 me:Ol K C m f
 fn:Fun K m q st f fd
structure Fi(K:PySem.W.Frag)(C:Addr)(q:Str)(st:Stmt)(f:Addr)(fd:FuncData):Prop where
 mk_:Mk K C f
 fn:Fun K "__init__" q st f fd
theorem bnd{K:PySem.W.Frag}{x q:Str}{st:Stmt}{f:Addr}{fd:FuncData}{ps:List Str}(F:Fun K x q st f fd)(h:∀(kV doc pm:Value)(an:Option Addr)(cdv ct:Value)(us:List Value),us.length=ps.length->bindArgs (PySem.W.fnOf x q (JV st) (IH st) (Ah st) .none kV doc pm an cdv ct) ⟨us,[]⟩=pure (ps.zip us):=by intro _ _ _ _ _ _ us hl;first|(obtain⟨x0,rfl⟩:=ar1 us hl;exact rfl)|(obtain⟨x0,x1,rfl⟩:=ar2 us hl;exact rfl)|(obtain⟨x0,x1,x2,rfl⟩:=ar3 us hl;exact rfl)|(obtain⟨x0,x1,x2,x3,rfl⟩:=ar4 us hl;exact rfl)|(obtain⟨x0,x1,x2,x3,x4,rfl⟩:=ar5 us hl;exact rfl)):CH K fd ps []:=F.binds h
theorem fin{l:PySem.W.OpenLaw}{w:World}{K:PySem.W.Frag}{h:Heap}{mg:Str->Option Value}{fa:Addr}(X:K.In h)(G:h.Ns mainGlobals mg)(hfa:mg "law" = some (.ref fa))
  {c_Amounts:Addr} {c_Places:Addr} {c_Clause:Addr} {c_Grove:Addr} {c_Rule:Addr} {c_Jumps:Addr} {f0:Addr} {d0:FuncData} {f1:Addr} {d1:FuncData} {f2:Addr} {d2:FuncData} {f3:Addr} {d3:FuncData} {f4:Addr} {d4:FuncData} {f5:Addr} {d5:FuncData} {f6:Addr} {d6:FuncData} {f7:Addr} {d7:FuncData} {f8:Addr} {d8:FuncData} {f9:Addr} {d9:FuncData} {f10:Addr} {d10:FuncData} {f11:Addr} {d11:FuncData} {f12:Addr} {d12:FuncData} {f13:Addr} {d13:FuncData} {f14:Addr} {d14:FuncData} {f15:Addr} {d15:FuncData} {f16:Addr} {d16:FuncData} {f17:Addr} {d17:FuncData} {f18:Addr} {d18:FuncData} {f19:Addr} {d19:FuncData} {f20:Addr} {d20:FuncData} {f21:Addr} {d21:FuncData} {f22:Addr} {d22:FuncData} {f23:Addr} {d23:FuncData} {f24:Addr} {d24:FuncData} {f25:Addr} {d25:FuncData} {f26:Addr} {d26:FuncData} {f27:Addr} {d27:FuncData} {f28:Addr} {d28:FuncData} {f29:Addr} {d29:FuncData} {f30:Addr} {d30:FuncData} {f31:Addr} {d31:FuncData} {f32:Addr} {d32:FuncData} {f33:Addr} {d33:FuncData} {f34:Addr} {d34:FuncData} {f35:Addr} {d35:FuncData} {f36:Addr} {d36:FuncData} {f37:Addr} {d37:FuncData} {f38:Addr} {d38:FuncData} {f39:Addr} {d39:FuncData} {f40:Addr} {d40:FuncData} {f41:Addr} {d41:FuncData} {f42:Addr} {d42:FuncData} {f43:Addr} {d43:FuncData} {f44:Addr} {d44:FuncData} {f45:Addr} {d45:FuncData} {f47:Addr} {d47:FuncData} {f49:Addr} {d49:FuncData} {f51:Addr} {d51:FuncData} {f53:Addr} {d53:FuncData} {f54:Addr} {d54:FuncData} {f55:Addr} {d55:FuncData} {f56:Addr} {d56:FuncData} {f57:Addr} {d57:FuncData} {f58:Addr} {d58:FuncData} {f59:Addr} {d59:FuncData} {f60:Addr} {d60:FuncData} {f61:Addr} {d61:FuncData} {f64:Addr} {d64:FuncData} {f65:Addr} {d65:FuncData} {f66:Addr} {d66:FuncData} {f67:Addr} {d67:FuncData} {f68:Addr} {d68:FuncData} {f69:Addr} {d69:FuncData} {f70:Addr} {d70:FuncData} {f71:Addr} {d71:FuncData} {f46:Addr} {d46:FuncData} {f48:Addr} {d48:FuncData} {f50:Addr} {d50:FuncData} {f52:Addr} {d52:FuncData} {f62:Addr} {d62:FuncData} {f63:Addr} {d63:FuncData} {t_STATES:Tok} {t_NEIGHBOURS:Tok} {t_STATE_FIGURES:Tok} {x_STATE_FIGURES:Str} {t_AMOUNT_FIGURES:Tok} {x_AMOUNT_FIGURES:Str} {t_ANY_SIGN:Tok} {x_ANY_SIGN:Str} {t_TOP_LEVEL:Tok} {t_LIMIT:Tok} {t_LEAST_LEVEL:Tok} {t_CLAUSE_MARK:Tok} {x_CLAUSE_MARK:Str} {t_LEAST_JUMPED:Tok}
  (cN:PySem.W.nsIn K mainGlobals "Amounts" = some (some (.ref c_Amounts)))
  (cO:PySem.W.nsIn K mainGlobals "Places" = some (some (.ref c_Places)))
  (cP:PySem.W.nsIn K mainGlobals "Clause" = some (some (.ref c_Clause)))
  (cT:PySem.W.nsIn K mainGlobals "Grove" = some (some (.ref c_Grove)))
  (cU:PySem.W.nsIn K mainGlobals "Rule" = some (some (.ref c_Rule)))
  (cS:PySem.W.nsIn K mainGlobals "Jumps" = some (some (.ref c_Jumps)))
  (q_Amounts:Cls K c_Amounts)
  (q_Places:Cls K c_Places)
  (q_Clause:Cls K c_Clause)
  (q_Grove:Cls K c_Grove)
  (q_Rule:Cls K c_Rule)
  (q_Jumps:Cls K c_Jumps)
  (na_Amounts_state:findIn K (.ref c_Amounts) "state" = some none)
  (na_Amounts_numbers:findIn K (.ref c_Amounts) "numbers" = some none)
  (na_Places_wanted:findIn K (.ref c_Places) "wanted" = some none)
  (na_Clause_cell:findIn K (.ref c_Clause) "cell" = some none)
  (na_Clause_conditions:findIn K (.ref c_Clause) "conditions" = some none)
  (na_Clause_makes:findIn K (.ref c_Clause) "makes" = some none)
  (na_Grove_levels:findIn K (.ref c_Grove) "levels" = some none)
  (na_Grove_parts:findIn K (.ref c_Grove) "parts" = some none)
  (na_Grove_numbers:findIn K (.ref c_Grove) "numbers" = some none)
  (na_Grove_bares:findIn K (.ref c_Grove) "bares" = some none)
  (na_Grove_amounts:findIn K (.ref c_Grove) "amounts" = some none)
  (na_Grove_boxes:findIn K (.ref c_Grove) "boxes" = some none)
  (na_Rule_text:findIn K (.ref c_Rule) "text" = some none)
  (na_Rule_clauses:findIn K (.ref c_Rule) "clauses" = some none)
  (na_Jumps_grove:findIn K (.ref c_Jumps) "grove" = some none)
  (na_Jumps_memories:findIn K (.ref c_Jumps) "memories" = some none)
  (na_Jumps_rule:findIn K (.ref c_Jumps) "rule" = some none)
  (na_Jumps_known_squares:findIn K (.ref c_Jumps) "known_squares" = some none)
  (na_Jumps_known_cells:findIn K (.ref c_Jumps) "known_cells" = some none)
  (g0:Fg K "is_whole" Ja f0 d0)
  (g1:Fg K "is_state" Jb f1 d1)
  (g2:Fg K "takes" Pg f2 d2)
  (g3:Fg K "read_clause" DS f3 d3)
  (g4:Fg K "read_state" Gh f4 d4)
  (g5:Fg K "read_wanted" Fu f5 d5)
  (g6:Fg K "read_condition" DA f6 d6)
  (g7:Fg K "read_amounts" EB f7 d7)
  (g8:Fg K "read_numbers" EA f8 d8)
  (g9:Fg K "read_places" DR f9 d9)
  (g10:Fg K "shifted_box" Ft f10 d10)
  (g11:Fg K "least_box" Ct f11 d11)
  (g12:Fg K "lies_within" Fw f12 d12)
  (g13:Fg K "reach_of" IZ f13 d13)
  (g14:Fg K "bare_field" Gk f14 d14)
  (g15:Fg K "widened" Lg f15 d15)
  (g16:Fg K "trimmed" Lh f16 d16)
  (g17:Fg K "middle_of" Fc f17 d17)
  (g18:Fg K "is_bare_around" DB f18 d18)
  (g19:Fg K "widened_over" Ez f19 d19)
  (g20:Fg K "widened_to" Gf f20 d20)
  (g21:Fg K "planted" Li f21 d21)
  (g22:Fg K "replaced" IW f22 d22)
  (g23:Fg K "field_of" Jd f23 d23)
  (g24:Fg K "box_of" MT f24 d24)
  (g25:Fg K "jump" RN f25 d25)
  (g26:Fg K "road" RM f26 d26)
  (g27:Fg K "check_leap" Gj f27 d27)
  (g28:Fg K "level_for" Id f28 d28)
  (g29:Fg K "clause_texts" EC f29 d29)
  (g30:Fg K "read_rule" Ic f30 d30)
  (g31:Fg K "deciding" Je f31 d31)
  (g32:Fg K "becomes" Lj f32 d32)
  (g33:Fg K "shown_rule" Gg f33 d33)
  (g34:Fg K "nine_parts" Gi f34 d34)
  (g35:Fg K "fours_of" Jc f35 d35)
  (g36:Fg K "met_in_the_middle" CJ f36 d36)
  (g37:Fg K "_law_at" Lk f37 d37)
  (g38:Fg K "_law_whole" Gm f38 d38)
  (g39:Fg K "_law_mix" Jf f39 d39)
  (g40:Fg K "_law_place" Gn f40 d40)
  (g41:Fg K "_law_rule_by" ED f41 d41)
  (g42:Fg K "_law_copies" Fy f42 d42)
  (g43:Fg K "_law_number" DT f43 d43)
  (g44:Fg K "_law_places_by" DC f44 d44)
  (g45:Fg K "law" VE f45 d45)
  (g47:Fm K c_Amounts "holds" "Amounts.holds" Ei f47 d47)
  (g49:Fm K c_Places "holds" "Places.holds" Dr f49 d49)
  (g51:Fm K c_Clause "fits" "Clause.fits" DV f51 d51)
  (g53:Fm K c_Grove "kept" "Grove.kept" Gr f53 d53)
  (g54:Fm K c_Grove "linked" "Grove.linked" EE f54 d54)
  (g55:Fm K c_Grove "check_square" "Grove.check_square" Cv f55 d55)
  (g56:Fm K c_Grove "leaf" "Grove.leaf" Gq f56 d56)
  (g57:Fm K c_Grove "level_of" "Grove.level_of" DF f57 d57)
  (g58:Fm K c_Grove "state_of" "Grove.state_of" DE f58 d58)
  (g59:Fm K c_Grove "span" "Grove.span" Gp f59 d59)
  (g60:Fm K c_Grove "boxed" "Grove.boxed" DU f60 d60)
  (g61:Fm K c_Grove "measured" "Grove.measured" CA f61 d61)
  (g64:Fm K c_Jumps "change" "Jumps.change" Ds f64 d64)
  (g65:Fm K c_Jumps "after" "Jumps.after" FA f65 d65)
  (g66:Fm K c_Jumps "check_jump" "Jumps.check_jump" CW f66 d66)
  (g67:Fm K c_Jumps "reckoned" "Jumps.reckoned" Cz f67 d67)
  (g68:Fm K c_Jumps "fresh" "Jumps.fresh" BU f68 d68)
  (g69:Fm K c_Jumps "four_halfway" "Jumps.four_halfway" AY f69 d69)
  (g70:Fm K c_Jumps "middle_after" "Jumps.middle_after" Cu f70 d70)
  (g71:Fm K c_Jumps "cell_after" "Jumps.cell_after" Cb f71 d71)
  (g46:Fi K c_Amounts "Amounts.__init__" EF f46 d46)
  (g48:Fi K c_Places "Places.__init__" Fz f48 d48)
  (g50:Fi K c_Clause "Clause.__init__" FB f50 d50)
  (g52:Fi K c_Grove "Grove.__init__" Gs f52 d52)
  (g62:Fi K c_Rule "Rule.__init__" Fd f62 d62)
  (g63:Fi K c_Jumps "Jumps.__init__" Go f63 d63)
  (z_all:PySem.W.nsIn K mainGlobals "all" = some none)
  (z_bool:PySem.W.nsIn K mainGlobals "bool" = some none)
  (z_enumerate:PySem.W.nsIn K mainGlobals "enumerate" = some none)
  (z_int:PySem.W.nsIn K mainGlobals "int" = some none)
  (z_isinstance:PySem.W.nsIn K mainGlobals "isinstance" = some none)
  (z_len:PySem.W.nsIn K mainGlobals "len" = some none)
  (z_list:PySem.W.nsIn K mainGlobals "list" = some none)
  (z_max:PySem.W.nsIn K mainGlobals "max" = some none)
  (z_min:PySem.W.nsIn K mainGlobals "min" = some none)
  (z_range:PySem.W.nsIn K mainGlobals "range" = some none)
  (z_str:PySem.W.nsIn K mainGlobals "str" = some none)
  (z_tuple:PySem.W.nsIn K mainGlobals "tuple" = some none)
  (z_zip:PySem.W.nsIn K mainGlobals "zip" = some none)
  (g_STATES:PySem.W.nsIn K mainGlobals "STATES" = some (some (.int 8 t_STATES)))
  (g_NEIGHBOURS:PySem.W.nsIn K mainGlobals "NEIGHBOURS" = some (some (.int 8 t_NEIGHBOURS)))
  (g_STATE_FIGURES:PySem.W.nsIn K mainGlobals "STATE_FIGURES" = some (some (.str x_STATE_FIGURES t_STATE_FIGURES)))
  (gx_STATE_FIGURES:x_STATE_FIGURES=Str.ofString "01234567")
  (g_AMOUNT_FIGURES:PySem.W.nsIn K mainGlobals "AMOUNT_FIGURES" = some (some (.str x_AMOUNT_FIGURES t_AMOUNT_FIGURES)))
  (gx_AMOUNT_FIGURES:x_AMOUNT_FIGURES=Str.ofString "012345678")
  (g_ANY_SIGN:PySem.W.nsIn K mainGlobals "ANY_SIGN" = some (some (.str x_ANY_SIGN t_ANY_SIGN)))
  (gx_ANY_SIGN:x_ANY_SIGN=Str.ofString "*")
  (g_TOP_LEVEL:PySem.W.nsIn K mainGlobals "TOP_LEVEL" = some (some (.int 48 t_TOP_LEVEL)))
  (g_LIMIT:PySem.W.nsIn K mainGlobals "LIMIT" = some (some (.int 1099511627776 t_LIMIT)))
  (g_LEAST_LEVEL:PySem.W.nsIn K mainGlobals "LEAST_LEVEL" = some (some (.int 1 t_LEAST_LEVEL)))
  (g_CLAUSE_MARK:PySem.W.nsIn K mainGlobals "CLAUSE_MARK" = some (some (.str x_CLAUSE_MARK t_CLAUSE_MARK)))
  (gx_CLAUSE_MARK:x_CLAUSE_MARK=Str.ofString "; ")
  (g_LEAST_JUMPED:PySem.W.nsIn K mainGlobals "LEAST_JUMPED" = some (some (.int 2 t_LEAST_JUMPED)))
  : ∃fd:FuncData,(∀(s:Shared)(v:Value),BindsTo s fd ⟨[v],[]⟩ [("_law_script",v)])/\∀base:Heap,K.In base->base.Ns mainGlobals mg->AK l.prog w K mg base CX0 152 fa fd ["_law_script"] (SW K):=by
 have e:=hfa.symm.trans (W7 X G g45.at_);cases e;have no:∀{x:Str},PySem.W.nsIn K mainGlobals x=some none->mg x=none:=λz=>PySem.W.mg_none_of X G z;subst gx_CLAUSE_MARK;subst gx_ANY_SIGN;subst gx_AMOUNT_FIGURES;subst gx_STATE_FIGURES;have T:Top K mg (⟨c_Amounts,c_Places,c_Clause,c_Grove,c_Rule,c_Jumps⟩:Ad):=⟨no z_all,no z_bool,no z_enumerate,no z_int,no z_isinstance,no z_len,no z_list,no z_max,no z_min,no z_range,no z_str,no z_tuple,no z_zip,⟨t_STATES,W7 X G g_STATES⟩,⟨t_NEIGHBOURS,W7 X G g_NEIGHBOURS⟩,⟨t_STATE_FIGURES,W7 X G g_STATE_FIGURES⟩,⟨t_AMOUNT_FIGURES,W7 X G g_AMOUNT_FIGURES⟩,⟨t_ANY_SIGN,W7 X G g_ANY_SIGN⟩,⟨t_TOP_LEVEL,W7 X G g_TOP_LEVEL⟩,⟨t_LIMIT,W7 X G g_LIMIT⟩,⟨t_LEAST_LEVEL,W7 X G g_LEAST_LEVEL⟩,⟨t_CLAUSE_MARK,W7 X G g_CLAUSE_MARK⟩,⟨t_LEAST_JUMPED,W7 X G g_LEAST_JUMPED⟩,W7 X G cN,q_Amounts,na_Amounts_state,na_Amounts_numbers,W7 X G cO,q_Places,na_Places_wanted,W7 X G cP,q_Clause,na_Clause_cell,na_Clause_conditions,na_Clause_makes,W7 X G cT,q_Grove,na_Grove_levels,na_Grove_parts,na_Grove_numbers,na_Grove_bares,na_Grove_amounts,na_Grove_boxes,W7 X G cU,q_Rule,na_Rule_text,na_Rule_clauses,W7 X G cS,q_Jumps,na_Jumps_grove,na_Jumps_memories,na_Jumps_rule,na_Jumps_known_squares,na_Jumps_known_cells⟩
 refine⟨d45,λs v=>(by obtain⟨_,_,_,_,_,_,_,_,_,rfl,_⟩:=g45.fn.ex;exact .of_eq rfl),λbase _ _=>?_⟩;have cal:∀{CX:CXT}{k:Nat}{x:Str}{st:Stmt}{f:Addr}{fd:FuncData}{ps:List Str}{sp:Sp},Fg K x st f fd->AK l.prog w K mg base CX k f fd ps sp->CH K fd ps []->Cal l.prog w K mg base CX k x ps sp:=λF o b=>⟨_,_,o,W7 X G F.at_,F.fn.kp,b⟩
 have calm:∀{CX:CXT}{k:Nat}{C:Addr}{x q:Str}{st:Stmt}{f:Addr}{fd:FuncData}{ps:List Str}{sp:Sp},Fm K C x q st f fd->Cls K C->AK l.prog w K mg base CX k f fd ps sp->CH K fd ps []->BN l.prog w K mg base CX k C x ps sp:=λF c o b=>⟨⟨_,_,o,F.me,b⟩,c⟩
 have calc':∀{CX:CXT}{k:Nat}{C:Addr}{x q:Str}{st:Stmt}{f:Addr}{fd:FuncData}{ps:List Str}{sp:Sp},Fi K C q st f fd->mg x=some (.ref C)->AK l.prog w K mg base CX k f fd ps sp->CH K fd ps []->Qg l.prog w K mg base CX k x C ps sp:=λF m o b=>⟨_,_,o,F.mk_,m,b⟩
 have aJ:=cal (k:=1) (sp:=Uf) g0 (ok_iw g0.fn T) (bnd g0.fn);have aZ:=cal (k:=2) (sp:=spIS) g1 (ok_is g1.fn T aJ) (bnd g1.fn);have aO:=calm (k:=1) (sp:=(OZ _)) g53 q_Grove (ok_kept g53.fn T) (bnd g53.fn);have cM:=calc' (k:=2) (sp:=(Pc _)) g52 T.m_Grove (We g52.fn T aO) (bnd g52.fn)
 have a8:=calm (k:=2) (sp:=(Ee _)) g54 q_Grove (ok_link g54.fn T aO) (bnd g54.fn);have aC:=calm (k:=2) (sp:=(SX _)) g55 q_Grove (ok_chk g55.fn T aJ) (bnd g55.fn);have aN:=calm (k:=3) (sp:=(OX _)) g56 q_Grove (ok_leaf g56.fn T aZ) (bnd g56.fn);have a9:=calm (k:=3) (sp:=(LP _)) g57 q_Grove (ok_lev g57.fn T aC) (bnd g57.fn);have aX:=calm (k:=4) (sp:=(Vo _)) g58 q_Grove (ok_sta g58.fn T a9) (bnd g58.fn);have aG:=cal (k:=1) (sp:=Js) g10 (VW g10.fn T) (bnd g10.fn);have aW:=cal (k:=1) (sp:=Mf) g11 (Wb g11.fn T) (bnd g11.fn);have aT:=calm (k:=100) (sp:=(Qx _ 49)) g60 q_Grove (Wh g60.fn g61.fn T g60.me (bnd g60.fn) g61.me (bnd g61.fn) aG aW 49) (bnd g60.fn);have bO:=calm (k:=101) (sp:=(RF _)) g59 q_Grove (ok_span g59.fn T aC aT) (bnd g59.fn);have aH:=cal (k:=1) (sp:=Qw) g12 (ok_lie g12.fn T) (bnd g12.fn);have aI:=cal (k:=4) (sp:=(IA _)) g13 (VY g13.fn T a9) (bnd g13.fn);have bB:=cal (k:=4) (sp:=(ST _)) g15 (ok_wid g15.fn T a9 a8) (bnd g15.fn);have bV:=cal (k:=3) (sp:=(Vu _)) g17 (ok_mid g17.fn T a8) (bnd g17.fn);have b6:=cal (k:=1) (sp:=(spBA _)) g18 (ok_ba g18.fn T) (bnd g18.fn);have aR:=cal (k:=4) (sp:=(MD _)) g16 (ok_trim g16.fn T a9 b6 bV) (bnd g16.fn);have bE:=cal (k:=5) (sp:=(spWO _)) g19 (ok_wo g19.fn T aH aI bB) (bnd g19.fn);have aS:=cal (k:=1) (sp:=(Mg _)) g14 (Wi g14.fn T) (bnd g14.fn);have bF:=cal (k:=54) (sp:=(SU _ 50)) g22 (VX g22.fn T (W7 X G g22.at_) (bnd g22.fn) aN a8 50) (bnd g22.fn);have cB:=cal (k:=55) (sp:=(OV _)) g21 (Wa g21.fn T aH aZ aI bE bF aR) (bnd g21.fn);have bY:=cal (k:=56) (sp:=(Vy _)) g23 (ok_fld g23.fn T aS cB) (bnd g23.fn);have cG:=cal (k:=102) (sp:=(Pd _)) g24 (Wg g24.fn T bO aI aG) (bnd g24.fn);have bX:=cal (k:=1) (sp:=Md) g2 (VV g2.fn) (bnd g2.fn);have cD:=calc' (k:=1) (sp:=(MH _)) g46 T.m_Amounts (Uv g46.fn T) (bnd g46.fn)
 have cH:=calc' (k:=1) (sp:=(ME _)) g48 T.m_Places (Ut g48.fn T) (bnd g48.fn)
 have cJ:=calc' (k:=1) (sp:=(MG _)) g50 T.m_Clause (Uu g50.fn T) (bnd g50.fn)
 have cE:=calm (k:=1) (sp:=(Ld _)) g47 q_Amounts (RT g47.fn T) (bnd g47.fn);have cF:=calm (k:=2) (sp:=(Lb _)) g49 q_Places (RS g49.fn T bX) (bnd g49.fn);have bL:=calm (k:=3) (sp:=(RJ _)) g51 q_Clause (ok_Fits g51.fn T bX cE cF) (bnd g51.fn);have bZ:=cal (k:=4) (sp:=(Vz _)) g31 (ok_dec g31.fn T bL) (bnd g31.fn);have bC:=cal (k:=5) (sp:=(SZ _)) g32 (ok_bec g32.fn T bZ) (bnd g32.fn);have aK:=cal (k:=1) (sp:=Vr) g4 (ok_rs g4.fn T) (bnd g4.fn);have aQ:=cal (k:=2) (sp:=spRW) g5 (ok_rw g5.fn T aK) (bnd g5.fn);have bG:=cal (k:=1) (sp:=spRN) g8 (ok_rn g8.fn T) (bnd g8.fn);have bH:=cal (k:=3) (sp:=(Vt _)) g7 (ok_ram g7.fn T aK bG cD) (bnd g7.fn);have bM:=cal (k:=3) (sp:=(Vs _)) g9 (ok_rpl g9.fn T aQ cH) (bnd g9.fn);have aY:=cal (k:=4) (sp:=(OU _)) g6 (VZ g6.fn T bH bM) (bnd g6.fn);have bN:=cal (k:=5) (sp:=(spRC _)) g3 (ok_rc g3.fn T aK aQ aY cJ) (bnd g3.fn);have bI:=cal (k:=1) (sp:=spCT) g29 (ok_ct g29.fn T) (bnd g29.fn);have cR:=calc' (k:=6) (sp:=(spRI _)) g62 T.m_Rule (ok_ri g62.fn T bI bN) (bnd g62.fn)
 have bU:=cal (k:=8) (sp:=(spRR _)) g30 (ok_rr g30.fn T cR bC) (bnd g30.fn);have bQ:=cal (k:=1) (sp:=(RG _)) g33 (ok_show g33.fn T) (bnd g33.fn);have bD:=calm (k:=2) (sp:=(VB _)) g64 q_Jumps (ok_chg g64.fn T bQ) (bnd g64.fn);have cL:=calc' (k:=3) (sp:=(Pa _)) g63 T.m_Jumps (Wc g63.fn T bD) (bnd g63.fn)
 have aF:=calm (k:=6) (sp:=(SY _)) g71 q_Jumps (ok_cel g71.fn T aX aN bC) (bnd g71.fn);have aB:=calm (k:=7) (sp:=(OW _)) g70 q_Jumps (ok_mid2 g70.fn T a8 aF) (bnd g70.fn);have aM:=cal (k:=3) (sp:=(MF _)) g34 (ok_nine g34.fn T a8) (bnd g34.fn);have aP:=cal (k:=1) (sp:=Jt) g35 (Wf g35.fn T) (bnd g35.fn);have aD:=cal (k:=3) (sp:=(SV _)) g36 (ok_met g36.fn T a8) (bnd g36.fn);have aA:=calm (k:=148) (sp:=(Fq _ 46)) g67 q_Jumps (Tj g67.fn g69.fn g68.fn T g67.me (bnd g67.fn) g69.me (bnd g69.fn) g68.me (bnd g68.fn) aB a8 aM aP aD 46) (bnd g67.fn);have aV:=calm (k:=4) (sp:=(spCj _)) g66 q_Jumps (ok_cj g66.fn T a9 aJ) (bnd g66.fn);have bK:=calm (k:=149) (sp:=(Fq _ 46)) g65 q_Jumps (Us g65.fn T A3 aV aA) (bnd g65.fn);have bR:=cal (k:=103) (sp:=(VC _)) g27 (ok_chg' g27.fn T aJ cG aH) (bnd g27.fn);have bW:=cal (k:=5) (sp:=(Vv _)) g28 (ok_lvf g28.fn T aI) (bnd g28.fn);have bP:=cal (k:=5) (sp:=(spWT _)) g20 (ok_wt g20.fn T a9 bB) (bnd g20.fn);have cQ:=cal (k:=150) (sp:=(Vp _)) g26 (ok_rdg g26.fn T bR aS bW bP bK aR) (bnd g26.fn);have cC:=cal (k:=151) (sp:=(Vx _)) g25 (ok_jpg g25.fn T cQ aR) (bnd g25.fn);have aE:=cal (k:=1) (sp:=(spAt K)) g37 (ok_at g37.fn T) (bnd g37.fn);have bS:=cal (k:=1) (sp:=spWh) g38 (ok_wh g38.fn T) (bnd g38.fn);have b8:=cal (k:=1) (sp:=OY) g39 (ok_lmix g39.fn T) (bnd g39.fn);have bA:=cal (k:=2) (sp:=RH) g40 (ok_pl38 g40.fn T b8) (bnd g40.fn);have bJ:=cal (k:=1) (sp:=Vq) g41 (ok_rby g41.fn T) (bnd g41.fn);have b9:=cal (k:=1) (sp:=VA) g42 (ok_cop g42.fn T) (bnd g42.fn);have aU:=cal (k:=57) (sp:=(spNb _)) g43 (ok_nb g43.fn T bY) (bnd g43.fn);have b7:=cal (k:=3) (sp:=(spPb K)) g44 (ok_pb g44.fn T aE b8 bA) (bnd g44.fn);exact ok_law g45.fn T cM aE bS b7 bJ bU aU b9 cL cC
theorem walk{l:PySem.W.OpenLaw}{q:Program}{loose:List Str}{XP:(Str->Option Value)->Heap->Prop}{YP:World->Heap->Prop}{d:DefRec}{K:Params->PySem.W.Frag}(hn:l.most=some 63)(hdf:d.params.defaults=[])
  (hY:∀(w:World)(h:Heap),YP w h->(K w.params).In h)
  (F:∀(w:World)(mg:Str->Option Value)(fa:Addr)(h:Heap),(K w.params).In h->h.Ns mainGlobals mg->mg d.name=some (.ref fa) ->
   ∃fd:FuncData,(∀(s:Shared)(u:Value),BindsTo s fd ⟨[u],[]⟩ [("_law_script",u)])/\∀base:Heap,(K w.params).In base->base.Ns mainGlobals mg->AK l.prog w (K w.params) mg base CX0 152 fa fd ["_law_script"] (SW (K w.params))) :
  PySem.W.WalkO q loose XP YP l.row.toRowW d [] (λf vs=>PySem.call f vs) :=
 L2.SH (n:=63) (k:=152) (x:="_law_script") (CX:=λ_=>CX0) (sp:=λw=>SW (K w.params)) hn A3 hdf ⟨rfl,by decide,by decide⟩ hY F (λ_ _ a ns hl _ hS=>⟨a,ns,rfl,hS,hl,λ_=>rfl⟩) λ_ _ _ _ _ z=>z
end J
structure PySem.W.Fast:Prop where(tw5899812415772162920 tw9495473551294458791 tw11033117284222968827 tw7272422814710216668 tw4385688702285876754 tw5196572192823284507 tw16534657381749141060 tw12114922186627012354 tw9307525207264126070 tw12452621165729447457 tw14424725821018691585 tw13204238275036419417 tw8569946802099760267 tw13000653328080080878 tw9733137744745939909 tw17653120741500307456 tw3444046493083092729 tw17672799074702572753 tw11276269042762835899 tw14096437299115707446 tw10640012180771681143 tw10301648290067011330 tw18026438852663920077 tw8139684104468509524 tw9794550766453183989 tw15958600719230353607 tw462783822829181513 tw5801571312648305078 tw11224347990286831361 tw9513477687520514459 tw1408483701820772050 tw11020849795798857872 tw17591385354131076444 tw10922382272189719777 tw13631627652196663835 tw13390675247585956464 tw6587307941963697396 tw16235897150925100215 tw4455609836249939634 tw5268978264418209108 tw18044028997595709474 tw2005293310282699854 tw6234655166467625209 tw9617650948728286977 tw232330040141761144 tw3138394170393239314 tw1071615598852464079 tw6898964154788135447 tw15678000367576471641 tw4131891464690049427 tw1259662634817079142 tw14548271019050347122 tw15054015198913119793 tw3197697479724185068 tw14669291252155701650 tw2578989248954984211 tw10777694297119030943 tw8453083311603821197 tw2406369935551249958 tw4959811724615511536 tw1731565419740614477 tw13475528047787602499 tw398443528620267626 tw11050516025738075664 tw7434919171906077941 tw2207108222246732013 tw13353322306638851463 tw8505042543763447794 tw11831887407693682344 tw14243449561584070614 tw3261244263755554413 tw5195653800375468812 tw8329406413786785845 tw15208618468601597933 tw16457324249639572214 tw12281817480340831052 tw3043960708452797340 tw881107412252131881 tw8044753097902968414 tw14546077158151586366 tw12451147738468694595 tw9633547191837587308 tw13004469373803698556 tw15000196716177856766 tw327355378398052533 tw385335070591747197 tw7138081138604722727 tw7614550578117347474 tw17225941804063773195 tw4297044365657738715 tw8020633643978986889 tw12783736397793272096 tw9762198701697635366 tw14216490804992172250 tw9755418335243051476 tw15425340916952807673 tw6435428413771619743 tw14797345648195505430 tw1217881615640420723 tw17129128376660884843 tw12888749181047818911 tw15612480489447007493 tw12368510976410619040 tw16201425508068364356 tw16555625074330932421 tw2629666038261479816 tw14419270078869290291 tw15809211822525658165 tw2900987755981665392 tw10493735293750218951 tw9986160074184095331 tw5694242134944790188 tw4703618474820991238 tw3119635905581663977 tw14473087142242499629 tw10395931968841791967 tw8311863717597744229 tw18007532263154705665 tw16492745953344687403 tw16685444391858689279 tw17630478518293809133 tw5273366417809898949 tw2311129704527836117 tw2415416321366978977 tw12764833271181872443 tw17084588209294414723 tw10238405857342333575 tw15878991139779191043 tw6691201228436619575 tw246219986358506128 tw14491870628806810478 tw5768758267507092429 tw7474002210249819300 tw10939504666828764617 tw774105962259185938 tw11230798850234576024 tw13299510484277127643 tw12793002608175836166 tw5957997993852282905 tw69543335757403706 tw12191026794684197327 tw11202863411305370832 tw15451319021194871054 tw14167809713094202880 tw13283959716301596018 tw4913319762698012650 tw10218930522319386522 tw10867533384439857861 tw10277844584283616638 tw106775199677100308 tw17668644196529973051 tw9362869335946577099 tw1365333921297218930 tw7556414778917659509 tw3874727636918439487 tw15762809923600433819 tw8254515907746163637 tw2063259020925143777 tw18386340162581474203 tw2831506141487978768 tw506804875585131522 tw16304098510936298242 tw16977456635154439978 tw6234449679727408852 tw5728828933961228014 tw9787190905208298596 tw16229792803937819773 tw1389580827504627300 tw13667038580946406286 tw8097473986246233822 tw2780011636329589028 tw10384260388670607064 tw16905287810665090560 tw17314157721128317211 tw13455318905430207676 tw1561093023237661731 tw1757190352396983163 tw10593286497466945799 tw14186556510321898172 tw10493462437768441379 tw8862594813895617608 tw2394535213471572799 tw5019523220175780976 tw1500240558760181221 tw1880621233816693792 tw5719805697364108204 tw9487568019946368653 tw6928006899950679856 tw15668952457038346694 tw2557742487850315050 tw17978167971463953721 tw5093575445358118860 tw14325287943321514695 tw10956709768974072468 tw4225453405543957390 tw10299613137591004046 tw6576965918646077490 tw4262891930120500639 tw12467766499933537579 tw18173096965265332205 tw14724021275630806605 tw1603856623671466413 tw22974320646612024 tw9453538153270387122 tw7792131723430412747 tw3816344840923073151 tw4711942698984616337 tw9520420299524514200 tw18116130770289602140 tw11893905266307279811 tw13691079825630786973 tw8313053820635665554 tw5787870243954297146 tw7627002866043129796 tw7673829757952347612 tw16904900184987462350 tw15001072822582063823 tw7276755033020969109 tw12295301677168811466 tw10825619233560905525 tw11567351422589258426 tw596986326844031570 tw5723530419998398257 tw13067077640458933 tw12591050441353650949 tw14244549743146226385 tw10711911726037144078 tw6288762417886744217 tw7625994438317374094 tw1486984987256111230 tw7780118680527192188 tw12788548246957393104 tw15915899017025786822 tw5171977675016916041 tw11474460526163436940 tw13415433747305434588 tw5906184117167689418 tw10803271191436731118 tw11655180974746006871 tw4660354256734007915 tw12303781477187616614 tw10860632142364469396 tw17843059406794027046 tw17582515340265220962 tw2449503970542147836 tw11476123843574865586 tw6324631260285644407 tw12186749943353576562 tw15961680577350572726 tw912889056748229378 tw14374496175550200642 tw317519979537542291 tw11320029490295543093 tw10585590105949986485 tw11564126061561449918 tw9739401774335612241 tw8041585655594887565 tw10278119547392637253 tw18243199538351112072 tw4846920079105800946 tw6503202226161892493 tw12982912560788556181 tw15140446857347201748 tw15218566224224114474 tw12958781878875727068 tw17220826308310975354 tw14653375625426908159 tw12576368141955083966 tw2661295456538618153 tw1048598632203156437 tw7184223166493436513 tw6002676607222212771 tw10838740802788705065 tw13080036290785537911 tw6779616520083581637 tw16466850587106721471 tw582809311622167938 tw16067694680923050926 tw8624779446862306276 tw15406594356238631378 tw5890771884627233173 tw16936913225057274695 tw15603958897771505659 tw12029340149974582491 tw1925647890431331812 tw1361044287961380917 tw5694893110575749144 tw18057240587684549889 tw5830997912380495963 tw6372774545389877153 tw12732459979101782087 tw6486717921107683127 tw8444019807836937210 tw12284118806268569619 tw10020028909246195312 tw1323837714299585960 tw840998771078311908 tw2613003858780410912 tw1565852355688529779 tw8943702494105589532 tw17959736639661468337 tw18164069542281688828 tw13095577792897020676 tw15818128004659812463 tw13563716447695652032 tw1886776707948212332 tw8786039704729840856 tw18023852438095771105 tw2402900392166060171 tw5860196532995945730 tw5008727802653033960 tw15224617850240447893 tw13676371558485241163 tw12956378031286902000 tw5519726297754381269 tw9180058616656291161 tw17142756189756947888 tw5204695689206957448 tw6068953060116943811 tw18374692528000413411 tw1524681485273152066 tw15939912068100529573 tw3072002497621393950 tw9175022417423050868 tw14711150719853030976 tw8291958961417912903 tw2952382647568310703 tw10303179581511071297 tw6128972951271483600 tw14244597121690853498 tw3953930929209194686 tw17956965027489158937 tw4989354061665861818 tw15649095219847405032 tw581673799366931925 tw8024039105355420891 tw12531796072659323287 tw12141564353881555173 tw7622855402384522393 tw2686435965848372275 tw5671612774378771014 tw1709998223745129575 tw1545968140275894152 tw12290183483598754256 tw13203648455144706626 tw962371199400295112 tw11657509592362013042 tw17042323447421947331 tw16328503725255678059 tw13912222492442943014 tw17718612202541510666 tw14776025394407540909 tw11032294044039676815 tw8447999208347644186 tw12323242097547259835 tw493967787969966879 tw15151587964469303634 tw4155232091229743164 tw10503429653482389675 tw7702988510951979859 tw14429584941567204289 tw11879696845841979929 tw2059966145954906310 tw1877374929775469729 tw12021958892661678057 tw10957386576950082541 tw8205957319817226195 tw1381489256238131381 tw773279677186123334 tw14113240738538546171 tw14872708804923907073 tw17622545826824675103 tw5274239851717519680 tw18046515008425086679 tw10057296780733091674 tw603070555045936021 tw4920454225338176610 tw7514527885023653363 tw8732444922942988730 tw2061972306740420325 tw1717564348549585282 tw7131193205296219829 tw1414161597548023785 tw10917290984224237599 tw5144451631964437598 tw5260126671786051717 tw3534229705601886301 tw10202334616826503290 tw3088214044960299949 tw15518890992189952088 tw16103063005359151014 tw9056004676402995358 tw16535730873383789643 tw9075716969323761381 tw6964002526398275863 tw1494326338951193869 tw14832158565570269815 tw2155665071460006064 tw5689474176711974253 tw6395860253490209892 tw13241019271195223652 tw4087030181338760336 tw8880790870236336169 tw3024947920277048638 tw5840619943032230983 tw8181325067391165616 tw17132027145186828218 tw6950119976167187472 tw11211298232945737048 tw1552448414075899055 tw7081340268779378997 tw15056333681532848828 tw5917884023386462347 tw5598270814225107575 tw16942878257138166336 tw18096190317326945100 tw10643240363235317482 tw10323841624544742500 tw9543847999712362389 tw950988351990016473 tw12730354871939090569 tw2429396740088549546 tw12990023616672326218 tw10408618016504854006 tw1110576772936081689 tw1543270138819512136 tw13141508536048001011 tw5426143633526277026 tw3898652490047448482 tw14258832997026461596 tw13776458644045986340 tw12413891965481201312 tw4556640215877196991 tw14424914223091972770 tw7233082519941683425 tw8761336866616088837 tw6064993115194684788 tw2928735049633913751 tw5702889734974797721 tw7467386099185260571 tw6537504861475741041 tw12632068199589509210 tw6425747584787178150 tw14447716939044564308 tw7863234929936592864 tw5205628603455878162 tw10463434996983914466 tw16195773931465709047 tw5935425459937486379 tw13766916890253551887 tw17255720520643082116 tw9057454190336357646 tw9377358902040726467 tw12822640578238408000 tw9522750893950150222 tw4846053242842676460 tw4536932127079438579 tw7727318288444118979 tw4556689208918368205 tw15303959371982888434 tw10358278685446153207 tw11878109261242956535 tw18363301662630303000 tw2540470317993682225 tw7590103631691307165 tw3321128945195312075 tw4366477954227049059 tw4507763931506835347 tw13113309124499590986 tw1943922396085821551 tw4143684338481931980 tw1996927820715818636 tw13825318096005053521 tw5105639181891440069 tw5071857732794014885 tw13848386419663328592 tw569367434834449390 tw17453543812551043218 tw15761763995019671373 tw2688803153471226199 tw11055046651590172513 tw7280932757821373223 tw16839877403131552338 tw6452240657729961669 tw15443269551044165239 tw4051586013699735453 tw8392115123996931829 tw8540774720696735314 tw12644810539187789414 tw7517318763085205942 tw15947601476143898747 tw14530972345116582922 tw12801052513416451482 tw2526470517496842769 tw14166031288553698296 tw16880208913302976723 tw13223211649435711657 tw2254269195242165113 tw4190957117100865572 tw8723327381759900635 tw8041713621185544340 tw12965104499155413214 tw8766038350242188199 tw12459451107466905351 tw2533897350845183400 tw10562784529567800307 tw15996255940851193895 tw248389662056309159 tw12275315251171782948 tw12524567286894605405 tw13049488552040859922 tw16346431248022544186 tw13971044927894508804 tw17986144449913582403 tw3074513597178652163 tw1041288731156733701 tw4829539335765751361 tw8223673602962193225 tw10315534671338360602 tw18094936739396403601 tw14686274418706468219 tw17080711190243875273 tw10557823292587569990 tw7312513084746504268 tw14443484999802751500 tw1053040579695417448 tw13657708914646889756 tw6164252305663733203 tw6504938991063678322 tw6881497465658217111 tw13801935699407047191 tw10770448803013271187 tw15157040516680121258 tw6499666938277577746 tw17300579293475908952 tw18379487501647788627 tw14895979215729445485 tw7273122633473407302 tw17878257888383477234 tw16932596374620991695 tw5370024230494938150 tw1557830843951721375 tw888973234897290775 tw16139277382219835935 tw8389897138116398758 tw5706708349187674988 tw14922300259354440739 tw4142218624829732375 tw10312239312072478610 tw13118894592083630006 tw15739980442354110946 tw13142499718611576103:True)
open PySem PySem.W PyProof.Rows
set_option maxRecDepth 100000 in
set_option maxHeartbeats 0 in
theorem PySem.Challenge.cw_jumpfield_k59_whole_two_copies_holds : PySem.Challenge.rw_jumpfield_k59_whole_two_copies.Holds := by
 w_on; o_law; k_head; (case hw=>w_witness2)
 k_fill
 refine J.walk (l:=PySem.Challenge.rw_jumpfield_k59_whole_two_copies) rfl rfl (fun w h Y=>PySem.W.kIn_of Y) ?F
 case F =>
  intro w mg fa h KX G hmg;refine' J.fin KX G hmg ?h0 ?h1 ?h2 ?h3 ?h4 ?h5 ?h6 ?h7 ?h8 ?h9 ?h10 ?h11 ?h12 ?h13 ?h14 ?h15 ?h16 ?h17 ?h18 ?h19 ?h20 ?h21 ?h22 ?h23 ?h24 ?h25 ?h26 ?h27 ?h28 ?h29 ?h30 ?h31 ?h32 ?h33 ?h34 ?h35 ?h36 ?h37 ?h38 ?h39 ?h40 ?h41 ?h42 ?h43 ?h44 ?h45 ?h46 ?h47 ?h48 ?h49 ?h50 ?h51 ?h52 ?h53 ?h54 ?h55 ?h56 ?h57 ?h58 ?h59 ?h60 ?h61 ?h62 ?h63 ?h64 ?h65 ?h66 ?h67 ?h68 ?h69 ?h70 ?h71 ?h72 ?h73 ?h74 ?h75 ?h76 ?h77 ?h78 ?h79 ?h80 ?h81 ?h82 ?h83 ?h84 ?h85 ?h86 ?h87 ?h88 ?h89 ?h90 ?h91 ?h92 ?h93 ?h94 ?h95 ?h96 ?h97 ?h98 ?h99 ?h100 ?h101 ?h102 ?h103 ?h104 ?h105 ?h106 ?h107 ?h108 ?h109 ?h110 ?h111 ?h112 ?h113 ?h114 ?h115 ?h116 ?h117 ?h118 ?h119 ?h120 ?h121 ?h122 ?h123 ?h124 ?h125 ?h126 ?h127 ?h128 ?h129
  (case h0 | h1 | h2 | h3 | h4 | h5=>k_is)
  (case h6 | h7 | h8 | h9 | h10 | h11=>(refine' ⟨?_,?_,?_,?_⟩<;>k_is))
  (case h12 | h13 | h14 | h15 | h16 | h17 | h18 | h19 | h20 | h21 | h22 | h23 | h24 | h25 | h26 | h27 | h28 | h29 | h30=>k_is)
  (case h31 | h32 | h33 | h34 | h35 | h36 | h37 | h38 | h39 | h40 | h41 | h42 | h43 | h44 | h45 | h46 | h47 | h48 | h49 | h50 | h51 | h52 | h53 | h54 | h55 | h56 | h57 | h58 | h59 | h60 | h61 | h62 | h63 | h64 | h65 | h66 | h67 | h68 | h69 | h70 | h71 | h72 | h73 | h74 | h75 | h76=>(apply J.Fg.mk; k_is; apply L2.Sr<;>k_is))
  (case h77 | h78 | h79 | h80 | h81 | h82 | h83 | h84 | h85 | h86 | h87 | h88 | h89 | h90 | h91 | h92 | h93 | h94 | h95 | h96=>(apply J.Fm.mk; (apply L2.Ol.mk<;>k_is); apply L2.Sr<;>k_is))
  (case h97 | h98 | h99 | h100 | h101 | h102=>(apply J.Fi.mk; (apply L2.Mk.mk<;>k_is); apply L2.Sr<;>k_is))
  (case h103 | h104 | h105 | h106 | h107 | h108 | h109 | h110 | h111 | h112 | h113 | h114 | h115 | h116 | h117 | h118=>k_is)
  (case h119=>decide +kernel)
  (case h120=>k_is)
  (case h121=>decide +kernel)
  (case h122=>k_is)
  (case h123=>decide +kernel)
  (case h124 | h125 | h126 | h127=>k_is)
  (case h128=>decide +kernel)
  (case h129=>k_is)
