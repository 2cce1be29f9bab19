import PyProof.Rows.All
import Wide.All
import OpenK.AllK
import Wide.FinOn
import Lean
import PyProof.EqAt
import PyProof.EqKinds
import PyProof.TupleCall
import PyProof.Rows.CatFin
import PyProof.StrLawsIn
import KE.IntTextLaws
import KE.IntTextText
import PyProof.StrLawsTight
import PyProof.StrLawsChain
import PyProof.Rows.StrLawsPart
import PyProof.Rows.StrFirst
import PyProof.Rows.ReprOcc
import PyProof.Rows.StrItems
import PyProof.SumAny
import PyProof.SeqI3
import PyProof.WalkInts
import PyProof.NeKinds
import KE.KDictLaws
import PyProof.DictIter
import PyProof.DictWalks
import PyProof.Rows.DictUnroll
import KE.KSortTup
import KE.KSortKey
import PyProof.Rows.FStr
import PySem.Challenge.RW_jumpfield_k54_the_road
set_option Elab.async false
set_option linter.all false
set_option genSizeOfSpec false
set_option maxRecDepth 100000
set_option maxHeartbeats 8000000
abbrev A_:=List (PySem.Addr×PySem.Obj)
abbrev B_:=PySem.Value->PySem.Shared->Prop
abbrev C_:=PySem.Str->Option PySem.Value
abbrev D_:=Int->Int->Nat
abbrev E_:=PySem.FuncData
abbrev F_:=List PySem.Value
abbrev H_:=List PySem.Addr
abbrev I_:=List Int
abbrev J_:=List Nat
abbrev K_:=List PySem.Str
abbrev L_:=Nat->Nat
abbrev M_:=Array PySem.Value
abbrev N_:=PySem.Program
abbrev O_:=PySem.W.Frag
abbrev P_:=PySem.Shared
abbrev Q_:=PySem.World
abbrev R_:=PySem.Addr
abbrev S_:=PySem.Value
abbrev T_:=PySem.Heap
theorem O_9{α:Sort u}{a:α}{q:Prop}:a=a∨q:=Or.inl rfl
theorem R_9{α:Sort u}{β:Sort v}{γ:Sort w}{f:α->β->γ}:∀a b,f a b=f a b:=λ_ _=>rfl
theorem S_4{p:Prop}(h:p:=by show 4<=PySem.sizeLine;decide):p:=h
theorem S_0{p:Prop}(h:p:=by show 0<=PySem.sizeLine;decide):p:=h
theorem S_1{p:Prop}(h:p:=by show 1<=PySem.sizeLine;decide):p:=h
theorem S_2{p:Prop}(h:p:=by show 2<=PySem.sizeLine;decide):p:=h
theorem S_3{p:Prop}(h:p:=by show 3<=PySem.sizeLine;decide):p:=h
theorem D_9{p:Prop}(h:p:=by intro _ _ _ _ h;rcases h;subst_vars;rfl):p:=h
theorem A0{p:Prop}(h:p:=by lia):p:=h
theorem A1{p:Prop}(h:p:=by decide +kernel):p:=h
theorem A3{p:Prop}(h:p:=by intro z; cases z):p:=h
theorem A4{p:Prop}(h:p:=by decide):p:=h
theorem A6{p:Prop}(h:p:=by simp):p:=h
theorem B0{p:Prop}(h:p:=by intro _ z; cases z):p:=h
theorem B1{p:Prop}(h:p:=by intro _ _ _ z; cases z):p:=h
theorem B2{p:Prop}(h:p:=by show (0:Int) < 3; decide):p:=h
theorem B3{p:Prop}(h:p:=by show (0:Int) < 4; decide):p:=h
theorem B4{p:Prop}(h:p:=by show 0 < 1000; decide):p:=h
theorem B5{p:Prop}(h:p:=by show (0:Int) < 8; decide):p:=h
theorem B6{p:Prop}(h:p:=by show 1 < 1000; decide):p:=h
theorem B7{p:Prop}(h:p:=by show (0:Int) < 2; decide):p:=h
open List renaming length_map->B8,getElem?_eq_some_iff->B9,getElem?_map->C0,mem_cons->C2,map_append->C4,length_append->C5,getElem?_eq_getElem->C6,mem_cons_of_mem->C7,mem_cons_self->C8,mem_singleton->C9,mem_of_getElem?->D0,getD_eq_getElem?_getD->D2,not_mem_nil->D3,length_cons->D7,size_toArray->D8,mem_map->F0,mem_append->F1,mem_range->F5,getElem?_of_mem->F6,map_cons->F7,take_add_one->F9,getElem?_append_right->J6,take_length->J9,length_range->M4,length_take->M5,mem_append_right->M6,map_map->M7,getElem?_append_left->M8,length_replicate->N5,nodup_cons->N6,mem_flatMap->O0,getElem?_range->O1,range_succ->P0,sum_cons->P3,lookup_cons->P8,nodup_nil->Q0,find?_cons->Q5,nodup_append->Q8,replicate_succ->Q9,getElem_mem->R1,all_eq_true->R3,length_singleton->R8,getElem?_eq_none->R9,flatten_cons->S0,append_assoc->S1,nodup_iff_pairwise_ne->S3,any_eq_true->S6,map_eq_nil_iff->S9,length_nil->T0,foldl_cons->T1,findIdx?_eq_some_iff_getElem->T3,any_cons->T7,mem_iff_getElem->T8,mem_append_left->T9,mem_filter->U0,append_nil->U1,length_pos_iff->U2,getElem?_zip_eq_some->V2,findIdx?_eq_none_iff->V3,pairwise_map->V5,getElem?_take_of_lt->V7,mem_reverse->V8,getElem?_replicate->V9,getElem?_cons_succ->W0,countP_cons->W1,pairwise_lt_range->W5,length_zip->W8,filterMap_cons->Y8,map_nil->Z3
open Nat renaming le_refl->C1,le_trans->D1,lt_of_lt_of_le->F2,lt_of_le_of_lt->F3,pow_succ->F4,zero_le->J0,ne_of_lt->J8,pow_le_pow_right->L9,mul_le_mul_left->M0,mod_lt->M9,zero_add->N1,not_lt_zero->N3,div_eq_of_lt->N7,add_mul_div_left->N9,div_add_mod->O2,add_mul_mod_self_left->O4,mod_eq_of_lt->O5,lt_succ_iff_lt_or_eq->O7,lt_irrefl->O8,succ_le_succ->P4,min_le_right->P5,lt_of_not_le->P6,le_of_not_lt->P7,le_succ->S2,le_add_right->S5,pow_zero->T4,lt_succ_self->T6,sub_self->U4,ne_of_gt->U5,mul_comm->U6,lt_trans->U7,le_of_lt->U8,le_of_eq->U9,sub_add_cancel->V0,pow_pos->V4,succ_mul->W2,mul_zero->W3,div_div_eq_div_mul->W4,div_lt_iff_lt_mul->W9,pow_lt_pow_right->Y5,lt_one_iff->Y6,add_le_add_right->Y7,pos_of_ne_zero->Z0,lt_succ_of_lt->Z1,add_comm->Z2
open PySem.Heap renaming get?_push_of_some->C3,get?_push_size->D5,lt_size->D9,get?_none_of_le->O9,get?_update_ne->P1,size_push->Q4,get?_update_other->W6,get?_update_self->Y4
open Bool renaming false_ne_true->D4,false_eq_true->O6,and_eq_true->P9,eq_iff_iff->Q7,and_true->Y9,eq_false_iff->Z4
open Option renaming map_eq_some_iff->D6,toList_some->R5,map_some->W7
open Int renaming eq_ofNat_of_zero_le->F8,toNat_natCast->J3,natCast_pow->L8,natCast_add->N4,emod_lt_of_pos->N8,natCast_mul->O3,add_zero->P2,emod_nonneg->Q6,toNat_of_nonneg->R0,le_refl->R4,add_sub_cancel->R6,mul_assoc->R7,mul_add->S4,pow_succ->S7,zero_add->T5,fdiv_eq_ediv_of_nonneg->V1,one_mul->V6
open Array renaming getElem?_eq_getElem->S8,length_toList->U3
open PySem renaming wpAny_bind->Z5,wpAny_pure->X4,boot_len->K9,wpAny_truthy_bool->A0c,strLen_append->A0f,mem_of_lookup->A0g,wpAny_mono->A1a,wpAny_field->A1b,wpAny_call_entry->A1d,wpAny_seqItems->A1e,wpAny_typeNameOfWhole_keyiter->A2a,wpAny_Call_Name_kw->A2b,wpAny_setField_rec->A2c,wpAny_passesOwn->A2d,wpAny_holding->A2f,wpAny_pyIter_list->A2g,wpAny_newObj_type->A2h,wpAny_attempt->A3c,wpAny_typeNameOf_keyiter->A3e,call_meets->A3f,tupleKind_room_in1->A4e,codeAny_mono->A5a,typeIs_str->A5b,wpAny_execs_nil->A5c,wpAny_setField->A5g,wpAny_updateSeq_pair->A5h,wpAny_standAt->A6b,wpAny_onRaise->A6c
open PySem.PassesOwn renaming never->X5
open Ne renaming symm->X6
open PySem.F renaming plainAttrs_list->X7,slot_list_append->X8,type_list_append->X9,plainAttrs_str->A0e,slot_str_join->A1g,type_str_join->A1h,slot_dict_keyiterator_next->A2e,slot_tuple_iterator_next->A3b,slot_dict_get->A4f,slot_zip_next->A5d,args_str_split_2->A6d
open Option.some renaming inj->K0
open Int.ofNat renaming inj->K1
open Classical renaming byContradiction->K2
open PySem.Paired renaming length->K4,snoc->A1c
open PySem.W renaming mg_of->K7,kia_one->A0d,plainGet_of->A4h,callWith_K->A5e
open PyProof.Rows renaming boot_isinstance->K8,boot_str->A0a,boot_tuple->A0b,callWith_type1->A0h,boot_int->A1f,boot_min->A3g,boot_max->A4g
open PySem.Heap.SameBut renaming update->A4a
open List.Pairwise renaming imp_of_mem->A4c
open PySem.Obj renaming data_mapFields->A4d
abbrev Z6:=@if_neg
abbrev Z7:=@decide_eq_true
abbrev Z8:=@decide_eq_false
abbrev Z9:=@if_pos
abbrev K3:=@of_decide_eq_true
abbrev K5:=@congrArg
abbrev K6:=@or_false
abbrev A3a:=@if_false
abbrev A3d:=@not_false_eq_true
abbrev A3h:=@if_true
abbrev A4b:=@not_or
abbrev A5f:=@beq_iff_eq
abbrev A6a:=@decide_eq_true_eq
open PySem.W (instObj methodObj lookIn plainGet hasDictIn findIn handedIn isFn plainOver takerIn any_some makesIn emptyDict keepIn specialIn takesIn mroIn kitOne kitx_list kitx_dict notCls clsIn)
namespace L2
open PySem PySem.Spec PyProof.Rows
abbrev Key:=Sum Int Str
def QB:Key->Value->Bool
|.inl k,v=>Value.isInt k v
|.inr x,v=>Value.isStrOf x v
def keyH(w:Q_):Key->Int
|.inl k=>hashInt k
|.inr x=>hashStr w x
theorem Ck:∀{k:Key}{v:S_},QB k v=true->(∃i t,k=Sum.inl i/\v=Value.int i t)\/(∃x t,k=Sum.inr x/\v=Value.str x t)
|.inl i,v,h=>by
 obtain⟨t,e⟩:=Value.isInt_shape (k:=i) (v:=v) h;exact .inl ⟨i,t,rfl,e⟩
|.inr x,v,h=>by
 obtain⟨t,e⟩:=Value.isStrOf_shape (x:=x) (v:=v) h;exact .inr ⟨x,t,rfl,e⟩
theorem WZ(i:Int)(t:Tok):QB (.inl i) (.int i t)=true:=by simp[QB,Value.isInt]
theorem WY(x:Str)(t:Tok):QB (.inr x) (.str x t)=true:=by simp[QB,Value.isStrOf]
theorem key_ll(a b:Int):decide ((Sum.inl a:Key)=Sum.inl b)=(a==b):=by
 by_cases e:a=b
 .subst e;simp
 .have h:¬(Sum.inl a:Key)=Sum.inl b:=λq=>e (Sum.inl.inj q);rw[Z8 h];exact(beq_eq_false_iff_ne.mpr e).symm
theorem key_rr(a b:Str):decide ((Sum.inr a:Key)=Sum.inr b)=decide (a=b):=by
 by_cases e:a=b
 .subst e;simp
 .have h:¬(Sum.inr a:Key)=Sum.inr b:=λq=>e (Sum.inr.inj q);rw[Z8 h,Z8 e]
theorem key_lr(a:Int)(b:Str):decide ((Sum.inl a:Key)=Sum.inr b)=false:=Z8 (λq=>nomatch q)
theorem key_rl(a:Str)(b:Int):decide ((Sum.inr a:Key)=Sum.inl b)=false:=Z8 (λq=>nomatch q)
def Cu(prog:N_)(w:Q_):PySem.KeyKind prog w Key where
 is:=QB
 hash:=keyH w
 inj:=λv a b ha hb=>by
  rcases Ck ha with ⟨i,t,rfl,rfl⟩|⟨x,t,rfl,rfl⟩
  .rcases Ck hb with ⟨j,u,rfl,e⟩|⟨y,u,rfl,e⟩
   .injection e with e1 _;rw[e1]
   .exact nomatch e
  .rcases Ck hb with ⟨j,u,rfl,e⟩|⟨y,u,rfl,e⟩
   .exact nomatch e
   .injection e with e1 _;rw[e1]
 byValue:=λk v h=>by
  rcases Ck h with ⟨i,t,rfl,rfl⟩|⟨x,t,rfl,rfl⟩<;>rfl
 pyHash:=λhv h=>by
  rcases Ck hv with ⟨i,t,rfl,rfl⟩|⟨x,t,rfl,rfl⟩
  .exact wpAny_pyHash_int h
  .exact wpAny_pyHash_str h
 eqBool:=λhu hv h=>by
  rcases Ck hu with ⟨i,t,rfl,rfl⟩|⟨x,t,rfl,rfl⟩
  .rcases Ck hv with ⟨j,u,rfl,rfl⟩|⟨y,u,rfl,rfl⟩
   .rw[key_ll]at h;exact wpAny_eqBool_int h
   .rw[key_lr]at h;exact SeqAt.EqAt.int_str i t y u _ _ _ _ h
  .rcases Ck hv with ⟨j,u,rfl,rfl⟩|⟨y,u,rfl,rfl⟩
   .rw[key_rl]at h;exact SeqAt.EqAt.str_int x t j u _ _ _ _ h
   .rw[key_rr]at h;exact wpAny_eqBool_str h
 «strs»:=λk x t v h=>by
  rcases Ck h with ⟨i,u,rfl,e⟩|⟨y,u,rfl,e⟩
  .exact nomatch e
  .injection e with e1 _
   subst e1;cases v<;>rfl
theorem Tu(prog:N_)(w:Q_)(i:Int)(t:Tok):(Cu prog w).is (.inl i) (.int i t)=true:=WZ i t
theorem Tt(prog:N_)(w:Q_)(x:Str)(t:Tok):(Cu prog w).is (.inr x) (.str x t)=true:=WY x t
inductive V where
 |non|bl (b:Bool)|int (i:Int)|str (x:Str)|byt (b:Array UInt8)|flt (b:UInt64)|ref (a:R_)|ty (n:String)
 deriving DecidableEq
def Bj:V->Value->Prop
|.non,u=>u=Value.none
|.bl b,u=>u=Value.bool b
|.int i,u=>∃t,u=Value.int i t
|.str x,u=>∃t,u=Value.str x t
|.byt b,u=>∃t,u=Value.bytes b t
|.flt b,u=>∃t,u=Value.float b t
|.ref a,u=>u=Value.ref a
|.ty n,u=>u=Value.type n
abbrev AR:List V->List Value->Prop:=Paired Bj
theorem AR.length{xs:List V}{us:F_}(r:AR xs us):xs.length=us.length:=K4 r
theorem AR.get:∀{xs:List V}{us:F_}{i:Nat}{x:V},AR xs us->xs[i]?=some x->∃u,us[i]?=some u/\Bj x u
|_,_,_,_,.nil,e=>by simp at e
|_,_,0,_,.cons r _,e=>by simp at e;subst e;exact⟨_,rfl,r⟩
|_,_,i+1,x,.cons _ t,e=>by
 obtain⟨u,a,b⟩:=AR.get (i:=i) (x:=x) t (by simpa using e);exact⟨u,by simpa using a,b⟩
theorem AR.set{x:V}{u:S_}(r:Bj x u):∀{xs:List V}{us:F_}(i:Nat),AR xs us->AR (xs.set i x) (us.set i u)
|_,_,_,.nil=>.nil
|_,_,0,.cons _ t=>.cons r t
|_,_,i+1,.cons q t=>.cons q (AR.set r i t)
theorem AR.append:∀{xs ys:List V}{us a:F_},AR xs us->AR ys a->AR (xs++ys) (us++a)
|_,_,_,_,.nil,s=>s
|_,_,_,_,.cons r t,s=>.cons r (AR.append t s)
theorem AR.take:∀{xs:List V}{us:F_}(n:Nat),AR xs us->AR (xs.take n) (us.take n)
|_,_,0,_=>.nil
|_,_,_+1,.nil=>.nil
|_,_,n+1,.cons r t=>.cons r (AR.take n t)
theorem AR.drop:∀{xs:List V}{us:F_}(n:Nat),AR xs us->AR (xs.drop n) (us.drop n)
|_,_,0,r=>r
|_,_,_+1,.nil=>.nil
|_,_,n+1,.cons _ t=>AR.drop n t
theorem AR.none_of:∀{xs:List V}{us:F_}{i:Nat},AR xs us->xs[i]?=none->us[i]?=none:=λ{xs us i} r e=>by
 have a:=r.length;have b:xs.length<=i:=List.getElem?_eq_none_iff.mp e;exact List.getElem?_eq_none_iff.mpr A0
def Js:Option V->Option Value->Prop
|some v,some u=>Bj v u
|none,none=>True
|_,_=>False
def KV{κ:Type}:List (κ×V)->List (κ×Value)->Prop:=Paired λ(p:κ×V)(q:κ×Value)=>p.1=q.1/\Bj p.2 q.2
def kV:Key->V
|.inl i=>.int i
|.inr x=>.str x
inductive HO where
|lst (xs:List V)
|tup (xs:List V)
|dK (kvs:List (Key×V))|dT (kvs:List (List Key×V))
|set (S:Int->Bool) (n:Nat)
|ins (C dx:R_) (fs:List (Str×V))
|own (x:R_)
|xd (fs:List (Str×V))
|met (f x:R_)
|rng (lo hi:Int)
|frz (o:Obj) (u:HO)
|tbl (ps:M_)
|ext (φ:Heap->Prop)
abbrev Hp:=Addr->Option HO
def upd(H:Hp)(a:R_)(o:HO):Hp:=λb=>if b=a then some o else H b
theorem Ag{H:Hp}{a:R_}{o:HO}:upd H a o a=some o:=by unfold upd;rw[Z9 rfl]
theorem Av{H:Hp}{a b:R_}{o:HO}(h:b≠a):upd H a o b=H b:=by unfold upd;rw[Z6 h]
theorem Go{H:Hp}{a:R_}{o u:HO}:upd (upd H a o) a u=upd H a u:=by
 funext b;unfold upd;split<;>rfl
theorem AG{H:Hp}{a b:R_}{o u:HO}(h:H a=some o)(h':H b=some u)(d:o≠u):a≠b:=by
 intro e;subst e;rw[h]at h';exact d (K0 h')
theorem Aw{H:Hp}{a b:R_}{o:HO}(h:H a=some o)(h':H b=none):a≠b:=by
 intro e;subst e;rw[h]at h';cases h'
section
variable(P:N_)(w:Q_)
def BI(H:Hp)(h:T_)(a:R_):HO->Prop
|.lst xs=>xs.length<=sizeLine/\∃(its:F_)(n:Nat),AR xs its/\h.get? a=some {cls:=.type "list",data:=.seq its.toArray n}
|.tup xs=>xs.length<=sizeLine/\∃its:List Value,AR xs its/\IsTup h a its.toArray
|.dK kvs=>kvs.length<=sizeLine/\(a==sysModules)=false/\∃vs,KV kvs vs/\h.DictOf (Cu P w) a vs
|.dT kvs=>kvs.length<=sizeLine/\(a==sysModules)=false/\∃xs:List (List Key×Addr×Value),
  Paired (λ(p:List Key×V)(q:List Key×Addr×Value)=>p.1=q.1/\H q.2.1=some (.tup (p.1.map kV))/\Bj p.2 q.2.2) kvs xs /\
  ∃o es ep,h.get? a=some o/\o.ExactDict/\o.data=.dict es ep/\es.toList=xs.map (entryOfKey (tupleKind (Cu P w)))/\(xs.map (·.1)).Nodup
|.set S n=>h.SetOf (intKind P w) a S n
|.ins C dx fs=>H dx=some (.own a)/\fs.length<=1000/\dx≠a/\h.get? a=some (instObj C dx) /\
  ∃mA,h.Ns1 dx mA/\(∀f,Js (fs.lookup f) (mA f))/\PySem.Within mA (fs.map (·.1))
|.own _=>∃o,h.get? a=some o
|.xd fs=>∃mA,h.Ns1 a mA/\∀f,Js (fs.lookup f) (mA f)
|.rng lo hi=>∃t u v,h.get? a=some {cls:=.type "range",data:=.fields #[.int lo t,.int hi u,.int 1 v]}
|.frz o u=>h.get? a=some o/\BI H h a u
|.tbl ps=>h.get? a=some {cls:=.none,data:=.fields ps}
|.met f x=>h.get? a=some (methodObj (.ref f) (.ref x))
|.ext φ=>φ h/\(∃o,h.get? a=some o)/\∀h1 h2:Heap,φ h1->(∀o,h1.get? a=some o->h2.get? a=some o)->φ h2
def HOk(H:Hp)(h:T_):Prop:=∀a o,H a=some o->BI P w H h a o
end
section
variable{P:N_}{w:Q_}{H H':Hp}{h h':T_}{a:R_}{o:HO}
theorem BI.lt(x:BI P w H h a o):a<h.objs.size:=by
 cases o with
 |lst xs=>obtain⟨_,_,_,_,e⟩:=x;exact D9 e
 |tup xs=>obtain⟨_,_,_,p⟩:=x;exact p.lt
 |dK kvs=>obtain⟨_,_,_,_,o,_,_,e,_⟩:=x;exact D9 e
 |dT kvs=>obtain⟨_,_,_,_,o,_,_,e,_⟩:=x;exact D9 e
 |set S n=>obtain⟨o,_,_,_,e,_⟩:=x;exact D9 e
 |ins C b fs=>obtain⟨_,_,_,e,_⟩:=x;exact D9 e
 |own y=>obtain⟨_,e⟩:=x;exact D9 e
 |xd fs=>obtain⟨_,⟨_,_,_,e,_⟩,_⟩:=x;exact D9 e
 |rng lo c=>obtain⟨_,_,_,e⟩:=x;exact D9 e
 |frz d u=>obtain⟨e,_⟩:=x;exact D9 e
 |tbl g=>exact D9 (show h.get? a=some _ from x)
 |met f y=>exact D9 (show h.get? a=some _ from x)
 |ext φ=>obtain⟨_,⟨_,e⟩,_⟩:=x;exact D9 e
theorem Paired.mapP{α β:Type}{F G:α->β->Prop}:∀{c:List α}{d:List β},Paired F c d->(∀a b,F a b->G a b)->Paired G c d
|_,_,.nil,_=>.nil
|_,_,.cons r t,f=>.cons (f _ _ r) (Paired.mapP t f)
theorem BI.stay(x:BI P w H h a o)(k:∀b u,(b=a\/H b=some (.own a))->h.get? b=some u->h'.get? b=some u)
  (E:∀b,H b=some (.own a)->H' b=some (.own a)) (F:∀b xs,H b=some (.tup xs)->H' b=some (.tup xs)):BI P w H' h' a o:=by
 induction o with
 |lst xs=>obtain⟨z,l,n,r,e⟩:=x;exact⟨z,l,n,r,k _ _ (.inl rfl) e⟩
 |tup xs=>obtain⟨z,l,r,g,e,c⟩:=x;exact⟨z,l,r,g,k _ _ (.inl rfl) e,c⟩
 |dK kvs=>obtain⟨z,y,vs,r,g,j,i,e,c⟩:=x;exact⟨z,y,vs,r,g,j,i,k _ _ (.inl rfl) e,c⟩
 |dT kvs =>
  obtain⟨z,y,xs,r,g,j,i,e,c⟩:=x;exact⟨z,y,xs,Paired.mapP r λp q z=>⟨z.1,F _ _ z.2.1,z.2.2⟩,g,j,i,k _ _ (.inl rfl) e,c⟩
 |set S n=>obtain⟨g,j,i,t,e,c⟩:=x;exact⟨g,j,i,t,k _ _ (.inl rfl) e,c⟩
 |ins C K fs =>
  obtain⟨d,z,I,e,m,⟨s,j,i,D,c⟩,r⟩:=x;exact⟨E _ d,z,I,k _ _ (.inl rfl) e,m,⟨s,j,i,k _ _ (.inr d) D,c⟩,r⟩
 |own y=>obtain⟨g,e⟩:=x;exact⟨g,k _ _ (.inl rfl) e⟩
 |xd fs=>obtain⟨m,⟨s,j,i,e,c⟩,r⟩:=x;exact⟨m,⟨s,j,i,k _ _ (.inl rfl) e,c⟩,r⟩
 |rng lo L=>obtain⟨t,u,v,e⟩:=x;exact⟨t,u,v,k _ _ (.inl rfl) e⟩
 |frz g u G=>obtain⟨e,q⟩:=x;exact⟨k _ _ (.inl rfl) e,G q⟩
 |tbl A =>
  have e:h.get? a=some {cls:=.none,data:=.fields A}:=x;show h'.get? a=some {cls:=.none,data:=.fields A};exact k a _ (.inl rfl) e
 |met f y =>
  have e:h.get? a=some (methodObj (.ref f) (.ref y)):=x;show h'.get? a=some (methodObj (.ref f) (.ref y));exact k a _ (.inl rfl) e
 |ext φ=>obtain⟨p,⟨o,e⟩,B⟩:=x;exact⟨B _ _ p λo q=>k _ _ (.inl rfl) q,⟨o,k _ _ (.inl rfl) e⟩,B⟩
theorem HOk.lt(x:HOk P w H h)(e:H a=some o):a<h.objs.size:=(x a o e).lt
theorem HOk.fresh(x:HOk P w H h)(e:h.objs.size<=a):H a=none:=by
 cases q:H a with
 |none=>rfl
 |some u=>exact absurd (F2 (x.lt q) e) (O8 _)
theorem HOk.kept(x:HOk P w H h)(k:∀b u,h.get? b=some u->h'.get? b=some u):HOk P w H h':=λa o e =>
 (x a o e).stay (λb u _ q=>k b u q) (λ_ q=>q) λ_ _ q=>q
theorem HOk.laid(x:HOk P w H h)(k:∀b u,h.get? b=some u->h'.get? b=some u)(g:h.objs.size<=a)(new:BI P w (upd H a o) h' a o):HOk P w (upd H a o) h':=λb u e=>by
 have f:=x.fresh g;by_cases d:b=a
 .subst d;rw[Ag]at e;cases e;exact new
 .rw[Av d]at e;exact(x b u e).stay (λc v _ q=>k c v q) (λc q=>by rw[Av (Aw q f)];exact q) λc xs q=>by rw[Av (Aw q f)];exact q
end
def Rd(H:Hp)(a:R_)(u:HO):Prop:=H a=some u\/∃o,H a=some (.frz o u)
theorem Rd.ok{P:N_}{w:Q_}{H:Hp}{h:T_}{a:R_}{u:HO}(r:Rd H a u)(x:HOk P w H h):BI P w H h a u:=by
 rcases r with r|⟨o,r⟩
 .exact x a u r
 .obtain⟨_,q⟩:=x a _ r;exact q
def Mut:Option HO->Prop
|some (.lst _)=>True
|some (.dK _)=>True
|some (.dT _)=>True
|some (.set _ _)=>True
|some (.ins _ _ _)=>True
|some (.ext _)=>True
|_=>False
section
variable{P:N_}{w:Q_}{H:Hp}{h h':T_}{x e:R_}{o':HO}
theorem HOk.write(ok:HOk P w H h)(j:Mut (H x))(m:e=x\/H e=some (.own x))(k:∀b u,b≠e->h.get? b=some u->h'.get? b=some u)(l:∃u,h'.get? e=some u)
  (new:BI P w (upd H x o') h' x o'):HOk P w (upd H x o') h':=λb u q=>by
 have d:∀c y,H c=some (.own y)->c≠x:=λc y r z=>by subst z;rw[r]at j;exact j
 have f:∀c xs,H c=some (.tup xs)->c≠x:=λc xs r z=>by subst z;rw[r]at j;exact j
 by_cases g:b=x
 .subst g;rw[Ag]at q;cases q;exact new
 .rw[Av g]at q;by_cases a:b=e
  .have n:H b=some (.own x):=by
    rcases m with z|z
    .exact absurd (a.trans z) g
    .rw[a];exact z
   rw[q]at n;cases n;obtain⟨v,o⟩:=l;exact⟨v,by rw[a];exact o⟩
  .refine(ok b u q).stay (λc v i r=>k c v ?_ r) (λc r=>by rw[Av (d c b r)];exact r) λc xs r=>by rw[Av (f c xs r)];exact r
   rcases i with rfl|i
   .exact a
   .rintro rfl;rcases m with z|z
    .exact d c b i z
    .rw[i]at z;cases z;exact g rfl
end
structure Un(fs ex:H_)(H H':Hp)(h h':T_):Prop where
keep:∀b o,h.get? b=some o->H b=none->b∉fs->b∉ex->h'.get? b=some o
slot:∀b o,h.get? b=some o->H b=none->b∈fs->b∉ex->∃sl,h'.get? b=some {o with slots:=sl}
free:∀b o,h.get? b=some o->H b=none->b∉ex->H' b=none
there:∀b o,h.get? b=some o->b∉ex->∃o',h'.get? b=some o'
tups:∀b xs,H b=some (.tup xs)->H' b=some (.tup xs)
frzs:∀b o u,H b=some (.frz o u)->H' b=some (.frz o u)
tbls:∀b ps,H b=some (.tbl ps)->∃more,H' b=some (.tbl (ps++more))
section
variable{fs fs' ex ex':H_}{H H1 H2:Hp}{h h1 h2 h':T_}{a x e:R_}{o:HO}
theorem Un.any(u:Un fs ex H H1 h h1){b:R_}{c:Obj}(q:h.get? b=some c)(n:H b=none)(f:b∉ex):∃g,h1.get? b=some {c with slots:=g}:=by
 by_cases d:b∈fs
 .exact u.slot b c q n d f
 .exact⟨c.slots,u.keep b c q n d f⟩
theorem Un.kept(k:∀b u,h.get? b=some u->h'.get? b=some u):Un fs ex H H h h' :=
 ⟨λb c q _ _ _=>k b c q,λb c q _ _ _=>⟨c.slots,k b c q⟩,λ_ _ _ n _=>n,λb c q _=>⟨c,k b c q⟩,λ_ _ q=>q,λ_ _ _ q=>q,λ_ d q=>⟨#[],by rw[q];simp⟩⟩
theorem Un.refl:Un fs ex H H h h:=Un.kept λ_ _ q=>q
theorem Un.laid(k:∀b u,h.get? b=some u->h'.get? b=some u)(d:h.objs.size<=a)(c:H a=none):Un fs ex H (upd H a o) h h' where
 keep:=λb u q _ _ _=>k b u q
 slot:=λb u q _ _ _=>⟨u.slots,k b u q⟩
 free:=λb u q n _=>by rw[Av (J8 (F2 (D9 q) d))];exact n
 there:=λb u q _=>⟨u,k b u q⟩
 tups:=λb xs q=>by rw[Av (Aw q c)];exact q
 frzs:=λb u xs q=>by rw[Av (Aw q c)];exact q
 tbls:=λb f q=>⟨#[],by rw[Av (Aw q c),q];simp⟩
theorem Un.write(d:Mut (H x))(l:e=x\/H e=some (.own x))(k:∀b u,b≠e->h.get? b=some u->h'.get? b=some u)(f:∃u,h'.get? e=some u):Un fs ex H (upd H x o) h h':=by
 have j:∀b,H b=none->b≠x:=λb n z=>by subst z;rw[n]at d;exact d
 have i:∀b,H b=none->b≠e:=λb n z=>by
  subst z;rcases l with r|r
  .exact j b n r
  .rw[n]at r;cases r
 have g:∀b u,H b=some u->¬Mut (some u)->b≠x:=λb u q nm z=>by subst z;rw[q]at d;exact nm d
 refine⟨λb u q n _ _=>k b u (i b n) q,λb u q n _ _=>⟨u.slots,k b u (i b n) q⟩,λb u q n _=>by rw[Av (j b n)];exact n,λb u q _=>?_,
  λb xs q=>by rw[Av (g b _ q λz=>z)];exact q,λb u xs q=>by rw[Av (g b _ q λz=>z)];exact q,λb m q=>⟨#[],by rw[Av (g b _ q λz=>z),q];simp⟩⟩
 by_cases c:b=e
 .subst c;exact f
 .exact⟨u,k b u c q⟩
end
def trk(h:T_)(H:Hp):List Addr:=(List.range h.objs.size).filter λa=>(H a).isSome
def RZ(h:T_)(H:Hp):Heap:=W.hideAll h (trk h H)
theorem Yc(h:T_)(H:Hp):(RZ h H).objs.size=h.objs.size:=W.hideAll_size _ _
theorem hidT_get{h:T_}{H:Hp}{b:R_}{o:Obj}(e:h.get? b=some o)(n:H b=none):(RZ h H).get? b=some o :=
 W.hideAll_get _ e λa=>by
  have q:(H b).isSome=true:=(U0.mp a).2;rw[n]at q;simp at q
theorem of_hidT{h:T_}{H:Hp}{b:R_}{o:Obj}(e:(RZ h H).get? b=some o):h.get? b=some o/\H b=none:=by
 have a:h.get? b=some o:=W.of_hideAll (trk h H) e;refine⟨a,?_⟩;cases q:H b with
 |none=>rfl
 |some x =>
  have c:b∈trk h H:=U0.mpr ⟨F5.mpr (D9 a),by simp[q]⟩;have z:(RZ h H).get? b=none:=W.hideAll_none (trk h H) c;rw[z]at e;cases e
structure Mod(K:O_)(mg:C_)(base:T_):Prop where
kin:K.In base
glob:base.Ns mainGlobals mg
blt:∃mb,base.Ns builtinsNs mb/\∀x:Str,x≠"__name__" -> mb x=bootBuiltins x
nolimit:base.NoLimit
structure Cx where
prog:Program
w:World
K:W.Frag
mg:Str->Option Value
base:Heap
A:Around
N:List Str
s₀:Shared
H₀:Hp
env:Env
outer:List Env
stack:List Env
ex:List Addr
fn:Str->Bool
calm:Bool
pn:List (Addr×Obj)
xe:Value->Shared->Prop
def frs(l:List Env):List Addr:=l.filterMap (·.frame)
abbrev Cx.fs(X:Cx):List Addr:=frs X.outer
def Vis(sc:Scope)(x:Str):Prop:=sc.names.lookup x=some .local\/sc.names.lookup x=some .cell\/sc.names.lookup x=some .free
def Loc(sc:Scope)(x:Str):Prop:=sc.names.lookup x=some .local\/sc.names.lookup x=some .cell
def Look(env:Env)(h:T_)(m:C_)(x:Str)(u:S_):Prop :=
 (env.kindOf x=some .local/\m x=some u)\/((env.kindOf x=some .cell\/env.kindOf x=some .free)/\∃c,env.cells.lookup x=some c/\h.IsCell c (some u))
structure Cx.Ok(X:Cx):Prop where
mod:Mod X.K X.mg X.base
kind:X.env.scope.kind=.function
glob:X.env.globals=mainGlobals
blt:X.env.builtins=builtinsNs
above:X.s₀.heap.objs.size<=X.env.locals
inj:∀x y c,X.env.cells.lookup x=some c->X.env.cells.lookup y=some c->x=y
has:∀x,(X.env.kindOf x=some .cell\/X.env.kindOf x=some .free)->∃c,X.env.cells.lookup x=some c
cab:∀x c,X.fn x=true->X.env.cells.lookup x=some c->X.s₀.heap.objs.size<=c
hd:X.calm=true->X.A.handled=none
frames:X.A.frames=some X.stack
stk:X.stack=X.outer\/(X.stack=X.env::X.outer/\X.env.frame=some X.env.locals)
exf:∀b∈X.ex,b≠X.env.locals/\∀x c,X.env.cells.lookup x=some c->c≠b
bs:∀b o,X.base.get? b=some o->X.s₀.heap.get? b=some o/\X.H₀ b=none
bsz:X.base.objs.size<=X.s₀.heap.objs.size
noex:∀b o,X.base.get? b=some o->b∉X.ex
exfs:∀b∈X.ex,b∉X.fs
funs:X.s₀.heap.FunFrames X.base X.outer
frf:∀b∈X.fs,X.H₀ b=none
structure Inv(X:Cx)(pins:A_)(σ:List (Option V))(H:Hp)(s:P_):Prop where
ok:X.Ok
os:s.os=X.s₀.os
bare:AllBare s.gens
base:Un X.fs X.ex X.H₀ H X.s₀.heap s.heap
loc:∃m,s.heap.Ns X.env.locals m/\∀(i:Nat)(x:Str)(v:V),X.N[i]?=some x->σ[i]?=some (some v)->Vis X.env.scope x->∃u,Bj v u/\Look X.env s.heap m x u
cell:∀x c,X.env.cells.lookup x=some c->∃v,s.heap.IsCell c v
free:H X.env.locals=none
freeC:∀x c,X.env.cells.lookup x=some c->H c=none
pin:∀p∈X.pn++pins,s.heap.get? p.1=some p.2/\H p.1=none/\p.1≠X.env.locals/\p.1∉X.fs/\∀v,p.2.data≠.cell v
hok:HOk X.prog X.w H s.heap
len:σ.length=X.N.length
section
variable{X:Cx}{pins:A_}{σ:List (Option V)}{H H':Hp}{s:P_}{h':T_}
theorem Cx.Ok.nofr(ok:X.Ok){b:R_}{o:Obj}(e:X.base.get? b=some o):b∉X.fs:=λa=>by
 have:=(ok.funs.mem a).1;rw[e]at this;cases this
theorem Inv.bs(I:Inv X pins σ H s):∀b o,X.base.get? b=some o->s.heap.get? b=some o/\H b=none:=λb o e =>
 ⟨I.base.keep b o (I.ok.bs b o e).1 (I.ok.bs b o e).2 (I.ok.nofr e) (I.ok.noex b o e),I.base.free b o (I.ok.bs b o e).1 (I.ok.bs b o e).2 (I.ok.noex b o e)⟩
theorem Inv.bk(I:Inv X pins σ H s):∀b o,X.base.get? b=some o->s.heap.get? b=some o:=λb o e=>(I.bs b o e).1
theorem Inv.mod(I:Inv X pins σ H s):Mod X.K X.mg X.base:=I.ok.mod
theorem Inv.kIn(I:Inv X pins σ H s):X.K.In s.heap:=I.ok.mod.kin.keeps I.bk
theorem Inv.lt(I:Inv X pins σ H s):X.env.locals<s.heap.objs.size:=let ⟨_,hn,_⟩:=I.loc;hn.lt
theorem Inv.sz(I:Inv X pins σ H s):X.s₀.heap.objs.size<=s.heap.objs.size:=D1 I.ok.above (U8 I.lt)
theorem Inv.nofs(I:Inv X pins σ H s){a:R_}(h:s.heap.objs.size<=a):a∉X.fs:=λb=>by
 obtain⟨_,o,c,_⟩:=I.ok.funs.mem b;exact absurd (F2 (D9 c) (D1 I.sz h)) (O8 _)
theorem Inv.cne(I:Inv X pins σ H s):∀x c,X.env.cells.lookup x=some c->c≠X.env.locals:=λx c e z=>by
 obtain⟨v,o,f,d⟩:=I.cell x c e;obtain⟨m,⟨i,h,g,b,a,_⟩,_⟩:=I.loc;rw[z,b]at f;cases f;rw[a]at d;cases d
theorem Inv.funs (I:Inv X pins σ H s):s.heap.FunFrames X.base X.outer:=by
 have all:∀(l:List Env),(∀b∈frs l,b∈X.fs)->X.s₀.heap.FunFrames X.base l->s.heap.FunFrames X.base l:=by
  intro l;induction l with
  |nil=>intro _ _;trivial
  |cons g r p =>
   intro f j;obtain⟨i,⟨L,o,d,k,m,h⟩,n⟩:=j;have a:L∈X.fs:=f L (by unfold frs;rw[Y8,d];exact C8);obtain⟨q,e⟩:=I.base.slot L o m (I.ok.frf L a) a λz=>I.ok.exfs L z a;exact⟨i,⟨L,_,d,k,e,h⟩,p (λb c=>f b (by unfold frs;rw[Y8,d];exact C7 _ c)) n⟩
 exact all X.outer (λ_ c=>c) I.ok.funs
theorem Inv.stack(I:Inv X pins σ H s):s.heap.FunFrames X.base X.stack:=by
 rcases I.ok.stk with e|⟨e,a⟩
 .rw[e];exact I.funs
 .rw[e];obtain⟨m,b,_⟩:=I.loc;refine .cons (by rw[I.ok.kind];decide) a b ?_ I.funs;exact O9 (D1 I.ok.bsz I.ok.above)
theorem Inv.stkSub(I:Inv X pins σ H s):∀b∈frs X.stack,b∈X.env.locals::X.fs:=λb a=>by
 rcases I.ok.stk with e|⟨e,c⟩
 .rw[e]at a;exact C7 _ a
 .rw[e]at a;unfold frs at a;rw[Y8,c]at a;exact a
theorem Inv.stkFree(I:Inv X pins σ H s):∀b∈frs X.stack,H b=none:=λb a=>by
 rcases C2.mp (I.stkSub b a)with e|a
 .rw[e];exact I.free
 .obtain⟨_,o,c,_⟩:=I.ok.funs.mem a;exact I.base.free b o c (I.ok.frf b a) λz=>I.ok.exfs b z a
theorem Inv.step{g':Array GenState}{t':Nat}{d':Drawn}{ch:H_}(I:Inv X pins σ H s)
  (h:∀b∈ch,(b∈X.ex\/X.s₀.heap.objs.size<=b)/\b≠X.env.locals/\(∀x c,X.env.cells.lookup x=some c->c≠b)/\∀p∈X.pn++pins,p.1≠b)
  (keep:∀b o,b≠X.env.locals->b∉X.fs->b∉ch->s.heap.get? b=some o->H b=none->h'.get? b=some o)
  (t:∀b o,b≠X.env.locals->b∈X.fs->b∉ch->s.heap.get? b=some o->H b=none->∃Q,h'.get? b=some {o with slots:=Q}) (a:∀b o,b∉ch->s.heap.get? b=some o->H b=none->H' b=none)
  (there:∀b o,b∉ch->s.heap.get? b=some o->∃M,h'.get? b=some M)
  (D:∀b xs,H b=some (.tup xs)->H' b=some (.tup xs)) (B:∀b o u,H b=some (.frz o u)->H' b=some (.frz o u)) (C:∀b N,H b=some (.tbl N)->∃K,H' b=some (.tbl (N++K)))
  (ns:∀m,s.heap.Ns X.env.locals m->h'.Ns X.env.locals m) (P:HOk X.prog X.w H' h') (Y:AllBare g') :
  Inv X pins σ H' {s with heap:=h',gens:=g',drawn:=d',toks:=t'}:=by
 have L:∀b o,X.s₀.heap.get? b=some o->b≠X.env.locals:=λb o e=>J8 (F2 (D9 e) I.ok.above);have A:∀b o,X.s₀.heap.get? b=some o->b∉X.ex->b∉ch:=λb o e f E=>by
  rcases(h b E).1 with z|z
  .exact f z
  .exact absurd (F2 (D9 e) z) (O8 _)
 have g:∀x c,X.env.cells.lookup x=some c->∀v,s.heap.IsCell c v->h'.IsCell c v:=λx c e v ⟨o,F,O⟩=>by
  have j:c∉ch:=λz=>(h c z).2.2.1 x c e rfl;by_cases S:c∈X.fs
  .obtain⟨Q,q⟩:=t c o (I.cne x c e) S j F (I.freeC x c e);exact⟨_,q,O⟩
  .exact⟨o,keep c o (I.cne x c e) S j F (I.freeC x c e),O⟩
 refine⟨I.ok,I.os,Y,⟨λb o e n E f=>?_,λb o e n E f=>?_,λb o e n f=>?_,λb o e f=>?_,λb xs e=>D b xs (I.base.tups b xs e),λb o xs e=>B b o xs (I.base.frzs b o xs e),λb N e=>?_⟩,?_,λx c e=>?_,?_,λx c e=>?_,λp T=>?_,P,I.len⟩
 .exact keep b o (L b o e) E (A b o e f) (I.base.keep b o e n E f) (I.base.free b o e n f)
 .obtain⟨Q,y⟩:=I.base.slot b o e n E f;obtain⟨R,G⟩:=t b _ (L b o e) E (A b o e f) y (I.base.free b o e n f);exact⟨R,G⟩
 .obtain⟨M,y⟩:=I.base.there b o e f;exact a b M (A b o e f) y (I.base.free b o e n f)
 .obtain⟨M,y⟩:=I.base.there b o e f;exact there b M (A b o e f) y
 .obtain⟨m1,y⟩:=I.base.tbls b N e;obtain⟨m2,G⟩:=C b _ y;exact⟨m1++m2,by rw[G,Array.append_assoc]⟩
 .obtain⟨m,hn,Z⟩:=I.loc;refine⟨m,ns m hn,λi x v y G W=>?_⟩;obtain⟨u,r,l⟩:=Z i x v y G W;refine⟨u,r,?_⟩;rcases l with l|⟨k,c,e,z⟩
  .exact .inl l
  .exact .inr ⟨k,c,e,g x c e _ z⟩
 .obtain⟨v,z⟩:=I.cell x c e;exact⟨v,g x c e v z⟩
 .obtain⟨m,⟨o,_,_,F,_⟩,_⟩:=I.loc;exact a _ o (λz=>(h _ z).2.1 rfl) F I.free
 .obtain⟨v,o,F,O⟩:=I.cell x c e;exact a c o (λz=>(h c z).2.2.1 x c e rfl) F (I.freeC x c e)
 .obtain⟨e,n,U,V,d⟩:=I.pin p T;have j:p.1∉ch:=λz=>(h p.1 z).2.2.2 p T rfl;exact⟨keep p.1 p.2 U V j e n,a p.1 p.2 j e n,U,V,d⟩
theorem Inv.un{t':Nat}(I:Inv X pins σ H s)(u:Un X.fs [] H H' s.heap h')(g:HOk X.prog X.w H' h'):Inv X pins σ H' {s with heap:=h',toks:=t'}:=by
 obtain⟨m,⟨o,p,l,h,r⟩,_⟩:=id I.loc;obtain⟨v,i⟩:=u.any h I.free A6;exact I.step (g':=s.gens) (d':=s.drawn) (ch:=[]) (λ_ z=>nomatch z) (λb o _ f _ e n=>u.keep b o e n f A6) (λb o _ f _ e n=>u.slot b o e n f A6) (λb o _ e n=>u.free b o e n A6) (λb o _ e=>u.there b o e A6) u.tups u.frzs u.tbls (λq j=>by
  obtain⟨t,d,c,a,k⟩:=j;rw[h]at a;cases a;exact⟨_,d,c,i,k⟩) g I.bare
theorem Inv.call{g':Array GenState}{t':Nat}{d':Drawn}{ch:H_}(I:Inv X pins σ H s)(u:Un (frs X.stack) ch H H' s.heap h')(j:HOk X.prog X.w H' h')(q:AllBare g')
  (d:∀b∈ch,(b∈X.ex\/X.s₀.heap.objs.size<=b)/\b≠X.env.locals/\(∀x c,X.env.cells.lookup x=some c->c≠b)/\∀p∈X.pn++pins,p.1≠b) :
  Inv X pins σ H' {s with heap:=h',gens:=g',drawn:=d',toks:=t'}:=by
 obtain⟨m,⟨o,A,y,k,r⟩,_⟩:=id I.loc;obtain⟨D,i⟩:=u.any k I.free λz=>(d _ z).2.1 rfl;exact I.step (ch:=ch) d (λb o i l a e n=>u.keep b o e n (λz=>(C2.mp (I.stkSub b z)).elim i l) a) (λb o _ _ a e n=>u.any e n a) (λb o a e n=>u.free b o e n a) (λb o a e=>u.there b o e a) u.tups u.frzs u.tbls (λB t=>by
  obtain⟨C,h,g,f,v⟩:=t;rw[k]at f;cases f;exact⟨_,h,g,i,v⟩) j q
theorem Inv.turned{t':Nat}{it:R_}(I:Inv X pins σ H s)(k:∀b o,b≠it->s.heap.get? b=some o->h'.get? b=some o)(y:H it=none)(f:it≠X.env.locals)
  (i:it∈X.ex\/X.s₀.heap.objs.size<=it) (j:∀x c,X.env.cells.lookup x=some c->c≠it) (l:∀p∈X.pn++pins,p.1≠it):Inv X pins σ H {s with heap:=h',toks:=t'}:=by
 have d:∀b u,H b=some u->b≠it:=λb u e z=>by rw[z,y]at e;cases e
 refine I.step (g':=s.gens) (d':=s.drawn) (ch:=[it]) (λb t=>?_) (λb o _ _ a e _=>k b o (λz=>a (by simp[z])) e) (λb o _ _ a e _=>⟨o.slots,k b o (λz=>a (by simp[z])) e⟩) (λ_ _ _ _ n=>n)
  (λb o a e=>⟨o,k b o (λz=>a (by simp[z])) e⟩) (λ_ _ e=>e) (λ_ _ _ e=>e) (λb B e=>⟨#[],by rw[e];simp⟩) (λm w=>?_) (λb u e=>?_) I.bare
 .have e:b=it:=by simpa using t
  subst e;exact⟨i,f,j,l⟩
 .obtain⟨o,h,g,A,r⟩:=w;exact⟨o,h,g,k _ o (X6 f) A,r⟩
 .refine(I.hok b u e).stay (λc v a q=>k c v ?_ q) (λ_ q=>q) λ_ _ q=>q;rcases a with z|z
  .rw[z];exact d b u e
  .exact d c _ z
theorem Inv.tok(I:Inv X pins σ H s)(t:Nat):Inv X pins σ H {s with toks:=t}:=I.un (h':=s.heap) (t':=t) Un.refl I.hok
theorem Inv.kept{t':Nat}(I:Inv X pins σ H s)(k:∀b u,s.heap.get? b=some u->h'.get? b=some u):Inv X pins σ H {s with heap:=h',toks:=t'}:=I.un (Un.kept k) (I.hok.kept k)
theorem Inv.laid{a:R_}{o:HO}{t':Nat}(I:Inv X pins σ H s)(k:∀b u,s.heap.get? b=some u->h'.get? b=some u)(c:s.heap.objs.size<=a)(new:BI X.prog X.w (upd H a o) h' a o) :
 Inv X pins σ (upd H a o) {s with heap:=h',toks:=t'}:=I.un (Un.laid k c (I.hok.fresh c)) (I.hok.laid k c new)
theorem Inv.write{x e:R_}{o:HO}{t':Nat}(I:Inv X pins σ H s)(d:Mut (H x))(c:e=x\/H e=some (.own x))(k:∀b u,b≠e->s.heap.get? b=some u->h'.get? b=some u)(a:∃u,h'.get? e=some u)
 (new:BI X.prog X.w (upd H x o) h' x o):Inv X pins σ (upd H x o) {s with heap:=h',toks:=t'}:=I.un (Un.write d c k a) (I.hok.write d c k a new)
theorem Inv.weak{σ':List (Option V)}(I:Inv X pins σ H s)(d:σ'.length=σ.length)(w:∀(i:Nat) v,σ'[i]?=some (some v)->σ[i]?=some (some v)):Inv X pins σ' H s :=
 ⟨I.ok,I.os,I.bare,I.base,let ⟨m,hn,hl'⟩:=I.loc;⟨m,hn,λi x v a b c=>hl' i x v a (w i v b) c⟩,I.cell,I.free,I.freeC,I.pin,I.hok,d.trans I.len⟩
theorem Inv.pins_of{a:A_}(I:Inv X pins σ H s)(h:∀p∈a,s.heap.get? p.1=some p.2/\H p.1=none/\p.1≠X.env.locals/\p.1∉X.fs/\∀v,p.2.data≠.cell v):Inv X a σ H s :=
 ⟨I.ok,I.os,I.bare,I.base,I.loc,I.cell,I.free,I.freeC,λp b=>(F1.mp b).elim (λz=>I.pin p (T9 _ z)) (h p),I.hok,I.len⟩
theorem Ti{N:K_}(e:N.Nodup){i j:Nat}{x:Str}(a:N[i]?=some x)(b:N[j]?=some x):i=j:=by
 obtain⟨f,c⟩:=B9.mp a;obtain⟨g,d⟩:=B9.mp b;exact(List.getElem_inj e).mp (c.trans d.symm)
theorem Qs{M:Model}{A:Around}{E:B_}{i:Nat}{x:Str}{v:V}{u:S_}{Q:Unit->Shared->Prop}(I:Inv X pins σ H s)(hN:X.N.Nodup)(T:X.N[i]?=some x)(B:Loc X.env.scope x)(r:Bj v u)
  (h:∀s',Inv X pins (σ.set i (some v)) H s'->(∃a,Heap.SameBut a s.heap s'.heap/\(a=X.env.locals\/X.env.cells.lookup x=some a))->Q () s') (hf:X.fn x=true\/X.env.scope.names.lookup x=some .local:=by first|exact .inl rfl|exact .inr rfl|assumption):wpAny M A (storeName X.env x u) Q E s:=by
 obtain⟨m,hn,hl⟩:=id I.loc;have S:(X.env.scope.kind==.class || (X.env.scope.kind==.module && X.env.locals != X.env.globals))=false:=by rw[I.ok.kind];rfl
 have F:i<σ.length:=by rw[I.len];exact(B9.mp T).1
 have cne:=I.cne;have l:∀{a:R_}{h':T_},(∃o,s.heap.get? a=some o/\H a=none)->Heap.SameBut a s.heap h'->HOk X.prog X.w H h':=λ{a h'} ha f b ob e=>by
  obtain⟨_,_,C⟩:=ha;refine(I.hok b ob e).stay (λc w' t q=>(f.2 c ?_).trans q) (λ_ q=>q) λ_ _ q=>q;rintro rfl;rcases t with rfl|t
  .rw[C]at e;cases e
  .rw[C]at t;cases t
 rcases B with G|G
 .refine wpAny_storeName_local G hn (λh' aa f=>?_) S;obtain⟨oL,_,_,ab,_⟩:=id hn;refine h _ ⟨I.ok,I.os,I.bare,⟨λb o e n K B=>?_,λb o e n K B=>?_,I.base.free,λb o e B=>?_,I.base.tups,I.base.frzs,I.base.tbls⟩,⟨_,aa,λj y v' g D e3=>?_⟩,λy c e=>?_,I.free,I.freeC,λp hp=>?_,l ⟨oL,ab,I.free⟩ f,by simpa using I.len⟩ ⟨_,f,.inl rfl⟩
  .exact(f.2 b (J8 (F2 (D9 e) I.ok.above))).trans (I.base.keep b o e n K B)
  .obtain⟨sl,g⟩:=I.base.slot b o e n K B;exact⟨sl,(f.2 b (J8 (F2 (D9 e) I.ok.above))).trans g⟩
  .obtain⟨o',g⟩:=I.base.there b o e B;exact⟨o',(f.2 b (J8 (F2 (D9 e) I.ok.above))).trans g⟩
  .by_cases O:j=i
   .subst O;rw[T]at g;cases g;rw[List.getElem?_set_self F]at D;cases D;exact⟨u,r,.inl ⟨G,by simp⟩⟩
   .rw[List.getElem?_set_ne (X6 O)]at D;obtain⟨u',r',q⟩:=hl j y v' g D e3;refine⟨u',r',?_⟩;rcases q with ⟨k,e⟩|⟨k,c,e,z⟩
    .refine .inl ⟨k,?_⟩;have:y≠x:=λe=>O (Ti hN g (e▸T));simp[this,e]
    .exact .inr ⟨k,c,e,z.sameBut f (cne y c e)⟩
  .obtain⟨w',z⟩:=I.cell y c e;exact⟨w',z.sameBut f (cne y c e)⟩
  .obtain⟨e,n,Z,nf,d⟩:=I.pin p hp;exact⟨(f.2 p.1 Z).trans e,n,Z,nf,d⟩
 .have L:X.fn x=true:=by
   rcases hf with z|z
   .exact z
   .rw[z]at G;cases G
  obtain⟨c,t⟩:=I.ok.has x (.inl G);obtain⟨w',z⟩:=I.cell x c t;refine wpAny_storeName_cell I.ok.kind G t z (λh' P f=>?_);obtain⟨oc,U,W⟩:=id z;refine h {s with heap:=h'} ⟨I.ok,I.os,I.bare,⟨λb o e n K B=>?_,λb o e n K B=>?_,I.base.free,λb o e B=>?_,I.base.tups,I.base.frzs,I.base.tbls⟩,⟨m,hn.sameBut f (X6 (cne x c t)),λj y v' g D e3=>?_⟩,λy Y e=>?_,I.free,I.freeC,λp hp=>?_,l ⟨oc,U,I.freeC x c t⟩ f,by simpa using I.len⟩ ⟨c,f,.inr t⟩
  .exact(f.2 b (J8 (F2 (D9 e) (I.ok.cab x c L t)))).trans (I.base.keep b o e n K B)
  .obtain⟨sl,g⟩:=I.base.slot b o e n K B;exact⟨sl,(f.2 b (J8 (F2 (D9 e) (I.ok.cab x c L t)))).trans g⟩
  .obtain⟨o',g⟩:=I.base.there b o e B;exact⟨o',(f.2 b (J8 (F2 (D9 e) (I.ok.cab x c L t)))).trans g⟩
  .by_cases O:j=i
   .subst O;rw[T]at g;cases g;rw[List.getElem?_set_self F]at D;cases D;exact⟨u,r,.inr ⟨.inl G,c,t,P⟩⟩
   .rw[List.getElem?_set_ne (X6 O)]at D;obtain⟨u',r',q⟩:=hl j y v' g D e3;refine⟨u',r',?_⟩;rcases q with q|⟨k,Y,e,z'⟩
    .exact .inl q
    .refine .inr ⟨k,Y,e,z'.sameBut f ?_⟩;rintro rfl;exact O (Ti hN g (I.ok.inj _ _ _ e t▸T))
  .by_cases R:Y=c
   .subst R;exact⟨_,P⟩
   .obtain⟨w2,z2⟩:=I.cell y Y e;exact⟨w2,z2.sameBut f R⟩
  .obtain⟨e,n,Z,nf,d⟩:=I.pin p hp;refine⟨(f.2 p.1 ?_).trans e,n,Z,nf,d⟩;intro q;rw[q,U]at e;have q':oc=p.2:=K0 e;exact d w' (by rw[<-q'];exact W)
theorem SI{M:Model}{A:Around}{E:B_}{i:Nat}{x:Str}{v:V}{u:S_}{Q:Unit->Shared->Prop}(I:Inv X pins σ H s)(c:X.N.Nodup)(e:X.N[i]?=some x)(f:Loc X.env.scope x)(r:Bj v u)
  (h:∀a,Inv X pins (σ.set i (some v)) H a->Q () a) (d:X.fn x=true\/X.env.scope.names.lookup x=some .local:=by first|exact .inl rfl|exact .inr rfl|assumption):wpAny M A (storeName X.env x u) Q E s :=
 Qs I c e f r (λa b _=>h a b) d
theorem Inv.call'{a:P_}{ch:H_}(I:Inv X pins σ H s)(h:a.os=s.os)(u:Un (frs X.stack) ch H H' s.heap a.heap)(f:HOk X.prog X.w H' a.heap)(g:AllBare a.gens)
  (d:∀b∈ch,(b∈X.ex\/X.s₀.heap.objs.size<=b)/\b≠X.env.locals/\(∀x c,X.env.cells.lookup x=some c->c≠b)/\∀p∈X.pn++pins,p.1≠b):Inv X pins σ H' a:=by
 obtain⟨h',g',d',t',i⟩:=a;have e:i=s.os:=h;subst e;exact I.call (g':=g') (t':=t') (d':=d') u f g d
end
abbrev XK:=Value->Option Addr->Hp->Prop
abbrev St:=List (Option V)
abbrev VK:=V->Hp->Prop
abbrev TE:=St->Hp->VK->Prop
abbrev TT:=St->Hp->(Bool->Hp->Prop)->Prop
abbrev TA:=St->Hp->(List V->Hp->Prop)->Prop
structure LY where
nx:St->Hp->Prop
rt:VK
bk:St->Hp->Prop:=λ_ _=>False
ct:St->Hp->Prop:=λ_ _=>False
abbrev TS:=LY->St->Hp->Prop
def EP(X:Cx)(pins:A_)(σ:St)(Q:VK)(u:S_)(s':P_):Prop:=∃v H',Inv X pins σ H' s'/\Bj v u/\Q v H'
def TP(X:Cx)(pins:A_)(σ:St)(Q:Bool->Hp->Prop)(b:Bool)(s':P_):Prop:=∃H',Inv X pins σ H' s'/\Q b H'
def AP(X:Cx)(pins:A_)(σ:St)(Q:List V->Hp->Prop)(us:F_)(s':P_):Prop:=∃vs H',Inv X pins σ H' s'/\AR vs us/\Q vs H'
def SP(X:Cx)(pins:A_)(D:LY)(f:Flow)(s':P_):Prop :=
 match f with
 |.next=>∃σ' H',Inv X pins σ' H' s'/\D.nx σ' H'
 |.brk=>∃σ' H',Inv X pins σ' H' s'/\D.bk σ' H'
 |.cont=>∃σ' H',Inv X pins σ' H' s'/\D.ct σ' H'
 |.ret u=>∃v σ' H',Inv X pins σ' H' s'/\Bj v u/\D.rt v H'
def PE(X:Cx)(e:Expr)(t:TE):Prop :=
 ∀(pins:A_)(s:P_)(σ:St)(H:Hp)(Q:VK),Inv X pins σ H s->t σ H Q->wpAny (model X.prog X.w) X.A (eval e X.env) (EP X pins σ Q) X.xe s
def PT(X:Cx)(e:Expr)(t:TT):Prop :=
 ∀(pins:A_)(s:P_)(σ:St)(H:Hp)(Q:Bool->Hp->Prop),Inv X pins σ H s->t σ H Q->wpAny (model X.prog X.w) X.A (isTrue e X.env (eval e X.env)) (TP X pins σ Q) X.xe s
def PW(X:Cx)(e:Expr)(t:TT):Prop :=
 ∀(whole:Sem Value)(pins:A_)(s:P_)(σ:St)(H:Hp)(Q:Bool->Hp->Prop),Inv X pins σ H s->t σ H Q->wpAny (model X.prog X.w) X.A (isTrue e X.env whole) (TP X pins σ Q) X.xe s
theorem PW.pt{X:Cx}{e:Expr}{t:TT}(h:PW X e t):PT X e t:=h _
def PA(X:Cx)(es:List Expr)(t:TA):Prop :=
 ∀(pos:Pos)(pins:A_)(s:P_)(σ:St)(H:Hp)(Q:List V->Hp->Prop),Inv X pins σ H s->t σ H Q->wpAny (model X.prog X.w) X.A (spliced (backTo pos (starEach es X.env))) (AP X pins σ Q) X.xe s
def PS(X:Cx)(st:Stmt)(t:TS):Prop :=
 ∀(pins:A_)(s:P_)(σ:St)(H:Hp)(D:LY),Inv X pins σ H s->t D σ H->wpAny (model X.prog X.w) X.A (exec st X.env) (SP X pins D) X.xe s
def PSs(X:Cx)(st:List Stmt)(t:TS):Prop :=
 ∀(pins:A_)(s:P_)(σ:St)(H:Hp)(D:LY),Inv X pins σ H s->t D σ H->wpAny (model X.prog X.w) X.A (execs st X.env) (SP X pins D) X.xe s
theorem thn{α:Type}{t:Sem α}{Q b:α->Shared->Prop}{M:Model}{A:Around}{E:B_}{s:P_}(h:wpAny M A t Q E s)(c:∀a s,Q a s->b a s):wpAny M A t b E s:=A1a h c λ_ _ x=>x
section
variable{X:Cx}
def Id(i:Nat):TE:=fun σ H Q=>∃v,σ[i]?=some (some v)/\Q v H
def tC(v:V):TE:=λ_ H Q=>Q v H
theorem pe_var{i:Nat}{x:Str}{pos:Pos}(k:X.N[i]?=some x)(q:Vis X.env.scope x)(g:(x==("__debug__" : Str))=false:=by decide)(f:(x==("__classdict__" : Str))=false:=by decide):PE X (.Name x pos) (Id i):=by
 intro d s σ H Q I h;obtain⟨v,e,h⟩:=h;obtain⟨m,p,n⟩:=I.loc;obtain⟨u,r,l⟩:=n i x v k e q;have fin:EP X d σ Q u s:=⟨v,H,I,r,h⟩
 rcases l with ⟨b,o⟩|⟨b,c,j,a⟩
 .exact wpAny_Name (wpAny_loadName_local I.ok.kind b p o fin) g
 .rcases b with b|b
  .exact wpAny_Name (wpAny_loadName_cell I.ok.kind b j a fin) g
  .exact wpAny_Name (wpAny_loadName_free I.ok.kind b j a fin f) g
theorem Ae{i j pos}:PE X (.Constant (.int i) j pos) (tC (.int i)):=λ_ _ _ H _ I h=>wpAny_Constant_int ⟨.int i,H,I.tok _,⟨_,rfl⟩,h⟩
theorem LB{b j pos}:PE X (.Constant (.bool b) j pos) (tC (.bl b)):=λ_ _ _ H _ I h=>Constant_bool ⟨.bl b,H,I,rfl,h⟩
theorem Cy{j pos}:PE X (.Constant .none j pos) (tC .non):=λ_ _ _ H _ I h=>Constant_none ⟨.non,H,I,rfl,h⟩
theorem Da{x j pos}:PE X (.Constant (.str x) j pos) (tC (.str x)):=λ_ _ _ H _ I h=>Calls.Constant_str ⟨.str x,H,I.tok _,⟨_,rfl⟩,h⟩
def Gl(X:Cx)(x:Str):Prop:=X.env.kindOf x=some .globalImplicit
theorem Os{E:B_}{a:A_}{s:P_}{σ:St}{H:Hp}{x:Str}{u:S_}{pos:Pos}{Q:B_}(I:Inv X a σ H s)(c:Gl X x)(d:X.mg x=some u)(h:Q u s)
  (b:(x==("__debug__" : Str))=false:=by decide):wpAny (model X.prog X.w) X.A (eval (.Name x pos) X.env) Q E s :=
 Calls.Name_function_global I.ok.kind c (Calls.loadGlobal_global (by rw[I.ok.glob];exact I.mod.glob.keeps I.bk) d h) b
theorem JV{E:B_}{a:A_}{s:P_}{σ:St}{H:Hp}{x:Str}{u:S_}{pos:Pos}{Q:B_}(I:Inv X a σ H s)(e:Gl X x)(f:X.mg x=none)(i:bootBuiltins x=some u)(h:Q u s)
  (g:x≠"__name__" := by decide) (d:(x==("__debug__" : Str))=false:=by decide):wpAny (model X.prog X.w) X.A (eval (.Name x pos) X.env) Q E s:=by
 obtain⟨j,b,c⟩:=I.mod.blt;exact Calls.Name_function_global I.ok.kind e (Calls.loadGlobal_builtin (by rw[I.ok.glob];exact I.mod.glob.keeps I.bk) f (by rw[I.ok.blt];exact b.keeps I.bk) ((c x g).trans i) h) d
theorem Rt{x:Str}{v:V}{u:S_}{pos:Pos}(b:Gl X x)(c:X.mg x=some u)(r:Bj v u)(a:(x==("__debug__" : Str))=false:=by decide):PE X (.Name x pos) (tC v) :=
 λ_ _ _ H _ I h=>Os I b c ⟨v,H,I,r,h⟩ a
theorem Gx{x:Str}{v:V}{u:S_}{pos:Pos}(b:Gl X x)(c:X.mg x=none)(e:bootBuiltins x=some u)(r:Bj v u)(d:x≠"__name__" := by decide)(a:(x==("__debug__" : Str))=false:=by decide):PE X (.Name x pos) (tC v) :=
 λ_ _ _ H _ I h=>JV I b c e ⟨v,H,I,r,h⟩ d a
variable{a b:Expr}{ta tb:TE}{pos:Pos}
def PC(X:Cx)(op:CmpOp)(a b:Expr)(t:TE):Prop :=
 ∀(pins:A_)(s:P_)(σ:St)(H:Hp)(Q:VK),Inv X pins σ H s->t σ H Q ->
  wpAny (model X.prog X.w) X.A (eval a X.env) (λv s₁=>wpAny (model X.prog X.w) X.A (eval b X.env) (λu s₂=>wpAny (model X.prog X.w) X.A (compareOp op v u) (EP X pins σ Q) X.xe s₂) X.xe s₁) X.xe s
def tB(t:TE):TT:=fun σ H Q=>t σ H λx H1=>∃c,x=.bl c/\Q c H1
theorem pt_cmp{g:CmpOp}{t:TE}(h:PC X g a b t)(f:behindInMarks g b=false:=by first|exact nobehind _ A4 A4|rfl):PT X (.Compare a [g] [b] pos) (tB t):=by
 intro e s σ H Q I l;refine wpAny_isTrue_Compare1 (thn (h e s σ H _ I l) λv o f=>thn f λu p k=>thn k λc r ⟨x,i,j,n,m⟩=>?_) f;obtain⟨d,rfl,q⟩:=m;cases n;exact A0c ⟨i,j,q⟩
theorem Ch{e:Expr}{t:TE}(h:PE X e t)(j:∀c,isTrue e X.env c=(do let v <-c;standAt e.pos;holding [v] (truthy v)):=by intro _;rfl):PT X e (tB t):=by
 intro f s σ H Q I k;refine isTrue_plain (thn (h f s σ H _ I k) λv n ⟨x,g,i,m,l⟩=>?_) (j _);obtain⟨d,rfl,q⟩:=l;cases m;exact A0c ⟨g,i,q⟩
variable{tA tB':TT}{rest:List Expr}
def tAnd(t u:TT):TT:=fun σ H Q=>t σ H λc H1=>if c=true then u σ H1 Q else Q false H1
def tOr(t u:TT):TT:=fun σ H Q=>t σ H λc H1=>if c=true then Q true H1 else u σ H1 Q
def tNot(t:TT):TT:=fun σ H Q=>t σ H λc H1=>Q (!c) H1
theorem Gw(f:PT X a tA):PW X (.BoolOp .And [a] pos) tA:=by
 intro i d s σ H Q I h;refine isTrue_and (thn (f d s σ H Q I h) λc g e=>?_);cases c with
 |true=>exact isTrue_and_nil e
 |false=>exact e
theorem Fl(f:PT X a tA):PW X (.BoolOp .Or [a] pos) tA:=by
 intro i d s σ H Q I h;refine isTrue_or (thn (f d s σ H Q I h) λc g e=>?_);cases c with
 |false=>exact isTrue_or_nil e
 |true=>exact e
theorem JC(i:PT X a tA)(j:PW X (.BoolOp .And (b::rest) pos) tB'):PW X (.BoolOp .And (a::b::rest) pos) (tAnd tA tB'):=by
 intro l d s σ H Q I h;refine isTrue_and (thn (i d s σ H _ I h) λc k ⟨e,f,g⟩=>?_);cases c with
 |true=>exact j l d k σ e Q f g
 |false=>exact⟨e,f,g⟩
theorem Jo(i:PT X a tA)(j:PW X (.BoolOp .Or (b::rest) pos) tB'):PW X (.BoolOp .Or (a::b::rest) pos) (tOr tA tB'):=by
 intro l d s σ H Q I h;refine isTrue_or (thn (i d s σ H _ I h) λc k ⟨e,f,g⟩=>?_);cases c with
 |true=>exact⟨e,f,g⟩
 |false=>exact j l d k σ e Q f g
theorem CZ(f:PT X a tA):PT X (.UnaryOp .Not a pos) (tNot tA):=by
 intro d s σ H Q I h;exact isTrue_not (f d s σ H (λc e=>Q (!c) e) I h)
def tAndV(ta tb:TE):TE:=fun σ H Q=>ta σ H λx H1=>∃c,x=.bl c/\if c=true then tb σ H1 Q else Q (.bl false) H1
def tOrV(ta tb:TE):TE:=fun σ H Q=>ta σ H λx H1=>∃c,x=.bl c/\if c=true then Q (.bl true) H1 else tb σ H1 Q
def tNotV(ta:TE):TE:=fun σ H Q=>ta σ H λx H1=>∃c,x=.bl c/\Q (.bl (!c)) H1
theorem LS{op}{t:TE}(h:PE X a t):PE X (.BoolOp op [a] pos) t:=λc s σ H Q I d=>BoolOp_one (h c s σ H Q I d)
theorem JD(i:PE X a ta)(j:PE X (.BoolOp .And (b::rest) pos) tb):PE X (.BoolOp .And (a::b::rest) pos) (tAndV ta tb):=by
 intro d s σ H Q I h;refine BoolOp_and (thn (i d s σ H _ I h) λv l ⟨x,f,g,k,e⟩=>?_);obtain⟨c,rfl,e⟩:=e;cases k;refine A0c ?_;cases c with
 |true=>exact j d l σ f Q g e
 |false=>exact⟨.bl false,f,g,rfl,e⟩
theorem pe_or(i:PE X a ta)(j:PE X (.BoolOp .Or (b::rest) pos) tb):PE X (.BoolOp .Or (a::b::rest) pos) (tOrV ta tb):=by
 intro d s σ H Q I h;refine BoolOp_or (thn (i d s σ H _ I h) λv l ⟨x,f,g,k,e⟩=>?_);obtain⟨c,rfl,e⟩:=e;cases k;refine A0c ?_;cases c with
 |false=>exact j d l σ f Q g e
 |true=>exact⟨.bl true,f,g,rfl,e⟩
theorem pe_not(i:PE X a ta):PE X (.UnaryOp .Not a pos) (tNotV ta):=by
 intro d s σ H Q I h;refine UnaryOp_ (thn (i d s σ H _ I h) λv k ⟨x,f,g,j,e⟩=>?_);obtain⟨c,rfl,e⟩:=e;cases j;exact not_of (A0c ⟨.bl (!c),f,g,rfl,e⟩)
end
def SqL(K:O_)(H:Hp)(a:R_)(xs:List V):Prop :=
 Rd H a (.lst xs) \/
  ∃(o:Obj)(its:M_)(n:Nat),K.lookup a=some o/\o.cls=.type "list" /\ o.dict=none/\o.data=.seq its n/\its.size<=sizeLine/\AR xs its.toList
def SqT(K:O_)(H:Hp)(a:R_)(xs:List V):Prop :=
 Rd H a (.tup xs) \/
  ∃(o:Obj)(its:M_)(n:Nat),K.lookup a=some o/\o.cls=.type "tuple" /\ o.data=.seq its n/\its.size<=sizeLine/\AR xs its.toList
def absV:Value->Option V
|.none=>some .non
|.bool b=>some (.bl b)
|.int i _=>some (.int i)
|.str x _=>some (.str x)
|.bytes b _=>some (.byt b)
|.float b _=>some (.flt b)
|.ref a=>some (.ref a)
|.type n=>some (.ty n)
|_=>none
theorem Bj.abs{x:V}{u:S_}(r:Bj x u):absV u=some x:=by
 cases x with
 |non=>cases r;rfl
 |bl _=>cases r;rfl
 |int _=>obtain⟨t,rfl⟩:=r;rfl
 |str _=>obtain⟨t,rfl⟩:=r;rfl
 |byt _=>obtain⟨t,rfl⟩:=r;rfl
 |flt _=>obtain⟨t,rfl⟩:=r;rfl
 |ref _=>cases r;rfl
 |ty _=>cases r;rfl
theorem Bj.inj{x y:V}{u:S_}(r:Bj x u)(q:Bj y u):x=y:=K0 (r.abs.symm.trans q.abs)
theorem AR.inj:∀{xs ys:List V}{us:F_},AR xs us->AR ys us->xs=ys
|_,_,_,.nil,.nil=>rfl
|_,_,_,.cons r t,.cons r' t'=>by rw[r.inj r',AR.inj t t']
section
variable{X:Cx}{pins:A_}{σ:St}{H:Hp}{s:P_}{a:R_}{xs ys:List V}
theorem SqL.of{K:O_}(h:H a=some (.lst xs)):SqL K H a xs:=.inl (.inl h)
theorem SqT.of{K:O_}(h:H a=some (.tup xs)):SqT K H a xs:=.inl (.inl h)
theorem Inv.list(I:Inv X pins σ H s)(h:SqL X.K H a xs):∃b:List Value,AR xs b/\PlainL s.heap a b.toArray/\xs.length<=sizeLine:=by
 rcases h with h|⟨o,b,n,f,c,d,g,i,r⟩
 .obtain⟨z,b,n,r,e⟩:=h.ok I.hok;exact⟨b,r,⟨_,n,e,rfl,rfl,rfl⟩,z⟩
 .refine⟨b.toList,r,⟨o,n,I.kIn a o f,c,d,by simpa using g⟩,?_⟩;have e:=r.length;simp only[U3]at e;lia
theorem Inv.tuple(I:Inv X pins σ H s)(h:SqT X.K H a xs):∃b:List Value,AR xs b/\IsTup s.heap a b.toArray/\xs.length<=sizeLine:=by
 rcases h with h|⟨o,b,n,d,c,f,g,r⟩
 .obtain⟨z,b,r,p⟩:=h.ok I.hok;exact⟨b,r,p,z⟩
 .refine⟨b.toList,r,⟨o,I.kIn a o d,c,n,by simpa using f⟩,?_⟩;have e:=r.length;simp only[U3]at e;lia
theorem Inv.list_inj(I:Inv X pins σ H s)(h:SqL X.K H a xs)(h':SqL X.K H a ys):xs=ys:=by
 obtain⟨b,r,⟨o,n,e,_,_,d⟩,_⟩:=I.list h;obtain⟨its',f,⟨i,g,c,_,_,d'⟩,_⟩:=I.list h';rw[e]at c;cases c;rw[d]at d';injection d' with d1 _
 have:b=its':=by simpa using K5 Array.toList d1
 subst this;exact r.inj f
theorem Inv.tuple_inj(I:Inv X pins σ H s)(h:SqT X.K H a xs)(h':SqT X.K H a ys):xs=ys:=by
 obtain⟨b,r,⟨o,e,_,n,d⟩,_⟩:=I.tuple h;obtain⟨its',f,⟨i,c,_,g,d'⟩,_⟩:=I.tuple h';rw[e]at c;cases c;rw[d]at d';injection d' with d1 _
 have:b=its':=by simpa using K5 Array.toList d1
 subst this;exact r.inj f
end
abbrev Cx.wish(X:Cx)(E:B_):Cx:={X with xe:=E}
abbrev Cx.nox(X:Cx):Cx:=X.wish λ_ _=>False
theorem Cx.Ok.wish{X:Cx}(ok:X.Ok)(E:B_):(X.wish E).Ok :=
 ⟨ok.mod,ok.kind,ok.glob,ok.blt,ok.above,ok.inj,ok.has,ok.cab,ok.hd,ok.frames,ok.stk,ok.exf,ok.bs,ok.bsz,ok.noex,ok.exfs,ok.funs,ok.frf⟩
theorem Cx.Ok.unwish{X:Cx}{E:B_}(ok:(X.wish E).Ok):X.Ok :=
 ⟨ok.mod,ok.kind,ok.glob,ok.blt,ok.above,ok.inj,ok.has,ok.cab,ok.hd,ok.frames,ok.stk,ok.exf,ok.bs,ok.bsz,ok.noex,ok.exfs,ok.funs,ok.frf⟩
section
variable{X:Cx}{pins:A_}{σ:St}{H:Hp}{s:P_}{E:B_}
theorem Inv.wish(I:Inv X pins σ H s)(E:B_):Inv (X.wish E) pins σ H s:=⟨I.ok.wish E,I.os,I.bare,I.base,I.loc,I.cell,I.free,I.freeC,I.pin,I.hok,I.len⟩
theorem Inv.unwish(I:Inv (X.wish E) pins σ H s):Inv X pins σ H s:=⟨I.ok.unwish,I.os,I.bare,I.base,I.loc,I.cell,I.free,I.freeC,I.pin,I.hok,I.len⟩
theorem SP.unwish{D:LY}{f:Flow}{b:P_}(h:SP (X.wish E) pins D f b):SP X pins D f b:=by
 cases f with
 |next=>obtain⟨σ',a,I,q⟩:=h;exact⟨σ',a,I.unwish,q⟩
 |brk=>obtain⟨σ',a,I,q⟩:=h;exact⟨σ',a,I.unwish,q⟩
 |cont=>obtain⟨σ',a,I,q⟩:=h;exact⟨σ',a,I.unwish,q⟩
 |ret u=>obtain⟨v,σ',a,I,r,q⟩:=h;exact⟨v,σ',a,I.unwish,r,q⟩
theorem PSs.nox{a:List Stmt}{t:TS}(h:PSs X.nox a t):PSs X a t:=λpins s σ H D I b =>
 A1a (h pins s σ H D (I.wish _) b) (λ_ _ q=>q.unwish) λ_ _ z=>False.elim z
end
section
variable{X:Cx}{st:Stmt}{rest:List Stmt}{t u:TS}{e:Expr}{te:TE}{pos:Pos}
def tNext:TS:=λD σ H=>D.nx σ H
def tSeq(t u:TS):TS:=λD σ H=>t {D with nx:=u D} σ H
theorem AB:PSs X [] tNext:=λ_ _ σ H _ I h=>A5c ⟨σ,H,I,h⟩
theorem Ac(d:PS X st t)(g:PSs X rest u):PSs X (st::rest) (tSeq t u):=by
 intro a s σ H D I h;refine wpAny_execs_cons (thn (d a s σ H {D with nx:=u D} I h) λf i q=>?_);cases f with
 |next =>
  obtain⟨σ',b,c,q⟩:=q;exact g a i σ' b D c q
 |ret v=>exact q
 |brk=>exact q
 |cont=>exact q
theorem Af(b:PS X st t):PSs X [st] t:=by
 intro a s σ H D I h;refine wpAny_execs_cons (thn (b a s σ H D I h) λf c q=>?_);cases f with
 |next=>exact A5c q
 |ret v=>exact q
 |brk=>exact q
 |cont=>exact q
theorem Inv.quiet{a:A_}{σ:St}{H:Hp}{s:P_}(I:Inv X a σ H s):interactive X.env=false:=by simp[interactive,I.ok.kind]
def tDrop(te:TE):TS:=λD σ H=>te σ H λ_ H1=>D.nx σ H1
theorem Bm(d:PE X e te)(f:swapsWith e none pos.line X.env=pure false:=by rfl):PS X (.Expr e pos) (tDrop te):=by
 intro a s σ H D I h;exact wpAny_Expr_any (thn (d a s σ H _ I h) λv j ⟨x,b,c,i,g⟩=>⟨σ,b,c,g⟩) I.quiet f
def tRet(te:TE):TS:=λD σ H=>te σ H D.rt
theorem Au(d:PE X e te):PS X (.Return (some e) pos) (tRet te):=by
 intro a s σ H D I h;exact wpAny_Return_some (thn (d a s σ H _ I h) λv i ⟨x,b,c,g,f⟩=>⟨x,σ,b,c,g,f⟩)
def tIfS(c:TT)(t u:TS):TS:=λD σ H=>c σ H λb H1=>if b=true then t D σ H1 else u D σ H1
theorem AM{c:Expr}{a b:List Stmt}{tc:TT}(n:PT X c tc)(l:PSs X a t)(m:PSs X b u):PS X (.If c a b pos) (tIfS tc t u):=by
 intro f s σ H D I h;refine wpAny_If (thn (n f s σ H _ I h) λd k ⟨g,i,j⟩=>?_);cases d with
 |true=>exact l f k σ g D i j
 |false=>exact m f k σ g D i j
def tNever:TS:=λ_ _ _=>False
theorem Bh:PS X st tNever:=λ_ _ _ _ _ _ h=>h.elim
end
abbrev TG:=V->St->Hp->(St->Hp->Prop)->Prop
abbrev TGs:=List V->St->Hp->(St->Hp->Prop)->Prop
def PG(X:Cx)(target:Expr)(t:TG):Prop :=
 ∀(pins:A_)(s:P_)(σ:St)(H:Hp)(v:V)(u:S_)(Q:St->Hp->Prop),Inv X pins σ H s->Bj v u->t v σ H Q ->
  wpAny (model X.prog X.w) X.A (assign target X.env u) (λ_ s'=>∃σ' H',Inv X pins σ' H' s'/\Q σ' H') X.xe s
def PGs(X:Cx)(ts:List Expr)(t:TGs):Prop :=
 ∀(pins:A_)(s:P_)(σ:St)(H:Hp)(vs:List V)(us:F_)(Q:St->Hp->Prop),Inv X pins σ H s->AR vs us->t vs σ H Q ->
  wpAny (model X.prog X.w) X.A (assignInOrder ((assignEach ts X.env).map (·.2)) us) (λ_ s'=>∃σ' H',Inv X pins σ' H' s'/\Q σ' H') X.xe s
abbrev TSet:=V->V->V->Hp->(Hp->Prop)->Prop
def PSet(X:Cx)(t:TSet):Prop :=
 ∀(pins:A_)(s:P_)(σ:St)(H:Hp)(o i v:V)(ov iv u:S_)(Q:Hp->Prop),Inv X pins σ H s->Bj o ov->Bj i iv->Bj v u->t o i v H Q ->
  wpAny (model X.prog X.w) X.A (setItem ov iv u) (λ_ s'=>∃H',Inv X pins σ H' s'/\Q H') X.xe s
section
variable{X:Cx}{pos:Pos}
def Px(i:Nat):TG:=λv σ H Q=>Q (σ.set i (some v)) H
theorem AZ{i:Nat}{x:Str}(c:X.N.Nodup)(e:X.N[i]?=some x)(f:Loc X.env.scope x)(d:X.fn x=true\/X.env.scope.names.lookup x=some .local:=by first|exact .inl rfl|exact .inr rfl|assumption):PG X (.Name x pos) (Px i):=by
 intro a s σ H v u Q I r h;exact wpAny_assign_Name (SI I c e f r (λg b=>⟨_,H,b,h⟩) d)
def gNil:TGs:=λvs σ H Q=>vs=[]/\Q σ H
def TC(t:TG)(u:TGs):TGs:=λvs σ H Q=>∃v r,vs=v::r/\t v σ H fun σ' H'=>u r σ' H' Q
theorem Li:PGs X [] gNil:=by
 intro a s σ H vs us Q I r h;obtain⟨e,h⟩:=h;subst e;cases r;exact assignInOrder_nil ⟨σ,H,I,h⟩
theorem CS{e:Expr}{b:List Expr}{t:TG}{u:TGs}(i:PG X e t)(j:PGs X b u)
  (k:(assignEach (e::b) X.env).map (·.2)=assign e X.env::(assignEach b X.env).map (·.2):=by rfl):PGs X (e::b) (TC t u):=by
 intro a s σ H vs us Q I r h;obtain⟨v,o,g,h⟩:=h;subst g;cases r with
 |cons r m =>
  rw[k];refine assignInOrder_cons (thn (i a s σ H _ _ _ I r h) λ_ n ⟨c,d,f,l⟩=>?_);exact j a n c d _ _ Q f m l
def gTup(K:O_)(n:Nat)(t:TGs):TG:=λv σ H Q=>∃a xs,v=.ref a/\SqT K H a xs/\xs.length=n/\t xs σ H Q
theorem Nj{d:List Expr}{k:Nat}{t:TGs}{n:Nat}(m:X.calm=true)(h:PGs X d t)
  (q:(assignEach d X.env).length=n:=by rfl) (f:(assignEach d X.env).findIdx? (·.1)=none:=by rfl):PG X (.Tuple d k pos) (gTup X.K n t):=by
 intro c s σ H v u Q I r g;obtain⟨a,xs,l,w,p,g⟩:=g;subst l;cases r;obtain⟨z,i,x,A⟩:=I.tuple w;refine assign_Tuple_tuple (I.ok.hd m) x (by simp[q,<-p,i.length]) f λh' y=>?_;have j:Inv X c σ H {s with heap:=h'}:=I.kept (t':=s.toks) λb o e=>y b o (J8 (D9 e)) e;exact h c _ σ H xs _ Q j (by simpa using i) g
def gSub(to ti:TE)(t:TSet):TG:=λv σ H Q=>to σ H λo H1=>ti σ H1 λi H2=>t o i v H2 λH3=>Q σ H3
theorem pg_sub{o i:Expr}{to d:TE}{t:TSet}(p:PE X o to)(n:PE X i d)(q:PSet X t)
  (m:∀v,assign (.Subscript o i pos) X.env v=(do
   let b <-holding [v] (eval o X.env);let c <-holding [v,b] (eval i X.env)
   standAt pos
   holding [v,b,c] (setItem b c v)
   release [v,b,c] []):=by intro _;rfl):PG X (.Subscript o i pos) (gSub to d t):=by
 intro a s σ H v u Q I r h;rw[m];refine Z5 (A2f (thn (p a s σ H _ I h) λb D ⟨x,e,j,B,w⟩=>?_));refine Z5 (A2f (thn (n a D σ e _ j w) λc E ⟨y,f,k,C,z⟩=>?_));refine Z5 (A6b (Z5 (A2f (thn (q a E σ f x y v b c u _ k B C r z) λ_ F ⟨g,l,A⟩=>?_))));exact wpAny_release ⟨σ,g,l,A⟩
def tAsg(te:TE)(g:TG):TS:=λD σ H=>te σ H λx H1=>g x σ H1 D.nx
theorem ps_asg{b e:Expr}{c:TE}{g:TG}(j:PE X e c)(k:PG X b g)(l:swapsWithSole [b] e pos.line X.env=pure false:=by rfl)(m:swappedStores [b] e X.env=pure none:=by rfl)
  (i:(assignEach [b] X.env).map (·.2)=[assign b X.env]:=by rfl):PS X (.Assign [b] e pos) (tAsg c g):=by
 intro a s σ H D I h;refine wpAny_Assign_stores (thn (j a s σ H _ I h) λv p ⟨x,d,f,o,n⟩=>?_) l m;rw[i];exact thn (k a p σ d x v _ f o n) λ_ r q=>q
theorem Ao{i:Nat}{x:Str}{e:Expr}{c:TE}{a:Pos}(j:X.N.Nodup)(m:X.N[i]?=some x)(o:Loc X.env.scope x)(k:PE X e c)(n:swapsWith e (some (.Name x a)) pos.line X.env=pure false:=by rfl)(l:X.fn x=true\/X.env.scope.names.lookup x=some .local:=by first|exact .inl rfl|exact .inr rfl|assumption) :
  PS X (.Assign [.Name x a] e pos) (tAsg c (Px i)):=by
 intro b s σ H D I h;refine wpAny_Assign_Name (thn (k b s σ H _ I h) λv r ⟨y,d,f,q,p⟩=>?_) n;exact SI f j m o q (λt g=>⟨_,d,g,p⟩) l
def tWhile(c:TT)(tb:TS):TS:=λD σ H=>∃W:Nat->St->Hp->Prop,(∃m,W m σ H)/\∀m σ H,W m σ H ->
 c σ H λb H1=>if b=true then ∃N:St->Hp->Prop,(∀σ' H',N σ' H'->∃m',m'<m/\W m' σ' H')/\tb {D with nx:=N,ct:=N,bk:=D.nx} σ H1 else D.nx σ H1
theorem EW{c:Expr}{g:List Stmt}{tc:TT}{B:TS}(z:PassesOwn (model X.prog X.w) X.A X.env X.xe)(F:PT X c tc)(E:PSs X g B):PS X (.While c g [] pos) (tWhile tc B):=by
 intro a s σ H D I h;obtain⟨W,⟨G,O⟩,turn⟩:=h;refine wpAny_While (codeAny_whileLoop (λn K=>∃σ' r,Inv X a σ' r K/\W n σ' r) ?_ G ⟨σ,H,I,O⟩);rintro n L ⟨e,t,C,P⟩;refine A2d z (thn (F a L e t _ C (turn n e t P)) λb M ⟨u,x,j⟩=>?_);cases b with
 |true =>
  obtain⟨N,y,j⟩:=j;rw[Z9 rfl];refine A2d z (thn (E a M e u _ x j) λf Q k=>?_);cases f with
  |next =>
   obtain⟨d,i,l,p⟩:=k;obtain⟨o,m,q⟩:=y d i p;exact⟨o,m,d,i,l,q⟩
  |cont =>
   obtain⟨d,i,l,p⟩:=k;obtain⟨o,m,q⟩:=y d i p;exact⟨o,m,d,i,l,q⟩
  |brk=>exact k
  |ret v=>exact k
 |false =>
  rw[Z6 D4];exact A5c ⟨e,u,x,j⟩
end
structure It where
go:Nat->Hp->Prop
yld:Nat->Hp->V->Hp->Prop
stop:Nat->Hp->Prop
def DC(X:Cx)(pins:A_)(H:Hp)(b:R_):Prop :=
 H b=none/\b≠X.env.locals/\b∉X.fs/\(b∈X.ex\/X.s₀.heap.objs.size<=b)/\(∀x c,X.env.cells.lookup x=some c->c≠b)/\∀p∈X.pn++pins,p.1≠b
theorem Inv.fpOk{X:Cx}{a:A_}{σ:St}{H f:Hp}{s:P_}{b:R_}(I:Inv X a σ H s)(d:s.heap.objs.size<=b)(g:f b=none):DC X a f b:=by
 refine⟨g,U5 (F2 I.lt d),I.nofs d,.inr (D1 I.sz d),λx c e z=>?_,λp h z=>?_⟩
 .obtain⟨v,q⟩:=I.cell x c e;exact absurd (F2 q.lt (by rw[z];exact d)) (O8 _)
 .exact absurd (F2 (D9 (I.pin p h).1) (by rw[z];exact d)) (O8 _)
structure Ql(P:N_)(w:Q_)(K:O_)(tg:Expr)(J:It)(fp:H_)(it:R_)(tn:Nat->Heap->Prop):Prop where
mem:it∈fp
obj:∀i h,tn i h->∀b∈fp,∃o,h.get? b=some o/\∀v,o.data≠.cell v
keep:∀i h h',tn i h->(∀b∈fp,∀o,h.get? b=some o->h'.get? b=some o)->tn i h'
item:∀(X:Cx),X.prog=P->X.w=w->X.K=K->X.calm=true->∀(i:Nat)(pins:A_)(s:P_)(σ:St)(H:Hp)(E:B_),Inv X pins σ H s->(∀b∈fp,DC X pins H b)->tn i s.heap->J.go i H ->
 wpAny (model P w) X.A (pyNext (.ref it)) (λr s1=>∃u,r=some u /\
  wpAny (model P w) X.A (letOwnedTupleGo tg (.ref it) u) (λ_ s2=>∃x H',Inv X pins σ H' s2/\Bj x u/\J.yld i H x H'/\tn (i+1) s2.heap/\∀b∈fp,H' b=none) E s1) E s
done:∀(X:Cx),X.prog=P->X.w=w->X.K=K->X.calm=true->∀(i:Nat)(pins:A_)(s:P_)(σ:St)(H:Hp)(E:B_),Inv X pins σ H s->(∀b∈fp,DC X pins H b)->tn i s.heap->J.stop i H ->
 wpAny (model P w) X.A (pyNext (.ref it)) (λr s1=>r=none/\Inv X pins σ H s1) E s
self:∀(A:Around)(i:Nat)(s:P_)(Q:B_)(E:B_),tn i s.heap->Q (.ref it) s->wpAny (model P w) A (pyIter (.ref it)) Q E s
abbrev TI:=St->Hp->(It->Hp->Prop)->Prop
def PIE(X:Cx)(pins:A_)(σ:St)(tg:Expr)(R:It->Hp->Prop)(itv:S_)(s2:P_):Prop :=
 ∃(it:R_)(fp:H_)(tn:Nat->Heap->Prop)(J:It)(H':Hp),itv=.ref it/\Inv X pins σ H' s2/\Ql X.prog X.w X.K tg J fp it tn/\tn 0 s2.heap/\(∀b∈fp,DC X pins H' b)/\R J H'
def PI(X:Cx)(tg iter:Expr)(wi:TI):Prop :=
 ∀(pins:A_)(s:P_)(σ:St)(H:Hp)(R:It->Hp->Prop),Inv X pins σ H s->wi σ H R ->
  wpAny (model X.prog X.w) X.A (eval iter X.env) (λv s1=>wpAny (model X.prog X.w) X.A (pyIter v) (PIE X pins σ tg R) X.xe s1) X.xe s
theorem TB{M:Model}{A:Around}{E:B_}{s:P_}{b:Expr}{it:R_}{u:S_}{o:Obj}{n:String}{vs:M_}{Q:Unit->Shared->Prop}(f:s.heap.get? it=some o)(c:o.cls=.type n)(d:o.data=.fields vs)
   (e:["enumerate","zip","dict_itemiterator","dict_reverseitemiterator","odict_iterator","itertools.zip_longest","itertools.pairwise"].contains n=false) (a:Q () s):wpAny M A (letOwnedTupleGo b (.ref it) u) Q E s:=by
 unfold letOwnedTupleGo;cases b<;>first
   |exact X4 a
   | (cases u<;>first
       |exact X4 a
       | (refine Z5 (wpAny_load f ?_)
          rw[c,d];show wpAny M A (if(["enumerate","zip","dict_itemiterator","dict_reverseitemiterator","odict_iterator","itertools.zip_longest","itertools.pairwise"].contains n && vs[0]?==some (rawInt _))=true then _ else _) Q E s;rw[Z6 (by intro h;rw[e,Bool.false_and]at h;cases h)];exact X4 a))
def Itl(K:O_)(a:R_):It :=
 ⟨λi H=>∃xs x,SqL K H a xs/\xs[i]?=some x,λi H x H'=>H'=H/\∀xs,SqL K H a xs->xs[i]?=some x,λi H=>∃xs,SqL K H a xs/\xs.length<=i⟩
def Itt(K:O_)(a:R_):It :=
 ⟨λi H=>∃xs x,SqT K H a xs/\xs[i]?=some x,λi H x H'=>H'=H/\∀xs,SqT K H a xs->xs[i]?=some x,λi H=>∃xs,SqT K H a xs/\xs.length<=i⟩
def Itr(lo:Int)(n:Nat):It:=⟨λi _=>i<n,λi H x H'=>H'=H/\x=.int (lo+i),λi _=>n<=i⟩
theorem Ww{P:N_}{w:Q_}{K:O_}{Y:Expr}(a it:R_):Ql P w K Y (Itl K a) [it] it (λi h=>h.IsListIter it a i) where
 mem:=by simp
 obj:=λi h f b j=>by
  have e:b=it:=by simpa using j
  subst e;obtain⟨o,e,c,d⟩:=f;exact⟨o,e,λv z=>by rw[d]at z;cases z⟩
 keep:=λi h h' f k=>f.at λo e=>k it A6 o e
 item:=by
  intro X B D A M i g s σ H E I m f C;subst B D A;obtain⟨xs,x,n,F⟩:=C;obtain⟨G,L,p,T⟩:=I.list n;obtain⟨u,R,U⟩:=L.get F;obtain⟨q,r,Q,t,f4,y⟩:=m it A6;refine wpAny_pyNext_list_item f p.isList (x:=u) (by simpa using R) λh' l V=>?_;have N:Inv X g σ H {s with heap:=h'}:=I.turned (t':=s.toks) (λb o j e=>(V.2 b j).trans e) q r t f4 y;obtain⟨o,e,c,d⟩:=id l;exact⟨u,rfl,TB (s:={s with heap:=h'}) e c d A4 ⟨x,H,N,U,⟨rfl,λys S=>by rw[I.list_inj S n];exact F⟩,l,λb j=>(m b j).1⟩⟩
 done:=by
  intro X B D A M i g s σ H E I m f C;subst B D A;obtain⟨xs,n,F⟩:=C;obtain⟨G,L,p,T⟩:=I.list n;obtain⟨q,r,Q,t,f4,y⟩:=m it A6;have Z:=L.length;exact wpAny_pyNext_list_end (I.ok.hd M) f p.isList (by simp;lia) λh' O=>⟨rfl,I.turned (t':=s.toks) (λb o j e=>O b o j e) q r t f4 y⟩
 self:=λ_ _ _ _ _ f h=>wpAny_pyIter_listiter f h
theorem Ud{P:N_}{w:Q_}{K:O_}{Y:Expr}(a it:R_):Ql P w K Y (Itt K a) [it] it (λi h=>h.IsTupleIter it a i) where
 mem:=by simp
 obj:=λi h f b j=>by
  have e:b=it:=by simpa using j
  subst e;obtain⟨o,e,c,d⟩:=f;exact⟨o,e,λv z=>by rw[d]at z;cases z⟩
 keep:=λi h h' f k=>f.at λo e=>k it A6 o e
 item:=by
  intro X C F B M i g s σ H E I n f D;subst C F B;obtain⟨xs,x,q,G⟩:=D;obtain⟨l,L,p,T⟩:=I.tuple q;obtain⟨u,R,U⟩:=L.get G;obtain⟨r,t,Q,y,f4,A⟩:=n it A6;refine wpAny_pyNext_tuple_item f (show s.heap.IsTuple a l.toArray from p) (x:=u) (by simpa using R) λh' m V=>?_;have N:Inv X g σ H {s with heap:=h'}:=I.turned (t':=s.toks) (λb o j e=>(V.2 b j).trans e) r t y f4 A;obtain⟨o,e,c,d⟩:=id m;exact⟨u,rfl,TB (s:={s with heap:=h'}) e c d A4 ⟨x,H,N,U,⟨rfl,λys S=>by rw[I.tuple_inj S q];exact G⟩,m,λb j=>(n b j).1⟩⟩
 done:=by
  intro X C F B M i g s σ H E I n f D;subst C F B;obtain⟨xs,q,G⟩:=D;obtain⟨l,L,p,T⟩:=I.tuple q;obtain⟨r,t,Q,y,f4,A⟩:=n it A6;have Z:=L.length;exact wpAny_pyNext_tuple_end (I.ok.hd M) f (show s.heap.IsTuple a l.toArray from p) (by simp;lia) λh' O=>⟨rfl,I.turned (t':=s.toks) (λb o j e=>O b o j e) r t y f4 A⟩
 self:=λ_ _ _ _ _ f h=>wpAny_pyIter_tupleiter f h
theorem Ue{P:N_}{w:Q_}{K:O_}{F:Expr}(it:R_)(lo:Int)(n:Nat):Ql P w K F (Itr lo n) [it] it (λi h=>IsRangeIter h it (lo+(i:Nat)*1) ((n:Int)-(i:Nat)) 1) where
 mem:=by simp
 obj:=λi h a b d=>by
  have e:b=it:=by simpa using d
  subst e;exact⟨_,a,λv z=>by
   have G:Data.fields _=Data.cell v:=z;cases G⟩
 keep:=λi h h' a k=>k it A6 _ a
 item:=by
  intro X r y q u i c s σ H E I g a x;subst r y q;obtain⟨j,l,C,m,f4,p⟩:=g it A6;have W:=Walks.range (prog:=X.prog) (w:=X.w) (I.ok.hd u) it lo 1 n;refine W.item i s _ _ x a λv h' tk D f kk=>?_;obtain⟨t,rfl⟩:=D;have A:Inv X c σ H {s with heap:=h',toks:=tk}:=I.turned (λb o d e=>kk b o (by simpa using d) e) j l m f4 p;refine⟨_,rfl,TB (s:={s with heap:=h',toks:=tk}) (n:="range_iterator") f rfl rfl A4 ⟨.int (lo+i),H,A,⟨t,?_⟩,⟨rfl,rfl⟩,f,λb d=>(g b d).1⟩⟩;rw[Int.mul_one]
 done:=by
  intro X r y q u i c s σ H E I g a x;subst r y q;obtain⟨j,l,C,m,f4,p⟩:=g it A6;exact wpAny_pyNext_range_end (I.ok.hd u) a (by have:n<=i:=x;lia) λh' B=>⟨rfl,I.turned (t':=s.toks) (λb o d e=>B b o d e) j l m f4 p⟩
 self:=λ_ _ _ _ _ a h=>wpAny_pyIter_rangeiter a h
section
variable{X:Cx}{tg:Expr}
def iList(K:O_)(tl:TE):TI:=fun σ H R=>tl σ H λx H1=>∃a,x=.ref a/\(∃xs,SqL K H1 a xs)/\R (Itl K a) H1
def iTup(K:O_)(tl:TE):TI:=fun σ H R=>tl σ H λx H1=>∃a,x=.ref a/\(∃xs,SqT K H1 a xs)/\R (Itt K a) H1
theorem Cg{l:Expr}{g:TE}(k:PE X l g):PI X tg l (iList X.K g):=by
 intro c s σ H R I h;refine thn (k c s σ H _ I h) λv f ⟨x,i,d,t,r⟩=>?_;obtain⟨a,e,⟨xs,m⟩,q⟩:=r;subst e;cases t;obtain⟨n,w,p,u⟩:=d.list m;refine A2g p.isList ?_;refine⟨f.heap.objs.size,[f.heap.objs.size],_,_,i,rfl,d.kept (t':=f.toks) λb o e=>C3 _ e,Ww a _,⟨_,D5 _ rfl,rfl,rfl⟩,λb j=>?_,q⟩;have e:b=f.heap.objs.size:=by simpa using j
 subst e;exact d.fpOk (C1 _) (d.hok.fresh (C1 _))
theorem Nh{l:Expr}{i:TE}(m:PE X l i):PI X tg l (iTup X.K i):=by
 intro c s σ H R I h;refine thn (m c s σ H _ I h) λv d ⟨x,j,f,t,r⟩=>?_;obtain⟨a,e,⟨xs,n⟩,q⟩:=r;subst e;cases t;obtain⟨g,w,p,u⟩:=f.tuple n;refine wpAny_pyIter_tuple (show d.heap.IsTuple a g.toArray from p) ?_;refine⟨d.heap.objs.size,[d.heap.objs.size],_,_,j,rfl,f.kept (t':=d.toks) λb o e=>C3 _ e,Ud a _,⟨_,D5 _ rfl,rfl,rfl⟩,λb k=>?_,q⟩;have e:b=d.heap.objs.size:=by simpa using k
 subst e;exact f.fpOk (C1 _) (f.hok.fresh (C1 _))
theorem Tc{c:A_}{σ:St}{H:Hp}{s:P_}{R:It->Hp->Prop}{E:B_}{lo a:Int}{t u v:Tok}{tk:Nat}(I:Inv X c σ H s)(h:-(2^62)<=lo)(i:lo<2^62)(j:-(2^62)<=a)(k:a<2^62)
  (q:R (Itr lo (a-lo).toNat) H):wpAny (model X.prog X.w) X.A (pyIter (.ref s.heap.objs.size)) (PIE X c σ tg R) E {s with heap:=s.heap.push {cls:=.type "range",data:=.fields #[.int lo t,.int a u,.int 1 v]},toks:=tk}:=by
 refine wpAny_pyIter_range (IsRange.new ..) (small_one h i j k) ?_;have d:Inv X c σ H {s with heap:=s.heap.push {cls:=.type "range",data:=.fields #[.int lo t,.int a u,.int 1 v]},toks:=tk}:=I.kept λb o e=>C3 _ e;refine⟨(s.heap.push {cls:=.type "range",data:=.fields #[.int lo t,.int a u,.int 1 v]}).objs.size,[(s.heap.push {cls:=.type "range",data:=.fields #[.int lo t,.int a u,.int 1 v]}).objs.size],_,_,H,rfl,
  d.kept (t':=tk) λb o e=>C3 _ e,Ue _ lo (a-lo).toNat,?_,λb l=>?_,q⟩
 .have f:lo+((0:Nat):Int)*1=lo:=by simp
  have g:(((a-lo).toNat:Nat):Int)-((0:Nat):Int)=Builtin.Range.rangeSize lo a 1:=by rw[rangeSize_one];split<;>lia
  show IsRangeIter _ _ (lo+((0:Nat):Int)*1) ((((a-lo).toNat:Nat):Int)-((0:Nat):Int)) 1;rw[f,g];exact D5 _ rfl
 .have e:b=(s.heap.push {cls:=.type "range",data:=.fields #[.int lo t,.int a u,.int 1 v]}).objs.size:=by simpa using l
  subst e;exact d.fpOk (C1 _) (d.hok.fresh (C1 _))
def iRng1(ta:TA):TI:=fun σ H R=>ta σ H λvs H1=>∃j:Int,vs=[.int j]/\-(2^62)<=j/\j<2^62/\R (Itr 0 j.toNat) H1
def iRng2(ta:TA):TI:=fun σ H R=>ta σ H λvs H1=>∃i j:Int,vs=[.int i,.int j]/\(-(2^62)<=i/\i<2^62/\-(2^62)<=j/\j<2^62)/\R (Itr i (j-i).toNat) H1
theorem Cw{a:Expr}{d:TA}{p pos:Pos}(i:Gl X "range")(k:X.mg "range" = none)(g:PA X [a] d)(l:starEach [a] X.env=[(false,eval a X.env)]:=by rfl):PI X tg (.Call (.Name "range" p) [a] [] pos) (iRng1 d):=by
 intro b s σ H R I h;refine Call_ (JV I i k boot_range (A0h (thn (g pos b s σ H _ I h) λus v ⟨vs,u,f,n,c⟩=>?_) l rfl));obtain⟨j,e,c,m,q⟩:=c;subst e;cases n with
 |cons r o =>
  cases o;obtain⟨t,rfl⟩:=r;exact call_range_1 (Tc f A0 A0 c m (by simpa using q))
theorem Ni{a b:Expr}{k:TA}{p pos:Pos}(n:Gl X "range")(o:X.mg "range" = none)(m:PA X [a,b] k)(u:starEach [a,b] X.env=[(false,eval a X.env),(false,eval b X.env)]:=by rfl)(c:starEach [b] X.env=[(false,eval b X.env)]:=by rfl) :
  PI X tg (.Call (.Name "range" p) [a,b] [] pos) (iRng2 k):=by
 intro d s σ H R I h;refine Call_ (JV I n o boot_range (A0h (thn (m pos d s σ H _ I h) λus B ⟨vs,A,l,z,f⟩=>?_) (by rw[u,c]) (by rw[c];rfl)));obtain⟨i,j,e,⟨f,v,w,x⟩,q⟩:=f;subst e;cases z with
 |cons r g =>
  cases g with
  |cons y g =>
   cases g;obtain⟨t,rfl⟩:=r;obtain⟨t',rfl⟩:=y;exact call_range_2 (Tc l f v w x q)
def tFor(wi:TI)(g:TG)(tb:TS):TS:=λD σ H=>wi σ H λJ H1=>∃W:Nat->Nat->St->Hp->Prop,(∃m,W 0 m σ H1)/\∀i m σ H,W i m σ H ->
 (J.stop i H/\D.nx σ H)\/(J.go i H/\∃N:St->Hp->Prop,(∀σ' H',N σ' H'->∃m',m'<m/\W (i+1) m' σ' H')/\∀x H',J.yld i H x H'->g x σ H' fun σ2 H2=>tb {D with nx:=N,ct:=N,bk:=D.nx} σ2 H2)
def Ng(fp:H_)(h:T_):List (Addr×Obj):=fp.filterMap λb=>(h.get? b).map λo=>(b,o)
theorem Jb{fp:H_}{h:T_}{b:R_}{o:Obj}(a:b∈fp)(e:h.get? b=some o):(b,o)∈Ng fp h:=List.mem_filterMap.mpr ⟨b,a,by rw[e];rfl⟩
theorem Qv{fp:H_}{h:T_}{p:Addr×Obj}(d:p∈Ng fp h):p.1∈fp/\h.get? p.1=some p.2:=by
 obtain⟨b,c,e⟩:=List.mem_filterMap.mp d;cases q:h.get? b with
 |none=>rw[q]at e;cases e
 |some o =>
  rw[q]at e;have a:(b,o)=p:=K0 e;subst a;exact⟨c,q⟩
theorem Inv.pinned{a:A_}{σ:St}{H:Hp}{s:P_}{fp:H_}(I:Inv X a σ H s)(j:∀b∈fp,DC X a H b)(k:∀b∈fp,∃o,s.heap.get? b=some o/\∀v,o.data≠.cell v):Inv X (a++Ng fp s.heap) σ H s :=
 I.pins_of λp l=>(F1.mp l).elim (λz=>I.pin p (M6 _ z)) λz=>by
  obtain⟨f,e⟩:=Qv z;obtain⟨g,h,i,_⟩:=j p.1 f;obtain⟨o,c,d⟩:=k p.1 f;rw[e]at c;cases c;exact⟨e,g,h,i,d⟩
theorem Inv.unpinned{a pl:A_}{σ:St}{H:Hp}{s:P_}(I:Inv X (a++pl) σ H s):Inv X a σ H s:=I.pins_of λp b=>I.pin p (M6 _ (T9 _ b))
theorem BU{p:Expr}{z:List Stmt}{wi:TI}{g:TG}{tb:TS}{pos:Pos}(F:PassesOwn (model X.prog X.w) X.A X.env X.xe)(hc:X.calm=true)(hi:PI X tg p wi)(hg:PG X tg g)(l:PSs X z tb)
  (hs:∀x,foldedSetIterable p X.env x=pure x:=by intro _;rfl):PS X (.For tg p z [] pos) (tFor wi g tb):=by
 intro a s σ H D I h;refine wpAny_For (thn (hi a s σ H _ I h) λv s1 h1=>thn h1 λaa s2 h2=>?_) hs;obtain⟨it,fp,tn,J,H2,e,I2,T,S,Z,W,⟨m0,w0⟩,turn⟩:=h2;subst e;have q:∀{y:Hp},(∀b∈fp,y b=none)->∀b∈fp,DC X a y b:=λhn b l=>⟨hn b l,(Z b l).2⟩
 refine codeAny_forLoop_any (λn s'=>∃i σ' y,Inv X a σ' y s'/\tn i s'.heap/\(∀b∈fp,y b=none)/\W i n σ' y) ?_ m0 ⟨0,σ,H2,I2,S,λb l=>(Z b l).1,w0⟩;rintro n s3 ⟨i,t,M,Y,K,E,w3⟩;rcases turn i n t M w3 with ⟨L,qn⟩|⟨go,N,hN,step⟩
 .refine A2d F (thn (T.done X rfl rfl rfl hc i a s3 t M X.xe Y (q E) K L) λr s4 ⟨Q,I4⟩=>?_);subst Q;exact A5c ⟨t,M,I4,qn⟩
 .refine A2d F (thn (T.item X rfl rfl rfl hc i a s3 t M X.xe Y (q E) K go) λr s4 ⟨u,Q,h4⟩=>?_);subst Q;refine A2d F (thn h4 λ_ s5 ⟨x,V,I5,r5,y5,C,P⟩=>?_);have O:=I5.pinned (q P) (T.obj _ _ C);refine A2d F (thn (hg _ s5 t V x u _ O r5 (step x V y5)) λ_ s6 ⟨U,H6,I6,q6⟩=>?_);refine A2d F (thn (l _ s6 U H6 _ I6 q6) λf R B=>?_);have again:∀{c:St}{j:Hp},Inv X (a++Ng fp s5.heap) c j R->N c j->∃m,m<n/\∃i σ' y,Inv X a σ' y R/\tn i R.heap/\(∀b∈fp,y b=none)/\W i m σ' y:=λ{c j} k G=>by
   obtain⟨m',hm,w7⟩:=hN c j G;refine⟨m',hm,i+1,c,j,k.unpinned,T.keep _ _ _ C λb l o e=>(k.pin (b,o) (M6 _ (M6 _ (Jb l e)))).1,λb l=>?_,w7⟩;obtain⟨o,e,d⟩:=T.obj _ _ C b l;exact(k.pin (b,o) (M6 _ (M6 _ (Jb l e)))).2.1
  cases f with
  |next=>obtain⟨c,j,k,G⟩:=B;exact again k G
  |cont=>obtain⟨c,j,k,G⟩:=B;exact again k G
  |brk=>obtain⟨c,j,k,B⟩:=B;exact⟨c,j,k.unpinned,B⟩
  |ret v=>obtain⟨x7,c,j,k,r7,B⟩:=B;exact⟨x7,c,j,k.unpinned,r7,B⟩
end
theorem MJ{K:O_}{a:R_}{xs:List V}{g:TG}{k:TS}{D:LY}{σ:St}{H:Hp}(b:Nat->St->Hp->Prop)(l:b 0 σ H)(r:∀i σ H,i<=xs.length->b i σ H->SqL K H a xs)
  (s:∀i x σ H,xs[i]?=some x->b i σ H->g x σ H fun d h=>k {D with nx:=b (i+1),ct:=b (i+1),bk:=D.nx} d h) (n:∀σ H,b xs.length σ H->D.nx σ H) :
  ∃W:Nat->Nat->St->Hp->Prop,(∃m,W 0 m σ H)/\∀i m σ H,W i m σ H ->
   ((Itl K a).stop i H/\D.nx σ H)\/((Itl K a).go i H/\∃N:St->Hp->Prop,(∀σ' c,N σ' c->∃j,j<m/\W (i+1) j σ' c)/\∀x c,(Itl K a).yld i H x c->g x σ c fun d h=>k {D with nx:=N,ct:=N,bk:=D.nx} d h):=by
 refine⟨λi m σ H=>m=xs.length-i/\i<=xs.length/\b i σ H,⟨xs.length,by simp,J0 _,l⟩,?_⟩;rintro i m σ H ⟨rfl,o,p⟩;have q:=r i σ H o p;by_cases f:i<xs.length
 .refine .inr ⟨⟨xs,xs[i],q,by simp[f]⟩,b (i+1),fun σ' c t=>⟨xs.length-(i+1),by lia,rfl,f,t⟩,λx c y=>?_⟩;obtain⟨e,y⟩:=y;subst e;exact s i x σ _ (y xs q) p
 .have e:i=xs.length:=by lia
  subst e;exact .inl ⟨⟨xs,q,C1 _⟩,n σ H p⟩
theorem VZ{K:O_}{a:R_}{xs:List V}{g:TG}{k:TS}{D:LY}{σ:St}{H:Hp}(b:Nat->St->Hp->Prop)(l:b 0 σ H)(r:∀i σ H,i<=xs.length->b i σ H->SqT K H a xs)
  (s:∀i x σ H,xs[i]?=some x->b i σ H->g x σ H fun d h=>k {D with nx:=b (i+1),ct:=b (i+1),bk:=D.nx} d h) (n:∀σ H,b xs.length σ H->D.nx σ H) :
  ∃W:Nat->Nat->St->Hp->Prop,(∃m,W 0 m σ H)/\∀i m σ H,W i m σ H ->
   ((Itt K a).stop i H/\D.nx σ H)\/((Itt K a).go i H/\∃N:St->Hp->Prop,(∀σ' c,N σ' c->∃j,j<m/\W (i+1) j σ' c)/\∀x c,(Itt K a).yld i H x c->g x σ c fun d h=>k {D with nx:=N,ct:=N,bk:=D.nx} d h):=by
 refine⟨λi m σ H=>m=xs.length-i/\i<=xs.length/\b i σ H,⟨xs.length,by simp,J0 _,l⟩,?_⟩;rintro i m σ H ⟨rfl,o,p⟩;have q:=r i σ H o p;by_cases f:i<xs.length
 .refine .inr ⟨⟨xs,xs[i],q,by simp[f]⟩,b (i+1),fun σ' c t=>⟨xs.length-(i+1),by lia,rfl,f,t⟩,λx c y=>?_⟩;obtain⟨e,y⟩:=y;subst e;exact s i x σ _ (y xs q) p
 .have e:i=xs.length:=by lia
  subst e;exact .inl ⟨⟨xs,q,C1 _⟩,n σ H p⟩
theorem CA{lo:Int}{n:Nat}{g:TG}{j:TS}{D:LY}{σ:St}{H:Hp}(b:Nat->St->Hp->Prop)(k:b 0 σ H)
  (o:∀i σ H,i<n->b i σ H->g (.int (lo+i)) σ H fun d f=>j {D with nx:=b (i+1),ct:=b (i+1),bk:=D.nx} d f) (l:∀σ H,b n σ H->D.nx σ H) :
  ∃W:Nat->Nat->St->Hp->Prop,(∃m,W 0 m σ H)/\∀i m σ H,W i m σ H ->
   ((Itr lo n).stop i H/\D.nx σ H)\/((Itr lo n).go i H/\∃N:St->Hp->Prop,(∀σ' a,N σ' a->∃h,h<m/\W (i+1) h σ' a)/\∀x a,(Itr lo n).yld i H x a->g x σ a fun d f=>j {D with nx:=N,ct:=N,bk:=D.nx} d f):=by
 refine⟨λi m σ H=>m=n-i/\i<=n/\b i σ H,⟨n,by simp,J0 _,k⟩,?_⟩;rintro i m σ H ⟨rfl,r,p⟩;by_cases c:i<n
 .refine .inr ⟨c,b (i+1),fun σ' a q=>⟨n-(i+1),by lia,rfl,c,q⟩,λx a y=>?_⟩;obtain⟨e,y⟩:=y;subst e y;exact o i σ _ c p
 .have e:i=n:=by lia
  subst e;exact .inl ⟨C1 _,l σ H p⟩
abbrev R2:=V->V->Hp->VK->Prop
def OpR(X:Cx)(f:Value->Value->Sem Value)(r:R2):Prop :=
 ∀(pins:A_)(s:P_)(σ:St)(H:Hp)(x y:V)(v u:S_)(Q:VK),Inv X pins σ H s->Bj x v->Bj y u->r x y H Q ->
  wpAny (model X.prog X.w) X.A (f v u) (EP X pins σ Q) X.xe s
def UnR(X:Cx)(f:Value->Sem Value)(r:V->Hp->VK->Prop):Prop :=
 ∀(pins:A_)(s:P_)(σ:St)(H:Hp)(x:V)(v:S_)(Q:VK),Inv X pins σ H s->Bj x v->r x H Q ->
  wpAny (model X.prog X.w) X.A (f v) (EP X pins σ Q) X.xe s
def Gk(X:Cx)(f:S_)(r:List V->Hp->VK->Prop):Prop :=
 ∀(pins:A_)(s:P_)(σ:St)(H:Hp)(xs:List V)(us:F_)(Q:VK),Inv X pins σ H s->AR xs us->r xs H Q ->
  wpAny (model X.prog X.w) X.A (call f us) (EP X pins σ Q) X.xe s
def tOp(r:R2)(ta tb:TE):TE:=fun σ H Q=>ta σ H λx H1=>tb σ H1 λy H2=>r x y H2 Q
def tUn(r:V->Hp->VK->Prop)(ta:TE):TE:=fun σ H Q=>ta σ H λx H1=>r x H1 Q
def rI(C:Int->Int->Prop)(g:Int->Int->V):R2:=λx y H Q=>∃i j,x=.int i/\y=.int j/\C i j/\Q (g i j) H
def rI0(g:Int->Int->V):R2:=λx y H Q=>∃i j,x=.int i/\y=.int j/\Q (g i j) H
def rU(g:Int->V):V->Hp->VK->Prop:=λx H Q=>∃i,x=.int i/\Q (g i) H
section
variable{X:Cx}{a b c:Expr}{ta tb tc:TE}{pos:Pos}
theorem binT(n:PE X a ta)(o:PE X b tb){d:A_}{s:P_}{σ:St}{H:Hp}{R:V->V->Hp->Prop}(I:Inv X d σ H s)
  (h:ta σ H λx k=>tb σ k λy e=>R x y e) {Q:B_} {f:Value->Value->Sem Value}
  (p:∀v u j x y e,Inv X d σ e j->Bj x v->Bj y u->R x y e->wpAny (model X.prog X.w) X.A (f v u) Q X.xe j) :
  wpAny (model X.prog X.w) X.A (eval a X.env) (λv g=>wpAny (model X.prog X.w) X.A (eval b X.env) (λu i=>wpAny (model X.prog X.w) X.A (f v u) Q X.xe i) X.xe g) X.xe s:=by
 refine thn (n d s σ H _ I h) λv B ⟨x,k,l,t,q⟩=>?_;refine thn (o d B σ k _ l q) λu j ⟨y,e,m,z,r⟩=>?_;exact p v u j x y e m t z r
theorem AA{e:Operator}{r:R2}(k:OpR X (binaryOp e) r)(i:PE X a ta)(j:PE X b tb):PE X (.BinOp a e b pos) (tOp r ta tb):=by
 intro d s σ H Q I h;exact wpAny_BinOp (binT i j I h λv u n x y f g l m q=>k d n σ f x y v u Q g l m q)
theorem LA{e:UnaryOp}{r:V->Hp->VK->Prop}(j:UnR X (unaryOp e) r)(i:PE X a ta):PE X (.UnaryOp e a pos) (tUn r ta):=by
 intro d s σ H Q I h;exact UnaryOp_ (thn (i d s σ H _ I h) λv m ⟨x,f,g,l,k⟩=>j d m σ f x v Q g l k)
theorem opI{f:Value->Value->Sem Value}{C:Int->Int->Prop}{g:Int->Int->Int}
  (d:∀(i j:Int)(t u:Tok)(s:P_)(Q:B_)(E:B_),C i j->Q (.int (g i j) s.toks) {s with toks:=s.toks+1}->wpAny (model X.prog X.w) X.A (f (.int i t) (.int j u)) Q E s) :
  OpR X f (rI C λi j=>.int (g i j)):=by
 intro e s σ H x y v u Q I l m h;obtain⟨i,j,rfl,rfl,k,q⟩:=h;obtain⟨t,rfl⟩:=l;obtain⟨t',rfl⟩:=m;exact d i j t t' s _ _ k ⟨.int (g i j),H,I.tok _,⟨_,rfl⟩,q⟩
theorem opI0{f:Value->Value->Sem Value}{g:Int->Int->Int}
  (d:∀(i j:Int)(t u:Tok)(s:P_)(Q:B_)(E:B_),Q (.int (g i j) s.toks) {s with toks:=s.toks+1}->wpAny (model X.prog X.w) X.A (f (.int i t) (.int j u)) Q E s) :
  OpR X f (rI0 λi j=>.int (g i j)):=by
 intro e s σ H x y v u Q I k l h;obtain⟨i,j,rfl,rfl,q⟩:=h;obtain⟨t,rfl⟩:=k;obtain⟨t',rfl⟩:=l;exact d i j t t' s _ _ ⟨.int (g i j),H,I.tok _,⟨_,rfl⟩,q⟩
theorem opB0{f:Value->Value->Sem Value}{g:Int->Int->Bool}
  (d:∀(i j:Int)(t u:Tok)(s:P_)(Q:B_)(E:B_),Q (.bool (g i j)) s->wpAny (model X.prog X.w) X.A (f (.int i t) (.int j u)) Q E s) :
  OpR X f (rI0 λi j=>.bl (g i j)):=by
 intro e s σ H x y v u Q I k l h;obtain⟨i,j,rfl,rfl,q⟩:=h;obtain⟨t,rfl⟩:=k;obtain⟨t',rfl⟩:=l;exact d i j t t' s _ _ ⟨.bl (g i j),H,I,rfl,q⟩
def CDiv(i j:Int):Prop:=0<j/\j<1073741824
def CPow(i j:Int):Prop:=0<=j/\j<=1000000/\i.natAbs<2^64
def CMul(i j:Int):Prop:=(-(2^64)<i/\i<2^64)\/(-(2^64)<j/\j<2^64)
theorem CMul.ok{i j:Int}(h:CMul i j):IntMulOk i j:=by
 rcases h with ⟨d,e⟩|⟨d,e⟩
 .exact .of_left (intBits_le_64 d e)
 .exact .of_right (intBits_le_64 d e)
theorem Uc(k:Nat):(0:Int)<=2^k:=by
 rw[two_pow_cast];exact Int.natCast_nonneg _
theorem AQ:OpR X (binaryOp .Add) (rI0 λi j=>.int (i+j)):=opI0 λ_ _ _ _ _ _ _ q=>add_int q
theorem BJ:OpR X (binaryOp .Sub) (rI0 λi j=>.int (i-j)):=opI0 λ_ _ _ _ _ _ _ q=>sub_int q
theorem Fo:OpR X (binaryOp .Mult) (rI CMul λi j=>.int (i*j)):=opI λ_ _ _ _ _ _ _ d q=>mul_int q d.ok
theorem DF:OpR X (binaryOp .FloorDiv) (rI CDiv λi j=>.int (i/j)):=opI λi j _ _ _ _ _ d q=>by
 have e:(0:Int)<j:=d.1;have f:j<1073741824:=d.2;exact floordiv_int A0 (by rw[V1 i A0];exact q) (.inl (PyProof.noPylong_small A0))
theorem Bb:OpR X (binaryOp .Mod) (rI (λ_ j=>0<j) λi j=>.int (i%j)):=opI λi j _ _ _ _ _ d q=>by
 have e:(0:Int)<j:=d;exact mod_int' A0 (by rw[Int.fmod_eq_emod_of_nonneg i A0];exact q)
theorem Zl:OpR X (binaryOp .Pow) (rI CPow λi j=>.int (i^j.toNat)):=opI λ_ _ _ _ _ _ _ d q=>pow_int_small d.1 d.2.1 d.2.2 q
theorem IZ:OpR X (binaryOp .LShift) (rI CPow λi j=>.int (i*2^j.toNat)):=opI λ_ _ _ _ _ _ _ d q=>lshift_int_small d.1 d.2.1 d.2.2 q
theorem op_shr:OpR X (binaryOp .RShift) (rI (λ_ j=>0<=j) λi j=>.int (i/2^j.toNat)):=opI λi j _ _ _ _ _ d q =>
 rshift_int d (by rw[V1 i (Uc _)];exact q)
theorem op_and:OpR X (binaryOp .BitAnd) (rI0 λi j=>.int (Builtin.bitAnd i j)):=opI0 λ_ _ _ _ _ _ _ q=>and_int q
theorem unI{f:Value->Sem Value}{g:Int->Int}
  (d:∀(i:Int)(t:Tok)(s:P_)(Q:B_)(E:B_),Q (.int (g i) s.toks) {s with toks:=s.toks+1}->wpAny (model X.prog X.w) X.A (f (.int i t)) Q E s) :
  UnR X f (rU λi=>.int (g i)):=by
 intro e s σ H x v Q I j h;obtain⟨i,rfl,q⟩:=h;obtain⟨t,rfl⟩:=j;exact d i t s _ _ ⟨.int (g i),H,I.tok _,⟨_,rfl⟩,q⟩
theorem GC:UnR X (unaryOp .USub) (rU λi=>.int (-i)):=unI λ_ _ _ _ _ q=>neg_int q
end
def scal:V->V->Bool
|.non,.non=>true|.non,.int _=>true|.int _,.non=>true|.non,.bl _=>true|.bl _,.non=>true|.non,.str _=>true|.str _,.non=>true
|.int _,.int _=>true|.bl _,.bl _=>true|.str _,.str _=>true|.byt _,.byt _=>true
|.int _,.str _=>true|.str _,.int _=>true|.bl _,.str _=>true|.str _,.bl _=>true
|_,_=>false
def rEq:R2:=λx y H Q=>scal x y=true/\Q (.bl (decide (x=y))) H
def rNe:R2:=λx y H Q=>scal x y=true/\Q (.bl (!decide (x=y))) H
theorem Je{i j:Int}:decide (V.int i=V.int j)=(i==j):=by
 rw[Q7];simp
theorem dec_bl{i j:Bool}:decide (V.bl i=V.bl j)=(i==j):=by
 rw[Q7];simp
theorem Wb{i j:Str}:decide (V.str i=V.str j)=(i==j):=by
 rw[Q7];simp
theorem Wc{i j:Array UInt8}:decide (V.byt i=V.byt j)=(i.toList==j.toList):=by
 rw[Q7];cases i;cases j;simp
section
variable{X:Cx}{a b c:Expr}{ta tb tc:TE}{pos:Pos}
theorem Bk{d:A_}{σ:St}{H:Hp}{s:P_}{Q:VK}{k f:Bool}(I:Inv X d σ H s)(q:Q (.bl k) H)(e:k=f):EP X d σ Q (.bool f) s:=by
 subst e;exact⟨.bl k,H,I,rfl,q⟩
theorem CG:OpR X (compareOp .Eq) rEq:=by
 intro g s σ H x y v u Q I f d h;obtain⟨e,q⟩:=h;cases x with
 |non =>
  cases f;cases y with
  |non=>cases d;exact PySem.EqNone.eq_none_none (Bk I q A6)
  |bl j=>cases d;exact PySem.EqNone.eq_none_bool (Bk I q A6)
  |int j=>obtain⟨t',rfl⟩:=d;exact PySem.EqNone.eq_none_int (Bk I q A6)
  |str j=>obtain⟨t',rfl⟩:=d;exact PySem.EqNone.eq_none_str (Bk I q A6)
  |_=>exact absurd (show false=true from e) D4
 |bl i =>
  cases f;cases y with
  |non=>cases d;exact PySem.EqNone.eq_bool_none (Bk I q A6)
  |bl j=>cases d;exact eq_bool (Bk I q dec_bl)
  |str j=>obtain⟨t',rfl⟩:=d;exact PySem.EqMixed.eq_bool_str (Bk I q A6)
  |_=>exact absurd (show false=true from e) D4
 |int i =>
  obtain⟨t,rfl⟩:=f;cases y with
  |non=>cases d;exact PySem.EqNone.eq_int_none (Bk I q A6)
  |int j=>obtain⟨t',rfl⟩:=d;exact eq_int (Bk I q Je)
  |str j=>obtain⟨t',rfl⟩:=d;exact PySem.EqMixed.eq_int_str (Bk I q A6)
  |_=>exact absurd (show false=true from e) D4
 |str i =>
  obtain⟨t,rfl⟩:=f;cases y with
  |non=>cases d;exact PySem.EqNone.eq_str_none (Bk I q A6)
  |bl j=>cases d;exact PySem.EqMixed.eq_str_bool (Bk I q A6)
  |int j=>obtain⟨t',rfl⟩:=d;exact PySem.EqMixed.eq_str_int (Bk I q A6)
  |str j=>obtain⟨t',rfl⟩:=d;exact eq_str (Bk I q Wb)
  |_=>exact absurd (show false=true from e) D4
 |byt i =>
  obtain⟨t,rfl⟩:=f;cases y with
  |byt j=>obtain⟨t',rfl⟩:=d;exact W.eq_bytes (Bk I q Wc)
  |_=>exact absurd (show false=true from e) D4
 |_=>cases y<;>exact absurd (show false=true from e) D4
theorem Dk:OpR X (compareOp .NotEq) rNe:=by
 intro g s σ H x y v u Q I f d h;obtain⟨e,q⟩:=h;cases x with
 |non =>
  cases f;cases y with
  |non=>cases d;exact PySem.EqNone.ne_none_none (Bk I q A6)
  |bl j=>cases d;exact PySem.EqNone.ne_none_bool (Bk I q A6)
  |int j=>obtain⟨t',rfl⟩:=d;exact PySem.EqNone.ne_none_int (Bk I q A6)
  |str j=>obtain⟨t',rfl⟩:=d;exact PySem.EqNone.ne_none_str (Bk I q A6)
  |_=>exact absurd (show false=true from e) D4
 |bl i =>
  cases f;cases y with
  |non=>cases d;exact PySem.EqNone.ne_bool_none (Bk I q A6)
  |bl j=>cases d;exact ne_bool (Bk I q (K5 not dec_bl))
  |str j=>obtain⟨t',rfl⟩:=d;exact PySem.EqMixed.ne_bool_str (Bk I q A6)
  |_=>exact absurd (show false=true from e) D4
 |int i =>
  obtain⟨t,rfl⟩:=f;cases y with
  |non=>cases d;exact PySem.EqNone.ne_int_none (Bk I q A6)
  |int j=>obtain⟨t',rfl⟩:=d;exact ne_int (Bk I q (K5 not Je))
  |str j=>obtain⟨t',rfl⟩:=d;exact PySem.EqMixed.ne_int_str (Bk I q A6)
  |_=>exact absurd (show false=true from e) D4
 |str i =>
  obtain⟨t,rfl⟩:=f;cases y with
  |non=>cases d;exact PySem.EqNone.ne_str_none (Bk I q A6)
  |bl j=>cases d;exact PySem.EqMixed.ne_str_bool (Bk I q A6)
  |int j=>obtain⟨t',rfl⟩:=d;exact PySem.EqMixed.ne_str_int (Bk I q A6)
  |str j=>obtain⟨t',rfl⟩:=d;exact ne_str (Bk I q (K5 not Wb))
  |_=>exact absurd (show false=true from e) D4
 |byt i =>
  obtain⟨t,rfl⟩:=f;cases y with
  |byt j=>obtain⟨t',rfl⟩:=d;exact W.ne_bytes (Bk I q (K5 not Wc))
  |_=>exact absurd (show false=true from e) D4
 |_=>cases y<;>exact absurd (show false=true from e) D4
theorem Ih:OpR X (compareOp .Lt) (rI0 λi j=>.bl (decide (i<j))):=opB0 λ_ _ _ _ _ _ _ q=>lt_int q
theorem JM:OpR X (compareOp .LtE) (rI0 λi j=>.bl (decide (i<=j))):=opB0 λ_ _ _ _ _ _ _ q=>le_int q
theorem Pc:OpR X (compareOp .Gt) (rI0 λi j=>.bl (decide (j<i))):=opB0 λ_ _ _ _ _ _ _ q=>gt_int q
theorem op_ge:OpR X (compareOp .GtE) (rI0 λi j=>.bl (decide (j<=i))):=opB0 λ_ _ _ _ _ _ _ q=>ge_int q
theorem WF:OpR X (compareOp .In) (λx y H Q=>∃i j,x=.str i/\y=.str j/\Q (.bl (!(Builtin.Str.occurrences j i 0 j.length 1).isEmpty)) H):=by
 intro d s σ H x y v u Q I e f h;obtain⟨i,j,rfl,rfl,q⟩:=h;obtain⟨t,rfl⟩:=e;obtain⟨t',rfl⟩:=f;exact in_str (Bk I q rfl)
theorem Ja:OpR X (compareOp .Is) (λx y H Q=>y=.non/\Q (.bl (decide (x=.non))) H):=by
 intro d s σ H x y v u Q I e f h;obtain⟨rfl,q⟩:=h;cases f;refine is_none_gen (Bk I q ?_);cases x<;>first
  | (cases e;rfl)
  | (obtain⟨t,rfl⟩:=e;rfl)
theorem VJ:OpR X (compareOp .IsNot) (λx y H Q=>y=.non/\Q (.bl (!decide (x=.non))) H):=by
 intro d s σ H x y v u Q I e f h;obtain⟨rfl,q⟩:=h;cases f;refine isnot_none_gen (Bk I q ?_);cases x<;>first
  | (cases e;rfl)
  | (obtain⟨t,rfl⟩:=e;rfl)
theorem Mu:OpR X (compareOp .NotIn) (λx y H Q=>∃i j,x=.str i/\y=.str j/\Q (.bl (!(!(Builtin.Str.occurrences j i 0 j.length 1).isEmpty))) H):=by
 intro d s σ H x y v u Q I e f h;obtain⟨i,j,rfl,rfl,q⟩:=h;obtain⟨t,rfl⟩:=e;obtain⟨t',rfl⟩:=f;exact notIn_str (Bk I q rfl)
theorem AE(b:Expr){d:CmpOp}(h:d≠.In:=by decide)(g:d≠.NotIn:=by decide):behindInMarks d b=false:=by
 have e:(d==CmpOp.In)=false:=by cases d<;>first|rfl|exact absurd rfl h
 have f:(d==CmpOp.NotIn)=false:=by cases d<;>first|rfl|exact absurd rfl g
 cases b<;>simp[behindInMarks,e,f]
theorem Dc{e:CmpOp}{r:R2}(l:OpR X (compareOp e) r)(i:PE X a ta)(j:PE X b tb)(k:behindInMarks e b=false):PE X (.Compare a [e] [b] pos) (tOp r ta tb):=by
 intro d s σ H Q I h;exact wpAny_Compare1 (binT i j I h λv u o x y f g m n q=>l d o σ f x y v u Q g m n q) k
def tTest(t:TE):TT:=fun σ H Q=>t σ H λx H'=>∃k,x=.bl k/\Q k H'
theorem Ay{f:CmpOp}{r:R2}(t:OpR X (compareOp f) r)(o:PE X a ta)(p:PE X b tb)(q:behindInMarks f b=false):PT X (.Compare a [f] [b] pos) (tTest (tOp r ta tb)):=by
 intro d s σ H Q I h;refine wpAny_isTrue_Compare1 (thn (o d s σ H _ I h) λv F ⟨x,g,l,C,w⟩=>thn (p d F σ g _ l w) λu G ⟨y,i,m,D,A⟩ =>
  thn (t d G σ i x y v u _ m C D A) λc K ⟨z,j,n,E,k,e,B⟩=>?_) q
 subst e;cases E;exact A0c ⟨j,n,B⟩
def Yz(r r':R2)(ta tb tc:TE):TE:=fun σ H Q=>ta σ H λx H1=>tb σ H1 λy H2=>r x y H2 λz H3=>∃k,z=.bl k /\
 (if k=true then tc σ H3 λw' H4=>r' y w' H4 Q else Q (.bl false) H3)
theorem Zh{j g:CmpOp}{r o:R2}(K:OpR X (compareOp j) r)(i:OpR X (compareOp g) o)(D:PE X a ta)(E:PE X b tb)(F:PE X c tc)
  (G:lastMarks [j,g] [b,c]=false:=by with_unfolding_all rfl):PE X (.Compare a [j,g] [b,c] pos) (Yz r o ta tb tc):=by
 intro f s σ H Q I h;refine Compare_chain (thn (D f s σ H _ I h) λv S ⟨x,q,A,O,L⟩=>chain_link (thn (E f S σ q _ A L) λu T ⟨y,t,B,p,M⟩ =>
  thn (K f T σ t x y v u _ B O p M) λd U ⟨z,l,m,P,k,e,n⟩=>?_)) G
 subst e;cases P;refine A0c ?_;cases k with
 |false=>exact ite_ff ⟨.bl false,l,m,rfl,n⟩
 |true=>exact ite_tt (chain_last (thn (F f U σ l _ m n) λW V ⟨Y,w,C,R,N⟩=>i f V σ w y Y u W Q C p R N))
theorem OV{j g:CmpOp}{r o:R2}(O:OpR X (compareOp j) r)(i:OpR X (compareOp g) o)(K:PE X a ta)(L:PE X b tb)(M:PE X c tc)
  (N:lastMarks [j,g] [b,c]=false:=by with_unfolding_all rfl):PT X (.Compare a [j,g] [b,c] pos) (tTest (Yz r o ta tb tc)):=by
 intro f s σ H Q I h;refine isTrue_chain (thn (K f s σ H _ I h) λv s1 ⟨x,q,B,V,R⟩=>test_link (thn (L f s1 σ q _ B R) λu s2 ⟨y,t,C,p,S⟩ =>
  thn (O f s2 σ t x y v u _ C V p S) λd s3 ⟨z,l,m,W,k,e,n⟩=>?_)) N
 subst e;cases W;refine A0c ?_;cases k with
 |false =>
  obtain⟨k',F,P⟩:=n;cases F;exact ite_ff ⟨l,m,P⟩
 |true =>
  refine ite_tt (test_last (thn (M f s3 σ l _ m n) λw' s4 ⟨z',w,D,Y,T⟩=>thn (i f s4 σ w y z' u w' _ D p Y T) λd' s5 ⟨z2,A,E,Z,k2,G,U⟩=>?_));subst G;cases Z;exact A0c ⟨A,E,U⟩
theorem NB:(sizeLine:Nat)<2^63:=by rw[sizeLine_eq];decide
theorem CL:OpR X (binaryOp .Add) (λx y H Q=>∃i j,x=.str i/\y=.str j/\i.length+j.length<=sizeLine/\Q (.str (i++j)) H):=by
 intro d s σ H x y v u Q I f g h;obtain⟨i,j,rfl,rfl,e,q⟩:=h;obtain⟨t,rfl⟩:=f;obtain⟨t',rfl⟩:=g;exact add_str (λt' tk=>⟨.str (i++j),H,I.tok _,⟨_,rfl⟩,q⟩) e
theorem Sy{x:V}{us:F_}(r:AR [x] us):∃u,us=[u]/\Bj x u:=by
 cases r with
 |cons d e=>cases e;exact⟨_,rfl,d⟩
theorem vals2{x y:V}{us:F_}(r:AR [x,y] us):∃u d,us=[u,d]/\Bj x u/\Bj y d:=by
 cases r with
 |cons e f =>
  cases f with
  |cons g h=>cases h;exact⟨_,_,rfl,e,g⟩
theorem Yl(f:X.calm=true):Gk X (.builtin "max") (λxs H Q=>∃i j,xs=[.int i,.int j]/\Q (.int (if j > i then j else i)) H):=by
 intro e s σ H xs us Q I r h;obtain⟨i,j,rfl,q⟩:=h;obtain⟨u,g,rfl,⟨t,rfl⟩,⟨t',rfl⟩⟩:=vals2 r;refine max_two_ints (I.ok.hd f) λh' tk k=>⟨_,H,I.kept k,?_,q⟩
 by_cases d:j > i
 .rw[Z9 d,Z9 d];exact⟨_,rfl⟩
 .rw[Z6 d,Z6 d];exact⟨_,rfl⟩
theorem QO(f:X.calm=true):Gk X (.builtin "min") (λxs H Q=>∃i j,xs=[.int i,.int j]/\Q (.int (if j<i then j else i)) H):=by
 intro e s σ H xs us Q I r h;obtain⟨i,j,rfl,q⟩:=h;obtain⟨u,g,rfl,⟨t,rfl⟩,⟨t',rfl⟩⟩:=vals2 r;refine min_two_ints (I.ok.hd f) λh' tk k=>⟨_,H,I.kept k,?_,q⟩
 by_cases d:j<i
 .rw[Z9 d,Z9 d];exact⟨_,rfl⟩
 .rw[Z6 d,Z6 d];exact⟨_,rfl⟩
theorem CN:Gk X (.type "str") (λxs H Q=>∃i,xs=[.int i]/\i.natAbs.log2<1920/\Q (.str (toString i)) H):=by
 intro d s σ H xs us Q I r h;obtain⟨i,rfl,e,q⟩:=h;obtain⟨u,rfl,t,rfl⟩:=Sy r;exact PySem.P.str_of_int e ⟨.str _,H,I.tok _,⟨_,rfl⟩,q⟩
end
structure Vc(h:T_)(x dx C:R_)(mA:C_):Prop where
obj:h.get? x=some (instObj C dx)
ns:h.Ns1 dx mA
ne:dx≠x
theorem WT{h:T_}{c:R_}{f:C_}(n:h.Ns1 c f):∃g,h.get? c=some g/\∀name,lookIn name g=some (f name):=by
 obtain⟨o,d,r,m,j,k,_,l⟩:=n;refine⟨o,m,λname=>?_⟩;have e:=l name;unfold nsFind findBy at e;rw[<-Array.find?_toList]at e;unfold lookIn;rw[j];dsimp only;split
 .rename_i y q;rw[q]at e;exact K5 some e
 .rename_i q;rw[q]at e;have a:d.toList.any (·.refKey)=false:=by
   rw[List.any_eq_false];intro y p;obtain⟨z,t,b⟩:=k y (Array.mem_toList_iff.mp p);simp[DictEntry.refKey,b]
  have i:¬d.toList.any (·.refKey)=true:=by rw[a];exact D4
  rw[Z6 i];exact K5 some e
theorem Vc.look{h:T_}{x b C:R_}{c:C_}(I:Vc h x b C c):∃a,W.InstAt h x (instObj C b) C (some a)/\∀name,lookIn name a=some (c name) :=
 let ⟨a,ho,hl⟩:=WT I.ns
 ⟨a,⟨I.obj,rfl,rfl,ho⟩,hl⟩
section
variable{prog:N_}{w:Q_}{A:Around}{E:B_}{s:P_}{K:O_}{x dx C f:R_}{mA:C_}{name:Str}{v:S_}
theorem get_map{a:Bool}{Q:B_}(X:K.In s.heap)(I:Vc s.heap x dx C mA)(d:plainGet K C name=true)(e:hasDictIn K C=true)
  (c:findIn K (.ref C) name=some none) (i:mA name=some v) (b:handedIn v=true) (h:Q v {s with toks:=s.toks+1}) :
  wpAny (model prog w) A (getAttr (.ref x) name a) Q E s:=by
 obtain⟨j,J,g⟩:=I.look;exact W.get_value X J (A4h d).1 (W.findObj_own e c rfl (by rw[g,i])) b h
theorem get_meth{pl:Sem Bool}{Q:Value×List Value->Shared->Prop}(X:K.In s.heap)(I:Vc s.heap x dx C mA)(a:plainGet K C name=true)
  (b:findIn K (.ref C) name=some (some (.ref f))) (d:isFn K (.ref f)=true) (e:mA name=none) (h:Q (.ref f,[.ref x]) s) :
  wpAny (model prog w) A (getMethod (.ref x) name pl) Q E s:=by
 obtain⟨g,J,c⟩:=I.look;exact W.method_fn X J (A4h a).1 (A4h a).2 b (beq_iff_eq.mp d) (by show(lookIn name g).map (·.isSome)=some false;rw[c,e];rfl) h
theorem set_map{ns:K_}{Q:Unit->Shared->Prop}(X:K.In s.heap)(I:Vc s.heap x dx C mA)
  (p:findIn K (.ref C) "__setattr__" = some (some (.builtin "object.__setattr__"))) (o:plainOver K C=true) (q:takerIn K C name=some none) (n:hasDictIn K C=true)
  (t:PySem.Within mA ns) (hsz:ns.length<=sizeLine)
  (h:∀h',Vc h' x dx C (λy=>if y=name then some v else mA y)->Heap.SameBut dx s.heap h'->Q () {s with heap:=h',toks:=s.toks+2}) :
  wpAny (model prog w) A (setAttr (.ref x) name v) Q E s:=by
 obtain⟨F,J,B⟩:=I.look;refine W.set_plain X J p (W.osa_open (s:={s with toks:=s.toks+1}) (r:=none) X J o q λb=>?_)
 obtain⟨z,m,g⟩:=any_some n;have u:s.heap.get? x=some ⟨.ref C,some dx,.plain,#[]⟩:=I.obj;refine Z5 (X4 (Z5 (Z5 (wpAny_loadPart u (Z5 (W.Looks.here (s:={s with toks:=s.toks+1}) (W.looks_clsIn X m) ?_))))))
 rw[g];refine X4 (a:=some dx) (Z5 (X4 (Z5 ?_)));refine wpAny_nsSet1 (s:={s with toks:=s.toks+1}) I.ns λh' c d=>?_;obtain⟨D,l,k,j,i,e⟩:=c.count (PySem.Within.cons name v t);refine Z5 (wpAny_lookBehind j (by rw[i];exact pastItsLine_dict (D1 e (by rw[D7];lia))) ?_);exact X4 (h _ ⟨(d.2 _ (X6 I.ne)).trans I.obj,c,I.ne⟩ d)
theorem ZN{R:Result->Shared->Prop}{vs:F_}{kw:List (Str×Value)}(X:K.In s.heap)(e:makesIn K C=true)
  (c:findIn K (.ref C) "__init__" = some (some (.ref f))) (b:W.typeIn K (.ref f)=some (.type "function"))
  (h:codeAny (model prog w) (A.under (.builtin "type.__call__" ⟨.ref C::vs,kw⟩)) (.call (.ref f) ⟨.ref (s.heap.objs.size+1)::vs,kw⟩) (W.InitBack (s.heap.objs.size+1) R)
   {s with heap:=(s.heap.push emptyDict).push (instObj C s.heap.objs.size)}) :
  codeAny (model prog w) A (.call (.ref C) ⟨vs,kw⟩) R s:=by
 obtain⟨i,g,d,t,j⟩:=s;exact W.make_core (W.makes_of X e) (W.looks_findIn X c) (λa=>W.bind_fn X a b) (.inl rfl) h
end
def AT(f:Str)(v:V):List (Str×V)->List (Str×V)
|[]=>[(f,v)]
| (g,x)::r=>if g=f then(g,v)::r else(g,x)::AT f v r
theorem Ak(f g:Str)(v:V):∀fs:List (Str×V),(AT f v fs).lookup g=if g=f then some v else fs.lookup g
|[]=>by
 show List.lookup g [(f,v)]=_;by_cases h:g=f
 .have a:(g==f)=true:=beq_iff_eq.mpr h;simp only[List.lookup,a,Z9 h]
 .have a:(g==f)=false:=beq_eq_false_iff_ne.mpr h;simp only[List.lookup,a,Z6 h]
| (k,x)::r=>by
 have c:=Ak f g v r;rw[show AT f v ((k,x)::r)=(if k=f then(k,v)::r else(k,x)::AT f v r)from rfl];by_cases b:k=f
 .rw[Z9 b];by_cases h:g=k
  .have a:(g==k)=true:=beq_iff_eq.mpr h;simp only[List.lookup,a,Z9 (h.trans b)]
  .have a:(g==k)=false:=beq_eq_false_iff_ne.mpr h;simp only[List.lookup,a,Z6 (λe:g=f=>h (e.trans b.symm))]
 .rw[Z6 b];by_cases h:g=k
  .have a:(g==k)=true:=beq_iff_eq.mpr h;simp only[List.lookup,a,Z6 (λe:g=f=>b (h.symm.trans e))]
  .have a:(g==k)=false:=beq_eq_false_iff_ne.mpr h;simp only[List.lookup,a];exact c
theorem NC(f:Str)(v:V):∀fs:List (Str×V),f∈(AT f v fs).map (·.1)/\∀g,g∈fs.map (·.1)->g∈(AT f v fs).map (·.1)
|[]=>⟨by simp[AT],λg h=>by simp at h⟩
| (k,x)::r=>by
 obtain⟨b,c⟩:=NC f v r;rw[show AT f v ((k,x)::r)=(if k=f then(k,v)::r else(k,x)::AT f v r)from rfl];by_cases a:k=f
 .rw[Z9 a];subst a;exact⟨by simp,λg h=>by simpa using h⟩
 .rw[Z6 a];refine⟨?_,λg h=>?_⟩
  .rw[F7];exact C7 _ b
  .rw[F7]at h⊢;rcases C2.mp h with e|e
   .exact C2.mpr (.inl e)
   .exact C7 _ (c g e)
theorem BE(f:Str)(v:V):∀fs:List (Str×V),(AT f v fs).length<=fs.length+1
|[]=>by simp[AT]
| (k,x)::r=>by
 have b:=BE f v r;rw[show AT f v ((k,x)::r)=(if k=f then(k,v)::r else(k,x)::AT f v r)from rfl];by_cases a:k=f
 .rw[Z9 a,D7,D7];lia
 .rw[Z6 a,D7,D7];lia
theorem Js.some_of{v:V}{o:Option Value}(r:Js (some v) o):∃u,o=some u/\Bj v u:=by
 cases o with
 |none=>exact(show False from r).elim
 |some u=>exact⟨u,rfl,r⟩
theorem Js.none_of{o:Option Value}(r:Js none o):o=none:=by
 cases o with
 |none=>rfl
 |some u=>exact(show False from r).elim
theorem Yd{v:V}{u:S_}(r:Bj v u):handedIn u=true:=by
 cases v with
 |non=>cases(show u=Value.none from r);rfl
 |bl b=>cases(show u=Value.bool b from r);rfl
 |int i=>obtain⟨t,e⟩:=(show ∃t,u=Value.int i t from r);cases e;rfl
 |str x=>obtain⟨t,e⟩:=(show ∃t,u=Value.str x t from r);cases e;rfl
 |byt b=>obtain⟨t,e⟩:=(show ∃t,u=Value.bytes b t from r);cases e;rfl
 |flt b=>obtain⟨t,e⟩:=(show ∃t,u=Value.float b t from r);cases e;rfl
 |ref a=>cases(show u=Value.ref a from r);rfl
 |ty n=>cases(show u=Value.type n from r);rfl
section
variable{P:N_}{w:Q_}{H H':Hp}{h h':T_}{a C dx:R_}{fs fs':List (Str×V)}
theorem Ou(c:HOk P w H h)(e:H a=some (.ins C dx fs)):∃b,Vc h a dx C b/\(∀f,Js (fs.lookup f) (b f))/\PySem.Within b (fs.map (·.1))/\fs.length<=1000/\H dx=some (.own a):=by
 obtain⟨d,z,g,i,b,n,r,q⟩:=(show BI P w H h a (.ins C dx fs)from c a _ e)
 exact⟨b,⟨i,n,g⟩,r,q,z,d⟩
end
structure Cls(K:O_)(C:R_):Prop where
pg:plainGet K C Str.empty=true
hd:hasDictIn K C=true
po:plainOver K C=true
sa:findIn K (.ref C) "__setattr__" = some (some (.builtin "object.__setattr__"))
theorem Cls.get{K:O_}{C:R_}(c:Cls K C)(f:Str):plainGet K C f=true:=c.pg
def BL(K:O_)(C:R_)(f:Str):Prop:=findIn K (.ref C) f=some none
theorem BL.taker{K:O_}{C:R_}{f:Str}(n:BL K C f):takerIn K C f=some none:=by
 unfold takerIn;rw[show findIn K (.ref C) f=some none from n];rfl
structure Qm(K:O_)(C:R_)(m:Str)(f:R_):Prop where
at_:findIn K (.ref C) m=some (some (.ref f))
fn:isFn K (.ref f)=true
kp:keepIn K (.ref f)=true
section
variable{X:Cx}{pins:A_}{σ:St}{H:Hp}{s:P_}{a C dx:R_}{fs:List (Str×V)}{f:Str}{v:V}{A:Around}{E:B_}
theorem UT{b:Bool}{Q:B_}(I:Inv X pins σ H s)(e:H a=some (.ins C dx fs))(c:Cls X.K C)(n:BL X.K C f)(l:fs.lookup f=some v)
  (h:∀u g,Inv X pins σ H g->Bj v u->Q u g):wpAny (model X.prog X.w) A (getAttr (.ref a) f b) Q E s:=by
 obtain⟨j,O,r,_,_,_⟩:=Ou I.hok e;obtain⟨u,i,d⟩:=Js.some_of (v:=v) (o:=j f) (by rw[<-l];exact r f);exact get_map I.kIn O (c.get f) c.hd n i (Yd d) (h u _ (I.tok _) d)
theorem US{m:Str}{g:R_}{pl:Sem Bool}{Q:Value×List Value->Shared->Prop}(I:Inv X pins σ H s)(e:H a=some (.ins C dx fs))(c:Cls X.K C)(k:Qm X.K C m g)(l:fs.lookup m=none)
  (h:Q (.ref g,[.ref a]) s):wpAny (model X.prog X.w) A (getMethod (.ref a) m pl) Q E s:=by
 obtain⟨d,O,r,_,_,_⟩:=Ou I.hok e;have b:d m=none:=Js.none_of (by rw[<-l];exact r m);exact get_meth I.kIn O (c.get m) k.at_ k.fn b h
theorem Us{y:V}{u:S_}{Q:Unit->Shared->Prop}(I:Inv X pins σ H s)(e:H a=some (.ins C dx fs))(c:Cls X.K C)(n:BL X.K C f)(G:fs.length<1000)(D:Bj y u)
  (h:∀l,Inv X pins σ (upd H a (.ins C dx (AT f y fs))) l->Q () l):wpAny (model X.prog X.w) A (setAttr (.ref a) f u) Q E s:=by
 obtain⟨k,O,r,m,_,j⟩:=Ou I.hok e;have B:(fs.map (·.1)).length<=sizeLine:=by rw[B8,sizeLine_eq];lia
 refine set_map I.kIn O c.sa c.po n.taker c.hd m B λh' d F=>h _ ?_;have i:∃o,h'.get? dx=some o:=let ⟨o,_,_,e',_⟩:=d.ns;⟨o,e'⟩;refine I.write (x:=a) (e:=dx) (by rw[e];exact True.intro) (.inr j) (λb q p z=>(F.2 b p).trans z) i ?_;refine⟨by rw[Av O.ne];exact j,?_,O.ne,d.obj,_,d.ns,λg=>?_,λg t=>?_⟩
 .have:=BE f y fs;lia
 .show Js ((AT f y fs).lookup g) (if g=f then some u else k g);rw[Ak];by_cases q:g=f
  .rw[Z9 q,Z9 q];exact D
  .rw[Z6 q,Z6 q];exact r g
 .by_cases q:g=f
  .rw[q];exact(NC f y fs).1
  .refine(NC f y fs).2 g (m g λz=>t ?_);show(if g=f then some u else k g)=none;rw[Z6 q];exact z
theorem Inv.made(I:Inv X pins σ H s):Inv X pins σ (upd (upd H s.heap.objs.size (.own (s.heap.objs.size+1))) (s.heap.objs.size+1) (.ins C s.heap.objs.size []))
  {s with heap:=(s.heap.push emptyDict).push (instObj C s.heap.objs.size)}:=by
 have c:(s.heap.push emptyDict).get? s.heap.objs.size=some emptyDict:=D5 s.heap rfl;have h:((s.heap.push emptyDict).push (instObj C s.heap.objs.size)).get? (s.heap.objs.size+1)=some (instObj C s.heap.objs.size):=by
  have:=D5 (s.heap.push emptyDict) (o:=instObj C s.heap.objs.size) rfl
  rwa [Q4]at this
 have i:(s.heap.push emptyDict).Ns s.heap.objs.size (λ_=>none):=⟨emptyDict,#[],_,c,rfl,(λe j=>absurd j A6),λ_=>rfl⟩
 have g:=I.laid (a:=s.heap.objs.size) (o:=.own (s.heap.objs.size+1)) (h':=s.heap.push emptyDict) (t':=s.toks) (λb u q=>C3 _ q) (C1 _) ⟨_,c⟩;refine g.laid (a:=s.heap.objs.size+1) (o:=.ins C s.heap.objs.size []) (t':=s.toks) (λb u q=>C3 _ q) (U9 (Q4 _ _)) ?_;have d:s.heap.objs.size≠s.heap.objs.size+1:=J8 (T6 _);refine⟨by rw[Av d,Ag],J0 _,d,h,λ_=>none,(Heap.Ns1.of_empty i).at λo q=>C3 _ q,λ_=>True.intro,λy k=>absurd rfl k⟩
theorem attr_of{prog:N_}{w:Q_}{b:Env}{e:Expr}{f:Str}{pos:Pos}{s:P_}{Q:B_}(d:attributeBase e f b (eval e b)=eval e b)
  (h:wpAny (model prog w) A (eval e b) (λo c=>wpAny (model prog w) A (getAttr o f true) Q E c) E s):wpAny (model prog w) A (eval (.Attribute e f pos) b) Q E s :=
 Attribute_any_ h (by rw[arm_eval_Attribute,d])
end
def tFld(K:O_)(ta:TE)(f:Str):TE:=fun σ H Q=>ta σ H λx H1=>∃a C dx fs v,x=.ref a/\H1 a=some (.ins C dx fs)/\Cls K C/\BL K C f/\fs.lookup f=some v/\Q v H1
def sFld(K:O_)(ta tv:TE)(f:Str):TS:=λD σ H=>tv σ H λy H1=>ta σ H1 λx H2=>∃a C dx fs,x=.ref a/\H2 a=some (.ins C dx fs)/\Cls K C/\BL K C f/\fs.length<1000 /\
 D.nx σ (upd H2 a (.ins C dx (AT f y fs)))
section
variable{X:Cx}{o e value:Expr}{f:Str}{pos pos' tpos:Pos}{ta tv:TE}
theorem AF(p:PE X e ta)(m:attributeBase e f X.env (eval e X.env)=eval e X.env):PE X (.Attribute e f pos) (tFld X.K ta f):=by
 intro b s σ H Q I h;refine attr_of m (thn (p b s σ H _ I h) λu y ⟨x,d,g,t,a,C,w,fs,v,k,j,c,n,l,q⟩=>?_);subst k;obtain rfl:u=Value.ref a:=t;exact UT g j c n l λA z i r=>⟨v,d,i,r,q⟩
theorem CK(p:PE X o ta)(t:PE X value tv)(r:swapsWith value (some (.Attribute o f pos')) pos.line X.env=pure false):PS X (.Assign [.Attribute o f pos'] value pos) (sFld X.K ta tv f):=by
 intro b s σ H D I h;refine plainObj_wpAny_Assign_Attribute (thn (t b s σ H _ I h) λu B ⟨y,d,g,A,q⟩=>thn (p b B σ d _ g q) λv G ⟨x,E,i,z,a,C,F,fs,m,k,c,n,l,w⟩=>?_) r;subst m;obtain rfl:v=Value.ref a:=z;exact Us i k c n l A λL j=>⟨σ,_,j,w⟩
end
section
variable{X:Cx}{pins:A_}{σ:St}{H:Hp}{s:P_}{A:Around}{E:B_}{Q:B_}{c:S_}{b:Bool}
inductive NJ(K:O_)(H:Hp):V->Value->Prop where
|non:NJ K H .non (.type "NoneType")
|bl (x:Bool):NJ K H (.bl x) (.type "bool")
|int (i:Int):NJ K H (.int i) (.type "int")
|str (x:Str):NJ K H (.str x) (.type "str")
|flt (x:UInt64):NJ K H (.flt x) (.type "float")
|lst {a:R_} {xs:List V} (e:H a=some (.lst xs)):NJ K H (.ref a) (.type "list")
|frz {a:R_} {o:Obj} {xs:List V} (e:H a=some (.frz o (.lst xs))):NJ K H (.ref a) (.type "list")
|tup {a:R_} {xs:List V} (e:H a=some (.tup xs)):NJ K H (.ref a) (.type "tuple")
|dK {a:R_} {kvs:List (Key×V)} (e:H a=some (.dK kvs)):NJ K H (.ref a) (.type "dict")
|dT {a:R_} {kvs:List (List Key×V)} (e:H a=some (.dT kvs)):NJ K H (.ref a) (.type "dict")
|ins {a C dx:R_} {fs:List (Str×V)} (e:H a=some (.ins C dx fs)) (cl:Cls K C) (ha:findIn K (.ref C) "__class__" = some (some (.builtin "object.__class__")))
  (hn:specialIn K (.builtin "object.__class__") "__get__" = some (some (.builtin "getset_descriptor.__get__"))) (htk:takesIn K (.builtin "object.__class__")=some true)
  (hm:mroIn K C (.type "object")=some true):NJ K H (.ref a) (.ref C)
theorem Ya{x:V}{u t:S_}(I:Inv X pins σ H s)(f:Bj x u)(G:NJ X.K H x t)(e:kitOne X.K t c=some b)(h:∀tk,Q (.bool b) {s with toks:=tk}) :
  wpAny (model X.prog X.w) A (call (.builtin "isinstance") [u,c]) Q E s:=by
 cases G with
 |non=>cases(show u=Value.none from f);exact A0d W.kitx_none I.kIn True.intro e (λz=>nomatch z) h
 |bl y=>cases(show u=Value.bool y from f);exact A0d W.kitx_bool I.kIn True.intro e (λz=>nomatch z) h
 |int i=>obtain⟨t,q⟩:=(show ∃t,u=Value.int i t from f);cases q;exact A0d W.kitx_int I.kIn True.intro e (λz=>nomatch z) h
 |str y=>obtain⟨t,q⟩:=(show ∃t,u=Value.str y t from f);cases q;exact A0d W.kitx_str I.kIn True.intro e (λz=>nomatch z) h
 |flt y=>obtain⟨t,q⟩:=(show ∃t,u=Value.float y t from f);cases q;exact A0d W.kitx_float I.kIn True.intro e (λz=>nomatch z) h
 |@lst a xs d =>
  cases(show u=Value.ref a from f);obtain⟨_,_,n,_,g⟩:=(show BI X.prog X.w H s.heap a (.lst xs)from I.hok a _ d)
  exact A0d kitx_list I.kIn ⟨_,g,rfl⟩ e (λz=>nomatch z) h
 |@frz a F xs d =>
  cases(show u=Value.ref a from f);obtain⟨_,_,_,n,_,g⟩:=(show BI X.prog X.w H s.heap a (.frz F (.lst xs))from I.hok a _ d)
  exact A0d kitx_list I.kIn ⟨_,g,rfl⟩ e (λz=>nomatch z) h
 |@tup a xs d =>
  cases(show u=Value.ref a from f);obtain⟨_,_,_,p⟩:=(show BI X.prog X.w H s.heap a (.tup xs)from I.hok a _ d)
  obtain⟨o,g,j,_⟩:=p;exact A0d W.kitx_tuple I.kIn ⟨o,g,j⟩ e (λz=>nomatch z) h
 |@dK a kvs d =>
  cases(show u=Value.ref a from f);obtain⟨_,_,vs,_,p⟩:=(show BI X.prog X.w H s.heap a (.dK kvs)from I.hok a _ d)
  obtain⟨o,r,m,g,j,_⟩:=p;exact A0d kitx_dict I.kIn ⟨o,g,j.1⟩ e (λz=>nomatch z) h
 |@dT a kvs d =>
  cases(show u=Value.ref a from f);obtain⟨_,_,xs,_,o,r,m,g,j,_⟩:=(show BI X.prog X.w H s.heap a (.dT kvs)from I.hok a _ d)
  exact A0d kitx_dict I.kIn ⟨o,g,j.1⟩ e (λz=>nomatch z) h
 |@ins a C L fs d l v D k B =>
  cases(show u=Value.ref a from f);obtain⟨M,O,_⟩:=Ou I.hok d;obtain⟨N,J,_⟩:=O.look;exact A0d (W.kitx_own (l.get _) l.hd v D k B) I.kIn J e (λz=>nomatch z) h
end
structure Db(k:Nat)(A:Around):Prop where
hd:A.handled=none
dp:A.depth+3*k+5<recursionLimit
un:A.units+16*k+200<cLine
theorem Db.mono{j k:Nat}{A:Around}(r:Db k A)(h:j<=k):Db j A:=⟨r.hd,by have:=r.dp;lia,by have:=r.un;lia⟩
theorem Db.deeper{k:Nat}{A:Around}(r:Db (k+1) A)(a:Env):Db k (A.deeper a) :=
 ⟨r.hd,by have:=r.dp;show A.depth+1+3*k+5<_;lia,by have:=r.un;show A.units+3+16*k+200<_;lia⟩
theorem Db.in1{k:Nat}{A:Around}(r:Db (k+1) A):Db k A.in1 :=
 ⟨r.hd,by have:=r.dp;show A.depth+3*k+5<_;lia,by have:=r.un;show A.units+1+16*k+200<_;lia⟩
theorem UN{A:Around}{C:R_}{us:F_}{kw:List (Str×Value)}:(A.under (.builtin "type.__call__" ⟨.ref C::us,kw⟩)).depth=A.depth+1:=by
 first|rfl|simp[Around.under,Code.weight,Code.isCreation,Code.isGuard,Code.isCaller,Code.frames,Code.isFrame,guardIds]
theorem UM{A:Around}{C:R_}{us:F_}{kw:List (Str×Value)}:(A.under (.builtin "type.__call__" ⟨.ref C::us,kw⟩)).units=A.units+1:=by
 first|rfl|simp[Around.under,Code.cUnits,Code.frames,Code.isFrame]
theorem Db.make{k:Nat}{A:Around}(r:Db (k+1) A)(C:R_)(us:F_)(kw:List (Str×Value)):Db k (A.under (.builtin "type.__call__" ⟨.ref C::us,kw⟩)) :=
 ⟨r.hd,by have:=r.dp;rw[UN];lia,by have:=r.un;rw[UM];lia⟩
theorem Db.depth{k:Nat}{A:Around}(r:Db k A):A.depth<recursionLimit:=by have:=r.dp;lia
theorem Db.units{k:Nat}{A:Around}(r:Db k A):A.units+64<cLine:=by have:=r.un;lia
def PP:TA:=λ_ H Q=>Q [] H
def CP(ta:TE)(tr:TA):TA:=fun σ H Q=>ta σ H λx H1=>tr σ H1 λxs H2=>Q (x::xs) H2
section
variable{X:Cx}{e:Expr}{es:List Expr}{te:TE}{t:TA}{pos:Pos}
theorem Ab:PA X [] PP:=λ_ _ _ _ H Q I h=>Calls.spliced_nil ⟨[],H,I,.nil,h⟩
theorem Aa(g:PE X e te)(i:PA X es t)(j:starEach (e::es) X.env=(false,eval e X.env)::starEach es X.env:=by rfl):PA X (e::es) (CP te t):=by
 intro pos a s σ H Q I h;rw[j];show wpAny _ _ (spliced ((false,eval e X.env)::backTo pos (starEach es X.env))) _ _ s;refine Calls.spliced_cons (thn (g a s σ H _ I h) λu o ⟨x,b,d,m,k⟩=>?_);exact thn (i pos a o σ b _ d k) λus p ⟨xs,c,f,n,l⟩=>⟨x::xs,c,f,.cons m n,l⟩
def Yx(t:TA):TE:=fun σ H Q=>t σ H λxs H1=>xs.length<=sizeLine/\∀p,H1 p=none->Q (.ref p) (upd H1 p (.tup xs))
def tLst(t:TA):TE:=fun σ H Q=>t σ H λxs H1=>xs.length<=sizeLine/\∀p,H1 p=none->Q (.ref p) (upd H1 p (.lst xs))
theorem Eg{x1}(h:PA X es t):PE X (.Tuple es x1 pos) (Yx t):=by
 intro a s σ H Q I i;refine wpAny_Tuple_spliced (thn (h pos a s σ H _ I i) λus c ⟨xs,d,f,r,z,q⟩=>⟨by rw[<-r.length];exact z,?_⟩);have g:d c.heap.objs.size=none:=f.hok.fresh (C1 _);refine⟨.ref c.heap.objs.size,upd d c.heap.objs.size (.tup xs),f.laid (t':=c.toks) (λb u e=>C3 _ e) (C1 _) ?_,rfl,q _ g⟩;exact⟨z,us,r,⟨_,D5 _ rfl,rfl,_,rfl⟩⟩
theorem Cb(h:PA X es t):PE X (.List es pos) (tLst t):=by
 intro a s σ H Q I i;refine wpAny_List_spliced (thn (h pos a s σ H _ I i) λus c ⟨xs,d,f,r,z,q⟩=>⟨by rw[<-r.length];exact z,?_⟩);have g:d c.heap.objs.size=none:=f.hok.fresh (C1 _);refine⟨.ref c.heap.objs.size,upd d c.heap.objs.size (.lst xs),f.laid (t':=c.toks) (λb u e=>C3 _ e) (C1 _) ?_,rfl,q _ g⟩;exact⟨z,us,0,r,D5 _ rfl⟩
end
abbrev Sp:=List V->Hp->VK->XK->Prop
abbrev CXT:=List Env->Hp->Shared->XK->Value->Shared->Prop
structure Od(P:N_)(w:Q_)(K:O_)(mg:C_)(base:T_)(A:Around)(outer:List Env)(s:P_)(H:Hp):Prop where
frames:A.frames=some outer
mod:Mod K mg base
bs:∀b o,base.get? b=some o->s.heap.get? b=some o/\H b=none
bsz:base.objs.size<=s.heap.objs.size
funs:s.heap.FunFrames base outer
frf:∀b∈frs outer,H b=none
hok:HOk P w H s.heap
bare:AllBare s.gens
def CE(outer:List Env)(P:N_)(w:Q_)(H:Hp)(s:P_)(Q:VK)(u:S_)(s':P_):Prop :=
 ∃v H',s'.os=s.os/\AllBare s'.gens/\Un (frs outer) [] H H' s.heap s'.heap/\HOk P w H' s'.heap/\Bj v u/\Q v H'
def CR(CX:CXT)(outer:List Env)(P:N_)(w:Q_)(H:Hp)(s:P_)(Q:VK)(E:XK)(r:Result)(s':P_):Prop :=
 match r with
 |.ok (.ret u)=>CE outer P w H s Q u s'
 |.ok _=>False
 |.error e=>CX outer H s E e s'
structure AK(P:N_)(w:Q_)(K:O_)(mg:C_)(base:T_)(CX:CXT)(k:Nat)(f:R_)(fd:E_)(ps:K_)(sp:Sp):Prop where
len:∀vs H Q E,sp vs H Q E->vs.length=ps.length
run:∀(A:Around)(outer:List Env)(s:P_)(H:Hp)(args:Args)(us:F_)(vs:List V)(Q:VK)(E:XK),Db k A->Od P w K mg base A outer s H->BindsTo s fd args (ps.zip us)->AR vs us->sp vs H Q E ->
 codeAny (model P w) A (.call (.ref f) args) (CR CX outer P w H s Q E) s
theorem AK.imp{P:N_}{w:Q_}{K:O_}{mg:C_}{a:T_}{CX:CXT}{k:Nat}{f:R_}{e:E_}{g:K_}{sp d:Sp}(F:AK P w K mg a CX k f e g sp)
  (h:∀vs H Q E,d vs H Q E->sp vs H Q E):AK P w K mg a CX k f e g d :=
 ⟨λvs H Q E q=>F.len vs H Q E (h _ _ _ _ q),λA b s H c us vs Q E l j i n m=>F.run A b s H c us vs Q E l j i n (h _ _ _ _ m)⟩
theorem Od.make{P:N_}{w:Q_}{K:O_}{mg:C_}{b:T_}{A:Around}{a:List Env}{s:P_}{H:Hp}(e:Od P w K mg b A a s H)(C:R_)(us:F_)(kw:List (Str×Value)) :
 Od P w K mg b (A.under (.builtin "type.__call__" ⟨.ref C::us,kw⟩)) a s H:=⟨by first|exact e.frames|(simpa[Around.under,Code.envs,Code.isFrame,pushEnvs] using e.frames),e.mod,e.bs,e.bsz,e.funs,e.frf,e.hok,e.bare⟩
theorem Od.in1{P:N_}{w:Q_}{K:O_}{mg:C_}{b:T_}{A:Around}{a:List Env}{s:P_}{H:Hp}(e:Od P w K mg b A a s H) :
 Od P w K mg b A.in1 a s H:=⟨e.frames,e.mod,e.bs,e.bsz,e.funs,e.frf,e.hok,e.bare⟩
section
variable{X:Cx}{pins:A_}{σ:St}{H:Hp}{s s':P_}
theorem Inv.env0(I:Inv X pins σ H s):Od X.prog X.w X.K X.mg X.base X.A X.stack s H :=
 ⟨I.ok.frames,I.ok.mod,I.bs,D1 I.ok.bsz I.sz,I.stack,I.stkFree,I.hok,I.bare⟩
theorem Inv.after{Q:VK}{u:S_}(I:Inv X pins σ H s)(h:CE X.stack X.prog X.w H s Q u s'):EP X pins σ Q u s':=by
 obtain⟨v,f,e,bare,un,a,r,q⟩:=h;obtain⟨i,g,d,t,c⟩:=s';obtain rfl:c=s.os:=e;exact⟨v,f,I.call (h':=i) (g':=g) (d':=d) (t':=t) (ch:=[]) un a bare (λb z=>absurd z A6),r,q⟩
end
def tCall(sp:Sp)(dvs:List V)(E:XK)(t:TA):TE:=fun σ H Q=>t σ H λvs H1=>sp (vs++dvs) H1 Q E
def Vj(C:R_)(m:Str)(sp:Sp)(dvs:List V)(E:XK)(ta:TE)(t:TA):TE:=fun σ H Q=>ta σ H λx H1=>∃a dx fs,x=.ref a/\H1 a=some (.ins C dx fs)/\fs.lookup m=none /\
 t σ H1 λvs H2=>sp (x::(vs++dvs)) H2 Q E
def Vk(C:R_)(sp:Sp)(dvs:List V)(E:XK)(t:TA):TE:=fun σ H Q=>t σ H λvs H1=>∀x dx,H1 x=none->H1 dx=none->dx≠x ->
 sp (.ref x::(vs++dvs)) (upd (upd H1 dx (.own x)) x (.ins C dx [])) (λv H2=>v=.non/\Q (.ref x) H2) E
def Df(K:O_)(fd:E_)(ps:K_)(ds:F_):Prop :=
 ∀(s:P_)(us:F_),K.In s.heap->(us++ds).length=ps.length->BindsTo s fd ⟨us,[]⟩ (ps.zip (us++ds))
theorem Df.all{K:O_}{b:E_}{a:K_}(h:∀us:List Value,us.length=a.length->bindArgs b ⟨us,[]⟩=pure (a.zip us)):Df K b a []:=λs us _ c=>by
 rw[U1]at c⊢;exact .of_eq (h us c)
def Gi(CX:CXT)(X:Cx)(E:XK):Prop:=∀(pins:A_)(σ:St)(H:Hp)(s:P_)(e:S_)(s':P_),Inv X pins σ H s->CX X.stack H s E e s'->X.xe e s'
section
variable{X:Cx}{CX:CXT}{k:Nat}{f C:R_}{fd:E_}{ps:K_}{sp:Sp}{dvs:List V}{ds:F_}{E:XK}{x m:Str}{p pos apos:Pos}{e o:Expr}{es:List Expr}{ta:TE}{t:TA}
theorem YY{a:A_}{σ:St}{H:Hp}{s:P_}{Q:VK}{us:F_}{vs:List V}(F:AK X.prog X.w X.K X.mg X.base CX k f fd ps sp)(l:Db k X.A)(g:Df X.K fd ps ds)(i:AR dvs ds)(n:Gi CX X E)
  (I:Inv X a σ H s) (r:AR vs us) (h:sp (vs++dvs) H Q E):wpAny (model X.prog X.w) X.A (call (.ref f) us) (EP X a σ Q) X.xe s:=by
 have c:AR (vs++dvs) (us++ds):=r.append i;have j:(us++ds).length=ps.length:=by rw[<-c.length];exact F.len _ _ _ _ h
 refine wpAny_call (A5a (F.run X.A X.stack s H ⟨us,[]⟩ (us++ds) (vs++dvs) Q E l I.env0 (g s us I.kIn j) c h) λr q b=>?_);cases r with
 |error e=>exact n a σ H s e q I b
 |ok d =>
  cases d with
  |ret u=>exact I.after b
  |next=>exact False.elim b
  |brk=>exact False.elim b
  |cont=>exact False.elim b
theorem pe_call(F:AK X.prog X.w X.K X.mg X.base CX k f fd ps sp)(y:Db k X.A)(n:Gl X x)(v:X.mg x=some (.ref f))(u:keepIn X.K (.ref f)=true)(i:Df X.K fd ps ds)(j:AR dvs ds)(z:Gi CX X E)
  (g:PA X (e::es) t) (b:(x==("__debug__" : Str))=false:=by decide) (l:starEach (e::es) X.env=(false,eval e X.env)::starEach es X.env:=by rfl) (c:(backTo pos (starEach es X.env)).any (·.1)=false:=by rfl) :
  PE X (.Call (.Name x p) (e::es) [] pos) (tCall sp dvs E t):=by
 intro a s σ H Q I h;refine A2b (Os I n v ?_ b);refine A5e (h₀:=X.base) I.ok.mod.kin u (thn (g pos a s σ H _ I h) λus D ⟨vs,B,d,r,q⟩=>⟨d.kIn,?_⟩) l c;exact YY F y i j z d r q
theorem pe_meth{pl:Sem Bool}(M:PE X o ta)(c:Cls X.K C)(n:Qm X.K C m f)(F:AK X.prog X.w X.K X.mg X.base CX k f fd ps sp)(N:Db k X.A)(G:Df X.K fd ps ds)(L:AR dvs ds)(P:Gi CX X E)(D:PA X (e::es) t)
  (g:starEach (e::es) X.env=(false,eval e X.env)::starEach es X.env:=by rfl) (d:(backTo pos (starEach es X.env)).any (·.1)=false:=by rfl)
  (O:eval (.Call (.Attribute o m apos) (e::es) [] pos) X.env=(do
   let v <-eval o X.env
   standAt apos.atName
   let (f,first) <-holding [v] (getMethod v m pl)
   callWith pos f first (backTo pos (starEach (e::es) X.env)) (backToKw pos (keywordEach [] X.env))):=by rfl) :
  PE X (.Call (.Attribute o m apos) (e::es) [] pos) (Vj C m sp dvs E ta t):=by
 intro b s σ H Q I h;refine W.methodCall_KW (pl:=pl) (thn (M b s σ H _ I h) λu T ⟨x,y,i,S,a,V,fs,B,z,l,q⟩=>?_) O;subst B;obtain rfl:u=Value.ref a:=S;refine US i z c n l ?_;refine A5e (first:=[.ref a]) (h₀:=X.base) I.ok.mod.kin n.kp (thn (D pos b T σ y _ i q) λus Y ⟨vs,U,j,r,R⟩=>⟨j.kIn,?_⟩) g d;exact YY (us:=.ref a::us) (vs:=.ref a::vs) F N G L P j (.cons rfl r) R
structure Mk(K:O_)(C f:R_):Prop where
makes:makesIn K C=true
init:findIn K (.ref C) "__init__" = some (some (.ref f))
fn:isFn K (.ref f)=true
kp:keepIn K (.ref C)=true
theorem SX{b:A_}{σ:St}{H:Hp}{s:P_}{Q:VK}{us:F_}{vs:List V}(M:Mk X.K C f)(F:AK X.prog X.w X.K X.mg X.base CX k f fd ps sp)(G:Db (k+1) X.A)(z:Df X.K fd ps ds)(B:AR dvs ds)
  (L:Gi CX X E) (I:Inv X b σ H s) (r:AR vs us)
  (h:∀x d,H x=none->H d=none->d≠x->sp (.ref x::(vs++dvs)) (upd (upd H d (.own x)) x (.ins C d [])) (λv l=>v=.non/\Q (.ref x) l) E) :
  wpAny (model X.prog X.w) X.A (call (.ref C) us) (EP X b σ Q) X.xe s:=by
 have g:=h (s.heap.objs.size+1) s.heap.objs.size (I.hok.fresh (S2 _)) (I.hok.fresh (C1 _)) (J8 (T6 _));have c:=Inv.made (C:=C) I;have i:AR (V.ref (s.heap.objs.size+1)::(vs++dvs)) (Value.ref (s.heap.objs.size+1)::(us++ds)):=.cons rfl (r.append B);have D:(Value.ref (s.heap.objs.size+1)::us++ds).length=ps.length:=by
  have e:=i.length;rw[F.len _ _ _ _ g]at e;exact e.symm
 refine wpAny_call (ZN (f:=f) I.kIn M.makes M.init (beq_iff_eq.mp M.fn) (A5a (F.run _ X.stack _ _ ⟨Value.ref (s.heap.objs.size+1)::us,[]⟩ (Value.ref (s.heap.objs.size+1)::(us++ds)) _ _ E (G.make C us [])
  (c.env0.make C us []) (z _ (Value.ref (s.heap.objs.size+1)::us) c.kIn D) i g) λr P a=>?_))
 cases r with
 |error e=>exact L b σ _ _ e P c a
 |ok y =>
  cases y with
  |ret u =>
   obtain⟨v,j,n,O,q,N⟩:=c.after a;subst q;exact⟨O,⟨V.ref (s.heap.objs.size+1),j,n,rfl,N⟩⟩
  |next=>exact False.elim a
  |brk=>exact False.elim a
  |cont=>exact False.elim a
theorem pe_make(M:Mk X.K C f)(F:AK X.prog X.w X.K X.mg X.base CX k f fd ps sp)(v:Db (k+1) X.A)(n:Gl X x)(u:X.mg x=some (.ref C))(i:Df X.K fd ps ds)(j:AR dvs ds)(y:Gi CX X E)
  (g:PA X (e::es) t) (b:(x==("__debug__" : Str))=false:=by decide) (l:starEach (e::es) X.env=(false,eval e X.env)::starEach es X.env:=by rfl) (c:(backTo pos (starEach es X.env)).any (·.1)=false:=by rfl) :
  PE X (.Call (.Name x p) (e::es) [] pos) (Vk C sp dvs E t):=by
 intro a s σ H Q I h;refine A2b (Os I n u ?_ b);refine A5e (h₀:=X.base) I.ok.mod.kin M.kp (thn (g pos a s σ H _ I h) λus B ⟨vs,z,d,r,q⟩=>⟨d.kIn,?_⟩) l c;exact SX M F v i j y d r q
theorem Zg(M:Mk X.K C f)(F:AK X.prog X.w X.K X.mg X.base CX k f fd ps sp)(j:Db (k+1) X.A)(g:Gl X x)(i:X.mg x=some (.ref C))(c:Df X.K fd ps ds)(d:AR dvs ds)(l:Gi CX X E)
  (a:(x==("__debug__" : Str))=false:=by decide):PE X (.Call (.Name x p) [] [] pos) (Vk C sp dvs E PP):=by
 intro b s σ H Q I h;refine A2b (Os I g i ?_ a);exact W.callWith_K0 I.kIn M.kp (SX (us:=[]) M F j c d l I .nil h)
end
def PK(X:Cx)(kws:List Keyword)(t:TA):Prop :=
 ∀(pos:Pos)(pins:A_)(s:P_)(σ:St)(H:Hp)(Q:List V->Hp->Prop),Inv X pins σ H s->t σ H Q->wpAny (model X.prog X.w) X.A (evalAll ((backToKw pos (keywordEach kws X.env)).map (·.2))) (AP X pins σ Q) X.xe s
section
variable{X:Cx}{CX:CXT}{k:Nat}{f C:R_}{fd:E_}{ps ks:K_}{sp:Sp}{E:XK}{x m:Str}{p pos apos kpos:Pos}{e o:Expr}{es:List Expr}{kws:List Keyword}{te ta:TE}{t tk:TA}{nm:Option Str}
theorem pk_nil:PK X [] PP:=λ_ _ _ _ H Q I h=>wpAny_evalAll_nil ⟨[],H,I,.nil,h⟩
theorem pk_cons(i:PE X e te)(j:PK X kws t):PK X (⟨nm,e,kpos⟩::kws) (CP te t):=by
 intro pos a s σ H Q I h;show wpAny _ _ (evalAll ((do let v <-eval e X.env;standAt pos;pure v)::(backToKw pos (keywordEach kws X.env)).map (·.2))) _ _ s;refine wpAny_evalAll_cons (Z5 (thn (i a s σ H _ I h) λu w ⟨x,b,d,q,l⟩=>Z5 (A6b (X4 ?_))));exact thn (j pos a w σ b _ d l) λus y ⟨xs,c,g,r,n⟩=>⟨x::xs,c,g,.cons q r,n⟩
variable{g:List Value->List Value->List Value}{gV:List V->List V->List V}
end
structure As(N P:K_)(sc:Scope):Prop where
kind:sc.kind=.function
co:sc.isCoroutine=false
gen:sc.isGenerator=false
nd:N.Nodup
pre:N.take P.length=P
par:∀x∈P,sc.names.lookup x=some .local\/sc.names.lookup x=some .cell
nofree:∀y∈sc.names,y.2≠.free
theorem QQ{a:Str->Option NameKind}{x:Str}:∀{binds:List (Str×Value)}{m:C_},(∀v,(x,v)∉binds)->bindL a binds m x=m x
|[],_,_=>rfl
| (n,v)::r,m,h=>by
 unfold bindL;rw[QQ λw b=>h w (C7 _ b)];split
 .have:x≠n:=by rintro rfl;exact h v C8
  simp[this]
 .rfl
theorem QS{a:Str->Option NameKind}{x:Str}:∀{binds:List (Str×Value)}{m:C_},(∀v,(x,v)∉binds)->bindC a binds m x=m x
|[],_,_=>rfl
| (n,v)::r,m,h=>by
 unfold bindC;rw[QS λw b=>h w (C7 _ b)];split
 .rfl
 .have:x≠n:=by rintro rfl;exact h v C8
  simp[this]
theorem QR{a:Str->Option NameKind}{x:Str}{v:S_}:∀{P:K_}{vs:F_}{i:Nat}{m:C_},P.Nodup->P[i]?=some x->vs[i]?=some v->a x=some .local ->
 bindL a (P.zip vs) m x=some v
|[],_,_,_,_,h,_,_=>by simp at h
|_::_,[],_,_,_,_,h,_=>by simp at h
|p::P,w::vs,0,m,nd,h1,h2,hk=>by
 simp at h1 h2;subst h1;subst h2;show bindL a ((p,w)::P.zip vs) m p=_;unfold bindL;rw[QQ λv b=>(N6.mp nd).1 (List.of_mem_zip b).1,Z9 hk];simp
|p::P,w::vs,i+1,m,nd,h1,h2,hk=>by
 show bindL a ((p,w)::P.zip vs) m x=_;unfold bindL;exact QR (i:=i) (N6.mp nd).2 (by simpa using h1) (by simpa using h2) hk
theorem QT{a:Str->Option NameKind}{x:Str}{v:S_}:∀{P:K_}{vs:F_}{i:Nat}{m:C_},P.Nodup->P[i]?=some x->vs[i]?=some v->a x≠some .local ->
 bindC a (P.zip vs) m x=some v
|[],_,_,_,_,h,_,_=>by simp at h
|_::_,[],_,_,_,_,h,_=>by simp at h
|p::P,w::vs,0,m,nd,h1,h2,hk=>by
 simp at h1 h2;subst h1;subst h2;show bindC a ((p,w)::P.zip vs) m p=_;unfold bindC;rw[QS λv b=>(N6.mp nd).1 (List.of_mem_zip b).1,Z6 hk];simp
|p::P,w::vs,i+1,m,nd,h1,h2,hk=>by
 show bindC a ((p,w)::P.zip vs) m x=_;unfold bindC;exact QT (i:=i) (N6.mp nd).2 (by simpa using h1) (by simpa using h2) hk
def NM(N:K_)(vs:List V):St:=vs.map some++List.replicate (N.length-vs.length) none
def Yj(CX:CXT)(P:N_)(w:Q_)(K:O_)(mg:C_)(base:T_)(N:K_)(qual:Str)(scope:Scope)(f:R_)(cd:S_)(A:Around)(outer:List Env)(s:P_)(H:Hp)(E:XK):Cx where
 prog:=P
 w:=w
 K:=K
 mg:=mg
 base:=base
 A:=A.deeper (envOfC qual scope s.heap.objs.size f cd)
 N:=N
 s₀:=s
 H₀:=H
 env:=envOfC qual scope s.heap.objs.size f cd
 outer:=outer
 stack:=envOfC qual scope s.heap.objs.size f cd::outer
 ex:=[]
 calm:=true
 fn:=λ_=>true
 pn:=[]
 xe:=λe s'=>wpAny (model P w) (A.deeper (envOfC qual scope s.heap.objs.size f cd)) (leaving (envOfC qual scope s.heap.objs.size f cd) e) (λ_ s''=>CX outer H s E e s'') (λe' s''=>CX outer H s E e' s'') s'
theorem TM{a:Scope}{n:Nat}{x:Str}(h:a.names.lookup x=some .cell):∃c,(cellsFrom n a.names []).lookup x=some c:=by
 have q:=W.cellsFrom_some a.names n [] (.inl h);exact Option.isSome_iff_exists.mp q
theorem Yb{CX:CXT}{P:N_}{w:Q_}{K:O_}{mg:C_}{m:T_}{N C:K_}{j:Str}{d:Scope}{f:R_}{G:S_}{A:Around}{g:List Env}{s Q:P_}{H:Hp}{E:XK}{us:F_}{vs:List V}
  (S:As N C d) (T:A.handled=none) (o:Od P w K mg m A g s H) (Z:vs.length=C.length) (r:AR vs us)
  (x:InCallC s s.heap.objs.size (bindL (envOfC j d s.heap.objs.size f G).kindOf (C.zip us) λ_=>none) (cellsFrom (s.heap.objs.size+1) d.names []) (bindC (envOfC j d s.heap.objs.size f G).kindOf (C.zip us) λ_=>none) Q) :
  Inv (Yj CX P w K mg m N j d f G A g s H E) [] (NM N vs) H Q:=by
 have U:C.length<=N.length:=by have:=K5 List.length S.pre;rw[M5]at this;lia
 obtain⟨I,tk,rfl,M⟩:=x.done;have B:∀b:Addr,b∉(Yj CX P w K mg m N j d f G A g s H E).ex:=λb z=>absurd (show b∈([]:H_)from z) A6;refine⟨⟨o.mod,S.kind,rfl,rfl,C1 _,λy z c I l=>?_,λy t=>?_,λy c _ h=>?_,λ_=>T,Around.frames_deeper o.frames,.inr ⟨rfl,rfl⟩,λb z=>absurd z (B b),o.bs,o.bsz,λb _ _=>B b,λb z=>absurd z (B b),o.funs,o.frf⟩,
  rfl,o.bare,Un.kept M,⟨_,x.toInCall.ns,λi y v I l Y=>?_⟩,λy c h=>⟨_,x.cell y c h⟩,o.hok.fresh (C1 _),λy c h=>?_,λp D=>absurd (show p∈([]:A_)from D) A6,o.hok.kept M,?_⟩
 .exact name_of_addr x.apart (A0g I) (A0g l)
 .have t:d.names.lookup y=some .cell\/d.names.lookup y=some .free:=t;rcases t with t|t
  .exact TM t
  .exact absurd rfl (S.nofree _ (A0g t))
 .exact U8 (x.above y c (A0g h))
 .have L:i<vs.length:=by
   unfold NM at l;by_cases L:i<vs.length
   .exact L
   .rw[J6 (by simpa using L)]at l;rw[V9]at l;split at l<;>cases l
  have R:vs[i]?=some v:=by
   unfold NM at l;rw[M8 (by simpa using L),C0]at l;cases e:vs[i]? with
   |none=>rw[e]at l;cases l
   |some a=>rw[e]at l;cases l;rfl
  obtain⟨u,O,X⟩:=r.get R;have D:C[i]?=some y:=by
   rw[<-S.pre,V7 A0];exact I
  have F:C.Nodup:=by rw[<-S.pre];exact S.nd.sublist (List.take_sublist _ _)
  refine⟨u,X,?_⟩;rcases S.par y (D0 D)with k|k
  .exact .inl ⟨k,QR F D O k⟩
  .obtain⟨c,e⟩:=TM (n:=s.heap.objs.size+1) k;refine .inr ⟨.inl k,c,e,?_⟩;have q:=x.cell y c e;rw[QT F D O (by show d.names.lookup y≠_;rw[k];decide)]at q;exact q
 .exact o.hok.fresh (U8 (x.above y c (A0g h)))
 .unfold NM;show _=N.length;rw[C5,B8,N5];lia
theorem fn_of{CX:CXT}{P:N_}{w:Q_}{K:O_}{mg:C_}{g:T_}{k:Nat}{f:R_}{name d:Str}{i:Arguments}{j:List Stmt}{a:Scope}{dV kV B pm h Z oc:S_}{X od:Option Addr}
  {O:Array (Option Value)} {N F:K_} {sp:Sp} (lk:K.lookup f=some ⟨oc,od,.func (W.fnOf name d i j a dV kV B pm X h Z),O⟩) (G:W.codeIn K h d=true) (S:As N F a)
  (len:∀vs H Q E,sp vs H Q E->vs.length=F.length)
  (m:∀(A:Around)(c:List Env)(s:P_)(H:Hp)(vs:List V)(Q:VK)(E:XK),Db k (A.deeper (envOfC d a s.heap.objs.size f h))->sp vs H Q E ->
   ∃t,PSs (Yj CX P w K mg g N d a f h A c s H E) j t/\t {nx:=λ_ l=>Q .non l,rt:=Q} (NM N vs) H) :
  AK P w K mg g CX (k+1) f (W.fnOf name d i j a dV kV B pm X h Z) F sp:=by
 refine⟨len,λA c s H Y us vs Q E L C hb r D=>?_⟩;have hl:=len _ _ _ _ D;have U:K.In s.heap:=C.mod.kin.keeps λb o e=>(C.bs b o e).1;have M:s.heap.NoLimit:=C.mod.nolimit.keeps λb o e=>(C.bs b o e).1;have p:∀y∈F.zip us,a.names.lookup y.1=some .local\/(a.names.lookup y.1=some .cell/\((cellsFrom (s.heap.objs.size+1) a.names []).lookup y.1).isSome=true):=λ⟨n,v⟩ hy=>by
  rcases S.par n (List.of_mem_zip hy).1 with q|q
  .exact .inl q
  .exact .inr ⟨q,W.cellsFrom_some _ _ _ (.inl q)⟩
 refine codeAny_call_function L.depth (U _ _ lk) rfl S.co S.gen rfl (W.codeRec_of U G) (hb _ _ _ _ ?_);refine wpAny_newFunctionEnv_cells S.kind p λaa he s1 x=>?_;subst he;refine⟨M.keeps x.toInCall.keep,codeAny_func ?_⟩;obtain⟨t,ht,hq⟩:=m A c s H vs Q E (L.deeper _) D;have I:Inv (Yj CX P w K mg g N d a f h A c s H E) [] (NM N vs) H s1:=Yb S L.hd C hl r x;refine A1a (ht [] s1 (NM N vs) H _ I hq) (λfl T z=>?_) λe T z=>z;have fin:∀{σ':St}{l:Hp}{v:V}{u:S_},Inv (Yj CX P w K mg g N d a f h A c s H E) [] σ' l T->Bj v u->Q v l->CE c P w H s Q u T :=
  λ{σ' l v u} J R q=>⟨v,l,J.os,J.bare,J.base,J.hok,R,q⟩
 cases fl with
 |ret u =>
  obtain⟨v,σ',l,J,R,q⟩:=z;exact fin J R q
 |next =>
  obtain⟨σ',l,J,q⟩:=z;exact fin (v:=V.non) (u:=Value.none) J rfl q
 |brk =>
  obtain⟨_,_,_,q⟩:=z;exact False.elim q
 |cont =>
  obtain⟨_,_,_,q⟩:=z;exact False.elim q
section
variable{X:Cx}{x:Str}{p pos:Pos}{e:Expr}{es:List Expr}{t:TA}{id T:String}{r:List V->Hp->VK->Prop}
def tCB(r:List V->Hp->VK->Prop)(t:TA):TE:=fun σ H Q=>t σ H λvs H1=>r vs H1 Q
theorem AO(i:Gk X (.builtin id) r)(k:Gl X x)(l:X.mg x=none)(n:bootBuiltins x=some (.builtin id))(g:PA X (e::es) t)(m:x≠"__name__" := by decide)(b:(x==("__debug__" : Str))=false:=by decide)
  (j:starEach (e::es) X.env=(false,eval e X.env)::starEach es X.env:=by rfl) (c:(backTo pos (starEach es X.env)).any (·.1)=false:=by rfl):PE X (.Call (.Name x p) (e::es) [] pos) (tCB r t):=by
 intro a s σ H Q I h;refine A2b (JV I k l n ?_ m b);exact PyProof.Rows.callWith_builtin1 (thn (g pos a s σ H _ I h) λus u ⟨vs,d,f,q,o⟩=>i a u σ d vs us Q f q o) j c
theorem Bo(i:Gk X (.type T) r)(k:Gl X x)(l:X.mg x=none)(n:bootBuiltins x=some (.type T))(g:PA X (e::es) t)(m:x≠"__name__" := by decide)(b:(x==("__debug__" : Str))=false:=by decide)
  (j:starEach (e::es) X.env=(false,eval e X.env)::starEach es X.env:=by rfl) (c:(backTo pos (starEach es X.env)).any (·.1)=false:=by rfl):PE X (.Call (.Name x p) (e::es) [] pos) (tCB r t):=by
 intro a s σ H Q I h;refine A2b (JV I k l n ?_ m b);exact A0h (thn (g pos a s σ H _ I h) λus u ⟨vs,d,f,q,o⟩=>i a u σ d vs us Q f q o) j c
end
end L2
namespace HT
open PySem PyProof.Rows
section
variable{prog:N_}{w:Q_}{A:Around}{E:B_}{s:P_}
def sIx(n d:Nat):Option Int->Nat
|none=>d
|some v=>if v<0 then(v+(n:Int)).toNat else min v.toNat n
end
end HT
namespace L2
open PySem PySem.Spec PyProof.Rows
abbrev TO:=St->Hp->(Option Int->Hp->Prop)->Prop
def PO(X:Cx)(e:Option Expr)(t:TO):Prop :=
 ∀(pins:A_)(s:P_)(σ:St)(H:Hp)(Q:Option Int->Hp->Prop),Inv X pins σ H s->t σ H Q ->
  wpAny (model X.prog X.w) X.A (evalPart e X.env) (λu s'=>∃o H',Inv X pins σ H' s'/\IsPart u o/\Q o H') X.xe s
def tNoPart:TO:=λ_ H Q=>Q none H
def tPart(t:TE):TO:=fun σ H Q=>t σ H λx H1=>∃i,x=.int i/\Q (some i) H1
section
variable{X:Cx}{e:Expr}{te:TE}{lo hi:Option Expr}{tl th:TO}{pos p2:Pos}
theorem VH:PO X none tNoPart:=by
 intro a s σ H Q I h;rw[evalPart_none];exact X4 ⟨none,H,I,.none,h⟩
theorem On(h:PE X e te):PO X (some e) (tPart te):=by
 intro a s σ H Q I d;rw[evalPart_some];refine thn (h a s σ H _ I d) λu j ⟨x,b,c,g,f⟩=>?_;obtain⟨i,rfl,q⟩:=f;obtain⟨t,rfl⟩:=g;exact⟨some i,b,c,.int i t,q⟩
def SlR(X:Cx)(r:V->Option Int->Option Int->Hp->VK->Prop):Prop :=
 ∀(pins:A_)(s:P_)(σ:St)(H:Hp)(x:V)(v vl vu:S_)(lo hi:Option Int)(sl:R_)(Q:VK),Inv X pins σ H s->Bj x v->s.heap.IsSliceOf sl vl vu .none->IsPart vl lo->IsPart vu hi->r x lo hi H Q ->
  ∃T id,typeLookup (.type T) "__getitem__" = pure (some (.builtin id))/\s.TypeIs v T/\wpAny (model X.prog X.w) X.A (getItem v (.ref sl)) (EP X pins σ Q) X.xe s
def tSl(r:V->Option Int->Option Int->Hp->VK->Prop)(te:TE)(tl th:TO):TE:=fun σ H Q=>te σ H λx H1=>tl σ H1 λl H2=>th σ H2 λu H3=>r x l u H3 Q
theorem OX{r:V->Option Int->Option Int->Hp->VK->Prop}(B:SlR X r)(t:PE X e te)(z:PO X lo tl)(D:PO X hi th):PE X (.Subscript e (.Slice lo hi none p2) pos) (tSl r te tl th):=by
 intro a s σ H Q I h;refine Subscript_ (thn (t a s σ H _ I h) λv M ⟨x,i,k,L,F⟩=>?_);refine wpAny_Slice (thn (z a M σ i _ k F) λd N ⟨l,j,m,pl,G⟩=>thn (D a N σ j _ m G) λf c ⟨u,g,n,E,K⟩=>?_);rw[evalPart_none];refine X4 ?_;have o:Inv X a σ g {c with heap:=c.heap.push {cls:=.type "slice",data:=.fields #[d,f,.none]} }:=n.kept (t':=c.toks) λb O q=>C3 _ q;obtain⟨T,id,p,C,y⟩:=B a {c with heap:=c.heap.push {cls:=.type "slice",data:=.fields #[d,f,.none]} } σ g x v d f l u c.heap.objs.size Q o L (Heap.IsSliceOf.new ..) pl E K;show wpAny (model X.prog X.w) X.A (subscriptTail e (.Slice lo hi none p2) v (.ref c.heap.objs.size)) (EP X a σ Q) X.xe {c with heap:=c.heap.push {cls:=.type "slice",data:=.fields #[d,f,.none]} };exact tail_any (ops:=[.ref c.heap.objs.size,v]) C p y (by with_unfolding_all rfl)
def Sg(xs:List V)(lo hi:Option Int):List V:=(xs.drop (HT.sIx xs.length 0 lo)).take (HT.sIx xs.length xs.length hi-HT.sIx xs.length 0 lo)
theorem TF(xs:List V)(lo hi:Option Int):(Sg xs lo hi).length<=xs.length:=by
 unfold Sg;rw[M5,List.length_drop];lia
end
def ixN(n:Nat)(i:Int):Option Nat:=if 0<=i then(if i<n then some i.toNat else none)else if -(n:Int)<=i then some (i+n).toNat else none
def atI{α:Type}(xs:List α)(i:Int):Option α:=(ixN xs.length i).bind λj=>xs[j]?
theorem VW{n:Nat}{i:Int}{j:Nat}(h:ixN n i=some j):seqIndex? i n=some j/\j<n/\-(n:Int)<=i/\i<n:=by
 unfold ixN at h;by_cases b:0<=i
 .rw[Z9 b]at h;by_cases a:i<n
  .rw[Z9 a]at h;have e:i.toNat=j:=K0 h;exact⟨by rw[seqIndex_of b a,e],by lia,by lia,a⟩
  .rw[Z6 a]at h;cases h
 .rw[Z6 b]at h;by_cases a:-(n:Int)<=i
  .rw[Z9 a]at h;have e:(i+n).toNat=j:=K0 h;exact⟨by rw[seqIndex_neg A0 a,e],by lia,a,by lia⟩
  .rw[Z6 a]at h;cases h
theorem Sl{α:Type}{xs:List α}{i:Int}{v:α}(h:atI xs i=some v):∃j,seqIndex? i xs.length=some j/\xs[j]?=some v/\j<xs.length/\-(xs.length:Int)<=i/\i<xs.length:=by
 unfold atI at h;cases e:ixN xs.length i with
 |none=>rw[e]at h;cases h
 |some j =>
  rw[e]at h;obtain⟨a,b,c,d⟩:=VW e;exact⟨j,a,h,b,c,d⟩
theorem Ai{α:Type}{xs:List α}{j:Nat}{v:α}(h:xs[j]?=some v):atI xs (j:Int)=some v:=by
 have a:j<xs.length:=(B9.mp h).1;have e:ixN xs.length (j:Int)=some j:=by
  unfold ixN;rw[Z9 A0,Z9 A0];simp
 unfold atI;rw[e];exact h
def PlainIx(b:Expr):Prop:=∀o i,subscripted b false o i=operate [o,i] (getItem o i)
def IxR(X:Cx)(r:R2):Prop :=
 ∀(value slice:Expr)(pins:A_)(s:P_)(σ:St)(H:Hp)(x y:V)(v u:S_)(Q:VK),Inv X pins σ H s->Bj x v->Bj y u->r x y H Q ->
  subscripted slice false v u=operate [v,u] (getItem v u)->wpAny (model X.prog X.w) X.A (subscriptTail value slice v u) (EP X pins σ Q) X.xe s
def MtR(X:Cx)(id:String)(r:V->List V->Hp->VK->Prop):Prop :=
 ∀(pins:A_)(s:P_)(σ:St)(H:Hp)(x:V)(xs:List V)(v:S_)(us:F_)(Q:VK),Inv X pins σ H s->Bj x v->AR xs us->r x xs H Q ->
  wpAny (model X.prog X.w) X.A (call (.builtin id) (v::us)) (EP X pins σ Q) X.xe s
section
variable{X:Cx}{a b:Expr}{ta tb:TE}{pos:Pos}
theorem Aj{r:R2}(i:IxR X r)(f:PE X a ta)(g:PE X b tb)(j:PlainIx b):PE X (.Subscript a b pos) (tOp r ta tb):=by
 intro c s σ H Q I h;exact Subscript_ (binT f g I h λv u m x y d e k l q=>i a b c m σ d x y v u Q e k l q (j _ _))
def rIxL(K:O_):R2:=λx y H Q=>∃p xs i v,x=.ref p/\y=.int i/\SqL K H p xs/\atI xs i=some v/\Q v H
def Lw(K:O_):R2:=λx y H Q=>∃p xs i v,x=.ref p/\y=.int i/\SqT K H p xs/\atI xs i=some v/\Q v H
def rIxS:R2:=λx y H Q=>∃z i c,x=.str z/\y=.int i/\z.length<=sizeLine/\atI z.cps.toList i=some c/\Q (.str ⟨#[c]⟩) H
theorem Ax:IxR X (rIxL X.K):=by
 intro l k c s σ H x y v u Q I G L h o;obtain⟨p,xs,i,z,rfl,rfl,F,D,q⟩:=h;cases G;obtain⟨t,rfl⟩:=L;obtain⟨f,r,pl,P⟩:=I.list F;obtain⟨j,d,A,N,B,C⟩:=Sl D;obtain⟨w,m,g⟩:=r.get A;have E:=r.length;have O:=NB;have fin:EP X c σ Q w s:=⟨z,H,I,g,q⟩
 by_cases n:0<=i
 .have e:i.toNat=j:=by
   rw[seqIndex_of n C]at d;exact K0 d
  exact item_listR pl.isList n A0 (by rw[e];simpa using m) fin o
 .have e:(i+(f.toArray.size:Int)).toNat=j:=by
   rw[seqIndex_neg A0 B]at d;rw[D8,<-E];exact K0 d
  exact subscriptTail_builtinR (x:=w) pl.isList.typeIs slot_list_getitem.lookup
   (wpAny_getItem_list_neg (Q:=λr M=>r=w/\EP X c σ Q r M) pl.isList A0 (by rw[D8]<;>lia) A0 (by rw[e];simpa using m) ⟨rfl,fin⟩) o
theorem An:IxR X (Lw X.K):=by
 intro f e c s σ H x y v u Q I C D h A;obtain⟨p,xs,i,z,rfl,rfl,o,m,q⟩:=h;cases C;obtain⟨t,rfl⟩:=D;obtain⟨B,r,pl,N⟩:=I.tuple o;obtain⟨j,k,l,F,G,L⟩:=Sl m;obtain⟨w,g,d⟩:=r.get l;have n:=r.length;have M:=NB;have fin:EP X c σ Q w s:=⟨z,H,I,d,q⟩
 exact subscriptTail_builtinR (x:=w) pl.typeIs slot_tuple_getitem.lookup
  (getItem_tuple (j:=j) (Q:=λr E=>r=w/\EP X c σ Q r E) pl A0 A0 (by rw[D8,<-n];exact k) (by simpa using g) ⟨rfl,fin⟩) A
theorem ix_str:IxR X rIxS:=by
 intro e d g s σ H x y v u Q I A B h w;obtain⟨z,i,c,rfl,rfl,E,p,q⟩:=h;obtain⟨t,rfl⟩:=A;obtain⟨t',rfl⟩:=B;obtain⟨j,f,m,C,n,o⟩:=Sl p;have r:z.cps.toList.length=z.length:=by simp[Str.length]
 rw[r]at f n o;have D:=NB;exact tail_any (A5b s z t) slot_str_getitem.lookup (getItem_str (c:=c) (by
  have k:decide (i < -(2^63:Int))=false:=Z8 A0;have l:decide (i ≥ 2^63)=false:=Z8 A0;rw[k,l,Bool.or_false]) (by rw[f];simpa using m) ⟨.str ⟨#[c]⟩,H,I.tok _,⟨_,rfl⟩,q⟩) w
theorem UL(c:F_)(n j:Nat)(u:S_):Obj.mapSeq (·.setIfInBounds j u) {cls:=.type "list",data:=.seq c.toArray n}={cls:=.type "list",data:=.seq (c.set j u).toArray n}:=by
 simp[Obj.mapSeq]
theorem Inv.lst{d:A_}{σ:St}{H:Hp}{s:P_}{p:R_}{xs:List V}(I:Inv X d σ H s)(h:H p=some (.lst xs)) :
  ∃(c:F_)(n:Nat),AR xs c/\s.heap.get? p=some {cls:=.type "list",data:=.seq c.toArray n}/\xs.length<=sizeLine:=by
 obtain⟨z,c,n,r,e⟩:=I.hok p _ h;exact⟨c,n,r,e,z⟩
theorem Inv.lstUpd{c:A_}{σ:St}{H:Hp}{s:P_}{p:R_}{xs ys:List V}{d its':F_}{n g:Nat}{f:Obj->Obj}(I:Inv X c σ H s)(h:H p=some (.lst xs))
  (k:s.heap.get? p=some {cls:=.type "list",data:=.seq d.toArray n}) (i:f {cls:=.type "list",data:=.seq d.toArray n}={cls:=.type "list",data:=.seq its'.toArray g}) (r:AR ys its') (l:ys.length<=sizeLine) (t:Nat) :
  Inv X c σ (upd H p (.lst ys)) {s with heap:=s.heap.update p f,toks:=t}:=by
 have e:(s.heap.update p f).get? p=some {cls:=.type "list",data:=.seq its'.toArray g}:=by
  rw[Y4 f k (by rw[i]<;>rfl),i]
 refine I.write (x:=p) (e:=p) (by rw[h];trivial) (.inl rfl) (λb u j q=>(W6 _ _ (X6 j)).trans q) ⟨_,e⟩ ?_;exact⟨l,its',g,r,e⟩
def rSetL:V->V->V->Hp->(Hp->Prop)->Prop:=λo i v H Q=>∃p xs k j,o=.ref p/\i=.int k/\H p=some (.lst xs)/\ixN xs.length k=some j/\Q (upd H p (.lst (xs.set j v)))
theorem YV:PSet X rSetL:=by
 intro d s σ H o i v L K u Q I D C E h;obtain⟨p,xs,k,j,rfl,rfl,z,A,q⟩:=h;cases D;obtain⟨t,rfl⟩:=C;obtain⟨c,n,r,l,B⟩:=I.lst z;obtain⟨e,F,x,y⟩:=VW A;have g:=r.length;have G:=NB;have m:Inv X d σ (upd H p (.lst (xs.set j v))) {s with heap:=s.heap.update p (Obj.mapSeq (·.setIfInBounds j u))} :=
  I.lstUpd z l (UL c n j u) (r.set E j) (by rw[List.length_set];exact B) s.toks
 by_cases w:0<=k
 .have f:k.toNat=j:=by
   rw[seqIndex_of w y]at e;exact K0 e
  exact W.ki_setAt l w A0 (by rw[D8,<-g];exact y) (by rw[f];exact⟨_,m,q⟩)
 .have f:(k+(c.toArray.size:Int)).toNat=j:=by
   rw[seqIndex_neg A0 x]at e;rw[D8,<-g];exact K0 e
  exact W.ki_setBack l A0 (by rw[D8,<-g];exact x) A0 (by rw[f];exact⟨_,m,q⟩)
theorem Rm(lo c:Option Int)(n:Nat):(sliceBounds lo c none n).1=((HT.sIx n 0 lo:Nat):Int)/\(sliceBounds lo c none n).2.1=((HT.sIx n n c:Nat):Int)/\(sliceBounds lo c none n).2.2=1:=by
 refine⟨?_,?_,rfl⟩
 .cases lo with
  |none=>simp[sliceBounds,HT.sIx]
  |some i =>
   simp only[sliceBounds,HT.sIx,Option.getD_none,show(1:Int) > 0 by decide,A3h];by_cases h:i<0
   .simp only[h,A3h]<;>lia
   .simp only[h,A3a]<;>lia
 .cases c with
  |none=>simp[sliceBounds,HT.sIx]
  |some i =>
   simp only[sliceBounds,HT.sIx,Option.getD_none,show(1:Int) > 0 by decide,A3h];by_cases h:i<0
   .simp only[h,A3h]<;>lia
   .simp only[h,A3a]<;>lia
theorem PQ(c:F_)(lo d:Option Int):slicePick c.toArray lo d none=((c.drop (HT.sIx c.length 0 lo)).take (HT.sIx c.length c.length d-HT.sIx c.length 0 lo)).toArray:=by
 obtain⟨e,f,g⟩:=Rm lo d c.toArray.size;unfold slicePick;rw[e,f,g];simp only[sliceRange_one,pick_run,D8]<;>rfl
def rSlL(K:O_):V->Option Int->Option Int->Hp->VK->Prop:=λx lo hi H Q=>∃a xs,x=.ref a/\SqL K H a xs/\∀p,H p=none->Q (.ref p) (upd H p (.lst (Sg xs lo hi)))
theorem Rn:SlR X (rSlL X.K):=by
 intro f s σ H x v t u lo d p Q I m g pl l h;obtain⟨a,xs,rfl,i,q⟩:=h;cases m;obtain⟨k,r,e,j⟩:=I.list i;have c:=r.length;refine⟨"list",_,slot_list_getitem.lookup,e.isList.typeIs,?_⟩;refine wpAny_getItem_list_slice e.isList g pl l .none A6 ?_ (by rw[D8]<;>lia);rw[PQ,<-c];refine⟨.ref s.heap.objs.size,_,I.laid (t':=s.toks) (o:=.lst (Sg xs lo d)) (λb n q=>C3 _ q) (C1 _) ?_,rfl,q _ (I.hok.fresh (C1 _))⟩;exact⟨D1 (TF xs lo d) j,_,0,(r.drop (HT.sIx xs.length 0 lo)).take (HT.sIx xs.length xs.length d-HT.sIx xs.length 0 lo),D5 _ rfl⟩
def ML:V->Bool
|.non=>true
|.bl _=>true
|.int _=>true
|.str _=>true
|_=>false
def eqV:V->V->Bool
|.non,.non=>true
|.bl a,.bl b=>a==b
|.bl a,.int b=>(if a then 1 else 0)==b
|.int a,.bl b=>a==(if b then 1 else 0)
|.int a,.int b=>a==b
|.str a,.str b=>a==b
|_,_=>false
theorem eqAt_V{A:Around}{s:P_}{y x:V}{u v:S_}(d:Bj y u)(c:Bj x v)(e:ML y=true)(fx:ML x=true):SeqAt.EqAt A s u v (eqV y x):=by
 cases y with
 |non =>
  cases d;cases x with
  |non=>cases c;exact SeqAt.EqAt.same _
  |bl b=>cases c;exact SeqAt.EqAt.none_bool b
  |int b=>obtain⟨t,rfl⟩:=c;exact SeqAt.EqAt.none_int b t
  |str b=>obtain⟨t,rfl⟩:=c;exact SeqAt.EqAt.none_str b t
  |_=>exact absurd (show false=true from fx) D4
 |bl a =>
  cases d;cases x with
  |non=>cases c;exact SeqAt.EqAt.bool_none a
  |bl b=>cases c;exact SeqAt.EqAt.bool_bool a b
  |int b=>obtain⟨t,rfl⟩:=c;exact SeqAt.EqAt.bool_int a b t
  |str b=>obtain⟨t,rfl⟩:=c;exact SeqAt.EqAt.bool_str a b t
  |_=>exact absurd (show false=true from fx) D4
 |int a =>
  obtain⟨t',rfl⟩:=d;cases x with
  |non=>cases c;exact SeqAt.EqAt.int_none a t'
  |bl b=>cases c;exact SeqAt.EqAt.int_bool a t' b
  |int b=>obtain⟨t,rfl⟩:=c;exact SeqAt.EqAt.int_int a t' b t
  |str b=>obtain⟨t,rfl⟩:=c;exact SeqAt.EqAt.int_str a t' b t
  |_=>exact absurd (show false=true from fx) D4
 |str a =>
  obtain⟨t',rfl⟩:=d;cases x with
  |non=>cases c;exact SeqAt.EqAt.str_none a t'
  |bl b=>cases c;exact SeqAt.EqAt.str_bool a t' b
  |int b=>obtain⟨t,rfl⟩:=c;exact SeqAt.EqAt.str_int a t' b t
  |str b=>obtain⟨t,rfl⟩:=c;exact SeqAt.EqAt.str_str a t' b t
  |_=>exact absurd (show false=true from fx) D4
 |_=>exact absurd (show false=true from e) D4
def eqU(x:V)(u:S_):Bool:=match u with
|.none=>eqV .non x
|.bool b=>eqV (.bl b) x
|.int i _=>eqV (.int i) x
|.str z _=>eqV (.str z) x
|_=>false
theorem eqU_of{x y:V}{u:S_}(r:Bj y u)(f:ML y=true):eqU x u=eqV y x:=by
 cases y with
 |non=>cases r;rfl
 |bl b=>cases r;rfl
 |int i=>obtain⟨t,rfl⟩:=r;rfl
 |str z=>obtain⟨t,rfl⟩:=r;rfl
 |_=>exact absurd (show false=true from f) D4
theorem Sr{x:V}:∀{xs:List V}{us:F_},AR xs us->xs.all ML=true->us.any (eqU x)=xs.any λy=>eqV y x
|_,_,.nil,_=>rfl
|y::xs,u::us,.cons r t,f=>by
 rw[List.all_cons,P9]at f;rw[T7,T7,eqU_of r f.1,Sr t f.2]
theorem Pr{A:Around}{s:P_}{x:V}{v:S_}(d:Bj x v)(fx:ML x=true):∀{xs:List V}{us:F_},AR xs us->xs.all ML=true->∀u∈us,SeqAt.EqAt A s u v (eqU x u)
|_,_,.nil,_=>λu c=>by cases c
|y::xs,u::us,.cons r t,f=>λe c=>by
 rw[List.all_cons,P9]at f;rcases C2.mp c with rfl|c
 .rw[eqU_of r f.1];exact eqAt_V r d f.1 fx
 .exact Pr d fx t f.2 e c
def inV(x:V)(xs:List V):Bool:=xs.any λy=>eqV y x
def rIn(K:O_)(neg:Bool):R2:=λx y H Q=>∃p xs,y=.ref p/\(SqL K H p xs\/SqT K H p xs)/\ML x=true/\xs.all ML=true/\Q (.bl (if neg then !inV x xs else inV x xs)) H
theorem Nl:OpR X (compareOp .In) (rIn X.K false):=by
 intro f s σ H x y v u Q I g j h;obtain⟨p,xs,rfl,d,fx,fs,q⟩:=h;cases j;rcases d with d|d
 .obtain⟨c,r,pl,i⟩:=I.list d;refine SeqAt.in_listAt (eqU x) pl.isList (λw e=>Pr g fx r fs w (by simpa using e)) ⟨.bl _,H,I,rfl,?_⟩;rw[show c.toArray.any (eqU x)=c.any (eqU x) by simp,Sr r fs];exact q
 .obtain⟨c,r,pl,i⟩:=I.tuple d;refine SeqAt.in_tupleAt (eqU x) pl (λw e=>Pr g fx r fs w (by simpa using e)) ⟨.bl _,H,I,rfl,?_⟩;rw[show c.toArray.any (eqU x)=c.any (eqU x) by simp,Sr r fs];exact q
theorem BC:Gk X (.builtin "len") (λxs H Q=>∃p ys,xs=[.ref p]/\(SqL X.K H p ys\/SqT X.K H p ys)/\Q (.int ys.length) H):=by
 intro g s σ H xs us Q I r h;obtain⟨p,ys,rfl,d,q⟩:=h;obtain⟨u,rfl,j⟩:=Sy r;cases j;have k:=NB;rcases d with d|d
 .obtain⟨e,f,pl,i⟩:=I.list d;have c:=f.length;exact Calls.call_len_list pl.isList (by simp only[D8]<;>lia) ⟨.int ys.length,H,I.tok _,⟨s.toks+1,by rw[D8,c]⟩,q⟩
 .obtain⟨e,f,pl,i⟩:=I.tuple d;have c:=f.length;exact len_tuple pl (by simp only[D8]<;>lia) ⟨.int ys.length,H,I.tok _,⟨s.toks+1,by rw[D8,c]⟩,q⟩
theorem Jg:Gk X (.builtin "len") (λxs H Q=>∃z,xs=[.str z]/\z.length<=sizeLine/\Q (.int z.length) H):=by
 intro c s σ H xs us Q I r h;obtain⟨z,rfl,e,q⟩:=h;obtain⟨u,rfl,t,rfl⟩:=Sy r;have d:=NB;exact len_str A0 ⟨.int z.length,H,I.tok _,⟨_,rfl⟩,q⟩
theorem Sk:Gk X (.type "list") (λxs H Q=>∃p ys,xs=[.ref p]/\(SqL X.K H p ys\/SqT X.K H p ys)/\∀l,H l=none->Q (.ref l) (upd H l (.lst ys))):=by
 intro k s σ H xs us Q I r h;obtain⟨p,ys,rfl,i,q⟩:=h;obtain⟨u,rfl,y⟩:=Sy r;cases y;have fin:∀(c:F_),AR ys c->ys.length<=sizeLine->∀(h':T_)(d:Nat),(∀b x,s.heap.get? b=some x->h'.get? b=some x) ->
   h'.get? s.heap.objs.size=some {cls:=.type "list",dict:=none,data:=.seq c.toArray d,slots:=#[]}->EP X k σ Q (.ref s.heap.objs.size) {s with heap:=h'}:=λc f j h' d kp e =>
  ⟨.ref s.heap.objs.size,_,I.laid (t':=s.toks) kp (C1 _) (show BI X.prog X.w _ h' _ (.lst ys)from⟨j,c,d,f,e⟩),rfl,q _ (I.hok.fresh (C1 _))⟩
 rcases i with i|i
 .obtain⟨c,f,pl,j⟩:=I.list i;have g:=f.length;obtain⟨o,v,m,n,t⟩:=pl.isList;exact call_list_seq p (.inl rfl) v m t (λh' d kp e=>fin c f j h' d kp e) (by simp only[D8]<;>lia)
 .obtain⟨c,f,pl,j⟩:=I.tuple i;have g:=f.length;obtain⟨o,v,m,n,t⟩:=pl;exact call_list_seq p (.inr rfl) v m t (λh' d kp e=>fin c f j h' d kp e) (by simp only[D8]<;>lia)
theorem Cp:Gk X (.type "tuple") (λxs H Q=>∃p ys,xs=[.ref p]/\((SqL X.K H p ys/\∀l,H l=none->Q (.ref l) (upd H l (.tup ys)))\/(SqT X.K H p ys/\Q (.ref p) H))):=by
 intro c s σ H xs us Q I r h;obtain⟨p,ys,rfl,h⟩:=h;obtain⟨u,rfl,n⟩:=Sy r;cases n;rcases h with ⟨f,q⟩|⟨f,q⟩
 .obtain⟨d,g,pl,k⟩:=I.list f;have j:=g.length;refine call_tuple_list pl.isList (λh' kp=>?_) (by simp only[D8]<;>lia);have i:Inv X c σ H {s with heap:=h'}:=I.kept (t':=s.toks) kp
  have m:Inv X c σ (upd H h'.objs.size (.tup ys)) {s with heap:=h'.push {cls:=.type "tuple",data:=.seq d.toArray} } :=
   i.laid (t':=s.toks) (λb o e=>C3 _ e) (C1 _) (show BI X.prog X.w _ _ _ (.tup ys)from⟨k,d,g,IsTup.new _ _⟩)
  exact⟨.ref h'.objs.size,_,m,rfl,q _ (i.hok.fresh (C1 _))⟩
 .obtain⟨d,g,pl,k⟩:=I.tuple f;exact call_tuple_same pl ⟨.ref p,H,I,rfl,q⟩
def tyV(K:O_)(T:String)(x:V)(H:Hp):Prop:=match x with
|.str _=>T="str"
|.int _=>T="int"
|.ref p=>(T="list" /\ ∃xs,SqL K H p xs)\/(T="tuple" /\ ∃o,K.lookup p=some o/\o.cls=.type "tuple" /\ o.dict=none) \/
  (T="dict" /\ ((∃kvs,H p=some (.dK kvs))\/∃kvs,H p=some (.dT kvs)))\/(T="set" /\ ∃S n,H p=some (.set S n))
|_=>False
theorem tyV_is{g:A_}{σ:St}{H:Hp}{s:P_}{T:String}{x:V}{v:S_}(I:Inv X g σ H s)(r:Bj x v)(h:tyV X.K T x H) :
  s.TypeIs v T/\∀a,v=.ref a->∃l,s.heap.get? a=some l/\l.dict=none:=by
 cases x with
 |str z =>
  obtain⟨t,rfl⟩:=r;cases(show T="str" from h);exact⟨A5b s z t,λ_ e=>nomatch e⟩
 |int i =>
  obtain⟨t,rfl⟩:=r;cases(show T="int" from h);exact⟨typeIs_int s i t,λ_ e=>nomatch e⟩
 |ref p =>
  cases r;rcases h with ⟨rfl,xs,q⟩|⟨rfl,o,d,m,k⟩|⟨rfl,d⟩|⟨rfl,S,n,d⟩
  .obtain⟨u,_,pl,_⟩:=I.list q;refine⟨pl.isList.typeIs,λa e=>?_⟩;cases e;obtain⟨o,n,e,c,k,_⟩:=pl;exact⟨o,e,k⟩
  .refine⟨⟨o,I.kIn p o d,m⟩,λa e=>?_⟩;cases e;exact⟨o,I.kIn _ o d,k⟩
  .have z:∃o,s.heap.get? p=some o/\o.ExactDict:=by
    rcases d with ⟨kvs,d⟩|⟨kvs,d⟩
    .obtain⟨_,_,_,_,o,_,_,e,f,_⟩:=I.hok p _ d;exact⟨o,e,f⟩
    .obtain⟨_,_,_,_,o,_,_,e,f,_⟩:=I.hok p _ d;exact⟨o,e,f⟩
   obtain⟨o,e,f⟩:=z;refine⟨⟨o,e,f.1⟩,λa j=>?_⟩;cases j;exact⟨o,e,f.2.1⟩
  .obtain⟨o,_,_,_,e,f,_⟩:=I.hok p _ d;refine⟨⟨o,e,f.1⟩,λa j=>?_⟩;cases j;exact⟨o,e,f.2.1⟩
 |_=>exact False.elim h
def tBM(K:O_)(T:String)(r:V->List V->Hp->VK->Prop)(to:TE)(t:TA):TE:=fun σ H Q=>to σ H λx H1=>tyV K T x H1/\t σ H1 λxs H2=>r x xs H2 Q
variable{o e:Expr}{es:List Expr}{to:TE}{t:TA}{name:Str}{apos cpos:Pos}{T id:String}{r:V->List V->Hp->VK->Prop}
theorem CF(D:PlainAttrs T)(j:Slot T name id)(k:typeOf (.builtin id)=pure (.type "method_descriptor"))(A:MtR X id r)(B:PE X o to)(z:PA X (e::es) t)
  (f:attributeBase o name X.env (eval o X.env)=eval o X.env:=by rfl)
  (i:((backTo cpos (starEach (e::es) X.env)).all (λx=>!x.1) && (backToKw cpos (keywordEach [] X.env)).all (λx=>x.1.isSome)
   && decide ((e::es).length+([]:List Keyword).length+(if([]:List Keyword).isEmpty then 0 else 1)<30))=true:=by rfl)
  (g:(apos.endLine==cpos.line)=true:=by rfl) (C:starEach (e::es) X.env=(false,eval e X.env)::starEach es X.env:=by rfl) (d:(backTo cpos (starEach es X.env)).any (·.1)=false:=by rfl) :
  PE X (.Call (.Attribute o name apos) (e::es) [] cpos) (tBM X.K T r to t):=by
 intro c s σ H Q I h;refine wpAny_Call_method_late f i g rfl (thn (B c s σ H _ I h) λv L ⟨x,p,l,n,N,E⟩=>?_);obtain⟨w,y⟩:=tyV_is l n N;refine⟨T,id,D,j,k,w,y,?_⟩;have m:=z cpos c L σ p _ l E;rw[C]at m⊢;refine Calls.callWith_builtin (by show(false || (backTo cpos (starEach es X.env)).any (·.1))=false;rw[d]<;>rfl) (Calls.evalArgs_plain ?_);exact thn m λus M ⟨vs,q,u,G,F⟩=>A c M σ q x vs v us Q u n G F
end
def MtM(X:Cx)(id:String)(r:V->List V->Hp->VK->Prop):Prop :=
 ∀(pins:A_)(s:P_)(σ:St)(H:Hp)(x:V)(xs:List V)(v:S_)(us:F_)(Q:VK),Inv X pins σ H s->Bj x v->AR xs us->r x xs H Q ->
  wpAny (model X.prog X.w) X.A (call (.builtin id) (v::us)) (EP X pins σ Q) X.xe s
theorem AR.one:∀{x:V}{us:F_},AR [x] us->∃u,us=[u]/\Bj x u
|_,_,.cons r .nil=>⟨_,rfl,r⟩
theorem AR.two:∀{x y:V}{us:F_},AR [x,y] us->∃u v,us=[u,v]/\Bj x u/\Bj y v:=by
 intro x y us h;cases h with
 |cons r t=>cases t with
  |cons q t=>cases t;exact⟨_,_,rfl,r,q⟩
theorem AR.rep{xs:List V}{us:F_}(h:AR xs us):∀k:Nat,AR (List.replicate k xs).flatten (List.replicate k us).flatten
|0=>.nil
|k+1=>by
 rw[Q9,Q9,S0,S0];exact AR.append h (AR.rep h k)
theorem QE(b:F_):∀(k:Nat)(a:F_),
 List.foldl (λd f=>d++f) a.toArray (List.replicate k b.toArray)=(a++(List.replicate k b).flatten).toArray
|0,a=>by simp
|k+1,a=>by
 have e:a.toArray++b.toArray=(a++b).toArray:=by simp
 have c:(a++b)++(List.replicate k b).flatten=a++(List.replicate (k+1) b).flatten:=by
  rw[Q9,S0,S1]
 rw[<-c,<-QE b k (a++b),<-e,Q9,T1]
section
variable{X:Cx}{pins:A_}{σ:St}{H:Hp}{s:P_}{l b:R_}{xs ys zs:List V}
theorem Inv.lset{a its':F_}{n:Nat}{f:Array Value->Array Value}{t':Nat}(I:Inv X pins σ H s)(c:H l=some (.lst xs))
  (e:s.heap.get? l=some {cls:=.type "list",data:=.seq a.toArray n}) (g:f a.toArray=its'.toArray) (i:AR ys its') (j:ys.length<=sizeLine) :
  Inv X pins σ (upd H l (.lst ys)) {s with heap:=s.heap.update l (Obj.mapSeq f),toks:=t'}:=by
 have q:=PySem.IsL.update e f;rw[g]at q;refine I.write (x:=l) (e:=l) (by rw[c];exact trivial) (.inl rfl) (λk u d h=>(W6 s.heap (Obj.mapSeq f) (X6 d)).trans h) ⟨_,q⟩ ?_;exact⟨j,its',_,i,q⟩
theorem Inv.lnew{a:F_}{t':Nat}(I:Inv X pins σ H s)(c:AR ys a)(d:ys.length<=sizeLine) :
  Inv X pins σ (upd H s.heap.objs.size (.lst ys)) {s with heap:=s.heap.push {cls:=.type "list",data:=.seq a.toArray},toks:=t'} :=
 I.laid (λ_ _ q=>C3 _ q) (C1 _) ⟨d,a,0,c,D5 _ rfl⟩
theorem Inv.fresh(I:Inv X pins σ H s):H s.heap.objs.size=none:=I.hok.fresh (C1 _)
theorem Inv.lstM(I:Inv X pins σ H s)(c:H l=some (.lst xs)):xs.length<=sizeLine/\∃(a:F_)(n:Nat),AR xs a/\xs.length=a.length/\s.heap.get? l=some {cls:=.type "list",data:=.seq a.toArray n}:=by
 obtain⟨z,a,n,r,e⟩:=I.hok l _ c;exact⟨z,a,n,r,r.length,e⟩
theorem ZC{n:Nat}(h:n<=sizeLine):Builtin.List.listTooLong n=false:=by
 unfold Builtin.List.listTooLong;exact Z8 A0
end
section
variable{X:Cx}
def VG:V->List V->Hp->VK->Prop:=λx vs H Q=>∃l xs y,x=.ref l/\vs=[y]/\H l=some (.lst xs)/\xs.length<sizeLine/\Q .non (upd H l (.lst (xs++[y])))
theorem Bw:MtM X "list.append" VG:=by
 intro c s σ H x vs v us Q I g f h;obtain⟨l,xs,y,rfl,rfl,b,j,q⟩:=h;cases g;obtain⟨u,rfl,d⟩:=f.one;obtain⟨z,a,n,r,i,e⟩:=I.lstM b;refine A3f F.slot_list_append ⟨_,e,rfl⟩ F.entry_list_append (F.args_list_append_2 _ _) (PySem.list_append l a.toArray n u (by rw[D8];lia)) ⟨e,?_⟩;refine⟨.non,_,I.lset (its':=a++[u]) b e A6 (r.append (.cons d .nil)) ?_,rfl,q⟩;rw[C5,R8];lia
def rCat:R2:=λx y H Q=>∃l b xs zs,x=.ref l/\y=.ref b/\H l=some (.lst xs)/\H b=some (.lst zs)/\xs.length+zs.length<=sizeLine/\∀p,H p=none->Q (.ref p) (upd H p (.lst (xs++zs)))
theorem Rx:OpR X (binaryOp .Add) rCat:=by
 intro d s σ H x y v u Q I o p h;obtain⟨l,b,xs,zs,rfl,rfl,j,i,w,q⟩:=h;cases o;cases p;obtain⟨z,c,n,r,t,e⟩:=I.lstM j;obtain⟨B,a,A,m,k,f⟩:=I.lstM i;refine PySem.P.add_list e f ?_ (by rw[D8,D8];lia);have g:c.toArray++a.toArray=(c++a).toArray:=by simp
 rw[g];exact⟨.ref _,_,I.lnew (t':=s.toks) (r.append m) (by rw[C5];lia),rfl,q _ I.fresh⟩
def rRep:R2:=λx y H Q=>∃l k xs,x=.ref l/\y=.int k/\H l=some (.lst xs)/\-(2^63)<=k/\k<2^63/\xs.length*k.toNat<=sizeLine /\
 ∀p,H p=none->Q (.ref p) (upd H p (.lst (List.replicate k.toNat xs).flatten))
theorem len_rep{α:Type}(xs:List α)(k:Nat):(List.replicate k xs).flatten.length=k*xs.length:=by
 induction k with
 |zero=>simp
 |succ k a=>rw[Q9,S0,C5,a,W2,Z2]
theorem op_rep:OpR X (binaryOp .Mult) rRep:=by
 intro w s σ H x y v u Q I G K h;obtain⟨l,k,xs,rfl,rfl,D,B,C,p,q⟩:=h;cases G;obtain⟨t,rfl⟩:=K;obtain⟨z,b,n,r,E,e⟩:=I.lstM D;have g:b.toArray.size*k.toNat<=sizeLine:=by rw[D8,<-E];exact p
 have d:¬b.toArray.size*k.toNat > (2^63-1)/8:=by
  have:(sizeLine:Nat)<=(2^63-1)/8:=by decide
  lia
 have f:¬(!Builtin.List.listFitsIndex k)=true:=by
  rw[fitsIndex_both B C];exact D4
 have c:¬Builtin.List.listTooLong (b.toArray.size*k.toNat)=true:=by
  rw[ZC g];exact D4
 have i:List.foldl (λj o=>j++o) #[] (List.replicate (if b.toArray.isEmpty=true then 0 else k.toNat) b.toArray)=(List.replicate k.toNat b).flatten.toArray:=by
  have A:∀m:Nat,List.foldl (λj o=>j++o) #[] (List.replicate m b.toArray)=(List.replicate m b).flatten.toArray:=λm=>by
   have:=QE b m [];rw[List.nil_append]at this;exact this
  rw[A];cases b with
  |nil=>simp
  |cons a M=>rw[Z6 A6]
 refine wpAny_binaryOp_repeat_ref (T:="list") (U:="int") A4 ⟨_,e,rfl⟩ (λL=>typeIs_int L k t) noFill_list_mul F.fills_int_mul F.slot_int_rmul repeat_list F.slot_int_index.lookup
  (A3f F.slot_int_rmul (typeIs_int s k t) F.entry_int_rmul (F.args_int_rmul_2 _ _) (int___rmul___int_list k t l b.toArray n)
   ⟨e,rfl,⟨_,e,rfl⟩,A3f F.slot_list_mul ⟨_,e,rfl⟩ F.entry_list_mul (F.args_list_mul_2 _ _) (AutoListH.list___mul___list_int_3 l b.toArray n k t f d c) ⟨e,?_⟩⟩)
 rw[i];exact⟨.ref _,_,I.lnew (t':=s.toks) (r.rep k.toNat) (by rw[len_rep,U6];exact p),rfl,q _ I.fresh⟩
end
end L2
namespace Att
open PySem PySem.W PySem.Calls PyProof.Rows
theorem Ob{P:Params}{h:T_}:∀(ns:I_)(vs:F_),WellAll P h vs (ns.map WData.int)->IntsAre vs ns:=by
 intro ns;induction ns with
 |nil =>
  intro vs w;rw[Z3]at w;cases w;exact .nil
 |cons n ns c =>
  intro vs w;rw[F7]at w;cases w with
  |cons a b =>
   cases a;exact .cons _ _ (c _ b)
theorem WC{l:OpenLaw}{n:Nat}(t:l.most=some n){P:Params}{h:T_}{args:List WData}{c:F_}
  (b:l.row.toRowW.claim.pre args=true) (k:WellAll P h c args) :
  ∃a vs ns,c=[Value.ref a]/\args=[WData.list (ns.map WData.int)]/\h.get? a=some {cls:=.type "list",data:=.seq vs.toArray}/\IntsAre vs ns/\ns.length<=n:=by
 have j:WShape.hasAll [] args [.list .int]=true:=(pre_splitW b).1;have m:l.pre.holds [] {args:=args}=true:=(pre_splitW b).2;obtain⟨d,r,rfl,o,p⟩:=hasAllW_cons j;obtain rfl:=hasAllW_nil p;obtain⟨xs,rfl,s⟩:=hasW_list o;obtain⟨ns,rfl⟩:=items_int s;have f:ns.length<=n:=by
  unfold OpenLaw.pre at m;have g:(WTm.not (.lt (.lit (.int (n:Int))) (.len (.arg 0)))).holds [] {args:=[.list (ns.map .int)]}=true:=by
   have g:=(holds_andW m).1;rw[t]at g;exact g
  have i:=condW_of g (w_not (w_lt w_lit (w_len_list (w_arg rfl))));rw[B8]at i;refine P7 λq=>?_;have v:(n:Int)<((ns.length:Nat):Int):=by lia
  first
   | (rw[Z7 v]at i;exact absurd i A4)
   | (simp at i;lia)
 cases k with
 |cons w x =>
  cases x;cases w with
  |list u e=>exact⟨_,_,ns,rfl,rfl,u,Ob ns _ e,f⟩
theorem WD(l:OpenLaw)(args:List WData):l.row.toRowW.claim.post args (.bool true) args=true :=
 postW_of (r:=l.row.toRowW) (X:=(true==true))
  (show WShape.has [] (.bool true) .bool=true by first|rfl|decide|simp[WShape.has,WShape.arms,WShape.armsAll])
  (show(WTm.eq .res (.lit (.bool true))).value [] {args:=args,res:=some (.bool true),after:=args}=some (.bool (true==true))from w_eq_bool (w_res rfl) w_lit) rfl
theorem TU{l:OpenLaw}{n:Nat}{q:N_}{c:K_}{A:(Str->Option Value)->Heap->Prop}{B:World->Heap->Prop}{d:DefRec}
  (Q:l.most=some n) (u:d.params.defaults=[])
  (call:∀(w:Q_)(e b:P_)(mg y:C_)(i:R_)(o:Obj)(z p g:S_)(a:R_)(vs:F_)(ns:I_),
   Ground q c [] A w e mg y b.heap->B w b.heap ->
   b.heap.get? i=some o->o.data=.func (docDef d.name d.params d.body d.scope z p g)->b.heap.CodeRec p d.name->mg d.name=some (.ref i) ->
   b.heap.get? a=some {cls:=.type "list",data:=.seq vs.toArray}->IntsAre vs ns->ns.length<=n->b.gens=#[] ->
   codeAny (model l.prog w) callerA (.call (.ref i) ⟨[.ref a],[]⟩) (λr s=>r=.ok (.ret (.bool true))/\OldK b.heap s.heap/\s.os=b.os/\AllBare s.gens) b) :
  WalkO q c A B l.row.toRowW d [] (λf vs=>PySem.call f vs):=by
 intro w e b mg y G Y i o z p g H kV R M t D v N C F as m E T x O;obtain rfl:H=.none:=Dflts.none D u;obtain rfl:kV=.none:=Dflts.noKw D;obtain⟨a,vs,ns,rfl,rfl,k,h,j⟩:=WC Q m x;refine enter_call (A5a (call w e b mg y i o z p g a vs ns G Y R (fd_plain M) t v k h j N) λr s S=>?_);obtain⟨rfl,I,K,L⟩:=S;exact⟨.inl ⟨.bool true,.bool true,[],rfl,λ_=>rfl,.bool true,WD l _,λ_=>⟨List.Pairwise.nil,λ_ P=>(nomatch P)⟩⟩,I,K,L⟩
end Att
namespace L2
open PySem PySem.Spec PyProof.Rows
theorem Qq:∀{vs:F_}{ns:I_},IntsAre vs ns->AR (ns.map V.int) vs
|_,_,.nil=>.nil
|_,_,.cons n t h=>.cons ⟨t,rfl⟩ (Qq h)
def Only(H:Hp):Prop:=∀b,H b=none\/∃o xs,H b=some (.frz o (.lst xs))
theorem ZU{P:N_}{w:Q_}{K:O_}{mg X:C_}{CX:CXT}{k:Nat}{Q a:R_}{fd:E_}{x:Str}{sp:Sp}{c:P_}{vs:F_}{ns:I_}
  (Z:K.In c.heap) (D:c.heap.Ns mainGlobals mg) (g:c.heap.Ns builtinsNs X) (S:∀x:Str,x≠"__name__" -> X x=bootBuiltins x) (C:c.heap.NoLimit) (hg:c.gens=#[])
  (N:c.heap.get? a=some {cls:=.type "list",data:=.seq vs.toArray}) (hi:IntsAre vs ns) (hl:ns.length<=sizeLine) (hr:Db k callerA)
  (F:∀i:Heap,K.In i->i.Ns mainGlobals mg->AK P w K mg i CX k Q fd [x] sp) (t:∀(s:P_)(u:S_),BindsTo s fd ⟨[u],[]⟩ [(x,u)])
  (U:∀H:Hp,Only H->SqL K H a (ns.map V.int)->sp [.ref a] H (λv _=>v=.bl true) λ_ _ _=>False)
  (R:∀H e j,CX [] H c (λ_ _ _=>False) e j->False) :
  codeAny (model P w) callerA (.call (.ref Q) ⟨[.ref a],[]⟩) (λr j=>r=.ok (.ret (.bool true))/\OldK c.heap j.heap/\j.os=c.os/\AllBare j.gens) c:=by
 have rv:=Qq hi;have I:=hi.length;have p:∀H:Hp,Only H->SqL K H a (ns.map V.int)->HOk P w H c.heap->(∀b,H b≠none->b=a)->(H a≠none->K.lookup a=none) ->
   codeAny (model P w) callerA (.call (.ref Q) ⟨[.ref a],[]⟩) (λr j=>r=.ok (.ret (.bool true))/\OldK c.heap j.heap/\j.os=c.os/\AllBare j.gens) c:=by
  intro H hO hS E hA hK;have f:∀{b:R_}{o:Obj},c.heap.get? b=some o->H b=none->(RZ c.heap H).get? b=some o:=λe n=>hidT_get e n;have Y:∀{b:R_}{o:Obj}{A:Array DictEntry}{y:Nat},c.heap.get? b=some o->o.data=.dict A y->H b=none:=λ{b o A y} e d=>by
   cases q:H b with
   |none=>rfl
   |some u =>
    have O:b=a:=hA b (by rw[q];simp);subst O;rw[N]at e;cases e;have d':Data.seq vs.toArray _=Data.dict A y:=d;cases d'
  have l:∀{b:R_}{m:C_},c.heap.Ns b m->(RZ c.heap H).Ns b m:=λ{b m} ⟨o,A,y,e,d,r⟩=>⟨o,A,y,f e (Y e d),d,r⟩
  have B:K.In (RZ c.heap H):=λb o e=>f (Z b o e) (by
   cases q:H b with
   |none=>rfl
   |some u =>
    have O:b=a:=hA b (by rw[q];simp);subst O;rw[hK (by rw[q];simp)]at e;cases e)
  have hM:Mod K mg (RZ c.heap H):=⟨B,l D,⟨X,l g,S⟩,let ⟨mc,h1,h2⟩:=C;⟨mc,l h1,h2⟩⟩
  have e0:Od P w K mg (RZ c.heap H) callerA [] c H:=⟨rfl,hM,λb o e=>of_hidT e,U9 (Yc _ _),trivial,λb g=>absurd (show b∈([]:H_)from g) A6,E,.of_eq hg⟩
  refine A5a ((F _ B (l D)).run callerA [] c H ⟨[.ref a],[]⟩ [.ref a] [.ref a] _ _ hr e0 (t c (.ref a)) (.cons rfl .nil) (U H hO hS)) λr j h=>?_;cases r with
  |error e=>exact(R H e j h).elim
  |ok fl =>
   cases fl with
   |next=>exact False.elim h
   |brk=>exact False.elim h
   |cont=>exact False.elim h
   |ret u =>
    obtain⟨v,H',L,bare,un,G,r',q⟩:=h;have q':v=.bl true:=q;subst q';obtain rfl:u=Value.bool true:=r';refine⟨rfl,OldK.of_keep λb o e=>?_,L,bare⟩;cases q:H b with
    |none=>exact un.keep b o e q (by intro z;exact absurd (show b∈([]:H_)from z) A6) A6
    |some u =>
     rcases hO b with z|⟨ob,xs,z⟩
     .rw[q]at z;cases z
     .have z2:=un.frzs b ob _ z;obtain⟨e1,_⟩:=E b _ z;obtain⟨e2,_⟩:=G b _ z2;rw[e]at e1;cases e1;exact e2
 cases T:K.lookup a with
 |some o =>
  have e:=Z a o T;rw[N]at e;cases e;refine p (λ_=>none) (λ_=>.inl rfl) (.inr ⟨_,vs.toArray,_,T,rfl,rfl,rfl,by rw[D8,I];exact hl,by simpa using rv⟩) (λb u z=>by have M:(none:Option HO)=some u:=z;cases M) (λb z=>absurd rfl z) λz=>absurd rfl z
 |none =>
  refine p (λb=>if b=a then some (.frz {cls:=.type "list",data:=.seq vs.toArray} (.lst (ns.map V.int)))else none) (λb=>?_) (.inl (.inr ⟨{cls:=.type "list",data:=.seq vs.toArray},Z9 rfl⟩)) (λb u z=>?_) (λb z=>?_) λ_=>T
  .by_cases g:b=a
   .exact .inr ⟨_,_,Z9 g⟩
   .exact .inl (Z6 g)
  .by_cases g:b=a
   .have M:=(Z9 g).symm.trans z;cases M;subst g;exact⟨N,by rw[B8];exact hl,vs,_,rv,N⟩
   .have M:=(Z6 g).symm.trans z;cases M
  .by_cases g:b=a
   .exact g
   .exact absurd (Z6 g) z
theorem Vf{l:W.OpenLaw}{n k:Nat}{q:N_}{m:K_}{N:(Str->Option Value)->Heap->Prop}{L:World->Heap->Prop}{d:DefRec}{K:Params->W.Frag}{CX:World->CXT}{sp:World->Sp}{x:Str}
  (hn:l.most=some n) (C:n<=sizeLine) (A:d.params.defaults=[]) (hr:Db k callerA)
  (S:∀(w:Q_)(h:T_),L w h->(K w.params).In h)
  (F:∀(w:Q_)(mg:C_)(t:R_)(h:T_),(K w.params).In h->h.Ns mainGlobals mg->mg d.name=some (.ref t) ->
   ∃y:FuncData,(∀(s:P_)(u:S_),BindsTo s y ⟨[u],[]⟩ [(x,u)]) /\
    ∀c:Heap,(K w.params).In c->c.Ns mainGlobals mg->AK l.prog w (K w.params) mg c (CX w) k t y [x] (sp w))
  (D:∀(w:Q_)(H:Hp)(a:R_)(ns:I_),ns.length<=n->Only H->SqL (K w.params) H a (ns.map V.int)->sp w [.ref a] H (λv _=>v=.bl true) λ_ _ _=>False)
  (z:∀(w:Q_)(H:Hp)(s:P_)(e:S_)(E:P_),CX w [] H s (λ_ _ _=>False) e E->False) :
  W.WalkO q m N L l.row.toRowW d [] (λf vs=>PySem.call f vs):=by
 refine Att.TU hn A λw M r mg mb t o pm cd O a vs ns G Y ho hd X B p j i Z=>?_;have I:=S w _ Y;obtain⟨y,U,P⟩:=F w mg t _ I G.T.g B;exact ZU I G.T.g G.T.b G.T.builtins G.T.nolimit Z p j (D1 i C) hr P U (λH Q R=>D w H a ns i Q R) λH e E=>z w H r e E
end L2
namespace L2
open PySem PySem.Spec PyProof.Rows
def Be(s:Stmt)(j:Nat):Stmt:=match s with
|.ClassDef _ _ _ body _ _ _ _ _ _ _=>body.getD j (.Pass ⟨0,0,0,0⟩)
|_=>.Pass ⟨0,0,0,0⟩
def MN(s:Stmt):Arguments:=match s with
|.FunctionDef _ a _ _ _ _ _ _ _ _=>a
|_=>{posonlyargs:=[],args:=[],vararg:=none,kwonlyargs:=[],kw_defaults:=[],kwarg:=none,defaults:=[]}
def Lp(s:Stmt):List Stmt:=match s with
|.FunctionDef _ _ b _ _ _ _ _ _ _=>b
|_=>[]
def Ah(s:Stmt):Scope:=match s with
|.FunctionDef _ _ _ _ _ _ sc _ _ _=>sc
|_=>{kind:=.function,names:=[],isGenerator:=false,isCoroutine:=false}
abbrev CX0:CXT:=λ_ _ _ _ _ _=>False
abbrev E0:XK:=λ_ _ _=>False
theorem Am{X:Cx}:Gi CX0 X E0:=λ_ _ _ _ _ _ _ h=>h.elim
structure Fun(K:O_)(x qual:Str)(st:Stmt)(f:R_)(fd:E_):Prop where
ex:∃(oc:S_)(od:Option Addr)(kV doc pm:S_)(an:Option Addr)(cdv ct:S_)(osl:Array (Option Value)),
 fd=W.fnOf x qual (MN st) (Lp st) (Ah st) .none kV doc pm an cdv ct/\K.lookup f=some ⟨oc,od,.func fd,osl⟩/\W.codeIn K cdv qual=true
kp:keepIn K (.ref f)=true
section
variable{P:N_}{w:Q_}{K:O_}{mg:C_}{base:T_}
theorem Fun.ok{x b:Str}{e:Stmt}{f:R_}{l:E_}{N j:K_}{k:Nat}{sp:Sp}(F:Fun K x b e f l)(S:As N j (Ah e))(len:∀vs H Q E,sp vs H Q E->vs.length=j.length)
  (d:∀(c:S_)(A:Around)(a:List Env)(s:P_)(H:Hp)(vs:List V)(Q:VK)(E:XK),Db k (A.deeper (envOfC b (Ah e) s.heap.objs.size f c))->sp vs H Q E ->
   ∃t,PSs (Yj CX0 P w K mg base N b (Ah e) f c A a s H E).nox (Lp e) t/\t {nx:=λ_ m=>Q .non m,rt:=Q} (NM N vs) H):AK P w K mg base CX0 (k+1) f l j sp:=by
 obtain⟨y,z,kV,n,B,u,c,v,r,rfl,p,g⟩:=F.ex;refine fn_of p g S len λA a s H vs Q E o i=>?_;obtain⟨t,h,q⟩:=d c A a s H vs Q E o i;exact⟨t,h.nox,q⟩
theorem Fun.binds{x a:Str}{d:Stmt}{f:R_}{k:E_}{j:K_}(F:Fun K x a d f k)
  (h:∀(kV c i:S_)(e:Option Addr)(b g:S_)(us:F_),us.length=j.length->bindArgs (W.fnOf x a (MN d) (Lp d) (Ah d) .none kV c i e b g) ⟨us,[]⟩=pure (j.zip us)):Df K k j []:=by
 obtain⟨o,p,kV,c,i,e,b,g,m,rfl,n,l⟩:=F.ex;exact .all (h kV c i e b g)
theorem UV {x a:Str} {e:Stmt} {f:R_} {m:S_} {n h:Option Addr} {g:Array (Option Value)} {kV d j b i:S_} (l:K.lookup f=some ⟨m,n,.func (W.fnOf x a (MN e) (Lp e) (Ah e) .none kV d j h b i),g⟩)
 (c:W.codeIn K b a=true) (k:keepIn K (.ref f)=true):Fun K x a e f (W.fnOf x a (MN e) (Lp e) (Ah e) .none kV d j h b i):=⟨⟨m,n,kV,d,j,h,b,i,g,rfl,l,c⟩,k⟩
end
theorem Gg{A:Around}{k:Nat}(a:Db k A):A.units+1<cLine:=F3 (Nat.add_le_add_left (by decide:1<=64) _) a.units
section
variable{X:Cx}
theorem pv(i:Nat){x:Str}{pos:Pos}(b:X.N[i]?=some x:=by rfl)(d:Vis X.env.scope x:=by first|exact Or.inl rfl|exact Or.inr O_9|exact Or.inr (Or.inr rfl))(c:(x==("__debug__" : Str))=false:=by decide)
 (a:(x==("__classdict__" : Str))=false:=by decide):PE X (.Name x pos) (Id i):=pe_var b d c a
end
theorem Bf{A B:Prop}(h:B):if false=true then A else B:=by
 rw[Z6 D4];exact h
theorem Cz{A B:Prop}(h:A):if true=true then A else B:=by
 rw[Z9 rfl];exact h
theorem Er{c A B:Prop}[Decidable c](a:c->A)(b:¬c->B):if c then A else B:=by
 by_cases h:c
 .rw[Z9 h];exact a h
 .rw[Z6 h];exact b h
theorem JY{c A B:Prop}[Decidable c](a:c)(h:B):if(!decide c)=true then A else B:=by
 rw[Z7 a];exact Bf h
def AC(H H':Hp):Prop:=∀b o,H b=some o->H' b=some o
theorem AC.refl(H:Hp):AC H H:=λ_ _ h=>h
theorem AC.trans{H d e:Hp}(a:AC H d)(b:AC d e):AC H e:=λc o h=>b c o (a c o h)
theorem AC.seq{K:O_}{H b:Hp}{a:R_}{xs:List V}(e:AC H b)(h:SqL K H a xs):SqL K b a xs:=by
 rcases h with (h|⟨o,h⟩)|h
 .exact .inl (.inl (e _ _ h))
 .exact .inl (.inr ⟨o,e _ _ h⟩)
 .exact .inr h
def Wt(a D:R_)(h:T_):Prop:=∃o,h.get? a=some o/\o.cls=.ref D/\∃vs,o.data=.fields vs/\vs[2]?=some .none
theorem Wt.not{a D:R_}{h:T_}(x:Wt a D h):∃o,h.get? a=some o/\o.cls=.ref D/\notCls o=true:=by
 obtain⟨o,e,c,vs,d,_⟩:=x;exact⟨o,e,c,by unfold notCls;rw[d]⟩
def isExc(a D:R_):HO:=.ext (Wt a D)
theorem Inv.track{X:Cx}{d:A_}{σ:St}{H:Hp}{s:P_}{a:R_}{o:HO}(I:Inv X d σ H s)(i:H a=none)(g:X.s₀.heap.get? a=none)(t:X.base.get? a=none)(h:X.env.locals≠a)(j:∀x c,X.env.cells.lookup x=some c->c≠a)
  (k:∀p,p∈X.pn++d->p.1≠a) (y:∀b,b∈X.fs->b≠a) (new:BI X.prog X.w (upd H a o) s.heap a o):Inv X d σ (upd H a o) s:=by
 have f:∀b u,H b=some u->b≠a:=λb u q z=>by rw[z,i]at q;cases q
 refine⟨I.ok,I.os,I.bare,⟨I.base.keep,I.base.slot,λb u q n x=>?_,I.base.there,λb xs q=>?_,λb u v q=>?_,λb l q=>?_⟩,I.loc,I.cell,?_,λx c q=>?_,λp z=>?_,λb u q=>?_,I.len⟩
 .rw[Av (λz=>by rw[z,g]at q;cases q)];exact I.base.free b u q n x
 .have z:=I.base.tups b xs q;rw[Av (f _ _ z)];exact z
 .have z:=I.base.frzs b u v q;rw[Av (f _ _ z)];exact z
 .obtain⟨m,z⟩:=I.base.tbls b l q;exact⟨m,by rw[Av (f _ _ z)];exact z⟩
 .rw[Av h];exact I.free
 .rw[Av (j x c q)];exact I.freeC x c q
 .obtain⟨e,n,r⟩:=I.pin p z;exact⟨e,by rw[Av (k p z)];exact n,r⟩
 .by_cases z:b=a
  .subst z;rw[Ag]at q;cases q;exact new
  .rw[Av z]at q;exact(I.hok b u q).stay (λc v _ r=>r) (λc r=>by rw[Av (f _ _ r)];exact r) λc xs r=>by rw[Av (f _ _ r)];exact r
section
variable{X:Cx}{tg:Expr}
def Its(x:Str):It:=⟨λi _=>i<x.cps.size,λi H v H'=>H'=H/\∃c,x.cps[i]?=some c/\v=.str ⟨#[c]⟩,λi _=>i=x.cps.size⟩
theorem SA{P:N_}{w:Q_}{K:O_}(it:R_)(x:Str)(t:Tok)(T:String)(O:["enumerate","zip","dict_itemiterator","dict_reverseitemiterator","odict_iterator","itertools.zip_longest","itertools.pairwise"].contains T=false)
  (W:∀A:Around,A.handled=none->Walks P w A it [it] [it] x.cps.size (SignAt x) (λi h=>h.IsStrIter it T x t i))
  (g:∀(A:Around)(i:Nat)(s:P_)(Q:B_)(E:B_),s.heap.IsStrIter it T x t i->Q (.ref it) s->wpAny (model P w) A (pyIter (.ref it)) Q E s):Ql P w K tg (Its x) [it] it (λi h=>h.IsStrIter it T x t i) where
 mem:=by simp
 obj:=λi h j b f=>by
  have e:b=it:=by simpa using f
  subst e;obtain⟨o,e,c,d⟩:=j;exact⟨o,e,λv z=>by rw[d]at z;cases z⟩
 keep:=λi h h' ⟨o,e,r⟩ k=>⟨o,k it A6 o e,r⟩
 item:=by
  intro X C L B D i a s σ H E I m j G;subst C L B;obtain⟨n,p,N,q,f4,y⟩:=m it A6;refine(W X.A (I.ok.hd D)).item i s _ _ G j λv h' tk R l kk=>?_;obtain⟨c,u,F,rfl⟩:=R;have M:Inv X a σ H {s with heap:=h',toks:=tk}:=I.turned (λb o f e=>kk b o (by simpa using f) e) n p q f4 y;obtain⟨o,e,S,U⟩:=id l;exact⟨_,rfl,TB (s:={s with heap:=h',toks:=tk}) e S U O ⟨.str ⟨#[c]⟩,H,M,⟨u,rfl⟩,⟨rfl,c,F,rfl⟩,l,λb f=>(m b f).1⟩⟩
 done:=by
  intro X C L B D i a s σ H E I m j G;subst C L B;obtain⟨n,p,N,q,f4,y⟩:=m it A6;have z:i=x.cps.size:=G;subst z;exact(W X.A (I.ok.hd D)).done s _ _ j λh' tk kk=>⟨rfl,I.turned (λb o f e=>kk b o (by simpa using f) e) n p q f4 y⟩
 self:=g
def iStr(tl:TE):TI:=fun σ H R=>tl σ H λv H1=>∃x,v=.str x/\R (Its x) H1
theorem Zd{l:Expr}{k:TE}(p:PE X l k):PI X tg l (iStr k):=by
 intro a s σ H R I h;refine thn (p a s σ H _ I h) λv c m=>?_;obtain⟨y,f,d,u,r⟩:=m;obtain⟨x,rfl,q⟩:=r;obtain⟨t,rfl⟩:=u;have fp:∀b,b∈[c.heap.objs.size]->DC X a f b:=λb n=>by
  have e:b=c.heap.objs.size:=by simpa using n
  subst e;exact d.fpOk (C1 _) (d.hok.fresh (C1 _))
 cases j:x.cps.all (· < 128)with
 |true =>
  refine wpAny_pyIter_ascii j ?_;refine⟨c.heap.objs.size,[c.heap.objs.size],_,_,f,rfl,d.kept (t':=c.toks) λb o e=>C3 _ e,SA _ x t "str_ascii_iterator" A4 (λA g=>Walks.strAscii g _ x t) (λ_ _ _ _ _ i h=>wpAny_pyIter_striter_ascii i h),⟨_,D5 _ rfl,rfl,rfl⟩,fp,q⟩
 |false =>
  refine wpAny_pyIter_wide j ?_;refine⟨c.heap.objs.size,[c.heap.objs.size],_,_,f,rfl,d.kept (t':=c.toks) λb o e=>C3 _ e,SA _ x t "str_iterator" A4 (λA g=>Walks.strWide g _ x t) (λ_ _ _ _ _ i h=>wpAny_pyIter_striter_wide i h),⟨_,D5 _ rfl,rfl,rfl⟩,fp,q⟩
theorem for_str{x:Str}{g:TG}{k:TS}{D:LY}{σ:St}{H:Hp}(b:Nat->St->Hp->Prop)(l:b 0 σ H)
  (q:∀i c σ H,x.cps[i]?=some c->b i σ H->g (.str ⟨#[c]⟩) σ H fun d h=>k {D with nx:=b (i+1),ct:=b (i+1),bk:=D.nx} d h) (o:∀σ H,b x.cps.size σ H->D.nx σ H) :
  ∃W:Nat->Nat->St->Hp->Prop,(∃m,W 0 m σ H)/\∀i m σ H,W i m σ H ->
   ((Its x).stop i H/\D.nx σ H)\/((Its x).go i H/\∃N:St->Hp->Prop,(∀σ' a,N σ' a->∃j,j<m/\W (i+1) j σ' a)/\∀v a,(Its x).yld i H v a->g v σ a fun d h=>k {D with nx:=N,ct:=N,bk:=D.nx} d h):=by
 refine⟨λi m σ H=>m=x.cps.size-i/\i<=x.cps.size/\b i σ H,⟨x.cps.size,by simp,J0 _,l⟩,?_⟩;rintro i m σ H ⟨rfl,s,p⟩;by_cases f:i<x.cps.size
 .refine .inr ⟨f,b (i+1),fun σ' a r=>⟨x.cps.size-(i+1),by lia,rfl,f,r⟩,λv a y=>?_⟩;obtain⟨e,c,n,rfl⟩:=y;subst e;exact q i c σ _ n p
 .have e:i=x.cps.size:=by lia
  subst e;exact .inl ⟨rfl,o σ H p⟩
theorem Ia:Gk X (.type "int") (λxs H Q=>∃x n,xs=[.str x]/\PySem.intText? x=some n/\x.length<=640/\Q (.int n) H):=by
 intro a s σ H xs us Q I r h;obtain⟨x,n,rfl,c,b,q⟩:=h;cases r with
 |cons d e =>
  cases e;obtain⟨t,rfl⟩:=d;exact W.KIN.call_text c b ⟨.int n,H,I.tok _,⟨_,rfl⟩,q⟩
theorem TR(F:X.calm=true):Gk X (.builtin "all") (λxs H Q=>∃(p:R_)(bs:List Bool),xs=[.ref p]/\SqL X.K H p (bs.map V.bl)/\Q (.bl (bs.all id)) H):=by
 intro d s σ H xs us Q I r h;obtain⟨p,bs,rfl,G,q⟩:=h;cases r with
 |cons L M =>
  cases M;cases(show _=Value.ref p from L);obtain⟨a,m,pl,R⟩:=I.list G;have l:p≠s.heap.objs.size:=J8 (by obtain⟨o,n,e,_⟩:=pl;exact D9 e);refine call_all_walk (A2g pl.isList ?_);have f:∀(i:Nat) v,a[i]?=some v->∃b,bs[i]?=some b/\v=.bool b:=λi v e=>by
   cases g:bs[i]? with
   |none =>
    have:a[i]?=none:=m.none_of (by rw[C0,g];rfl);rw[e]at this;cases this
   |some b =>
    obtain⟨u,t,N⟩:=m.get (i:=i) (x:=V.bl b) (by rw[C0,g];rfl);rw[e]at t;cases t;exact⟨b,rfl,N⟩
  refine⟨s.heap.objs.size,_,_,_,_,_,λi=>bs.getD i true,rfl,Walks.list (A:=X.A.in1) (I.ok.hd F) s.heap.objs.size p l a.toArray,⟨⟨_,D5 _ rfl,rfl,rfl⟩,?_⟩,?_,?_⟩
  .exact pl.isList.at λo e=>C3 _ e
  .intro i v O y P D j;obtain⟨b,g,rfl⟩:=f i v (by simpa using D);have B:bs.getD i true=b:=by rw[D2,g];rfl
   have j:y (bs.getD i true) O:=j;rw[B]at j;exact A0c j
  .intro h' tk kk;have w:Inv X d σ H {s with heap:=h',toks:=tk}:=I.kept λb o e=>kk b o (by intro z;exact J8 (D9 e) (by simpa using z)) (C3 _ e);have len:a.toArray.size=bs.length:=by rw[D8,<-m.length,B8]
   have C:(List.range a.toArray.size).all (λi=>bs.getD i true)=bs.all id:=by
    rw[len,Q7,R3,R3];constructor
    .intro z b E;obtain⟨i,k,e⟩:=T8.mp E;have:=z i (F5.mpr k);rw[D2,C6 k,e]at this;exact this
    .intro z i k;have c:=F5.mp k;rw[D2,C6 c];exact z _ (R1 c)
   rw[C];exact⟨.bl _,H,w,rfl,q⟩
end
structure ExcF(K:O_)(D:R_):Prop where
hd:hasDictIn K D=true
ga:findIn K (.ref D) "__getattribute__" = some (some (.builtin "BaseException.__getattribute__"))
gt:findIn K (.ref D) "__getattr__" = some none
cl:findIn K (.ref D) "__class__" = some (some (.builtin "object.__class__"))
sp:specialIn K (.builtin "object.__class__") "__get__" = some (some (.builtin "getset_descriptor.__get__"))
tk:takesIn K (.builtin "object.__class__")=some true
mo:mroIn K D (.type "object")=some true
mb:mroIn K D (.type "BaseException")=some true
section
variable{K:O_}{prog:N_}{w:Q_}{A:Around}{E:B_}{s:P_}{a D:R_}{o:Obj}
open PySem.W Builtin Builtin.ObjectAttr Builtin.Getset_descriptor
theorem exc_find{M:Model}{h:T_}(X:K.In h)(f:ExcF K D):Looks M h (find (.ref a) (.ref D) "__class__") (.bind (.builtin "getset_descriptor.__get__") (.builtin "object.__class__")) :=
 (looks_findIn X f.cl).andThen ((looks_specialIn X f.sp).andThen ((show Looks M h (dataDescriptor? (some (.builtin "object.__class__")) (some (.builtin "getset_descriptor.__get__"))) (some (.builtin "getset_descriptor.__get__",.builtin "object.__class__"))from(looks_takesIn X f.tk).andThen .now).andThen (Looks.tag .now)))
theorem exc_get{R:Result->Shared->Prop}{i:S_}(X:K.In s.heap)(f:ExcF K D)(c:s.heap.get? a=some o)(b:o.cls=.ref D)(e:R (.ok (.ret (.ref D))) s) :
  codeAny (model prog w) A (.call (.builtin "getset_descriptor.__get__") ⟨[.builtin "object.__class__",.ref a,i],[]⟩) R s:=by
 obtain⟨h,g,d,t,l⟩:=s;have j:Looks (model prog w) h (typeOf (.ref a)) (.ref D):=b▸(Looks.ld c).andThen .now;have k:=looks_mroIn (M:=model prog w) X f.mo;refine codeAny_call_builtin KF.slot_gs.plain KF.entry_gs (KF.slot_gs.check _ _ _ _ _ _ _ _ KF.type_class (KF.args_gs _ _ _) ?_);unfold Builtin.«getset_descriptor.__get__» descrGet;rw[dga_obj];refine Z5 (X4 ?_);unfold descrGetter descrCheckInstance descrNameAndClass isInstance;simp only[KF.owner_class]
 repeat lk
 refine⟨Code.quiet_builtin _ A1,codeAny_builtin KF.entry_class ?_⟩;unfold Builtin.«object.__class__» shownTypeOf
 repeat lk
 exact e
theorem Yf{Q:Option Value->Shared->Prop}(X:K.In s.heap)(f:ExcF K D)(j:s.heap.get? a=some o)(i:o.cls=.ref D)(q:Q (some (.ref D)) {s with toks:=s.toks+1}) :
  wpAny (model prog w) A (getAttr? (.ref a) "__class__") Q E s:=by
 obtain⟨h,g,d,t,u⟩:=s;have e:Looks (model prog w) h (typeOf (.ref a)) (.ref D):=i▸(Looks.ld j).andThen .now;have k:=looks_findIn (M:=model prog w) X f.ga;have l:=looks_findIn (M:=model prog w) X f.gt;have m:=exc_find (M:=model prog w) (a:=a) X f;have n:Looks (model prog w) h (isInstance (.ref a) (.type "BaseException")) true:=e.andThen (looks_mroIn X f.mb);unfold getAttr? getAttrBy? getAttrBy;refine Z5 (wpAny_mkText (Z5 (A3c (A2f (Z5 (e.at (Z5 (k.at ?_))))))));dsimp only;have r:(Value.builtin "BaseException.__getattribute__" == Value.builtin "object.__getattribute__")=false:=by decide +kernel
 rw[Z6 (by rw[r,Bool.and_false];exact D4)];unfold getAttrByItsOwn hookBefore;rw[Z9 (by rfl)];refine Z5 (l.at ?_);refine Z5 (A3c (A2f ?_));unfold callGetattribute;rw[Z6 A4];unfold boundAndCalled;refine Z5 (wpAny_of_eq (PySem.F.excAttr_ValueError.ga.bind (.ref a)) ?_);dsimp only;refine wpAny_call (codeAny_call_builtin PySem.F.excAttr_ValueError.ga.plain PySem.F.entry_bexc_ga ?_);have p:builtinKind "BaseException.__getattribute__" = some .slot:=by decide +kernel
 have c:splitId "BaseException.__getattribute__" = some ("BaseException","__getattribute__"):=by decide +kernel
 have b:=PySem.F.args_bexc_ga (.ref a) (.str "__class__" t);simp only[checkBuiltinCall,p,c];refine Z5 (n.at ?_);rw[Z6 A4];refine wpAny_of_eq (a:=()) b ?_;unfold Builtin.«object.__getattribute__»;dsimp only at m
 repeat ((fail_if_success (with_reducible show wpAny _ _ (call _ _) _ _ _));lk)
 refine wpAny_call (exc_get (s:=⟨h,g,d,t+1,u⟩) X f j i ?_);dsimp only
 repeat lk
 exact q
end
inductive TyX(K:O_)(H:Hp):V->Value->Prop where
|of {x:V} {t:S_} (h:NJ K H x t):TyX K H x t
|exc {a D:R_} (e:H a=some (isExc a D)) (f:ExcF K D):TyX K H (.ref a) (.ref D)
theorem ZW{K:O_}{a D:R_}(f:ExcF K D):W.KitX K (.ref a) (.ref D) (λh=>∃o,h.get? a=some o/\o.cls=.ref D/\notCls o=true) where
 ty:=λM h X ⟨o,e,c,_⟩=>c▸(W.Looks.ld e).andThen .now
 it:=λM h X _=>by
  obtain⟨m,b,_⟩:=any_some f.hd;unfold clsIn at b;split at b
  .rename_i l d' d j g;intro s u t w k q;unfold isType loadHead;exact Z5 (wpAny_loadPart (k _ _ (X _ _ g)) (X4 q))
  .cases b
 ne:=λh r v p n x X i=>by
  obtain⟨m,b,_⟩:=any_some f.hd;refine Z4.mpr λq=>?_;have e:D=r:=Value.ref.inj (beq_iff_eq.mp q);subst e;unfold clsIn at b;split at b
  .rename_i l d' d j g;have z:=(X _ _ g).symm.trans i;cases z
  .cases b
 ca:=λX ⟨o,e,c,_⟩ k=>Yf X f e c k
def clsV:V->Option Value
|.ty n=>some (.type n)
|.ref C=>some (.ref C)
|_=>none
theorem Fa{X:Cx}:Gk X (.builtin "isinstance") (λxs H Q=>∃x c d t b,xs=[x,c]/\clsV c=some d/\TyX X.K H x t/\kitOne X.K t d=some b/\Q (.bl b) H):=by
 intro j s σ H xs us Q I r h;obtain⟨x,c,d,t,b,rfl,g,ty,i,q⟩:=h;cases r with
 |@cons _ u _ _ l y =>
  cases y with
  |@cons _ v _ _ k o =>
   cases o;have m:v=d:=by
    cases c with
    |ty n=>cases g;exact k
    |ref C=>cases g;exact k
    |_=>cases g
   subst m;cases ty with
   |of ty=>exact Ya I l ty i λtk=>⟨.bl b,H,I.tok tk,rfl,q⟩
   |@exc a D e f =>
    cases(show u=Value.ref a from l);obtain⟨p,_,_⟩:=(show BI X.prog X.w H s.heap a (isExc a D)from I.hok a _ e)
    exact A0d (ZW f) I.kIn (Wt.not p) i (λz=>nomatch z) λtk=>⟨.bl b,H,I.tok tk,rfl,q⟩
section
variable{X:Cx}{c:Expr}{a b:List Stmt}{tc:TT}{t u:TS}{pos:Pos}
def tIfJ(J:St->Hp->Prop)(tc:TT)(t u:TS):TS:=λD σ H=>(tc σ H λb H1=>if b=true then t {D with nx:=J} σ H1 else u {D with nx:=J} σ H1)/\∀σ' H',J σ' H'->D.nx σ' H'
theorem SP.nx{d:A_}{D:LY}{J:St->Hp->Prop}{f:Flow}{s:P_}(k:∀σ' e,J σ' e->D.nx σ' e)(h:SP X d {D with nx:=J} f s):SP X d D f s:=by
 cases f with
 |next=>obtain⟨σ',e,I,q⟩:=h;exact⟨σ',e,I,k _ _ q⟩
 |brk=>exact h
 |cont=>exact h
 |ret v=>exact h
theorem ps_ifJ(J:St->Hp->Prop)(o:PT X c tc)(m:PSs X a t)(n:PSs X b u):PS X (.If c a b pos) (tIfJ J tc t u):=by
 intro e s σ H D I h;obtain⟨h,k⟩:=h;refine wpAny_If (thn (o e s σ H _ I h) λd l ⟨g,i,j⟩=>?_);cases d with
 |true=>exact thn (m e l σ g _ i j) λf p q=>q.nx k
 |false=>exact thn (n e l σ g _ i j) λf p q=>q.nx k
end
def GZ(env:Env)(a:List (Str×Addr))(x:Str×NameKind):List (Str×Addr):=if(x.2==NameKind.free)=true then(x.1,(env.cells.lookup x.1).getD 0)::a else a
def UY(env:Env)(l:List (Str×NameKind)):List (Str×Addr):=l.foldl (GZ env) []
theorem UW{α β:Type}{l:List α}{f:α->β->Sem (ForInStep β)}{g:β->α->β}(h:∀x∈l,∀b,f x b=pure (.yield (g b x))):∀b,forIn l b f=pure (l.foldl g b):=by
 induction l with
 |nil=>intro b;rfl
 |cons x l c =>
  intro b;rw[List.forIn_cons,h x C8,pure_bind];exact c (λy a=>h y (C7 _ a)) _
theorem PF{d:Scope}{b:Env}(h:∀y∈d.names,y.2=.free->∃c,b.cells.lookup y.1=some c):closureFor d b=pure (UY b d.names):=by
 simp only[closureFor];rw[UW (g:=GZ b) (λx l c=>by
  obtain⟨n,k⟩:=x;by_cases i:k=.free
  .subst i;obtain⟨a,f⟩:=h _ l rfl;have e:cellOf b n=pure a:=by unfold cellOf;rw[show b.cells.lookup n=some a from f]
   simp only[GZ,beq_self_eq_true,A3h,e,show b.cells.lookup n=some a from f,Option.getD_some];rfl
  .have j:(k==NameKind.free)=false:=by simpa using i
   simp only[GZ,j,O6,A3a])]
 rfl
theorem QM(b:Env){y:Str}{c:R_}:∀(l:List (Str×NameKind))(a:List (Str×Addr)),(l.foldl (GZ b) a).lookup y=some c->a.lookup y=some c\/((y,NameKind.free)∈l/\c=(b.cells.lookup y).getD 0)
|[],a,h=>.inl h
| (n,k)::r,a,h=>by
 rw[T1]at h;rcases QM b r _ h with z|⟨z,e⟩
 .unfold GZ at z;split at z
  .rename_i g;have d:k=.free:=by simpa using g
   rw[P8]at z;split at z
   .rename_i i;have f:y=n:=by simpa using i
    subst f d;exact .inr ⟨C8,(K0 z).symm⟩
   .exact .inl z
  .exact .inl z
 .exact .inr ⟨C7 _ z,e⟩
theorem TL(b:Env){y:Str}:∀(l:List (Str×NameKind))(a:List (Str×Addr)),(∃c,a.lookup y=some c)->∃c,(l.foldl (GZ b) a).lookup y=some c
|[],_,h=>h
| (n,k)::r,a,h=>by
 rw[T1];refine TL b r _ ?_;unfold GZ;split
 .rw[P8];split
  .exact⟨_,rfl⟩
  .exact h
 .exact h
theorem UX(b:Env){y:Str}:∀(l:List (Str×NameKind))(a:List (Str×Addr)),(y,NameKind.free)∈l->∃c,(l.foldl (GZ b) a).lookup y=some c
|[],_,h=>by simp at h
| (n,k)::r,a,h=>by
 rw[T1];rcases C2.mp h with e|h
 .cases e;refine TL b r _ ⟨(b.cells.lookup y).getD 0,?_⟩;unfold GZ;simp only[beq_self_eq_true,A3h,P8]
 .exact UX b r _ h
theorem OU{a:Env}{y:Str}:∀{b:List (Str×NameKind)},(∀z∈b,z.2≠.cell) ->
 ((b.map λ(n,k)=>if(k==NameKind.free && a.scope.kind==.function && a.kindOf n==some .cell)then(n,NameKind.cell)else(n,k)).lookup y=some .cell \/
  (b.map λ(n,k)=>if(k==NameKind.free && a.scope.kind==.function && a.kindOf n==some .cell)then(n,NameKind.cell)else(n,k)).lookup y=some .free)->(y,NameKind.free)∈b
|[],_,h=>by simp at h
| (n,k)::r,hc,h=>by
 have e:=@OU a y r (λz g=>hc z (C7 _ g));have h':List.lookup y ((if(k==NameKind.free && a.scope.kind==.function && a.kindOf n==some .cell)=true then(n,NameKind.cell)else(n,k))::(r.map λ(n,k)=>if(k==NameKind.free && a.scope.kind==.function && a.kindOf n==some .cell)then(n,NameKind.cell)else(n,k)))=some .cell \/
  List.lookup y ((if(k==NameKind.free && a.scope.kind==.function && a.kindOf n==some .cell)=true then(n,NameKind.cell)else(n,k))::(r.map λ(n,k)=>if(k==NameKind.free && a.scope.kind==.function && a.kindOf n==some .cell)then(n,NameKind.cell)else(n,k)))=some .free:=h
 clear h;by_cases d:(k==NameKind.free && a.scope.kind==.function && a.kindOf n==some .cell)=true
 .rw[Z9 d]at h';have f:k=.free:=by
   simp only[P9,A5f]at d;exact d.1.1
  simp only[P8]at h';cases c:y==n with
  |true =>
   have:y=n:=by simpa using c
   subst this f;exact C8
  |false =>
   rw[c]at h';exact C7 _ (e h')
 .rw[Z6 d]at h';simp only[P8]at h';cases c:y==n with
  |true =>
   rw[c]at h';have:y=n:=by simpa using c
   subst this;rcases h' with z|z
   .exact absurd (K0 z) (hc (y,k) C8)
   .cases K0 z;exact C8
  |false =>
   rw[c]at h';exact C7 _ (e h')
theorem Mo{a:Env}{y:Str}:∀{b:List (Str×NameKind)},b.lookup y=some .free ->
 ((b.map λ(n,k)=>if(k==NameKind.free && a.scope.kind==.function && a.kindOf n==some .cell)then(n,NameKind.cell)else(n,k)).lookup y=some .cell \/
  (b.map λ(n,k)=>if(k==NameKind.free && a.scope.kind==.function && a.kindOf n==some .cell)then(n,NameKind.cell)else(n,k)).lookup y=some .free)
|[],h=>by simp at h
| (n,k)::r,h=>by
 have e:=@Mo a y r;show List.lookup y ((if(k==NameKind.free && a.scope.kind==.function && a.kindOf n==some .cell)=true then(n,NameKind.cell)else(n,k))::(r.map λ(n,k)=>if(k==NameKind.free && a.scope.kind==.function && a.kindOf n==some .cell)then(n,NameKind.cell)else(n,k)))=some .cell \/
  List.lookup y ((if(k==NameKind.free && a.scope.kind==.function && a.kindOf n==some .cell)=true then(n,NameKind.cell)else(n,k))::(r.map λ(n,k)=>if(k==NameKind.free && a.scope.kind==.function && a.kindOf n==some .cell)then(n,NameKind.cell)else(n,k)))=some .free
 rw[P8]at h;by_cases d:(k==NameKind.free && a.scope.kind==.function && a.kindOf n==some .cell)=true
 .rw[Z9 d];simp only[P8];cases c:y==n with
  |true=>exact .inl rfl
  |false=>rw[c]at h;exact e h
 .rw[Z6 d];simp only[P8];cases c:y==n with
  |true=>rw[c]at h;exact .inr h
  |false=>rw[c]at h;exact e h
section
variable{prog:N_}{w:Q_}{A:Around}{R:Result->Shared->Prop}{s:P_}
abbrev Vh(ifs:List Expr)(env:Env):Sem Bool:=forIn ifs true λc r=>if r=true then do let ok <-isTrue c env (eval c env);pure (ForInStep.yield ok)else pure (ForInStep.yield r)
theorem TH{q a i:Expr}{t:List Expr}{c:Scope}{pos:Pos}{it p:S_}{b:Env}(I:Nat->Shared->Prop)
  (turn:∀n s,I n s->wpAny (model prog w) A (pyNext it) (λr d=>match r with
   |none=>R (.ok .next) d
   |some v=>wpAny (model prog w) A (letOwnedTupleGo a it v) (λ_ j=>wpAny (model prog w) A (assign a b v) (λ_ k =>
     wpAny (model prog w) A (Vh t b) (λok e =>
      if ok=true then wpAny (model prog w) A (eval q b) (λx l =>
       wpAny (model prog w) A (call (.builtin "list.append") [p,x]) (λ_ o=>∃m,m<n/\I m o) (λ_ _=>False) l) (λ_ _=>False) e
      else ∃m,m<n/\I m e) (λ_ _=>False) k) (λ_ _=>False) j) (λ_ _=>False) d) (λ_ _=>False) s)
  (n:Nat) (h:I n s):codeAny (model prog w) A (.compLoop (.ListComp q [⟨a,i,t,0⟩] c pos) 0 it p b) R s:=by
 refine codeAny_loop rfl I (λn s B=>?_) n h;show wpAny _ A ((compTurn (.ListComp q [⟨a,i,t,0⟩] c pos) 0 it p b).onRaise (λx=>do noteFrame x b;theTreesLotGoes x)) _ _ s;refine wpAny_noted ?_;rw[compTurn_list];refine Z5 (A6b (Z5 (A1a (turn n s B) (λr d f=>?_) λ_ _ h'=>h'.elim)));cases r with
 |none=>exact X4 f
 |some v =>
  refine Z5 (A1a f (λ_ j h₀=>?_) λ_ _ h'=>h'.elim);refine Z5 (A1a h₀ (λ_ k u=>Z5 (A1a u (λok e g=>?_) λ_ _ h'=>h'.elim)) λ_ _ h'=>h'.elim);cases ok with
  |false=>exact X4 ⟨rfl,g⟩
  |true =>
   exact Z5 (Z5 (A1a g (λx l y=>Z5 (A1a y (λ_ o z=>X4 (X4 ⟨rfl,z⟩)) λ_ _ h'=>h'.elim)) λ_ _ h'=>h'.elim))
end
def Oc(cs:J_)(σ:St):St:=cs.map λj=>(σ[j]?).getD none
def cxC(X:Cx)(scope:Scope)(N:K_)(s:P_)(H:Hp)(ex:H_):Cx :=
 {X with N:=N,s₀:=s,H₀:=H,env:=compEnvC scope (UY X.env scope.names) s.heap.objs.size X.env,outer:=X.stack,stack:=X.stack,ex:=ex,fn:=λ_=>false,pn:=[],xe:=λ_ _=>False}
def PTs(X:Cx)(ifs:List Expr)(t:TT):Prop :=
 ∀(pins:A_)(s:P_)(σ:St)(H:Hp)(Q:Bool->Hp->Prop),Inv X pins σ H s->t σ H Q->wpAny (model X.prog X.w) X.A (Vh ifs X.env) (TP X pins σ Q) X.xe s
def tYes:TT:=λ_ H Q=>Q true H
theorem BG{X:Cx}:PTs X [] tYes:=λ_ _ _ H _ I h=>wpAny_tests_nil ⟨H,I,h⟩
theorem pts_one{X:Cx}{c:Expr}{t:TT}(h:PT X c t):PTs X [c] t:=λa s σ H Q I q=>wpAny_tests_one (h a s σ H Q I q)
structure Bz(X:Cx)(scope:Scope)(N:K_)(k:Nat)(cs:J_):Prop where
cell:∀y∈scope.names,y.2≠.cell
kind:scope.kind=.function
names:∀y∈scope.names,y.2=.local->scope.names.lookup y.1=some .local
free:∀y∈scope.names,y.2=.free->X.env.scope.names.lookup y.1=some .cell\/X.env.scope.names.lookup y.1=some .free
len:N.length=k+cs.length
cap:∀j,j<cs.length->∃x,N[k+j]?=some x/\X.N[cs.getD j 0]?=some x/\scope.names.lookup x=some .free
def GD(k:Nat)(cs:J_)(g:TG)(tc:TT)(te:TE)(J:It)(σ:St)(H1:Hp)(fin:List V->Hp->Prop):Prop :=
 ∃W:Nat->Nat->List V->Hp->Prop,(∃m,W 0 m [] H1)/\∀i m acc H,W i m acc H ->
  (J.stop i H/\fin acc H)\/(J.go i H/\∃Nx:List V->Hp->Prop,(∀acc' H',Nx acc' H'->∃m',m'<m/\W (i+1) m' acc' H')/\∀x H',J.yld i H x H'->g x (List.replicate k none++Oc cs σ) H' fun σ2 H2=>(∃ts:St,ts.length=k/\σ2=ts++Oc cs σ)/\acc.length<sizeLine /\
   tc σ2 H2 λb H3=>if b=true then te σ2 H3 λv H4=>Nx (acc++[v]) H4 else Nx acc H3)
def tComp(k:Nat)(cs:J_)(wi:TI)(g:TG)(tc:TT)(te:TE):TE:=fun σ H Q=>wi σ H λJ H1=>GD k cs g tc te J σ H1 λacc H2=>∀p,H2 p=none->Q (.ref p) (upd H2 p (.lst acc))
section
variable{X:Cx}{tg iter elt:Expr}{ifs:List Expr}{scope:Scope}{pos:Pos}{wi:TI}{g:TG}{tc:TT}{te:TE}{N:K_}{k:Nat}{cs:J_}
theorem Inv.block{t:A_}{σ:St}{H:Hp}{s C:P_}{G:H_}(S:Bz X scope N k cs)(I:Inv X t σ H s)
  (f:∀b∈G,DC X t H b/\∃o,s.heap.get? b=some o) (P:C.os=s.os) (hg:AllBare C.gens) (E:∀b o,s.heap.get? b=some o->C.heap.get? b=some o) (hn:∃m,C.heap.Ns s.heap.objs.size m) :
  Inv (cxC X scope N s H G) [] (List.replicate k none++Oc cs σ) H C:=by
 have A:∀{x c},(UY X.env scope.names).lookup x=some c->X.env.cells.lookup x=some c:=λ{x c} h=>by
  rcases QM X.env _ _ h with z|⟨z,e⟩
  .simp at z
  .obtain⟨a,Z⟩:=I.ok.has x (S.free _ z rfl);rw[e,Z];rfl
 have Q:∀b,b∈G->b≠s.heap.objs.size:=λb r z=>by
  obtain⟨_,o,B⟩:=f b r;exact absurd (D9 B) (by rw[z];exact O8 _)
 refine⟨⟨I.ok.mod,S.kind,I.ok.glob,I.ok.blt,C1 _,λx y c K d=>I.ok.inj x y c (A K) (A d),λx hx=>?_,λx c h _=>(nomatch h),I.ok.hd,I.ok.frames,.inl rfl,λb r=>⟨Q b r,λx c h=>?_⟩,I.bs,?_,λb o e r=>?_,λb r hf=>?_,I.stack,I.stkFree⟩,
  P,hg,Un.kept E,?_,λx c h=>?_,I.hok.fresh (C1 _),λx c h=>I.freeC x c (A h),λp hp=>absurd (show p∈([]:A_)from hp) A6,I.hok.kept E,?_⟩
 .exact UX X.env _ _ (OU S.cell hx)
 .exact(f b r).1.2.2.2.2.1 x c (A h)
 .exact D1 I.ok.bsz I.sz
 .rcases(f b r).1.2.2.2.1 with z|z
  .exact I.ok.noex b o e z
  .exact absurd (F2 (D9 e) (D1 I.ok.bsz z)) (O8 _)
 .rcases C2.mp (I.stkSub b hf)with z|z
  .exact(f b r).1.2.1 z
  .exact(f b r).1.2.2.1 z
 .obtain⟨m,hm⟩:=hn;obtain⟨mo,aa,O⟩:=I.loc;refine⟨m,hm,λi x v K d h3=>?_⟩;have hi:k<=i:=by
   by_cases z:i<k
   .rw[M8 (by simpa using z),V9,Z9 z]at d;cases d
   .lia
  obtain⟨j,rfl⟩:∃j,i=k+j:=⟨i-k,by lia⟩
  rw[J6 A6,N5,Nat.add_sub_cancel_left]at d;unfold Oc at d;rw[C0]at d;have M:j<cs.length:=by
   by_cases z:j<cs.length
   .exact z
   .rw[R9 A0]at d;cases d
  obtain⟨x',R,T,F⟩:=S.cap j M;rw[show N[k+j]?=some x from K]at R;cases R;rw[C6 M]at d;have n:(σ[cs[j]]?).getD none=some v:=K0 d;rw[D2,C6 M]at T;have Y:σ[cs[j]]?=some (some v):=by
   cases q:σ[cs[j]]? with
   |none=>rw[q]at n;cases n
   |some w=>rw[q]at n;rw[show w=some v from n]
  have W:=S.free (x,.free) (A0g F) rfl;obtain⟨u,ru,l⟩:=O _ x v T Y (.inr W);refine⟨u,ru,?_⟩;rcases l with ⟨z,_⟩|⟨_,c,L,z⟩
  .have z':X.env.scope.names.lookup x=some .local:=z;rcases W with q|q<;>· rw[z']at q;cases q
  .obtain⟨c',U⟩:=UX X.env _ [] (A0g F);have V:=A U;rw[L]at V;cases V;obtain⟨o,B,D⟩:=z;exact .inr ⟨Mo F,c,U,o,E _ _ B,D⟩
 .obtain⟨v,o,B,D⟩:=I.cell x c (A h);exact⟨v,o,E _ _ B,D⟩
 .show(List.replicate k none++Oc cs σ).length=N.length;rw[C5,N5,S.len];unfold Oc;rw[B8]
end
structure TurnQ(C:Cx->Prop)(P:N_)(w:Q_)(K:O_)(tg:Expr)(J:It)(fp:H_)(it:R_)(tn:Nat->Heap->Prop):Prop where
obj:∀i h,tn i h->∀b∈fp,∃o,h.get? b=some o/\∀v,o.data≠.cell v
keep:∀i h h',tn i h->(∀b∈fp,∀o,h.get? b=some o->h'.get? b=some o)->tn i h'
item:∀(X:Cx),C X->X.prog=P->X.w=w->X.K=K->∀(i:Nat)(pins:A_)(s:P_)(σ:St)(H:Hp)(E:B_),Inv X pins σ H s->(∀b∈fp,DC X pins H b)->tn i s.heap->J.go i H ->
 wpAny (model P w) X.A (pyNext (.ref it)) (λr s1=>∃u,r=some u/\wpAny (model P w) X.A (letOwnedTupleGo tg (.ref it) u) (λ_ s2=>∃x H',Inv X pins σ H' s2/\Bj x u/\J.yld i H x H'/\tn (i+1) s2.heap/\∀b∈fp,H' b=none) E s1) E s
done:∀(X:Cx),C X->X.prog=P->X.w=w->X.K=K->∀(i:Nat)(pins:A_)(s:P_)(σ:St)(H:Hp)(E:B_),Inv X pins σ H s->(∀b∈fp,DC X pins H b)->tn i s.heap->J.stop i H ->
 wpAny (model P w) X.A (pyNext (.ref it)) (λr s1=>r=none/\Inv X pins σ H s1) E s
self:∀(A:Around)(i:Nat)(s:P_)(Q:B_)(E:B_),tn i s.heap->Q (.ref it) s->wpAny (model P w) A (pyIter (.ref it)) Q E s
theorem Ql.q{P:N_}{w:Q_}{K:O_}{a:Expr}{J:It}{fp:H_}{it:R_}{b:Nat->Heap->Prop}(T:Ql P w K a J fp it b):TurnQ (λX=>X.calm=true) P w K a J fp it b :=
 ⟨T.obj,T.keep,λX c p w k=>T.item X p w k c,λX c p w k=>T.done X p w k c,T.self⟩
section
variable{X:Cx}{tg iter elt:Expr}{ifs:List Expr}{scope:Scope}{pos:Pos}{wi:TI}{g:TG}{tc:TT}{te:TE}{N:K_}{k:Nat}{cs:J_}{fin:List V->Hp->Prop}
theorem Yk{l:A_}{σ:St}{E:Hp}{sD s1:P_}{it D:R_}{fp:H_}{tn:Nat->Heap->Prop}{J:It}{n0:Nat}{RR:Result->Shared->Prop}{Cq:Cx->Prop}(hc:∀s H ex,Cq (cxC X scope N s H ex))(S:Bz X scope N k cs)
  (hg:∀s H ex,PG (cxC X scope N s H ex) tg g) (ht:∀s H ex,PTs (cxC X scope N s H ex) ifs tc) (he:∀s H ex,PE (cxC X scope N s H ex) elt te)
  (ID:Inv X l σ E sD) (hD:sD.heap.get? D=some {cls:=.type "list",data:=.seq ([]:F_).toArray n0}) (ag:X.s₀.heap.objs.size<=D) (fD:DC X l E D) (aj:D∉fp)
  (T:TurnQ Cq X.prog X.w X.K tg J fp it tn) (st:tn 0 sD.heap) (f2:∀b∈fp,DC X l E b) (a:GD k cs g tc te J σ E fin)
  (au:s1.os=sD.os) (as:AllBare s1.gens) (hk:∀b o,sD.heap.get? b=some o->s1.heap.get? b=some o) (hn:∃m,s1.heap.Ns sD.heap.objs.size m)
  (ar:∀(B:Hp)(d:List V)(Y:P_),fin d B->B D=none->Inv X l σ (upd B D (.lst d)) Y->(∃m,Y.heap.Ns sD.heap.objs.size m)->DC X l (upd B D (.lst d)) sD.heap.objs.size->RR (.ok .next) Y) :
  codeAny (model X.prog X.w) X.A (.compLoop (.ListComp elt [⟨tg,iter,ifs,0⟩] scope pos) 0 (.ref it) (.ref D) (compEnvC scope (UY X.env scope.names) sD.heap.objs.size X.env)) RR s1:=by
 obtain⟨W,⟨m0,w0⟩,turn⟩:=a;have U:∀b,b∈D::fp->∃o,sD.heap.get? b=some o:=λb a=>by
  rcases C2.mp a with rfl|z
  .exact⟨_,hD⟩
  .obtain⟨o,e,_⟩:=T.obj _ _ st b z;exact⟨o,e⟩
 have t:∀b∈D::fp,DC X l E b/\∃o,sD.heap.get? b=some o:=λb a=>⟨by
  rcases C2.mp a with rfl|z
  .exact fD
  .exact f2 b z,U b a⟩
 have Q:∀b,b∈D::fp->b≠sD.heap.objs.size:=λb a z=>by
  obtain⟨o,e⟩:=U b a;exact absurd (D9 e) (by rw[z];exact O8 _)
 have ak:∀b,b∈D::fp->b∉frs X.stack:=λb a hf=>by
  rcases C2.mp (ID.stkSub b hf)with z|z
  .exact(t b a).1.2.1 z
  .exact(t b a).1.2.2.1 z
 have I0:=ID.block S t au as hk hn;have ac:=I0.ok;have I:∀b,b∈D::fp->∀x c,(UY X.env scope.names).lookup x=some c->c≠b:=λb a x c h=>(ac.exf b a).2 x c h;have L:∀{B:Hp}{pl:A_},(∀b∈fp,B b=none)->(∀p∈pl,p.1=D)->∀b∈fp,DC (cxC X scope N sD E (D::fp)) pl B b:=λhn G b a =>
  ⟨hn b a,Q b (.tail _ a),ak b (.tail _ a),.inl (.tail _ a),I b (.tail _ a),λp av z=>aj (by
   have:=G p av;rw[<-this,z];exact a)⟩
 refine TH (λn O=>∃(i:Nat)(d:List V)(f:F_)(P:Nat)(B:Hp),Inv (cxC X scope N sD E (D::fp)) [] (List.replicate k none++Oc cs σ) B O/\tn i O.heap/\(∀b∈fp,B b=none)/\B D=none/\d.length<=sizeLine/\AR d f /\
  O.heap.get? D=some {cls:=.type "list",data:=.seq f.toArray P}/\W i n d B) ?_ m0
  ⟨0,[],[],n0,E,I0,T.keep _ _ _ st (λb _ o e=>hk b o e),λb a=>(f2 b a).1,fD.1,J0 _,.nil,hk _ _ hD,w0⟩
 rintro n s3 ⟨i,d,f,P,Z,I3,al,af,aa,ai,v3,e3,w3⟩;have ad:Inv (cxC X scope N sD E (D::fp)) [(D,{cls:=.type "list",data:=.seq f.toArray P})] (List.replicate k none++Oc cs σ) Z s3:=I3.pins_of λp G=>by
  rw[C9]at G;subst G;exact⟨e3,aa,Q D (.head _),ak D (.head _),λv z=>by cases z⟩
 have one:∀p∈[((D,{cls:=.type "list",data:=.seq f.toArray P}):Addr×Obj)],p.1=D:=λp G=>by
  rw[C9]at G;subst G;rfl
 rcases turn i n d Z w3 with ⟨am,qf⟩|⟨go,Nx,ah,step⟩
 .refine thn (T.done (cxC X scope N sD E (D::fp)) (hc _ _ _) rfl rfl rfl i _ s3 _ Z _ ad (L af one) al am) λr Y M=>?_;obtain⟨hr,I4⟩:=M;subst hr;have IX:Inv X l σ Z Y:=ID.call' (ch:=D::fp) I4.os I4.base I4.hok I4.bare λb a=>⟨(t b a).1.2.2.2.1,(t b a).1.2.1,(t b a).1.2.2.2.2.1,(t b a).1.2.2.2.2.2⟩
  have p4:=(I4.pin (D,{cls:=.type "list",data:=.seq f.toArray P}) (by show _∈[]++[_];simp)).1;have IY:Inv X l σ (upd Z D (.lst d)) Y:=by
   refine IX.track aa (O9 ag) (O9 (D1 ID.ok.bsz ag)) (X6 fD.2.1) fD.2.2.2.2.1 fD.2.2.2.2.2 (λb a z=>fD.2.2.1 (z▸a)) ?_;exact⟨ai,f,P,v3,p4⟩
  refine ar Z d Y qf aa IY ?_ (ID.fpOk (C1 _) ?_)
  .obtain⟨m,hm,_⟩:=I4.loc;exact⟨m,hm⟩
  .rw[Av (X6 (Q D (.head _)))];exact I4.free
 .refine thn (T.item (cxC X scope N sD E (D::fp)) (hc _ _ _) rfl rfl rfl i _ s3 _ Z (λ_ _=>False) ad (L af one) al go) λr Y M=>?_;obtain⟨u,hr,h4⟩:=M;subst hr;refine thn h4 λ_ s5 M=>?_;obtain⟨x,H5,I5,r5,y5,ab,aq⟩:=M;have an:=I5.pinned (L aq one) (T.obj _ _ ab);refine thn (hg sD E (D::fp) _ s5 _ H5 x u _ an r5 (step x H5 y5)) λ_ s6 M=>?_;obtain⟨R,H6,I6,⟨ts,tl,ae⟩,ay,q6⟩:=M;refine thn (ht sD E (D::fp) _ s6 R H6 _ I6 q6) λb s7 M=>?_;obtain⟨H7,I7,q7⟩:=M;have weak:∀{pl:A_}{B:Hp}{O:P_},Inv (cxC X scope N sD E (D::fp)) pl R B O->Inv (cxC X scope N sD E (D::fp)) [] (List.replicate k none++Oc cs σ) B O:=λ{pl B O} J=>by
   refine(J.weak (σ':=List.replicate k none++Oc cs σ) ?_ λj v e=>?_).pins_of λp G=>absurd G A6
   .rw[ae,C5,C5,N5,tl]
   .by_cases z:j<k
    .rw[M8 (by simpa using z),V9,Z9 z]at e;cases e
    .rw[J6 (by rw[N5];lia),N5]at e;rw[ae,J6 A0,tl];exact e
  have C:∀{pl:A_}{σ':St}{B:Hp}{O:P_},Inv (cxC X scope N sD E (D::fp)) (pl++Ng fp s5.heap) σ' B O->tn (i+1) O.heap/\∀b∈fp,B b=none:=λ{pl σ' B O} J =>
   ⟨T.keep _ _ _ ab λb a o e=>(J.pin (b,o) (M6 _ (M6 _ (Jb a e)))).1,λb a=>by
    obtain⟨o,e,_⟩:=T.obj _ _ ab b a;exact(J.pin (b,o) (M6 _ (M6 _ (Jb a e)))).2.1⟩
  cases b with
  |false =>
   have aw:Nx d H7:=by simpa using q7
   obtain⟨m',hm,w7⟩:=ah _ _ aw;rw[Z6 D4];have p7:=I7.pin (D,{cls:=.type "list",data:=.seq f.toArray P}) (M6 _ (T9 _ (C9.mpr rfl)));exact⟨m',hm,i+1,d,f,P,H7,weak I7,(C I7).1,(C I7).2,p7.2.1,ai,v3,p7.1,w7⟩
  |true =>
   rw[Z9 rfl]at q7;rw[Z9 rfl];refine thn (he sD E (D::fp) _ s7 R H7 _ I7 q7) λy s8 M=>?_;obtain⟨v,H8,I8,r8,q8⟩:=M;obtain⟨m',hm,w8⟩:=ah _ _ q8;have p8:=I8.pin (D,{cls:=.type "list",data:=.seq f.toArray P}) (M6 _ (T9 _ (C9.mpr rfl)));have ax:=v3.length;refine A3f F.slot_list_append ⟨_,p8.1,rfl⟩ F.entry_list_append (F.args_list_append_2 _ _) (PySem.list_append D f.toArray P y (by rw[D8];lia)) ⟨p8.1,?_⟩;have q:=PySem.IsL.update p8.1 (·.push y);have eq:f.toArray.push y=(f++[y]).toArray:=by simp
   dsimp only at q;rw[eq]at q;have ao:Inv (cxC X scope N sD E (D::fp)) ([]++Ng fp s5.heap) R H8 s8:=I8.pins_of λp G=>I8.pin p (M6 _ (M6 _ G));have I9:=ao.turned (t':=s8.toks) (it:=D) (h':=s8.heap.update D (Obj.mapSeq (·.push y))) (λb o a e=>(W6 s8.heap (Obj.mapSeq (·.push y)) (X6 a)).trans e) p8.2.1 (Q D (.head _)) (.inl (.head _)) (I D (.head _))
    (λp G z=>aj (by
     have:=(Qv (fp:=fp) (h:=s5.heap) (p:=p) (by simpa[cxC] using G)).1;rw[z]at this;exact this))
   refine⟨m',hm,i+1,d++[v],f++[y],_,H8,weak I9,(C I9).1,(C I9).2,p8.2.1,?_,v3.append (.cons r8 .nil),q,w8⟩;rw[C5,R8];lia
theorem PD{d:A_}{σ:St}{B:Hp}{a:P_}{it:R_}{fp:H_}{I:Nat->Heap->Prop}{J:It}{RR:Value->Addr->Result->Shared->Prop}{E:B_}{Cq:Cx->Prop}(U:∀s H q,Cq (cxC X scope N s H q))(S:Bz X scope N k cs)
  (Y:∀s H q,PG (cxC X scope N s H q) tg g) (Z:∀s H q,PTs (cxC X scope N s H q) ifs tc) (W:∀s H q,PE (cxC X scope N s H q) elt te)
  (t:Inv X d σ B a) (T:TurnQ Cq X.prog X.w X.K tg J fp it I) (M:I 0 a.heap) (P:∀b∈fp,DC X d B b) (R:GD k cs g tc te J σ B fin)
  (F:∀(D C:R_)(r:Hp)(c:List V)(u:P_),fin c r->r D=none->Inv X d σ (upd r D (.lst c)) u->(∃m,u.heap.Ns C m)->DC X d (upd r D (.lst c)) C->RR (.ref D) C (.ok .next) u) :
  wpAny (model X.prog X.w) X.A (newList []) (λc f=>wpAny (model X.prog X.w) X.A (newFunctionEnv scope X.env.globals (UY X.env scope.names) [] X.env.qual none .none (some X.env)) (λl x =>
   codeAny (model X.prog X.w) X.A (.compStart (.ListComp elt [⟨tg,iter,ifs,0⟩] scope pos) 0 (.ref it) c {l with scope:=relabel scope X.env}) (RR c l.locals) x) E f) E a:=by
 refine A2h (wpAny_newFunctionEnv S.cell (by intro y hy;simp at hy) (λn h i=>?_) S.kind);dsimp only at h i⊢;have j:∀b o,a.heap.get? b=some o->(a.heap.push {cls:=.type "list",dict:=none,data:=.seq ([]:F_).toArray}).get? b=some o:=λb o e=>C3 _ e;have O:Inv X d σ B {a with heap:=a.heap.push {cls:=.type "list",dict:=none,data:=.seq ([]:F_).toArray} }:=t.kept (t':=a.toks) j;have Q:(a.heap.push {cls:=.type "list",dict:=none,data:=.seq ([]:F_).toArray}).get? a.heap.objs.size=some {cls:=.type "list",data:=.seq ([]:F_).toArray}:=D5 _ rfl;have G:a.heap.objs.size∉fp:=λz=>by
  obtain⟨o,e,_⟩:=T.obj _ _ M _ z;exact absurd (D9 e) (O8 _)
 have v:I 0 (a.heap.push {cls:=.type "list",dict:=none,data:=.seq ([]:F_).toArray}):=T.keep _ _ _ M λb _ o e=>j b o e;have L:∀b o,(a.heap.push {cls:=.type "list",dict:=none,data:=.seq ([]:F_).toArray}).get? b=some o->n.get? b=some o:=λb o e=>i.extBut b o (J8 (D9 e)) (C3 _ e);have p:∀f:Shared,f={a with heap:=n,toks:=a.toks+([]:List (Str×Value)).length} ->
   codeAny (model X.prog X.w) X.A (.compLoop (.ListComp elt [⟨tg,iter,ifs,0⟩] scope pos) 0 (.ref it) (.ref a.heap.objs.size) (compEnvC scope (UY X.env scope.names) (a.heap.push {cls:=.type "list",dict:=none,data:=.seq ([]:F_).toArray}).objs.size X.env))
    (RR (.ref a.heap.objs.size) (a.heap.push {cls:=.type "list",dict:=none,data:=.seq ([]:F_).toArray}).objs.size) f:=by
  rintro f rfl;exact Yk (sD:={a with heap:=a.heap.push {cls:=.type "list",dict:=none,data:=.seq ([]:F_).toArray} }) U S Y Z W O Q t.sz (t.fpOk (C1 _) t.fresh) G T v P R rfl t.bare L ⟨_,h⟩ λr c u=>F _ _ r c u
 exact codeAny_compStart_list (p _ rfl) (T.self _ 0 _ _ _ (T.keep _ _ _ v λb _ o e=>L b o e) (p _ rfl))
theorem BW(z:X.calm=true)(S:Bz X scope N k cs)(G:PI X tg iter wi)(F:∀s H d,PG (cxC X scope N s H d) tg g)(O:∀s H d,PTs (cxC X scope N s H d) ifs tc)(B:∀s H d,PE (cxC X scope N s H d) elt te)
  (M:∀x,foldedSetIterable iter X.env x=pure x:=by intro _;rfl):PE X (.ListComp elt [⟨tg,iter,ifs,0⟩] scope pos) (tComp k cs wi g tc te):=by
 intro a s σ H Q I h;rw[eval_ListComp];refine wpAny_comprehension_free (use:=none) rfl M (PF λy P E=>I.ok.has _ (S.free y P E)) S.kind S.names (thn (G a s σ H _ I h) λv s1 t=>thn t λR s2 u=>?_);obtain⟨it,fp,tn,J,Z,rfl,n,T,j,r,i⟩:=u;refine PD (RR:=λc C=>compPost (model X.prog X.w) X.A X.xe none (EP X a σ Q) c C) (Cq:=λX=>X.calm=true) (λ_ _ _=>z) S F O B n T.q j r i λD C l c W V U p L f=>?_;obtain⟨m,K⟩:=L;refine⟨m,K,λh' Y=>⟨.ref D,upd l D (.lst c),?_,rfl,V D U⟩⟩;exact p.turned (t':=W.toks) (it:=C) (λb o i e=>(Y.2 b i).trans e) f.1 f.2.1 f.2.2.2.1 f.2.2.2.2.1 f.2.2.2.2.2
def Yy(i k:Nat)(cs:J_)(wi:TI)(g:TG)(tc:TT)(te:TE):TS:=λD σ H=>wi σ H λJ H1=>GD k cs g tc te J σ H1 λacc H2=>∀p,H2 p=none->D.nx (σ.set i (some (.ref p))) (upd H2 p (.lst acc))
theorem IH{i:Nat}{y:Str}{l d:Pos}(hc:X.calm=true)(Y:X.N.Nodup)(u:X.N[i]?=some y)(p:X.env.scope.names.lookup y=some .local)(S:Bz X scope N k cs)(hi:PI X tg iter wi)
  (hg:∀s H n,PG (cxC X scope N s H n) tg g) (ht:∀s H n,PTs (cxC X scope N s H n) ifs tc) (he:∀s H n,PE (cxC X scope N s H n) elt te)
  (E:swapsWith (.ListComp elt [⟨tg,iter,ifs,0⟩] scope pos) (some (.Name y l)) d.line X.env=pure true:=by rfl) (hs:∀x,foldedSetIterable iter X.env x=pure x:=by intro _;rfl) :
  PS X (.Assign [.Name y l] (.ListComp elt [⟨tg,iter,ifs,0⟩] scope pos) d) (Yy i k cs wi g tc te):=by
 intro c s σ H D I h;rw[exec_Assign_Name_used _ _ _ _ E];refine Z5 (A6b (Z5 ?_));show wpAny _ X.A (do let _ <-comprehension (.ListComp elt [⟨tg,iter,ifs,0⟩] scope pos) scope X.env _ (newList []) false (eval iter X.env) (some (assign (.Name y l) X.env))) _ _ s;refine Z5 (A1a (wpAny_comprehension_free (use:=some (assign (.Name y l) X.env)) (Q:=λ_ r=>SP X c D .next r) rfl hs (PF λy p hf=>I.ok.has _ (S.free y p hf)) S.kind S.names
  (thn (hi c s σ H _ I h) λv s1 V=>thn V λaa s2 W=>?_)) (λ_ r hq=>X4 (X4 hq)) λ_ _ e=>e)
 obtain⟨it,fp,tn,J,H2,rfl,O,T,K,U,t⟩:=W;refine PD (RR:=λf C=>compPost (model X.prog X.w) X.A X.xe (some (assign (.Name y l) X.env)) (λ_ r=>SP X c D .next r) f C) (Cq:=λX=>X.calm=true) (λ_ _ _=>hc) S hg ht he O T.q K U t λL C M f s4 qf nD P hn j=>?_;obtain⟨m,hm⟩:=hn;show wpAny _ X.A (assign (.Name y l) X.env (.ref L)) _ _ _;refine wpAny_assign_Name (Qs P Y u (.inl p) (v:=.ref L) rfl (λs5 R B=>?_) (.inr p));obtain⟨a,sb,Z⟩:=B;have F:C≠a:=by
  rcases Z with z|z
  .rw[z];exact j.2.1
  .exact λq=>j.2.2.2.2.1 y a z q.symm
 refine⟨m,hm.sameBut sb F,λh' G=>⟨σ.set i (some (.ref L)),upd M L (.lst f),?_,qf L nD⟩⟩;exact R.turned (t':=s5.toks) (it:=C) (λb o t e=>(G.2 b t).trans e) j.1 j.2.1 j.2.2.2.1 j.2.2.2.2.1 j.2.2.2.2.2
end
section
variable{K:O_}{k:Nat}{cs:J_}{g:TG}{tc:TT}{te:TE}{σ:St}{H:Hp}{fin:List V->Hp->Prop}
abbrev Bt(k:Nat)(cs:J_)(g:TG)(tc:TT)(te:TE)(σ:St)(x:V)(acc:List V)(H:Hp)(Nx:List V->Hp->Prop):Prop :=
 g x (List.replicate k none++Oc cs σ) H fun σ2 H2=>(∃ts:St,ts.length=k/\σ2=ts++Oc cs σ)/\acc.length<sizeLine/\tc σ2 H2 λb H3=>if b=true then te σ2 H3 λv H4=>Nx (acc++[v]) H4 else Nx acc H3
theorem Dp{a:R_}{xs:List V}(c:Nat->List V->Hp->Prop)(j:c 0 [] H)(o:∀i b H,i<=xs.length->c i b H->SqL K H a xs)
  (r:∀i x b H,xs[i]?=some x->c i b H->Bt k cs g tc te σ x b H (c (i+1))) (l:∀b H,c xs.length b H->fin b H):GD k cs g tc te (Itl K a) σ H fin:=by
 refine⟨λi m b H=>m=xs.length-i/\i<=xs.length/\c i b H,⟨xs.length,by simp,J0 _,j⟩,?_⟩;rintro i m b H ⟨rfl,n,p⟩;have q:=o i b H n p;by_cases d:i<xs.length
 .refine .inr ⟨⟨xs,xs[i],q,by simp[d]⟩,c (i+1),λf h s=>⟨xs.length-(i+1),by lia,rfl,d,s⟩,λx h y=>?_⟩;obtain⟨e,y⟩:=y;subst e;exact r i x b _ (y xs q) p
 .have e:i=xs.length:=by lia
  subst e;exact .inl ⟨⟨xs,q,C1 _⟩,l b H p⟩
theorem Ow{a:R_}{xs:List V}(c:Nat->List V->Hp->Prop)(j:c 0 [] H)(o:∀i b H,i<=xs.length->c i b H->SqT K H a xs)
  (r:∀i x b H,xs[i]?=some x->c i b H->Bt k cs g tc te σ x b H (c (i+1))) (l:∀b H,c xs.length b H->fin b H):GD k cs g tc te (Itt K a) σ H fin:=by
 refine⟨λi m b H=>m=xs.length-i/\i<=xs.length/\c i b H,⟨xs.length,by simp,J0 _,j⟩,?_⟩;rintro i m b H ⟨rfl,n,p⟩;have q:=o i b H n p;by_cases d:i<xs.length
 .refine .inr ⟨⟨xs,xs[i],q,by simp[d]⟩,c (i+1),λf h s=>⟨xs.length-(i+1),by lia,rfl,d,s⟩,λx h y=>?_⟩;obtain⟨e,y⟩:=y;subst e;exact r i x b _ (y xs q) p
 .have e:i=xs.length:=by lia
  subst e;exact .inl ⟨⟨xs,q,C1 _⟩,l b H p⟩
theorem NI{lo:Int}{n:Nat}(c:Nat->List V->Hp->Prop)(h:c 0 [] H)(l:∀i a H,i<n->c i a H->Bt k cs g tc te σ (.int (lo+i)) a H (c (i+1)))(j:∀a H,c n a H->fin a H):GD k cs g tc te (Itr lo n) σ H fin:=by
 refine⟨λi m a H=>m=n-i/\i<=n/\c i a H,⟨n,by simp,J0 _,h⟩,?_⟩;rintro i m a H ⟨rfl,q,p⟩;by_cases b:i<n
 .refine .inr ⟨b,c (i+1),λd f o=>⟨n-(i+1),by lia,rfl,b,o⟩,λx f y=>?_⟩;obtain⟨e,y⟩:=y;subst e y;exact l i a _ b p
 .have e:i=n:=by lia
  subst e;exact .inl ⟨C1 _,j a H p⟩
end
section
variable{prog:N_}{w:Q_}{A:Around}{E:B_}{s:P_}
theorem Mw{I t:R_}{k:Nat}{vs:M_}{v:S_}{Q:B_}(c:s.heap.IsTupleIter I t k)(h:s.heap.IsTuple t vs)(i:vs[k]?=some v)
  (q:∀g,g.IsTupleIter I t (k+1)->Heap.SameBut I s.heap g->Q v {s with heap:=g}):wpAny (model prog w) A (Builtin.SmallTypes.nextOf (.ref I)) Q E s:=by
 obtain⟨l,b,d,a⟩:=id c;obtain⟨m,f,_,j,e⟩:=h;unfold Builtin.SmallTypes.nextOf;refine Z5 (wpAny_callSpecial?_slot (name:=Str.ofString "__next__") c.typeIs A3b (A1d A3b c.typeIs F.entry_tuple_iterator_next ?_ (F.args_tuple_iterator_next_1 _)));show wpAny _ _ (field (.ref I) 0 >>= _) _ _ s;refine Z5 (A1b b a (x:=.ref t) rfl ?_);show wpAny _ _ (if(Value.ref t==Value.none)=true then _ else _) _ _ s;rw[Z6 (λz:(Value.ref t==Value.none)=true=>D4 z)];show wpAny _ _ (field (.ref I) 1 >>= _) _ _ s;refine Z5 (A1b b a (x:=.int k 0) rfl ?_);show wpAny _ _ (seqItems? (.ref t) >>= _) _ _ s;refine Z5 (A1e f e ?_);simp only[J3,i];refine Z5 (A5g b a A6 (X4 ⟨v,rfl,X4 (q _ ?_ (A4a ..))⟩));exact⟨_,Y4 _ b (Obj.isFreed_of_fields (A4d a _)),(Obj.cls_mapFields ..).trans d,by rw[A4d a];simp[rawInt]⟩
theorem Nm{I t:R_}{k:Nat}{vs:M_}{Q:B_}(f:A.handled=none)(d:s.heap.IsTupleIter I t k)(j:s.heap.IsTuple t vs)(l:vs[k]?=none)
  (q:∀g e,Heap.ExtBut I s.heap g->(∃o,g.get? e=some o/\o.cls=.type "StopIteration")->E (.ref e) {s with heap:=g}):wpAny (model prog w) A (Builtin.SmallTypes.nextOf (.ref I)) Q E s:=by
 obtain⟨r,c,n,b⟩:=id d;obtain⟨u,i,_,p,h⟩:=j;unfold Builtin.SmallTypes.nextOf;refine Z5 (wpAny_callSpecial?_slot (name:=Str.ofString "__next__") d.typeIs A3b (A1d A3b d.typeIs F.entry_tuple_iterator_next ?_ (F.args_tuple_iterator_next_1 _)));show wpAny _ _ (field (.ref I) 0 >>= _) _ _ s;refine Z5 (A1b c b (x:=.ref t) rfl ?_);show wpAny _ _ (if(Value.ref t==Value.none)=true then _ else _) _ _ s;rw[Z6 (λz:(Value.ref t==Value.none)=true=>D4 z)];show wpAny _ _ (field (.ref I) 1 >>= _) _ _ s;refine Z5 (A1b c b (x:=.int k 0) rfl ?_);show wpAny _ _ (seqItems? (.ref t) >>= _) _ _ s;refine Z5 (A1e i h ?_);simp only[J3,l];refine Z5 (wpAny_rule (Z5 (A5g c b A6 ?_)));show wpAny _ _ (newExc (.type "StopIteration") [] >>= _) _ _ _;refine Z5 ?_;simp only[newExc,newTuple];refine Z5 (A2h ?_ (by size_fits));refine Z5 (m:=firstArgMember _ _) (wpAny_of_eq (a:=Value.none) (by first|rfl|(simp only[firstArgMember];rfl)) (A2h ?_ (by size_fits)));simp only[raiseNew];refine Z5 (wpAny_handled ?_)
 first|rw[show A.in1.handled=none from f]|rw[f]
 refine Z5 (X4 (wpAny_throw (q _ _ (((A4a ..).extBut.push _).push _) ⟨_,D5 _ rfl,rfl⟩)))
def CH:Bool->Heap->Addr->Addr->Nat->Prop
|true,h,I,l,k=>h.IsTupleIter I l k
|false,h,I,l,k=>h.IsListIter I l k
def DQ:Bool->Heap->Addr->Array Value->Prop
|true,h,l,vs=>h.IsTuple l vs
|false,h,l,vs=>h.IsList l vs
def SqX(K:O_):Bool->Hp->Addr->List V->Prop
|true,H,a,xs=>SqT K H a xs
|false,H,a,xs=>SqL K H a xs
theorem CH.move{b:Bool}{h g:T_}{I l:R_}{k:Nat}(x:CH b h I l k)(e:∀o,h.get? I=some o->g.get? I=some o):CH b g I l k:=by
 cases b with
 |true=>obtain⟨o,a,r⟩:=x;exact⟨o,e _ a,r⟩
 |false=>obtain⟨o,a,r⟩:=x;exact⟨o,e _ a,r⟩
theorem CH.there{b:Bool}{h:T_}{I l:R_}{k:Nat}(x:CH b h I l k):∃o,h.get? I=some o/\∀v,o.data≠.cell v:=by
 cases b with
 |true=>obtain⟨o,a,_,d⟩:=x;exact⟨o,a,λv z=>by rw[d]at z;cases z⟩
 |false=>obtain⟨o,a,_,d⟩:=x;exact⟨o,a,λv z=>by rw[d]at z;cases z⟩
theorem DQ.move{b:Bool}{h g:T_}{l:R_}{vs:M_}(x:DQ b h l vs)(e:∀o,h.get? l=some o->g.get? l=some o):DQ b g l vs:=by
 cases b with
 |true=>obtain⟨o,a,r⟩:=x;exact⟨o,e _ a,r⟩
 |false=>obtain⟨o,a,r⟩:=x;exact⟨o,e _ a,r⟩
theorem DH{b:Bool}{I l:R_}{k:Nat}{vs:M_}{v:S_}{Q:B_}(a:CH b s.heap I l k)(c:DQ b s.heap l vs)(d:vs[k]?=some v)
  (q:∀g,CH b g I l (k+1)->Heap.SameBut I s.heap g->Q v {s with heap:=g}):wpAny (model prog w) A (Builtin.SmallTypes.nextOf (.ref I)) Q E s:=by
 cases b with
 |true=>exact Mw a c d q
 |false=>exact wpAny_nextOf_list_item a c d q
theorem Ge{b:Bool}{I l:R_}{k:Nat}{vs:M_}{Q:B_}(a:A.handled=none)(c:CH b s.heap I l k)(d:DQ b s.heap l vs)(f:vs[k]?=none)
  (q:∀g e,Heap.ExtBut I s.heap g->(∃o,g.get? e=some o/\o.cls=.type "StopIteration")->E (.ref e) {s with heap:=g}):wpAny (model prog w) A (Builtin.SmallTypes.nextOf (.ref I)) Q E s:=by
 cases b with
 |true=>exact Nm a c d f q
 |false=>exact wpAny_nextOf_list_end a c d f q
theorem FR{b:Bool}{l:R_}{vs:M_}{Q:B_}(a:DQ b s.heap l vs)
  (q:∀g,CH b g s.heap.objs.size l 0->g.objs.size=s.heap.objs.size+1->(∀c o,s.heap.get? c=some o->g.get? c=some o)->Q (.ref s.heap.objs.size) {s with heap:=g}):wpAny (model prog w) A (pyIter (.ref l)) Q E s:=by
 cases b with
 |true=>exact wpAny_pyIter_tuple a (q _ ⟨_,D5 _ rfl,rfl,rfl⟩ (Q4 ..) λc o e=>C3 _ e)
 |false=>exact A2g a (q _ ⟨_,D5 _ rfl,rfl,rfl⟩ (Q4 ..) λc o e=>C3 _ e)
structure Wu(z U O i j l m:R_):Prop where
nd:[z,U,O,i,j].Nodup
l:l∉[z,O,i,j]
m:m∉[z,O,i,j]
theorem Yr{b c:Bool}{z U O i j l m:R_}{k:Nat}{xs ys:M_}{x y p q:S_}{Q:B_}(D:Wu z U O i j l m)(L:IsZip s.heap z U O .none)(hU:IsPair s.heap U (.ref i) (.ref j))(hO:IsPair s.heap O p q)
  (hi:CH b s.heap i l k) (hj:CH c s.heap j m k) (hl:DQ b s.heap l xs) (hm:DQ c s.heap m ys) (hx:xs[k]?=some x) (hy:ys[k]?=some y)
  (fin:∀g,IsZip g z U O (rawInt s.heap.objs.size)->IsPair g O x y->CH b g i l (k+1)->CH c g j m (k+1)->IsPair g s.heap.objs.size x y->g.objs.size=s.heap.objs.size+1 ->
   (∀a o,a∉[z,O,i,j]->s.heap.get? a=some o->g.get? a=some o)->Q (.ref s.heap.objs.size) {s with heap:=g}) :
  wpAny (model prog w) A (Builtin.«zip.__next__» ⟨[.ref z],[]⟩) (λr s'=>∃v,r=.done (.ret v)/\Q v s') E s:=by
 obtain⟨nd,nl,nm⟩:=D;simp only[N6,C2,D3,K6,A4b,Q0,and_true,A3d]at nd nl nm;obtain⟨⟨zU,V,zi,zj⟩,⟨UO,Ui,Uj⟩,⟨W,X⟩,ij⟩:=nd;obtain⟨lz,lO,li,lj⟩:=nl;obtain⟨mz,mO,mi,mj⟩:=nm;show wpAny _ _ (field (.ref z) 2 >>= _) _ _ _;refine Z5 (A1b L rfl (x:=.bool false) rfl ?_);show wpAny _ _ (field (.ref z) 3 >>= _) _ _ _;refine Z5 (A1b L rfl (x:=.ref U) rfl (Z5 (A1e hU rfl ?_)));show wpAny _ _ (Builtin.SmallTypes.ownedTupleIsFree (.ref z) >>= _) _ _ _;refine Z5 ?_;unfold Builtin.SmallTypes.ownedTupleIsFree;refine Z5 (A1b L rfl (x:=.none) rfl (X4 ?_));simp only[A3h];refine Z5 (wpAny_rule (Z5 (A1b L rfl (x:=.ref O) rfl (Z5 (A2c L A6 λh1 u C=>?_)))));replace u:IsZip h1 z U O .ellipsis:=u;refine Z5 ?_;simp only[List.zipIdx_cons,List.zipIdx_nil,List.forIn_cons,List.forIn_nil];refine Z5 (Z5 (A6c ?_));show wpAny _ _ (Builtin.SmallTypes.nextOf (.ref i) >>= _) _ _ _;refine Z5 (DH (hi.move λo e=>C.extBut _ _ (X6 zi) e) (hl.move λo e=>C.extBut _ _ lz e) hx λh2 Z F=>X4 ?_);have I:IsPair h2 O p q:=F.extBut _ _ W (C.extBut _ _ (X6 V) hO);refine Z5 (A1e I rfl (Z5 (A5h I λh3 t G=>?_)));replace t:IsPair h3 O x q:=t;refine Z5 (wpAny_letGo (X4 (Z5 (Z5 (A6c ?_)))));show wpAny _ _ (Builtin.SmallTypes.nextOf (.ref j) >>= _) _ _ _;refine Z5 (DH (hj.move λo e=>G.extBut _ _ (X6 X) (F.extBut _ _ (X6 ij) (C.extBut _ _ (X6 zj) e))) (hm.move λo e=>G.extBut _ _ mO (F.extBut _ _ mi (C.extBut _ _ mz e))) hy λh4 ab N=>X4 ?_);have K:IsPair h4 O x q:=N.extBut _ _ X t;refine Z5 (A1e K rfl (Z5 (A5h K λd h P=>?_)));replace h:IsPair d O x y:=h;refine Z5 (wpAny_letGo (X4 (X4 (Z5 (A1e h rfl (Z5 (wpAny_newTuple ?_)))))));have sz:d.objs.size=s.heap.objs.size:=by rw[P.1,N.1,G.1,F.1,C.1]
 have M:IsZip d z U O .ellipsis:=P.extBut _ _ V (N.extBut _ _ zj (G.extBut _ _ V (F.extBut _ _ zi u)));have kp:∀a o,a∉[z,O,i,j]->s.heap.get? a=some o->d.get? a=some o:=λa o f e=>by
  simp only[C2,D3,K6,A4b]at f;exact P.extBut _ _ f.2.1 (N.extBut _ _ f.2.2.2 (G.extBut _ _ f.2.1 (F.extBut _ _ f.2.2.1 (C.extBut _ _ f.1 e))))
 have aa:CH b d i l (k+1):=Z.move λo e=>P.extBut _ _ (X6 W) (N.extBut _ _ ij (G.extBut _ _ (X6 W) e));have ac:CH c d j m (k+1):=ab.move λo e=>P.extBut _ _ (X6 X) e;have S:z<d.objs.size:=D9 M;show wpAny _ _ (Builtin.SmallTypes.ownedTupleHandOut (.ref z) (.ref d.objs.size) >>= _) _ _ _;refine Z5 ?_;unfold Builtin.SmallTypes.ownedTupleHandOut;have Y:IsZip (d.push {cls:=.type "tuple",data:=.seq #[x,y]}) z U O .ellipsis:=C3 _ M;refine Z5 (A2c Y A6 λh7 B s7=>?_);replace B:IsZip h7 z U O (rawInt d.objs.size):=B;refine A2c B A6 λH n s8=>?_;replace n:IsZip H z U O (rawInt d.objs.size):=n;have T:∀a o,a≠z->d.get? a=some o->H.get? a=some o:=λa o na e=>s8.extBut _ _ na (s7.extBut _ _ na (C3 _ e));have hT:IsPair H d.objs.size x y:=s8.extBut _ _ (U5 S) (s7.extBut _ _ (U5 S) (D5 _ rfl));have R:H.objs.size=d.objs.size+1:=by rw[s8.1,s7.1,Q4]
 rw[sz]at n hT R;refine X4 ⟨_,rfl,?_⟩;show Q (.ref d.objs.size) _;rw[sz];refine fin H n (T _ _ (X6 V) h) (aa.move λo e=>T _ o (X6 zi) e) (ac.move λo e=>T _ o (X6 zj) e) hT R λa o f e=>T a o ?_ (kp a o f e);simp only[C2,D3,K6,A4b]at f;exact f.1
theorem Yq{b c:Bool}{z U O i j l m:R_}{k:Nat}{xs ys:M_}{p q:S_}{Q:Fin->Shared->Prop}(S:A.handled=none)(D:Wu z U O i j l m)(C:IsZip s.heap z U O .none)(hU:IsPair s.heap U (.ref i) (.ref j))(hO:IsPair s.heap O p q)
  (T:CH b s.heap i l k) (hj:CH c s.heap j m k) (V:DQ b s.heap l xs) (hm:DQ c s.heap m ys) (H:xs[k]?=none\/ys[k]?=none)
  (fin:∀g e,(∀a o,a∉[z,O,i,j]->s.heap.get? a=some o->g.get? a=some o)->(∃o,g.get? e=some o/\o.cls=.type "StopIteration")->E (.ref e) {s with heap:=g}) :
  wpAny (model prog w) A (Builtin.«zip.__next__» ⟨[.ref z],[]⟩) Q E s:=by
 obtain⟨nd,nl,nm⟩:=D;simp only[N6,C2,D3,K6,A4b,Q0,and_true,A3d]at nd nl nm;obtain⟨⟨zU,Z,I,zj⟩,⟨UO,Ui,Uj⟩,⟨Oi,Oj⟩,ij⟩:=nd;obtain⟨W,lO,li,lj⟩:=nl;obtain⟨mz,mO,mi,mj⟩:=nm;show wpAny _ _ (field (.ref z) 2 >>= _) _ _ _;refine Z5 (A1b C rfl (x:=.bool false) rfl ?_);show wpAny _ _ (field (.ref z) 3 >>= _) _ _ _;refine Z5 (A1b C rfl (x:=.ref U) rfl (Z5 (A1e hU rfl ?_)));show wpAny _ _ (Builtin.SmallTypes.ownedTupleIsFree (.ref z) >>= _) _ _ _;refine Z5 ?_;unfold Builtin.SmallTypes.ownedTupleIsFree;refine Z5 (A1b C rfl (x:=.none) rfl (X4 ?_));simp only[A3h];refine Z5 (wpAny_rule (Z5 (A1b C rfl (x:=.ref O) rfl (Z5 (A2c C A6 λh1 r u=>?_)))));replace r:IsZip h1 z U O .ellipsis:=r;refine Z5 ?_;simp only[List.zipIdx_cons,List.zipIdx_nil,List.forIn_cons,List.forIn_nil];refine Z5 (Z5 (A6c ?_));show wpAny _ _ (Builtin.SmallTypes.nextOf (.ref i) >>= _) _ _ _;have d:∀{a:R_},a∉[z,O,i,j]->a≠z/\a≠O/\a≠i/\a≠j:=λh=>by simpa only[C2,D3,K6,A4b] using h
 cases N:xs[k]? with
 |none =>
  refine Z5 (Ge S (T.move λo e=>u.extBut _ _ (X6 I) e) (V.move λo e=>u.extBut _ _ W e) N λL e v M=>?_);obtain⟨P,f,n⟩:=M;have F:IsZip L z U O .ellipsis:=v _ _ I r;have K:e≠z:=λt=>by subst t;rw[F]at f;cases f;simp at n
  exact A2c F A6 λR _ y=>fin R e (λa o h t=>y.extBut _ _ (d h).1 (v _ _ (d h).2.2.1 (u.extBut _ _ (d h).1 t))) ⟨P,y.extBut _ _ K f,n⟩
 |some x =>
  have hy:ys[k]?=none:=by
   rcases H with t|t
   .rw[N]at t;cases t
   .exact t
  refine Z5 (DH (T.move λo e=>u.extBut _ _ (X6 I) e) (V.move λo e=>u.extBut _ _ W e) N λL ab v=>X4 ?_);have B:IsPair L O p q:=v.extBut _ _ Oi (u.extBut _ _ (X6 Z) hO);refine Z5 (A1e B rfl (Z5 (A5h B λR aa y=>?_)));refine Z5 (wpAny_letGo (X4 (Z5 (Z5 (A6c ?_)))));show wpAny _ _ (Builtin.SmallTypes.nextOf (.ref j) >>= _) _ _ _;refine Z5 (Ge S (hj.move λo e=>y.extBut _ _ (X6 Oj) (v.extBut _ _ (X6 ij) (u.extBut _ _ (X6 zj) e))) (hm.move λo e=>y.extBut _ _ mO (v.extBut _ _ mi (u.extBut _ _ mz e))) hy λh4 e X M=>?_);obtain⟨P,f,n⟩:=M;have G:IsZip h4 z U O .ellipsis:=X _ _ zj (y.extBut _ _ Z (v.extBut _ _ I r));have K:e≠z:=λt=>by subst t;rw[G]at f;cases f;simp at n
  exact A2c G A6 λh5 _ Y=>fin h5 e (λa o h t=>Y.extBut _ _ (d h).1 (X _ _ (d h).2.2.2 (y.extBut _ _ (d h).2.1 (v.extBut _ _ (d h).2.2.1 (u.extBut _ _ (d h).1 t))))) ⟨P,Y.extBut _ _ K f,n⟩
theorem Ys(b:T_)(n:Nat)(d:b.objs.size=n+2)(i j:S_):∃c,c=((b.push {cls:=.type "tuple",data:=.seq #[i,j]}).push {cls:=.type "tuple",data:=.seq #[.none,.none]}).push
   {cls:=.type "zip",data:=.fields #[.none,.bool false,.bool false,.ref b.objs.size,.ref (b.push {cls:=.type "tuple",data:=.seq #[i,j]}).objs.size]} /\
  IsZip c (n+4) (n+2) (n+3) .none/\IsPair c (n+2) i j/\IsPair c (n+3) .none .none/\(∀a o,b.get? a=some o->c.get? a=some o) /\
  ((b.push {cls:=.type "tuple",data:=.seq #[i,j]}).push {cls:=.type "tuple",data:=.seq #[.none,.none]}).objs.size=n+4:=by
 have f:(b.push {cls:=.type "tuple",data:=.seq #[i,j]}).objs.size=n+3:=by rw[Q4,d]
 have g:((b.push {cls:=.type "tuple",data:=.seq #[i,j]}).push {cls:=.type "tuple",data:=.seq #[.none,.none]}).objs.size=n+4:=by rw[Q4,f]
 refine⟨_,rfl,?_,?_,?_,λa o e=>C3 _ (C3 _ (C3 _ e)),g⟩
 .have q:=D5 ((b.push {cls:=.type "tuple",data:=.seq #[i,j]}).push {cls:=.type "tuple",data:=.seq #[.none,.none]}) (o:={cls:=.type "zip",data:=.fields #[.none,.bool false,.bool false,.ref b.objs.size,.ref (b.push {cls:=.type "tuple",data:=.seq #[i,j]}).objs.size]}) rfl;rw[g]at q;show _=some _;rw[q,d,f]
 .have q:=C3 {cls:=.type "zip",data:=.fields #[.none,.bool false,.bool false,.ref b.objs.size,.ref (b.push {cls:=.type "tuple",data:=.seq #[i,j]}).objs.size]} (C3 {cls:=.type "tuple",data:=.seq #[.none,.none]} (D5 b (o:={cls:=.type "tuple",data:=.seq #[i,j]}) rfl));rw[<-d];exact q
 .have q:=C3 {cls:=.type "zip",data:=.fields #[.none,.bool false,.bool false,.ref b.objs.size,.ref (b.push {cls:=.type "tuple",data:=.seq #[i,j]}).objs.size]} (D5 (b.push {cls:=.type "tuple",data:=.seq #[i,j]}) (o:={cls:=.type "tuple",data:=.seq #[.none,.none]}) rfl);rw[<-f];exact q
theorem WS{b c:Bool}(l m:R_)(xs ys:M_):Meets (Builtin.«zip.__new__» ⟨[.type "zip",.ref l,.ref m],[]⟩) (λ_ R s=>DQ b s.heap l xs/\DQ c s.heap m ys /\
   ∀g,IsZip g (s.heap.objs.size+4) (s.heap.objs.size+2) (s.heap.objs.size+3) .none->IsPair g (s.heap.objs.size+2) (.ref s.heap.objs.size) (.ref (s.heap.objs.size+1))->IsPair g (s.heap.objs.size+3) .none .none ->
    CH b g s.heap.objs.size l 0->CH c g (s.heap.objs.size+1) m 0->(∀a o,s.heap.get? a=some o->g.get? a=some o)->R (.ok (.ret (.ref (s.heap.objs.size+4)))) {s with heap:=g}) :=
 .of_wp λprog w A R s h=>by
  obtain⟨f,g,d,tk,L⟩:=s;obtain⟨G,H,h⟩:=h;have v:=sub_zip
  wp_walk using FR G
  intro j I N x;have q:DQ c (Shared.heap ⟨j,g,d,tk,L⟩) m ys:=H.move λo e=>x _ o e
  wp_walk using FR q
  intro k K O y
  wp_walk
  refine⟨_,rfl,?_⟩;have p:j.objs.size=f.objs.size+1:=N;have D:k.objs.size=f.objs.size+2:=by rw[show k.objs.size=j.objs.size+1 from O,p]
  obtain⟨u,F,z,B,C,t,M⟩:=Ys k f.objs.size D (.ref f.objs.size) (.ref j.objs.size);have n:IsPair u (f.objs.size+2) (.ref f.objs.size) (.ref (f.objs.size+1)):=by rw[<-p];exact B
  have r:CH c k (f.objs.size+1) m 0:=by rw[<-p];exact K
  have i:=h u z n C ((I.move λo e=>y _ o e).move λo e=>t _ o e) (r.move λo e=>t _ o e) λa o e=>t _ _ (y _ _ (x _ _ e));dsimp only at i;rw[F,<-M]at i;exact i
theorem Inv.turnedL{X:Cx}{d:A_}{σ:St}{H:Hp}{s:P_}{g:T_}{tk:Nat}{ch:H_}(I:Inv X d σ H s)(k:∀b o,b∉ch->s.heap.get? b=some o->g.get? b=some o)(a:∀b∈ch,DC X d H b):Inv X d σ H {s with heap:=g,toks:=tk}:=by
 have h:∀b u,H b=some u->b∉ch:=λb u e z=>by rw[(a b z).1]at e;cases e
 refine I.step (g':=s.gens) (d':=s.drawn) (ch:=ch) (λb i=>⟨(a b i).2.2.2.1,(a b i).2.1,(a b i).2.2.2.2.1,(a b i).2.2.2.2.2⟩) (λb o _ _ f e _=>k b o f e) (λb o _ _ f e _=>⟨o.slots,k b o f e⟩) (λ_ _ _ _ n=>n)
  (λb o f e=>⟨o,k b o f e⟩) (λ_ _ e=>e) (λ_ _ _ e=>e) (λb x e=>⟨#[],by rw[e];simp⟩) (λm p=>?_) (λb u e=>?_) I.bare
 .obtain⟨o,l,j,t,r⟩:=p;exact⟨o,l,j,k _ o (λz=>(a _ z).2.1 rfl) t,r⟩
 .refine(I.hok b u e).stay (λc v f q=>k c v ?_ q) (λ_ q=>q) λ_ _ q=>q;rcases f with z|z
  .rw[z];exact h b u e
  .exact h c _ z
theorem Inv.pair{X:Cx}{a:A_}{σ:St}{H:Hp}{s:P_}{g:T_}{tk n:Nat}{ch:H_}{x y:V}{u v:S_}(I:Inv X a σ H s)(k:∀b o,b∉ch->s.heap.get? b=some o->g.get? b=some o)(c:∀b∈ch,DC X a H b)
  (h:Bj x u) (i:Bj y v) (e:g.get? s.heap.objs.size=some {cls:=.type "tuple",data:=.seq #[u,v] n}):H s.heap.objs.size=none/\Inv X a σ (upd H s.heap.objs.size (.tup [x,y])) {s with heap:=g,toks:=tk}:=by
 have f:=I.fpOk (C1 _) I.fresh;refine⟨f.1,(I.turnedL (tk:=tk) k c).track f.1 (O9 I.sz) (O9 (D1 I.ok.bsz I.sz)) (X6 f.2.1) f.2.2.2.2.1 f.2.2.2.2.2 (λb d z=>f.2.2.1 (z▸d)) ?_⟩;exact⟨by show 2<=sizeLine;decide,[u,v],.cons h (.cons i .nil),_,e,rfl,n,rfl⟩
theorem Inv.sq{X:Cx}{d:A_}{σ:St}{H:Hp}{s:P_}{b:Bool}{a:R_}{xs:List V}(I:Inv X d σ H s)(h:SqX X.K b H a xs):∃c:List Value,AR xs c/\DQ b s.heap a c.toArray:=by
 cases b with
 |true =>
  obtain⟨c,r,p,_⟩:=I.tuple h;exact⟨c,r,p⟩
 |false =>
  obtain⟨c,r,p,_⟩:=I.list h;exact⟨c,r,p.isList⟩
theorem Inv.sq_inj{X:Cx}{c:A_}{σ:St}{H:Hp}{s:P_}{b:Bool}{a:R_}{xs ys:List V}(I:Inv X c σ H s)(h:SqX X.K b H a xs)(h':SqX X.K b H a ys):xs=ys:=by
 cases b with
 |true=>exact I.tuple_inj h h'
 |false=>exact I.list_inj h h'
def Itz(K:O_)(b c:Bool)(l m:R_):It :=
 ⟨λi H=>∃xs ys x y,SqX K b H l xs/\SqX K c H m ys/\xs[i]?=some x/\ys[i]?=some y,
  λi H v H'=>∃(T:R_)(x y:V),v=.ref T/\H T=none/\H'=upd H T (.tup [x,y])/\(∀xs,SqX K b H l xs->xs[i]?=some x)/\∀ys,SqX K c H m ys->ys[i]?=some y,
  λi H=>∃xs ys,SqX K b H l xs/\SqX K c H m ys/\(xs.length<=i\/ys.length<=i)⟩
def ZipTn(b c:Bool)(z U O i j l m:R_)(k:Nat)(h:T_):Prop:=IsZip h z U O .none/\IsPair h U (.ref i) (.ref j)/\(∃p q,IsPair h O p q)/\CH b h i l k/\CH c h j m k
theorem Yv{P:N_}{w:Q_}{K:O_}{es:List Expr}{n:Nat}{S:Pos}{b c:Bool}{z U O i j l m:R_}(D:Wu z U O i j l m):Ql P w K (.Tuple es n S) (Itz K b c l m) [z,U,O,i,j] z (ZipTn b c z U O i j l m) where
 mem:=by simp
 obj:=λk h B a d=>by
  obtain⟨f,r,⟨p,q,C⟩,G,L⟩:=B;simp only[C2,D3,K6]at d;rcases d with rfl|rfl|rfl|rfl|rfl
  .exact⟨_,f,λv t=>by cases t⟩
  .exact⟨_,r,λv t=>by cases t⟩
  .exact⟨_,C,λv t=>by cases t⟩
  .exact G.there
  .exact L.there
 keep:=λk h h' B kp=>by
  obtain⟨f,r,⟨p,q,C⟩,G,L⟩:=B;exact⟨kp z A6 _ f,kp U A6 _ r,⟨p,q,kp O A6 _ C⟩,G.move λo e=>kp i A6 o e,L.move λo e=>kp j A6 o e⟩
 item:=by
  intro X hP hw hK hc k M s σ H E I Y B hg;subst hP hw hK;obtain⟨f,r,⟨p,q,C⟩,G,L⟩:=B;obtain⟨xs,ys,x,y,Z,sy,hx,hy⟩:=hg;obtain⟨us,ru,ou⟩:=I.sq Z;obtain⟨vs,rv,ov⟩:=I.sq sy;obtain⟨u,hu,ad⟩:=ru.get hx;obtain⟨v,hv,ae⟩:=rv.get hy;have N:s.TypeIs (.ref z) "zip" := ⟨_,f,rfl⟩
  unfold pyNext;refine Z5 (A3c (wpAny_callSpecial?_slot (name:=Str.ofString "__next__") N A5d (A1d A5d N F.entry_zip_next (Yr D f r C G L ou ov (by simpa using hu) (by simpa using hv) λg gZ gO gi gj gT gs gk=>X4 ⟨_,rfl,?_⟩) (F.args_zip_next_1 _))));refine wpAny_letOwnedTupleGo_zip (s:={s with heap:=g}) gZ λg2 ab R=>?_;obtain⟨nd,nl,nm⟩:=D;simp only[N6,C2,D3,K6,A4b,Q0,and_true,A3d]at nd;obtain⟨⟨zU,zO,zi,zj⟩,⟨UO,Ui,Uj⟩,⟨Oi,Oj⟩,ij⟩:=nd;have V:z<s.heap.objs.size:=D9 f;have kk:∀a o,a∉[z,O,i,j]->s.heap.get? a=some o->g2.get? a=some o:=λa o d e=>(R.2 a (λt=>d (by simp[t]))).trans (gk a o d e);have aa:∀a∈[z,O,i,j],DC X M H a:=λa d=>Y a (by
   simp only[C2,D3,K6]at d⊢;rcases d with t|t|t|t<;>simp[t])
  obtain⟨nT,J⟩:=I.pair (tk:=s.toks) kk aa ad ae ((R.2 _ (U5 V)).trans gT);refine⟨.ref s.heap.objs.size,_,J,rfl,⟨_,x,y,rfl,nT,rfl,λaf q'=>by rw[I.sq_inj q' Z];exact hx,λag q'=>by rw[I.sq_inj q' sy];exact hy⟩,⟨ab,kk U _ ?_ r,⟨u,v,(R.2 O (X6 zO)).trans gO⟩,gi.move λo e=>(R.2 i (X6 zi)).trans e,gj.move λo e=>(R.2 j (X6 zj)).trans e⟩,λa d=>?_⟩
  .simp only[C2,D3,K6,A4b];exact⟨X6 zU,UO,Ui,Uj⟩
  .have e:=(Y a d).1;have lt:a≠s.heap.objs.size:=by
    simp only[C2,D3,K6]at d;rcases d with t|t|t|t|t<;>subst t
    .exact J8 V
    .exact J8 (D9 r)
    .exact J8 (D9 C)
    .obtain⟨o,e,_⟩:=G.there;exact J8 (D9 e)
    .obtain⟨o,e,_⟩:=L.there;exact J8 (D9 e)
   rw[Av lt];exact e
 done:=by
  intro X hP hw hK hc k M s σ H E I Y B hg;subst hP hw hK;obtain⟨f,r,⟨p,q,C⟩,G,L⟩:=B;obtain⟨xs,ys,Z,sy,Q⟩:=hg;obtain⟨us,ru,ou⟩:=I.sq Z;obtain⟨vs,rv,ov⟩:=I.sq sy;have lu:=ru.length;have lv:=rv.length;have N:s.TypeIs (.ref z) "zip" := ⟨_,f,rfl⟩
  have he:us.toArray[k]?=none\/vs.toArray[k]?=none:=Q.imp (λt=>by simp;lia) (λt=>by simp;lia);unfold pyNext;refine Z5 (A3c (wpAny_callSpecial?_slot (name:=Str.ofString "__next__") N A5d (A1d A5d N F.entry_zip_next (Yq (I.ok.hd hc) D f r C G L ou ov he λg e gk ge=>?_) (F.args_zip_next_1 _))));obtain⟨o,ho,ac⟩:=ge;refine Z5 (wpAny_isInstance (T:="StopIteration") (b:=true) ⟨o,ho,ac⟩ isSubtype_stop (X4 ⟨rfl,?_⟩));exact I.turnedL (tk:=s.toks) gk λa d=>Y a (by
   simp only[C2,D3,K6]at d⊢;rcases d with t|t|t|t<;>simp[t])
 self:=λ_ _ _ _ _ B h=>wpAny_pyIter_zip B.1 h
end
theorem DQ.obj{b:Bool}{h:T_}{l:R_}{vs:M_}(x:DQ b h l vs):∃o,h.get? l=some o:=by
 cases b with
 |true=>obtain⟨o,e,_⟩:=x;exact⟨o,e⟩
 |false=>obtain⟨o,e,_⟩:=x;exact⟨o,e⟩
theorem Yg(b:T_)(n:Nat)(d:b.objs.size=n+1):∃c,c=b.push {cls:=.type "enumerate",data:=.fields #[.none,.bool false,.ref n,rawInt 0,.none,.none]}/\IsEnum c (n+1) n 0 .none/\∀a o,b.get? a=some o->c.get? a=some o:=by
 refine⟨_,rfl,?_,λa o e=>C3 _ e⟩;have q:=D5 b (o:={cls:=.type "enumerate",data:=.fields #[.none,.bool false,.ref n,rawInt 0,.none,.none]}) rfl;rw[d]at q;exact q
set_option maxHeartbeats 1000000 in
theorem UK{b:Bool}(l:R_)(xs:M_):Meets (Builtin.«enumerate.__new__» ⟨[.type "enumerate",.ref l],[]⟩) (λ_ R s=>DQ b s.heap l xs /\
   ∀g,IsEnum g (s.heap.objs.size+1) s.heap.objs.size 0 .none->CH b g s.heap.objs.size l 0->(∀a o,s.heap.get? a=some o->g.get? a=some o)->R (.ok (.ret (.ref (s.heap.objs.size+1)))) {s with heap:=g}) :=
 .of_wp λprog w A R s h=>by
  obtain⟨p,g,d,tk,B⟩:=s;obtain⟨q,h⟩:=h;obtain⟨C,i⟩:=q.obj;have r:=sub_enumerate;have fin:∀f,CH b f p.objs.size l 0->f.objs.size=p.objs.size+1->(∀c o,p.get? c=some o->f.get? c=some o)->∃v,Fin.done (Flow.ret (.ref f.objs.size))=Fin.done (Flow.ret v)/\R (.ok (.ret v)) ⟨f.push {cls:=.type "enumerate",data:=.fields #[.none,.bool false,.ref p.objs.size,rawInt 0,.none,.none]},g,d,tk,B⟩:=λf k j m=>by
   obtain⟨z,y,u,t⟩:=Yg f p.objs.size j;refine⟨_,rfl,?_⟩;have n:=h z u (k.move λo e=>t _ o e) λa o e=>t _ _ (m _ _ e);dsimp only at n;rw[y,<-j]at n;exact n
  wp_walk using AutoSeq1.wpAny_loadPart' i
  refine wpAny_stack_any λD=>X4 ?_;split
  .rename_i x _ _ _ _ _;cases(x==Value.type "enumerate")
   .wp_walk using AutoSeq1.wpAny_loadPart' i,FR q
    intro f k j m
    wp_walk
    exact fin f k j m
   .wp_walk using AutoSeq1.wpAny_loadPart' i,FR q
    intro f k j m
    wp_walk
    exact fin f k j m
  .wp_walk using AutoSeq1.wpAny_loadPart' i,FR q
   intro f k j m
   wp_walk
   exact fin f k j m
theorem QI{prog:N_}{w:Q_}{A:Around}{b:Bool}(i:A.handled=none)(I l:R_)(p:l≠I)(vs:M_) :
  Draws prog w A I [I,l] vs.size (λk v=>vs[k]?=some v) (λk h=>CH b h I l k/\DQ b h l vs) where
 live:=λ_ _ a=>let ⟨o,ho,_⟩:=a.1.there;⟨o,ho⟩
 frame:=λ_ _ _ a d=>⟨a.1.move λo e=>d I A6 o e,a.2.move λo e=>d l A6 o e⟩
 item:=λk s Q E c a n=>DH a.1 a.2 (v:=vs[k]) (by simp[c]) λg m f=>n _ g s.toks (by simp[c]) ⟨m,a.2.move λo e=>(f.2 l p).trans e⟩ f
 done:=λs Q E a j=>Ge i a.1 a.2 A6 j
def Ite(K:O_)(b:Bool)(l:R_):It :=
 ⟨λi H=>∃xs x,SqX K b H l xs/\xs[i]?=some x,
  λi H v H'=>∃(T:R_)(x:V),v=.ref T/\H T=none/\H'=upd H T (.tup [.int i,x])/\∀xs,SqX K b H l xs->xs[i]?=some x,
  λi H=>∃xs,SqX K b H l xs/\xs.length=i⟩
theorem Wx{P:N_}{w:Q_}{K:O_}{es:List Expr}{n:Nat}{r:Pos}{b:Bool}{e I l:R_}(D:e≠I)(le:l≠e)(lI:l≠I) :
  Ql P w K (.Tuple es n r) (Ite K b l) [e,I] e (λk h=>(∃c,IsEnum h e I k c)/\CH b h I l k) where
 mem:=by simp
 obj:=λk h j a d=>by
  obtain⟨⟨c,f⟩,m⟩:=j;simp only[C2,D3,K6]at d;rcases d with rfl|rfl
  .exact⟨_,f,λv t=>by cases t⟩
  .exact m.there
 keep:=λk h h' j kp=>by
  obtain⟨⟨c,f⟩,m⟩:=j;exact⟨⟨c,kp e A6 _ f⟩,m.move λo t=>kp I A6 o t⟩
 item:=by
  intro X M S L N k q s σ H E J y j O;subst M S L;obtain⟨⟨c,f⟩,m⟩:=j;obtain⟨xs,x,C,T⟩:=O;obtain⟨us,B,U⟩:=J.sq C;have lu:=B.length;have hk:k<xs.length:=(B9.mp T).1;refine wpAny_pyNext_enum_itemD (QI (b:=b) (A:=X.A.in1) (J.ok.hd N) I l lI us.toArray) f ⟨m,U⟩ (by simp;lia) D (by simp[D,X6 le]) λu g tk hu gE gS gT gs G=>⟨_,rfl,?_⟩
  obtain⟨u',R,V⟩:=B.get T;have eu:u=u':=by
   have:us[k]?=some u:=by simpa using hu
   rw[R]at this;exact(K0 this).symm
  subst eu;refine wpAny_letOwnedTupleGo_enum (s:={s with heap:=g,toks:=tk+1}) gE λg2 F Y=>?_;have p:e<s.heap.objs.size:=D9 f;have kk:∀a o,a∉[e,I]->s.heap.get? a=some o->g2.get? a=some o:=λa o d t=>(Y.2 a (λz=>d (by simp[z]))).trans (G a o (λz=>d (by simp[z])) (λz=>d (by simp[z])) t);obtain⟨nT,J2⟩:=J.pair (tk:=tk+1) (x:=.int k) (u:=.int k tk) kk y ⟨tk,rfl⟩ V ((Y.2 _ (U5 p)).trans gT);refine⟨.ref s.heap.objs.size,_,J2,rfl,⟨_,x,rfl,nT,rfl,λaa q'=>by rw[J.sq_inj q' C];exact T⟩,⟨⟨_,by simpa using F⟩,gS.1.move λo t=>(Y.2 I (X6 D)).trans t⟩,λa d=>?_⟩;have t:=(y a d).1;have lt:a≠s.heap.objs.size:=by
   simp only[C2,D3,K6]at d;rcases d with z|z<;>subst z
   .exact J8 p
   .obtain⟨o,t,_⟩:=m.there;exact J8 (D9 t)
  rw[Av lt];exact t
 done:=by
  intro X M S L N k q s σ H E J y j O;subst M S L;obtain⟨⟨c,f⟩,m⟩:=j;obtain⟨xs,C,Z⟩:=O;obtain⟨us,B,U⟩:=J.sq C;have lu:=B.length;have ek:k=us.toArray.size:=by simp;lia
  refine wpAny_pyNext_enum_endD (QI (b:=b) (A:=X.A.in1) (J.ok.hd N) I l lI us.toArray) f ⟨ek▸m,U⟩ λg G=>⟨rfl,?_⟩
  exact J.turnedL (tk:=s.toks) (ch:=[e,I]) (λa o d t=>G a o (λz=>d (by simp[z])) t) y
 self:=λA i s Q E j h=>by
  obtain⟨⟨c,f⟩,_⟩:=j;exact wpAny_pyIter_enum f h
section
variable{X:Cx}{es:List Expr}{n:Nat}{tpos p pos:Pos}{e1 e2:Expr}{t:TA}
def iZip(b c:Bool)(K:O_)(t:TA):TI:=fun σ H R=>t σ H λvs H1=>∃(l m:R_),vs=[.ref l,.ref m]/\(∃xs,SqX K b H1 l xs)/\(∃ys,SqX K c H1 m ys)/\R (Itz K b c l m) H1
theorem DQ.lt{b:Bool}{h:T_}{l:R_}{vs:M_}(x:DQ b h l vs):l<h.objs.size:=by
 cases b with
 |true=>obtain⟨o,e,_⟩:=x;exact D9 e
 |false=>obtain⟨o,e,_⟩:=x;exact D9 e
theorem apart5(n l m:Nat)(a:l<n)(b:m<n):Wu (n+4) (n+2) (n+3) n (n+1) l m:=by
 refine⟨(show([n+4,n+2,n+3,n,n+1]:J_).Nodup from ?_),(show l∉([n+4,n+3,n,n+1]:J_)from ?_),(show m∉([n+4,n+3,n,n+1]:J_)from ?_)⟩
 .simp only[N6,C2,D3,K6,A4b,Q0,and_true,A3d];lia
 .simp only[C2,D3,K6,A4b];lia
 .simp only[C2,D3,K6,A4b];lia
theorem pi_zip(b c:Bool)(E:Gl X "zip")(G:X.mg "zip" = none)(j:PA X [e1,e2] t)(L:starEach [e1,e2] X.env=[(false,eval e1 X.env),(false,eval e2 X.env)]:=by rfl)(e:starEach [e2] X.env=[(false,eval e2 X.env)]:=by rfl) :
  PI X (.Tuple es n tpos) (.Call (.Name "zip" p) [e1,e2] [] pos) (iZip b c X.K t):=by
 intro f s σ H R I h;refine Call_ (JV I E G PyProof.Rows.boot_zip (A0h (thn (j pos f s σ H _ I h) λus i D=>?_) (by rw[L,e]) (by rw[e];rfl)));obtain⟨vs,w,d,P,O⟩:=D;obtain⟨l,m,rfl,⟨xs,T⟩,⟨ys,U⟩,q⟩:=O;obtain⟨u,v,rfl,Q,S⟩:=P.two;cases(show u=Value.ref l from Q);cases(show v=Value.ref m from S);obtain⟨V,_,o⟩:=d.sq T;obtain⟨W,_,r⟩:=d.sq U;refine callType_new F.called_zip A4 (F.typeCall_zip_2 _ _) (F.newCall_zip_2 _ _) (λobj=>F.args_object_init_3 obj _ _) F.entry_zip_new (WS (b:=b) (c:=c) l m V.toArray W.toArray) ⟨o,r,λg k y x z A B=>?_⟩;refine⟨⟨_,k,rfl⟩,wpAny_pyIter_zip (s:={i with heap:=g}) k ?_⟩;have M:=o.lt;have N:=r.lt;have C:=apart5 i.heap.objs.size l m M N;refine⟨i.heap.objs.size+4,_,_,_,w,rfl,d.kept (t':=i.toks) B,Yv C,⟨k,y,⟨_,_,x⟩,z,A⟩,λa j=>?_,q⟩;have le:i.heap.objs.size<=a:=by
  simp only[C2,D3,K6]at j;rcases j with t|t|t|t|t<;>rw[t]<;>first|exact C1 _|exact S5 _ _
 exact d.fpOk le (d.hok.fresh le)
def iEnum(b:Bool)(K:O_)(t:TA):TI:=fun σ H R=>t σ H λvs H1=>∃(l:R_),vs=[.ref l]/\(∃xs,SqX K b H1 l xs)/\R (Ite K b l) H1
theorem Mr(b:Bool)(x:Gl X "enumerate")(y:X.mg "enumerate" = none)(i:PA X [e1] t)(z:starEach [e1] X.env=[(false,eval e1 X.env)]:=by rfl) :
  PI X (.Tuple es n tpos) (.Call (.Name "enumerate" p) [e1] [] pos) (iEnum b X.K t):=by
 intro d s σ H R I h;refine Call_ (JV I x y PyProof.Rows.boot_enumerate (A0h (thn (i pos d s σ H _ I h) λus c w=>?_) z rfl));obtain⟨vs,o,f,B,A⟩:=w;obtain⟨l,rfl,⟨xs,D⟩,q⟩:=A;obtain⟨u,rfl,C⟩:=B.one;cases(show u=Value.ref l from C);obtain⟨E,_,m⟩:=f.sq D;refine callType_new F.called_enumerate A4 (F.typeCall_enumerate_1 _) (F.newCall_enumerate_1 _) (λobj=>F.args_object_init_2 obj _) F.entry_enumerate_new (UK (b:=b) l E.toArray) ⟨m,λg j r v=>?_⟩;refine⟨⟨_,j,rfl⟩,wpAny_pyIter_enum (s:={c with heap:=g}) j ?_⟩;have k:=m.lt;refine⟨c.heap.objs.size+1,_,_,_,o,rfl,f.kept (t':=c.toks) v,Wx (e:=c.heap.objs.size+1) (I:=c.heap.objs.size) (l:=l) (Nat.succ_ne_self _) (J8 (Z1 k)) (J8 k),⟨⟨_,j⟩,r⟩,λa i=>?_,q⟩;have le:c.heap.objs.size<=a:=by
  simp only[C2,D3,K6]at i;rcases i with t|t<;>rw[t]<;>first|exact C1 _|exact S5 _ _
 exact f.fpOk le (f.hok.fresh le)
end
section
variable{K:O_}{b c:Bool}{l m:R_}{xs ys:List V}{σ:St}{H:Hp}
theorem QD{K:O_}{i j:Nat}{T:R_}{x y:V}{σ:St}{H:Hp}{Q:St->Hp->Prop}(h:H T=some (.tup [x,y]))(q:Q ((σ.set i (some x)).set j (some y)) H):gTup K 2 (TC (Px i) (TC (Px j) gNil)) (.ref T) σ H Q :=
 ⟨T,_,rfl,SqT.of h,rfl,x,_,rfl,y,_,rfl,rfl,q⟩
theorem La{g:TG}{n:TS}{D:LY}(a:Nat->St->Hp->Prop)(o:a 0 σ H)(t:∀i σ H,i<=xs.length->a i σ H->SqX K b H l xs)
  (u:∀i x σ H T,xs[i]?=some x->a i σ H->H T=none->g (.ref T) σ (upd H T (.tup [.int i,x])) fun f j=>n {D with nx:=a (i+1),ct:=a (i+1),bk:=D.nx} f j) (r:∀σ H,a xs.length σ H->D.nx σ H) :
  ∃W:Nat->Nat->St->Hp->Prop,(∃m,W 0 m σ H)/\∀i m σ H,W i m σ H ->
   ((Ite K b l).stop i H/\D.nx σ H)\/((Ite K b l).go i H/\∃N:St->Hp->Prop,(∀σ' d,N σ' d->∃k,k<m/\W (i+1) k σ' d)/\∀x d,(Ite K b l).yld i H x d->g x σ d fun f j=>n {D with nx:=N,ct:=N,bk:=D.nx} f j):=by
 refine⟨λi m σ H=>m=xs.length-i/\i<=xs.length/\a i σ H,⟨xs.length,by simp,J0 _,o⟩,?_⟩;rintro i m σ H ⟨rfl,s,p⟩;have q:=t i σ H s p;by_cases h:i<xs.length
 .refine .inr ⟨⟨xs,xs[i],q,by simp[h]⟩,a (i+1),fun σ' d A=>⟨xs.length-(i+1),by lia,rfl,h,A⟩,λx d y=>?_⟩;obtain⟨T,z,rfl,w,rfl,v⟩:=y;exact u i z σ _ T (v xs q) p w
 .have e:i=xs.length:=by lia
  subst e;exact .inl ⟨⟨xs,q,rfl⟩,r σ H p⟩
variable{k:Nat}{cs:J_}{g:TG}{tc:TT}{te:TE}{fin:List V->Hp->Prop}
theorem blk_zip(d:Nat->List V->Hp->Prop)(s:d 0 [] H)(u:∀i a H,d i a H->SqX K b H l xs/\SqX K c H m ys)
  (v:∀i x y a H T,xs[i]?=some x->ys[i]?=some y->d i a H->H T=none->Bt k cs g tc te σ (.ref T) a (upd H T (.tup [x,y])) (d (i+1))) (t:∀a H,d (min xs.length ys.length) a H->fin a H):GD k cs g tc te (Itz K b c l m) σ H fin:=by
 refine⟨λi n a H=>n=min xs.length ys.length-i/\i<=min xs.length ys.length/\d i a H,⟨min xs.length ys.length,by simp,J0 _,s⟩,?_⟩;rintro i n a H ⟨rfl,F,p⟩;obtain⟨j,o⟩:=u i a H p;by_cases f:i<min xs.length ys.length
 .have A:i<xs.length:=by lia
  have B:i<ys.length:=by lia
  refine .inr ⟨⟨xs,ys,xs[i],ys[i],j,o,by simp[A],by simp[B]⟩,d (i+1),λq r D=>⟨min xs.length ys.length-(i+1),by lia,rfl,f,D⟩,λx r y=>?_⟩;obtain⟨T,z,E,rfl,C,rfl,w,h⟩:=y;exact v i z E a _ T (w xs j) (h ys o) p C
 .have e:i=min xs.length ys.length:=by lia
  subst e;exact .inl ⟨⟨xs,ys,j,o,by lia⟩,t a H p⟩
theorem blk_str{x:Str}(d:Nat->List V->Hp->Prop)(q:d 0 [] H)(s:∀i ch a H,x.cps.toList[i]?=some ch->d i a H->Bt k cs g tc te σ (.str ⟨#[ch]⟩) a H (d (i+1)))(r:∀a H,d x.cps.toList.length a H->fin a H):GD k cs g tc te (Its x) σ H fin:=by
 have o:x.cps.toList.length=x.cps.size:=by simp
 refine⟨λi m a H=>m=x.cps.size-i/\i<=x.cps.size/\d i a H,⟨x.cps.size,by simp,J0 _,q⟩,?_⟩;rintro i m a H ⟨rfl,u,p⟩;by_cases f:i<x.cps.size
 .refine .inr ⟨f,d (i+1),λj n t=>⟨x.cps.size-(i+1),by lia,rfl,f,t⟩,λv n y=>?_⟩;obtain⟨e,ch,h,rfl⟩:=y;subst e;exact s i ch a _ (by simpa using h) p
 .have e:i=x.cps.size:=by lia
  subst e;exact .inl ⟨rfl,r a H (by rw[o];exact p)⟩
end
theorem PE.or{X:Cx}{e:Expr}{t u:TE}(h:PE X e t)(h':PE X e u):PE X e (fun σ H Q=>t σ H Q\/u σ H Q):=by
 intro a s σ H Q I q;rcases q with q|q
 .exact h a s σ H Q I q
 .exact h' a s σ H Q I q
theorem rm{a b:Nat}{A:Around}(h:Db b A)(c:a<=b:=by first|decide|lia):Db a A:=h.mono c
structure Cal(P:N_)(w:Q_)(K:O_)(mg:C_)(base:T_)(CX:CXT)(k:Nat)(x:Str)(ps:K_)(sp:Sp):Prop where
ex:∃(f:R_)(fd:E_),AK P w K mg base CX k f fd ps sp/\mg x=some (.ref f)/\keepIn K (.ref f)=true/\Df K fd ps []
structure BD(P:N_)(w:Q_)(K:O_)(mg:C_)(base:T_)(CX:CXT)(k:Nat)(C:R_)(m:Str)(ps:K_)(sp:Sp):Prop where
ex:∃(f:R_)(fd:E_),AK P w K mg base CX k f fd ps sp/\Qm K C m f/\Df K fd ps []
cl:Cls K C
structure Sx(P:N_)(w:Q_)(K:O_)(mg:C_)(base:T_)(CX:CXT)(k:Nat)(x:Str)(C:R_)(ps:K_)(sp:Sp):Prop where
ex:∃(f:R_)(fd:E_),AK P w K mg base CX k f fd ps sp/\Mk K C f/\mg x=some (.ref C)/\Df K fd ps []
section
variable{X:Cx}{CX:CXT}{k:Nat}{C:R_}{ps:K_}{sp:Sp}{E:XK}{x m:Str}{p pos apos:Pos}{e o:Expr}{es:List Expr}{ta:TE}{t:TA}
theorem Ar(c:Cal X.prog X.w X.K X.mg X.base CX k x ps sp)(n:Db k X.A)(i:Gl X x)(q:Gi CX X E)(d:PA X (e::es) t)(a:(x==("__debug__" : Str))=false:=by decide)
  (h:starEach (e::es) X.env=(false,eval e X.env)::starEach es X.env:=by rfl) (b:(backTo pos (starEach es X.env)).any (·.1)=false:=by rfl):PE X (.Call (.Name x p) (e::es) [] pos) (tCall sp [] E t):=by
 obtain⟨f,r,F,l,j,g⟩:=c.ex;exact pe_call F n i l j g .nil q d a h b
theorem AD{pl:Sem Bool}(i:PE X o ta)(c:BD X.prog X.w X.K X.mg X.base CX k C m ps sp)(l:Db k X.A)(q:Gi CX X E)(g:PA X (e::es) t)
  (b:starEach (e::es) X.env=(false,eval e X.env)::starEach es X.env:=by rfl) (a:(backTo pos (starEach es X.env)).any (·.1)=false:=by rfl)
  (n:eval (.Call (.Attribute o m apos) (e::es) [] pos) X.env=(do
   let d <-eval o X.env;standAt apos.atName;let (f,first) <-holding [d] (getMethod d m pl);callWith pos f first (backTo pos (starEach (e::es) X.env)) (backToKw pos (keywordEach [] X.env))):=by rfl):PE X (.Call (.Attribute o m apos) (e::es) [] pos) (Vj C m sp [] E ta t):=by
 obtain⟨f,r,F,j,h⟩:=c.ex;exact pe_meth i c.cl j F l h .nil q g b a n
theorem IJ(c:Sx X.prog X.w X.K X.mg X.base CX k x C ps sp)(l:Db (k+1) X.A)(i:Gl X x)(n:Gi CX X E)(d:PA X (e::es) t)(a:(x==("__debug__" : Str))=false:=by decide)
  (h:starEach (e::es) X.env=(false,eval e X.env)::starEach es X.env:=by rfl) (b:(backTo pos (starEach es X.env)).any (·.1)=false:=by rfl):PE X (.Call (.Name x p) (e::es) [] pos) (Vk C sp [] E t):=by
 obtain⟨f,q,F,M,j,g⟩:=c.ex;exact pe_make M F l i j g .nil n d a h b
theorem Zi(c:Sx X.prog X.w X.K X.mg X.base CX k x C ps sp)(h:Db (k+1) X.A)(d:Gl X x)(i:Gi CX X E)(a:(x==("__debug__" : Str))=false:=by decide):PE X (.Call (.Name x p) [] [] pos) (Vk C sp [] E PP):=by
 obtain⟨f,j,F,M,g,b⟩:=c.ex;exact Zg M F h d g b .nil i a
theorem BV{i:Int}(c:Gl X x)(a:∃tk,X.mg x=some (.int i tk))(b:(x==("__debug__" : Str))=false:=by decide):PE X (.Name x pos) (tC (.int i)):=by
 obtain⟨tk,a⟩:=a;exact Rt c a ⟨tk,rfl⟩ b
theorem Oo{z:Str}(c:Gl X x)(a:∃tk,X.mg x=some (.str z tk))(b:(x==("__debug__" : Str))=false:=by decide):PE X (.Name x pos) (tC (.str z)):=by
 obtain⟨tk,a⟩:=a;exact Rt c a ⟨tk,rfl⟩ b
theorem pe_gref{a:R_}(c:Gl X x)(d:X.mg x=some (.ref a))(b:(x==("__debug__" : Str))=false:=by decide):PE X (.Name x pos) (tC (.ref a)):=Rt c d rfl b
end
def cOk(So:Scope)(No:K_)(scope:Scope)(N:K_)(k:Nat)(cs:J_):Bool :=
 scope.names.all (λy=>y.2 != .cell) && (scope.kind==.function && (scope.names.all (λy=>y.2 != .local || scope.names.lookup y.1==some .local) && (scope.names.all (λy=>y.2 != .free || (So.names.lookup y.1==some .cell || So.names.lookup y.1==some .free)) &&
  (N.length==k+cs.length && (List.range cs.length).all λj=>match N[k+j]?,No[cs.getD j 0]? with
   |some x,some y=>x==y && scope.names.lookup x==some .free
   |_,_=>false))))
theorem Bz.of{X:Cx}{So:Scope}{No:K_}{a:Scope}{N:K_}{k:Nat}{cs:J_}(p:X.env.scope=So)(o:X.N=No)(h:cOk So No a N k cs=true):Bz X a N k cs:=by
 subst p o;unfold cOk at h;simp only[P9,R3,bne_iff_ne,ne_eq,Bool.or_eq_true,A5f,F5]at h;obtain⟨f,g,i,l,m,n⟩:=h;refine⟨f,g,λy b e=>?_,λy b e=>?_,m,λj q=>?_⟩
 .rcases i y b with z|z
  .exact absurd e z
  .exact z
 .rcases l y b with z|z
  .exact absurd e z
  .exact z
 .have z:=n j q;split at z
  .rename_i x y c d;simp only[P9,A5f]at z;obtain⟨r,s⟩:=z;subst r;exact⟨x,c,d,s⟩
  .cases z
theorem Gm{σ:St}{H:Hp}{A B:Hp->Prop}(h:A H):tYes σ H λb a=>if b=true then A a else B a:=by
 show if true=true then A H else B H;exact Cz h
theorem Oz{d:TE}{σ:St}{H:Hp}{Q:VK}{a b2:Bool}(e:a=true->∀b:VK,b (.bl b2) H->d σ H b)(q:Q (.bl (a && b2)) H):∃c,V.bl a=.bl c/\if c=true then d σ H Q else Q (.bl false) H:=by
 cases a with
 |true=>exact⟨true,rfl,Cz (e rfl Q q)⟩
 |false=>exact⟨false,rfl,Bf q⟩
theorem Yw{u:TT}{σ:St}{H:Hp}{Q:Bool->Hp->Prop}{a b2:Bool}(c:a=true->∀b:Bool->Hp->Prop,b b2 H->u σ H b)(q:Q (a && b2) H):if a=true then u σ H Q else Q false H:=by
 cases a with
 |true=>exact Cz (c rfl Q q)
 |false=>exact Bf q
section
variable{X:Cx}{scope:Scope}{N:K_}{s:P_}{H:Hp}{ex:H_}{x y:Str}{px py pos:Pos}{k:Nat}
theorem Bd{i:Nat}(b:N.Nodup)(c:N[i]?=some x)(a:(relabel scope X.env).names.lookup x=some .local):PG (cxC X scope N s H ex) (.Name x pos) (Px i):=AZ (X:=cxC X scope N s H ex) b c (.inl a) (.inr a)
theorem Zf{i j:Nat}(b:X.calm=true)(a:N.Nodup)(c:N[i]?=some x)(d:N[j]?=some y)(e:(relabel scope X.env).names.lookup x=some .local)(f:(relabel scope X.env).names.lookup y=some .local) :
  PG (cxC X scope N s H ex) (.Tuple [.Name x px,.Name y py] k pos) (gTup X.K 2 (TC (Px i) (TC (Px j) gNil))) :=
 Nj (X:=cxC X scope N s H ex) b (CS (Bd a c e) (CS (Bd a d f) Li))
end
theorem AR.strs:∀(l:K_)(k:Nat),AR (l.map V.str) (strsFrom k l)
|[],_=>.nil
|x::r,k=>.cons ⟨k,rfl⟩ (AR.strs r (k+1))
section
variable{X:Cx}
theorem Tr:MtR X "str.split" (λx xs H Q=>∃a b,x=.str a/\xs=[.str b]/\(b.length==0)=false/\a.length<=100000/\∀p,H p=none->Q (.ref p) (upd H p (.lst ((Txt.split a b).map V.str)))):=by
 intro g s σ H x xs v us Q I o r h;obtain⟨a,b,rfl,rfl,k,l,q⟩:=h;obtain⟨t,rfl⟩:=o;obtain⟨u,rfl,m⟩:=r.one;obtain⟨j,rfl⟩:=m;have big:a.length+2<=sizeLine:=D1 (Y7 l 2) A4;have fin:∀(c:F_)(tk:Nat),AR ((Txt.split a b).map V.str) c->EP X g σ Q (.ref s.heap.objs.size) {s with heap:=s.heap.push {cls:=.type "list",data:=.seq c.toArray},toks:=tk}:=λc tk n =>
  ⟨.ref _,_,I.lnew (t':=tk) n (by rw[B8];exact D1 (split_le a b) big),rfl,q _ I.fresh⟩
 by_cases d:(decide (a.length<b.length) || decide (Builtin.Str.strKind a<Builtin.Str.strKind b))=true
 .refine A3f F.slot_str_split (A5b _ _ _) F.entry_str_split (A6d _ _) (meets_str_split_cannot_occur a b t j d) ?_;refine fin _ s.toks ?_;unfold Txt.split;rw[Z9 d];exact .cons ⟨t,rfl⟩ .nil
 .have f:=Z4.mpr d;by_cases i:(Builtin.Str.occurrences a b 0 a.length (a.length+1)).isEmpty=true
  .refine A3f F.slot_str_split (A5b _ _ _) F.entry_str_split (A6d _ _) (meets_str_split_not_found a b t j f k i) ?_;refine fin _ s.toks ?_;unfold Txt.split;rw[Z6 d,Z9 i];exact .cons ⟨t,rfl⟩ .nil
  .have e:Txt.split a b=Builtin.Str.partsBetween a (Builtin.Str.occurrences a b 0 a.length (a.length+1)) b.length:=by
    unfold Txt.split;rw[Z6 d,Z6 i]
   refine A3f F.slot_str_split (A5b _ _ _) F.entry_str_split (A6d _ _) (meets_str_split_sep a b t j f k (Z4.mpr i) A0 (by rw[<-e];exact D1 (split_le a b) big)) ?_;refine fin _ _ ?_;rw[e];exact AR.strs _ _
theorem RQ:MtR X "str.partition" (λx xs H Q=>∃a b,x=.str a/\xs=[.str b]/\(b.length==0)=false/\a.length<=100000/\∀p,H p=none->Q (.ref p) (upd H p (.tup [.str (Txt.partition a b).1,.str (Txt.partition a b).2.1,.str (Txt.partition a b).2.2]))):=by
 intro d s σ H x xs v us Q I m r h;obtain⟨a,b,rfl,rfl,g,f,q⟩:=h;obtain⟨t,rfl⟩:=m;obtain⟨u,rfl,j⟩:=r.one;obtain⟨n,rfl⟩:=j;have fin:∀(c:F_)(tk:Nat),AR [.str (Txt.partition a b).1,.str (Txt.partition a b).2.1,.str (Txt.partition a b).2.2] c->EP X d σ Q (.ref s.heap.objs.size) {s with heap:=s.heap.push {cls:=.type "tuple",data:=.seq c.toArray},toks:=tk}:=λc tk k =>
  ⟨.ref _,_,I.laid (t':=tk) (o:=.tup [.str (Txt.partition a b).1,.str (Txt.partition a b).2.1,.str (Txt.partition a b).2.2]) (λ_ _ e=>C3 _ e) (C1 _) ⟨by show 3<=sizeLine;decide,c,k,_,D5 _ rfl,rfl,_,rfl⟩,rfl,q _ I.fresh⟩
 refine A3f F.slot_str_partition (A5b _ _ _) F.entry_str_partition (F.args_str_partition_2 _ _) (meets_str_partition a b t n g (D1 f A4)) ?_;show EP X d σ Q _ _;cases e:Builtin.Str.occurrences a b 0 a.length 1 with
 |nil =>
  refine fin _ _ ?_;unfold Txt.partition;rw[e];exact .cons ⟨_,rfl⟩ (.cons ⟨_,rfl⟩ (.cons ⟨_,rfl⟩ .nil))
 |cons i l =>
  refine fin _ _ ?_;unfold Txt.partition;rw[e];exact .cons ⟨_,rfl⟩ (.cons ⟨_,rfl⟩ (.cons ⟨_,rfl⟩ .nil))
theorem AR.tstrs:∀{l:K_}{a:F_},AR (l.map V.str) a->∃b:List (Str×Tok),a=strValues b/\b.map (·.1)=l
|[],_,.nil=>⟨[],rfl,rfl⟩
|x::r,_,.cons ⟨t,e⟩ rr=>by
 obtain⟨b,c,d⟩:=AR.tstrs rr;subst e c;exact⟨(x,t)::b,rfl,by rw[F7,d]⟩
theorem MB:MtR X "str.join" (λx xs H Q=>∃(a:Str)(p:R_)(l:K_),x=.str a/\xs=[.ref p]/\SqL X.K H p (l.map V.str)/\JoinOk a l=true/\Q (.str (Str.join a l)) H):=by
 intro c s σ H x xs v us Q I j r h;obtain⟨a,p,l,rfl,rfl,d,b,q⟩:=h;obtain⟨t,rfl⟩:=j;obtain⟨u,rfl,f⟩:=r.one;cases(show u=Value.ref p from f);obtain⟨g,i,pl,_⟩:=I.list d;obtain⟨m,rfl,e⟩:=AR.tstrs i;refine SC.join (texts:=l) pl.isList e b λt' k=>⟨.str _,H,I.tok k,⟨t',rfl⟩,?_⟩
 have:Txt.join a l=Str.join a l:=StrLaws.glued_eq_join a l;rw[this];exact q
theorem TJ(n:Int):∀{ns:I_}{a:F_},AR (ns.map V.int) a->a.countP (λy=>match y with|.int i _=>i==n|_=>false)=ns.countP (· == n)
|[],_,.nil=>rfl
|x::r,_,.cons ⟨t,e⟩ rr=>by
 subst e;rw[W1,W1,TJ n rr]
theorem Yu{ns:I_}{a:F_}(h:AR (ns.map V.int) a){y:S_}(b:y∈a):∃i t,y=.int i t:=by
 induction ns generalizing a with
 |nil=>cases h;simp at b
 |cons n r c =>
  cases h with
  |cons q d =>
   obtain⟨t,e⟩:=q;rcases C2.mp b with z|z
   .exact⟨n,t,z.trans e⟩
   .exact c d z
theorem ZI:MtR X "list.count" (λx xs H Q=>∃(l:R_)(ns:I_)(n:Int),x=.ref l/\xs=[.int n]/\H l=some (.lst (ns.map V.int))/\Q (.int (ns.countP (· == n):Nat)) H):=by
 intro b s σ H x xs v us Q I j r h;obtain⟨l,ns,n,rfl,rfl,d,q⟩:=h;cases j;obtain⟨u,rfl,f⟩:=r.one;obtain⟨tk,rfl⟩:=f;obtain⟨z,a,k,c,m,e⟩:=I.lstM d;refine A3f F.slot_list_count ⟨_,e,rfl⟩ F.entry_list_count (F.args_list_count_2 _ _) (MeetsSeq.list_count l a.toArray k (.int n tk) (λy=>match y with|.int i _=>i==n|_=>false) (λy g=>?_)) ⟨e,?_⟩
 .obtain⟨i,t,rfl⟩:=Yu c (by simpa using g);exact PySem.MeetsSeq.EqGives.int i n t tk
 .refine⟨.int _,H,I.tok _,⟨_,rfl⟩,?_⟩;have:(List.countP (λy=>match y with|Value.int i _=>i==n|_=>false) a.toArray.toList)=ns.countP (· == n):=TJ n (by simpa using c);rw[this];exact q
end
end L2
namespace L2
open PySem
section
variable{X:Cx}{es es':List Expr}{t t':TA}{pos:Pos}
theorem AI{i:Int}{j}(a:PA X es t):PA X (.Constant (.int i) j pos::es) (CP (tC (.int i)) t):=Aa Ae a
theorem LT{z:Str}{j}(a:PA X es t):PA X (.Constant (.str z) j pos::es) (CP (tC (.str z)) t):=Aa Da a
theorem Rv(h:PA X es' t')(a:PA X es t):PA X (.List es' pos::es) (CP (tLst t') t):=Aa (Cb h) a
theorem Br{x1}(h:PA X es' t')(a:PA X es t):PA X (.Tuple es' x1 pos::es) (CP (Yx t') t):=Aa (Eg h) a
theorem Bl{c:Operator}{r:R2}{a b:Expr}{d e:TE}(h:OpR X (binaryOp c) r)(f:PE X a d)(g:PE X b e)(i:PA X es t):PA X (.BinOp a c b pos::es) (CP (tOp r d e) t):=Aa (AA h f g) i
theorem Ll{K:O_}(h:X.K=K):IxR X (Lw K):=h▸An
theorem Tz{K:O_}(h:X.K=K):IxR X (rIxL K):=h▸Ax
end
theorem AL{P:Prop}(h:∀G:Prop,(P->G)->G):P:=h P id
theorem xq1{α:Sort _}{a:α}{P Q:α->Prop}(h:P a)(k:Q a):∃x,P x/\Q x:=⟨a,h,k⟩
theorem xq2{α β:Sort _}{a:α}{b:β}{P Q R:α->β->Prop}(h:P a b)(h':Q a b)(k:R a b):∃x y,P x y/\Q x y/\R x y:=⟨a,b,h,h',k⟩
theorem xq3{α β γ:Sort _}{a:α}{b:β}{c:γ}{P Q R S:α->β->γ->Prop}(h:P a b c)(h':Q a b c)(d:R a b c)(k:S a b c):∃x y z,P x y z/\Q x y z/\R x y z/\S x y z:=⟨a,b,c,h,h',d,k⟩
theorem xq4{α β γ δ:Sort _}{a:α}{b:β}{c:γ}{d:δ}{P Q R S T:α->β->γ->δ->Prop}(h:P a b c d)(h':Q a b c d)(e:R a b c d)(f:S a b c d)(k:T a b c d):∃x y z w,P x y z w/\Q x y z w/\R x y z w/\S x y z w/\T x y z w:=⟨a,b,c,d,h,h',e,f,k⟩
theorem xq5{K:O_}{f:Str}{H:Hp}{a C c:R_}{fs:List (Str×V)}{v:V}{Q:V->Prop}(h:H a=some (.ins C c fs))(d:Cls K C)(e:BL K C f)(g:fs.lookup f=some v)(k:Q v):∃b C c fs w,V.ref a=.ref b/\H b=some (.ins C c fs)/\Cls K C/\BL K C f/\fs.lookup f=some w/\Q w:=⟨a,C,c,fs,v,rfl,h,d,e,g,k⟩
theorem xw2{α β:Sort _}{a:α}{b:β}{P:α->Prop}{Q:α->β->Prop}{K:α->β->Prop}(e:P a)(f:Q a b)(k:K a b):∃c,P c/\∃d,Q c d/\K c d:=⟨a,e,b,f,k⟩
theorem xw3{α β γ:Sort _}{a:α}{b:β}{c:γ}{P:α->Prop}{Q:α->β->Prop}{R:α->β->γ->Prop}{K:α->β->γ->Prop}(g:P a)(h:Q a b)(i:R a b c)(k:K a b c):∃d,P d/\∃e,Q d e/\∃f,R d e f/\K d e f:=⟨a,g,b,h,c,i,k⟩
theorem xwb{α β γ:Sort _}{a:α}{b:β}{c:γ}{P:α->Prop}{Q:α->β->γ->Prop}{R:α->β->γ->Prop}{K:α->β->γ->Prop}(g:P a)(h:Q a b c)(i:R a b c)(k:K a b c):∃d,P d/\∃e f,Q d e f/\R d e f/\K d e f:=⟨a,g,b,c,h,i,k⟩
theorem xwm{α β γ δ:Sort _}{a:α}{b:β}{c:γ}{d:δ}{P:α->Prop}{Q:α->β->γ->δ->Prop}{R:α->β->γ->δ->Prop}{S:α->β->γ->δ->Prop}{K:α->β->γ->δ->Prop}(i:P a)(j:Q a b c d)(l:R a b c d)(m:S a b c d)(k:K a b c d):∃e,P e/\∃f g h,Q e f g h/\R e f g h/\S e f g h/\K e f g h:=⟨a,i,b,c,d,j,l,m,k⟩
theorem xwi{α β γ δ ε:Sort _}{a:α}{b:β}{c:γ}{d:δ}{e:ε}{P:α->Prop}{Q:α->β->γ->δ->ε->Prop}{R:α->β->γ->δ->ε->Prop}{S:α->β->γ->δ->ε->Prop}{T:α->β->γ->δ->ε->Prop}{K:α->β->γ->δ->ε->Prop}(l:P a)(m:Q a b c d e)(n:R a b c d e)(o:S a b c d e)(p:T a b c d e)(k:K a b c d e):∃f,P f/\∃g h i j,Q f g h i j/\R f g h i j/\S f g h i j/\T f g h i j/\K f g h i j:=⟨a,l,b,c,d,e,m,n,o,p,k⟩
theorem xwf{α β γ δ ε ζ:Sort _}{a:α}{b:β}{c:γ}{d:δ}{e:ε}{f:ζ}{P:α->Prop}{Q:α->β->γ->δ->ε->ζ->Prop}{R:α->β->γ->δ->ε->ζ->Prop}{S:α->β->γ->δ->ε->ζ->Prop}{T:α->β->γ->δ->ε->ζ->Prop}{U:α->β->γ->δ->ε->ζ->Prop}{K:α->β->γ->δ->ε->ζ->Prop}(n:P a)(o:Q a b c d e f)(p:R a b c d e f)(q:S a b c d e f)(r:T a b c d e f)(s:U a b c d e f)(k:K a b c d e f):∃g,P g/\∃h i j l m,Q g h i j l m/\R g h i j l m/\S g h i j l m/\T g h i j l m/\U g h i j l m/\K g h i j l m:=⟨a,n,b,c,d,e,f,o,p,q,r,s,k⟩
theorem xwn{α β γ δ ε:Sort _}{a:α}{b:β}{c:γ}{d:δ}{e:ε}{P:α->Prop}{Q:α->β->γ->δ->Prop}{R:α->β->γ->δ->Prop}{S:α->β->γ->δ->Prop}{T:α->β->γ->δ->ε->Prop}{K:α->β->γ->δ->ε->Prop}(l:P a)(m:Q a b c d)(n:R a b c d)(o:S a b c d)(p:T a b c d e)(k:K a b c d e):∃f,P f/\∃g h i,Q f g h i/\R f g h i/\S f g h i/\∃j,T f g h i j/\K f g h i j:=⟨a,l,b,c,d,m,n,o,e,p,k⟩
theorem xwj{α β γ δ ε ζ:Sort _}{a:α}{b:β}{c:γ}{d:δ}{e:ε}{f:ζ}{P:α->Prop}{Q:α->β->Prop}{R:α->β->γ->δ->ε->ζ->Prop}{S:α->β->γ->δ->ε->ζ->Prop}{T:α->β->γ->δ->ε->ζ->Prop}{U:α->β->γ->δ->ε->ζ->Prop}{K:α->β->γ->δ->ε->ζ->Prop}(n:P a)(o:Q a b)(p:R a b c d e f)(q:S a b c d e f)(r:T a b c d e f)(s:U a b c d e f)(k:K a b c d e f):∃g,P g/\∃h,Q g h/\∃i j l m,R g h i j l m/\S g h i j l m/\T g h i j l m/\U g h i j l m/\K g h i j l m:=⟨a,n,b,o,c,d,e,f,p,q,r,s,k⟩
theorem AW{A B:TS}{D:LY}{σ:St}{H:Hp}(h:let r:=B D;let s:=σ;∀k:St->Hp->Prop,(∀{σ H},r σ H->k σ H)->let E:LY:={D with nx:=k};A E s H):tSeq A B D σ H:=h _ λz=>z
end L2
namespace Nu
open PySem PySem.NumText PyProof.Rows
theorem ext{a b:Str}(h:a.cps.toList=b.cps.toList):a=b:=by
 obtain⟨⟨l⟩⟩:=a;obtain⟨⟨r⟩⟩:=b;cases h;rfl
theorem len(x:Str):x.length=x.cps.toList.length:=by simp[Str.length]
end Nu
namespace Tx
open PySem PySem.Builtin PySem.Builtin.Str PyProof.Rows
theorem CM(a b:Str):(a++b).cps.toList=a.cps.toList++b.cps.toList:=cps_toList_append a b
def jl(sep:J_):List (List Nat)->List Nat
|[]=>[]
|[x]=>x
|x::y::r=>x++sep++jl sep (y::r)
theorem EZ(a:Str):∀b:List Str,(Str.join a b).cps.toList=jl a.cps.toList (b.map λt=>t.cps.toList)
|[]=>rfl
|[x]=>rfl
|x::y::r=>by
 have e:Str.join a (x::y::r)=x++a++Str.join a (y::r):=rfl;rw[e,CM,CM,EZ a (y::r)];rfl
theorem Sm{c:Nat}:∀{x y A B:J_},c∉x->c∉y->x++c::A=y++c::B->x=y/\A=B
|[],[],A,B,_,_,h=>⟨rfl,by simpa using h⟩
|[],y::ys,A,B,_,hy,h=>by
 simp at h;exact absurd (by rw[h.1];exact C8) hy
|x::xs,[],A,B,hx,_,h=>by
 simp at h;exact absurd (by rw[<-h.1];exact C8) hx
|x::xs,y::ys,A,B,hx,hy,h=>by
 simp at h;obtain⟨e,h⟩:=h;obtain⟨a,b⟩:=Sm (x:=xs) (y:=ys) (λz=>hx (C7 _ z)) (λz=>hy (C7 _ z)) h;exact⟨by rw[e,a],b⟩
theorem UR(c:Nat)(s:J_):∀(as bs:List (List Nat)),as≠[]->bs≠[]->(∀t∈as,c∉t)->(∀t∈bs,c∉t)->jl (c::s) as=jl (c::s) bs->as=bs
|[],_,h,_,_,_,_=>absurd rfl h
|_,[],_,h,_,_,_=>absurd rfl h
|[x],[y],_,_,_,_,e=>by
 have a:x=y:=e;rw[a]
|[x],y::z::r,_,_,ha,_,e=>by
 have a:x=y++c::s++jl (c::s) (z::r):=e;exact absurd (by rw[a];simp) (ha x C8)
|x::z::r,[y],_,_,_,hb,e=>by
 have a:x++c::s++jl (c::s) (z::r)=y:=e;exact absurd (by rw[<-a];simp) (hb y C8)
|x::x2::r,y::y2::r',_,_,ha,hb,e=>by
 have a:x++c::(s++jl (c::s) (x2::r))=y++c::(s++jl (c::s) (y2::r')):=by
  have:x++c::s++jl (c::s) (x2::r)=y++c::s++jl (c::s) (y2::r'):=e
  simpa using this
 obtain⟨d,f⟩:=Sm (ha x C8) (hb y C8) a;have g:=List.append_cancel_left f;rw[d,UR c s (x2::r) (y2::r') A6 A6 (λt b=>ha t (C7 _ b)) (λt b=>hb t (C7 _ b)) g]
theorem Qz {as bs:K_} (h:as.map (λt=>t.cps.toList)=bs.map λt=>t.cps.toList):as=bs:=by
 induction as generalizing bs with
 |nil=>cases bs with|nil=>rfl|cons=>simp at h
 |cons a r c =>
  cases bs with
  |nil=>simp at h
  |cons b q =>
   simp at h;rw[Nu.ext (a:=a) (b:=b) (by simpa using h.1),c (by simpa using h.2)]
theorem SM(c:Nat)(a:K_)(b:a≠[])(f:∀t∈a,c∉t.cps.toList):Txt.split (Str.join ⟨#[c]⟩ a) ⟨#[c]⟩=a:=by
 refine Qz (UR c [] _ _ ?_ ?_ ?_ ?_ ?_)
 .intro h;have:=split_pos (Str.join ⟨#[c]⟩ a) ⟨#[c]⟩;have g:(Txt.split (Str.join ⟨#[c]⟩ a) ⟨#[c]⟩).length=0:=by simpa using K5 List.length h
  lia
 .simpa using b
 .intro t e;obtain⟨p,d,rfl⟩:=F0.mp e;exact StrLaws.split_free _ c p d
 .intro t e;obtain⟨p,d,rfl⟩:=F0.mp e;exact f p d
 .have h:=K5 (λz:Str=>z.cps.toList) (StrLaws.join_split (Str.join ⟨#[c]⟩ a) ⟨#[c]⟩);rw[EZ,EZ]at h;exact h
theorem IK(c:Nat)(a b:Str)(h:c∉a.cps.toList):Txt.partition (a++⟨#[c]⟩++b) ⟨#[c]⟩=(a,⟨#[c]⟩,b):=by
 have d:c∈(a++⟨#[c]⟩++b).cps.toList:=by rw[CM,CM];simp
 have v:=StrLaws.partition_sum (a++⟨#[c]⟩++b) ⟨#[c]⟩;have s:=partition_head (a++⟨#[c]⟩++b) ⟨#[c]⟩;have g:=StrLaws.found_one (a++⟨#[c]⟩++b) c;rw[Z7 d]at g;have f:(Txt.partition (a++⟨#[c]⟩++b) ⟨#[c]⟩).2.1=⟨#[c]⟩:=by
  unfold Txt.partition;cases e:occurrences (a++⟨#[c]⟩++b) ⟨#[c]⟩ 0 (a++⟨#[c]⟩++b).length 1 with
  |nil=>rw[e]at g;simp at g
  |cons i l=>rfl
 have m:c∉(Txt.partition (a++⟨#[c]⟩++b) ⟨#[c]⟩).1.cps.toList:=by
  rcases s with ⟨_,no⟩|⟨i,e,r,no⟩
  .obtain⟨j,t⟩:=F6 d;exact absurd ((StrLaws.subAt_one _ c j).mpr t) (no j)
  .rw[e];exact StrLaws.part_free _ c 0 i (by have:i+1<=_:=r.1;lia) λk _ u=>no k u
 have e:(Txt.partition (a++⟨#[c]⟩++b) ⟨#[c]⟩).1.cps.toList++(Txt.partition (a++⟨#[c]⟩++b) ⟨#[c]⟩).2.1.cps.toList++(Txt.partition (a++⟨#[c]⟩++b) ⟨#[c]⟩).2.2.cps.toList=a.cps.toList++[c]++b.cps.toList:=by
  have n:=K5 (λz:Str=>z.cps.toList) v;rw[CM,CM,CM,CM]at n;exact n
 rw[f]at e;have o:(Txt.partition (a++⟨#[c]⟩++b) ⟨#[c]⟩).1.cps.toList++c::(Txt.partition (a++⟨#[c]⟩++b) ⟨#[c]⟩).2.2.cps.toList=a.cps.toList++c::b.cps.toList:=by simpa using e
 obtain⟨p,q⟩:=Sm m h o;exact Prod.ext (Nu.ext p) (Prod.ext f (Nu.ext q))
theorem Ep{n:Int}(a:0<=n)(b:n<=9):(Str.ofString (toString n))=(⟨#[48+n.toNat]⟩:Str):=by
 obtain⟨m,rfl⟩:=F8 a;exact(show ∀m:Nat,m<10->(Str.ofString (toString (m:Int)))=(⟨#[48+(m:Int).toNat]⟩:Str) by decide +kernel) m A0
end Tx
namespace Tx
open PySem PySem.Builtin PySem.Builtin.Str PyProof.Rows
theorem UQ:∀a:List (List Nat),jl [] a=a.flatten
|[]=>rfl
|[x]=>by simp[jl]
|x::y::r=>by
 show x++[]++jl [] (y::r)=_;rw[UQ (y::r)];simp
theorem Wa(c:Str)(m:Nat):∀(l:K_)(b:Nat),(∀t∈l,t.length<=m)->l.foldl (λa t=>a+t.length+c.length) b<=b+l.length*(m+c.length)
|[],b,_=>by simp
|t::r,b,h=>by
 have e:=h t C8;have f:=Wa c m r (b+t.length+c.length) λz d=>h z (C7 _ d);rw[T1,D7,W2];lia
theorem MG{b:Str}{l:K_}(m:Nat)(h:∀t∈l,t.length<=m)(d:l.length*(m+b.length)<=100000):JoinOk b l=true:=by
 unfold JoinOk;have c:=Wa b m l 0 h;have e:l.toArray.foldl (λa t=>a+t.length+b.length) 0=l.foldl (λa t=>a+t.length+b.length) 0:=by simp
 rw[e];have:tooLong (l.foldl (λa t=>a+t.length+b.length) 0)=false:=by
  unfold tooLong;refine Z8 ?_;have:(100000:Nat)<=sizeLine:=by decide
  lia
 rw[this];rfl
theorem app_len(a b:Str):(a++b).length=a.length+b.length:=by
 rw[Nu.len,Nu.len,Nu.len,CM,C5]
end Tx
namespace Tx
open PySem PySem.Builtin PySem.Builtin.Str PyProof.Rows
theorem at_two(x:Str)(c d k:Nat)(e:x.cps.toList[k]?=some c)(a:x.cps.toList[k+1]?=some d):StrLaws.At x ⟨#[c,d]⟩ x.length k:=by
 have l:k+1<x.cps.toList.length:=(B9.mp a).1;refine⟨?_,?_⟩
 .show k+2<=x.length;rw[Nu.len];lia
 .rw[StrLaws.subAt_eq];show((x.cps.toList.drop k).take 2==[c,d])=true;have b:x.cps.toList.drop k=c::d::x.cps.toList.drop (k+2):=by
   rw[List.drop_eq_getElem_cons A0,(B9.mp e).2,List.drop_eq_getElem_cons l,(B9.mp a).2]
  rw[b];simp
def Led(c d:Nat)(l:J_):Prop:=∀k:Nat,l[k]?=some c->l[k+1]?=some d
theorem OZ{x:Str}{c d a b:Nat}(l:Led c d x.cps.toList)(m:b<=x.length)(i:∀k,a<=k->k<b->¬StrLaws.At x ⟨#[c,d]⟩ x.length k):c∉(strSub x a b).cps.toList:=by
 intro g;rw[StrLaws.strSub_toList]at g;obtain⟨j,e⟩:=F6 g;have f:j<b-a:=by
  have h:j<((x.cps.toList.drop a).take (b-a)).length:=(B9.mp e).1;rw[M5]at h;lia
 rw[V7 f,List.getElem?_drop]at e;exact i (a+j) A0 A0 (at_two x c d (a+j) e (l _ e))
theorem NO{x:Str}{c d:Nat}(j:Led c d x.cps.toList):∀(b:J_)(a f:Nat),StrLaws.ChainG x ⟨#[c,d]⟩ x.length a b f->(∀k,f<=k->¬StrLaws.At x ⟨#[c,d]⟩ x.length k)->∀p∈StrLaws.partsFrom x 2 a b,c∉p.cps.toList
|[],a,f,h,hn,p,hp=>by
 have e:f=a:=h;subst e;rw[C9.mp hp];exact OZ j (C1 _) λk l _=>hn k l
|g::r,a,f,h,hn,p,hp=>by
 rcases C2.mp hp with rfl|i
 .exact OZ j (by have:g+2<=_:=h.2.1.1;lia) h.2.2.1
 .exact NO j r _ f h.2.2.2 hn p i
theorem kind_le(x:Str):¬Builtin.Str.strKind x<Builtin.Str.strKind (⟨#[59,32]⟩:Str):=by
 have e:Builtin.Str.strKind (⟨#[59,32]⟩:Str)=1:=by simp[Builtin.Str.strKind]
 rw[e];unfold Builtin.Str.strKind;split
 .decide
 .split<;>decide
theorem SN{x:Str}(m:Led 59 32 x.cps.toList):∀p∈Txt.split x ⟨#[59,32]⟩,59∉p.cps.toList:=by
 obtain⟨f,c,l⟩:=StrLaws.occ_tight x ⟨#[59,32]⟩ A4;have a:59∈x.cps.toList->∃k,StrLaws.At x ⟨#[59,32]⟩ x.length k:=λb=>by
  obtain⟨j,i⟩:=F6 b;exact⟨j,at_two x 59 32 j i (m j i)⟩
 unfold Txt.split;split
 .rename_i g;intro p e;rw[C9.mp e];intro b;obtain⟨k,d⟩:=a b;have q:k+2<=x.length:=d.1;rw[Bool.or_eq_true,A6a,A6a]at g;rcases g with h|h
  .have r:x.length<2:=h;lia
  .exact kind_le x h
 .split
  .rename_i n;intro p e;rw[C9.mp e];intro b;obtain⟨k,d⟩:=a b;rw[List.isEmpty_iff.mp n]at c;have o:f=0:=c;exact l k A0 d
  .rw[StrLaws.partsBetween_eq];exact NO m _ 0 f c l
theorem ZT{c d:Nat}(a:c≠d):∀b:List (List Nat),(∀t∈b,c∉t)->Led c d (jl [c,d] b)
|[],_=>λk h=>by simp[jl]at h
|[x],hf=>λk h=>absurd (D0 (show x[k]?=some c from h)) (hf x C8)
|x::y::r,hf=>λk h=>by
 have j:=ZT a (y::r) λt i=>hf t (C7 _ i);have e:jl [c,d] (x::y::r)=x++(c::d::jl [c,d] (y::r)):=by
  show x++[c,d]++jl [c,d] (y::r)=_;simp
 rw[e]at h⊢;by_cases f:k<x.length
 .rw[M8 f]at h;exact absurd (D0 h) (hf x C8)
 .rw[J6 A0]at h;rw[J6 A0];obtain⟨m,g⟩:∃m,k-x.length=m:=⟨_,rfl⟩
  rw[show k+1-x.length=m+1 by lia];rw[g]at h;cases m with
  |zero=>rfl
  |succ m =>
   cases m with
   |zero =>
    have:some d=some c:=h;exact absurd (K0 this).symm a
   |succ m =>
    rw[W0,W0]at h⊢;exact j m h
theorem SK(a:K_)(d:a≠[])(f:∀t∈a,59∉t.cps.toList):Txt.split (Str.join ⟨#[59,32]⟩ a) ⟨#[59,32]⟩=a:=by
 have e:Led 59 32 (Str.join ⟨#[59,32]⟩ a).cps.toList:=by
  rw[EZ];refine ZT A4 _ λt c=>?_;obtain⟨p,b,rfl⟩:=F0.mp c;exact f p b
 refine Qz (UR 59 [32] _ _ ?_ ?_ ?_ ?_ ?_)
 .intro h;have:=split_pos (Str.join ⟨#[59,32]⟩ a) ⟨#[59,32]⟩;have g:(Txt.split (Str.join ⟨#[59,32]⟩ a) ⟨#[59,32]⟩).length=0:=by simpa using K5 List.length h
  lia
 .simpa using d
 .intro t c;obtain⟨p,b,rfl⟩:=F0.mp c;exact SN e p b
 .intro t c;obtain⟨p,b,rfl⟩:=F0.mp c;exact f p b
 .have h:=K5 (λz:Str=>z.cps.toList) (StrLaws.join_split (Str.join ⟨#[59,32]⟩ a) ⟨#[59,32]⟩);rw[EZ,EZ]at h;exact h
end Tx
namespace L2
open PySem PySem.Spec PyProof.Rows
section
variable{κ:Type}[DecidableEq κ]
def BR(kvs:List (κ×V))(k:κ):Option V:=(kvs.find? λkv=>decide (kv.1=k)).map (·.2)
def EV(kvs:List (κ×V))(k:κ)(v:V):List (κ×V) :=
 if(kvs.any λkv=>decide (kv.1=k))=true then kvs.map (λkv=>if kv.1=k then(kv.1,v)else kv)else kvs++[(k,v)]
theorem BT{p:κ×V}{r:List (κ×V)}{k:κ}(e:p.1=k):BR (p::r) k=some p.2:=by simp[BR,Q5,e]
theorem BH{p:κ×V}{r:List (κ×V)}{k:κ}(e:¬p.1=k):BR (p::r) k=BR r k:=by simp[BR,Q5,e]
theorem Ju(k:κ):∀kvs:List (κ×V),(kvs.any λa=>decide (a.1=k))=(BR kvs k).isSome
|[]=>rfl
|p::r=>by
 rw[T7];by_cases e:p.1=k
 .simp only[BT e,Z7 e,Bool.true_or,Option.isSome_some]
 .rw[BH e,Z8 e,Bool.false_or];exact Ju k r
theorem Sz(k j:κ)(y:V):∀kvs:List (κ×V),BR (kvs.map λa=>if a.1=k then(a.1,y)else a) j=(BR kvs j).map λx=>if j=k then y else x
|[]=>rfl
|p::r=>by
 have b:=Sz k j y r;rw[F7];by_cases h:p.1=k
 .rw[Z9 h];by_cases e:p.1=j
  .rw[BT (p:=(p.1,y)) e,BT e,W7,Z9 (e.symm.trans h)]
  .rw[BH (p:=(p.1,y)) e,BH e,b]
 .rw[Z6 h];by_cases e:p.1=j
  .rw[BT (p:=p) e,BT e,W7,Z6 (λz=>h (e.trans z))]
  .rw[BH (p:=p) e,BH e,b]
theorem Qr(k j:κ)(y:V):∀kvs:List (κ×V),BR kvs k=none->BR (kvs++[(k,y)]) j=if j=k then some y else BR kvs j
|[],_=>by
 by_cases e:k=j
 .rw[Z9 e.symm];exact BT (p:=(k,y)) e
 .rw[Z6 (λz=>e z.symm)];exact BH (p:=(k,y)) e
|p::r,hn=>by
 rw[List.cons_append];have a:¬p.1=k:=λz=>by rw[BT z]at hn;cases hn
 rw[BH a]at hn;have b:=Qr k j y r hn;by_cases e:p.1=j
 .rw[BT e,BT e,Z6 (λz=>a (e.trans z))]
 .rw[BH e,BH e,b]
theorem LZ(kvs:List (κ×V))(k j:κ)(y:V):BR (EV kvs k y) j=if j=k then some y else BR kvs j:=by
 unfold EV;by_cases a:(kvs.any λc=>decide (c.1=k))=true
 .rw[Z9 a,Sz];rw[Ju]at a;by_cases e:j=k
  .obtain⟨x,b⟩:=Option.isSome_iff_exists.mp a;rw[Z9 e,e,b,W7,Z9 rfl]
  .rw[Z6 e];cases BR kvs j with
   |none=>rfl
   |some x=>rw[W7,Z6 e]
 .rw[Z6 a];refine Qr k j y kvs ?_;rw[Ju]at a;cases q:BR kvs k with
  |none=>rfl
  |some x=>rw[q]at a;exact(a rfl).elim
theorem Gz(kvs:List (κ×V))(k:κ)(v:V):(EV kvs k v).length<=kvs.length+1:=by
 unfold EV;split
 .rw[B8];lia
 .rw[C5,D7,T0];lia
theorem Mq{kvs:List (κ×V)}{k:κ}(v:V)(h:BR kvs k=none):EV kvs k v=kvs++[(k,v)]:=by
 unfold EV;rw[Ju,h];exact Z6 A4
theorem Js.isSome_eq{o:Option V}{u:Option Value}(r:Js o u):o.isSome=u.isSome:=by
 cases o with
 |none=>cases u with
  |none=>rfl
  |some _=>exact(show False from r).elim
 |some _=>cases u with
  |none=>exact(show False from r).elim
  |some _=>rfl
theorem Js.getD{o:Option V}{u:Option Value}{d:V}{d':S_}(r:Js o u)(a:Bj d d'):Bj (o.getD d) (u.getD d'):=by
 cases o with
 |none=>cases u with
  |none=>exact a
  |some _=>exact(show False from r).elim
 |some _=>cases u with
  |none=>exact(show False from r).elim
  |some _=>exact r
theorem KV.val{kvs:List (κ×V)}{vs:List (κ×Value)}(r:KV kvs vs)(k:κ):Js (BR kvs k) (valueAt vs k):=by
 unfold KV at r;induction r with
 |nil=>exact True.intro
 |@cons p q i c h t g =>
  obtain⟨d,f⟩:=h;by_cases e:p.1=k
  .have a:q.1=k:=d.symm.trans e;have b:valueAt (q::c) k=some q.2:=by simp[valueAt,Q5,a]
   rw[BT e,b];exact f
  .have a:¬q.1=k:=λz=>e (d.trans z);have b:valueAt (q::c) k=valueAt c k:=by simp[valueAt,Q5,a]
   rw[BH e,b];exact g
theorem KV.any{kvs:List (κ×V)}{vs:List (κ×Value)}(r:KV kvs vs)(k:κ):(kvs.any λa=>decide (a.1=k))=vs.any λa=>decide (a.1=k):=by
 unfold KV at r;induction r with
 |nil=>rfl
 |cons h t b=>rw[T7,T7,b,h.1]
theorem KV.repl{kvs:List (κ×V)}{vs:List (κ×Value)}(r:KV kvs vs)(k:κ){y:V}{u:S_}(f:Bj y u) :
  KV (kvs.map λa=>if a.1=k then(a.1,y)else a) (vs.map λa=>if a.1=k then(a.1,u)else a):=by
 unfold KV at r⊢;induction r with
 |nil=>exact .nil
 |@cons p q g i h t d =>
  rw[F7,F7];refine .cons ?_ d;obtain⟨b,c⟩:=h;by_cases e:p.1=k
  .rw[Z9 e,Z9 (b.symm.trans e)];exact⟨b,f⟩
  .rw[Z6 e,Z6 (λz=>e (b.trans z))];exact⟨b,c⟩
theorem KV.put{kvs:List (κ×V)}{vs:List (κ×Value)}(r:KV kvs vs)(k:κ){y:V}{u:S_}(a:Bj y u):KV (EV kvs k y) (stored vs k u):=by
 unfold EV stored;rw[r.any k];by_cases e:(vs.any λb=>decide (b.1=k))=true
 .rw[Z9 e,Z9 e];exact r.repl k a
 .rw[Z6 e,Z6 e];exact A1c r ⟨rfl,a⟩
theorem KV.length{kvs:List (κ×V)}{vs:List (κ×Value)}(r:KV kvs vs):kvs.length=vs.length:=K4 r
end
theorem Ty{P:N_}{w:Q_}{k:Key}{u:S_}(r:Bj (kV k) u):(Cu P w).is k u=true:=by
 cases k with
 |inl i=>obtain⟨t,e⟩:=(show ∃t,u=Value.int i t from r);subst e;exact Tu P w i t
 |inr x=>obtain⟨t,e⟩:=(show ∃t,u=Value.str x t from r);subst e;exact Tt P w x t
theorem QC{P:N_}{w:Q_}:∀{ks:List Key}{us:F_},AR (ks.map kV) us->ItemsAre (Cu P w) ks us
|[],_,r=>by rw[Z3]at r;cases r;exact .nil
|k::ks,_,r=>by
 rw[F7]at r;cases r with
 |cons h t=>exact .cons (Ty h) (QC t)
abbrev KT(H:Hp):List (List Key×V)->List (List Key×Addr×Value)->Prop:=Paired λp q=>p.1=q.1/\H q.2.1=some (.tup (p.1.map kV))/\Bj p.2 q.2.2
theorem KT.val{H:Hp}{kvs:List (List Key×V)}{xs:List (List Key×Addr×Value)}(r:KT H kvs xs)(k:List Key):Js (BR kvs k) ((atKey xs k).map (·.2)):=by
 induction r with
 |nil=>exact True.intro
 |@cons p q i c h t g =>
  obtain⟨d,_,f⟩:=h;by_cases e:p.1=k
  .have a:q.1=k:=d.symm.trans e;have b:atKey (q::c) k=some q.2:=by simp[atKey,Q5,a]
   rw[BT e,b];exact f
  .have a:¬q.1=k:=λz=>e (d.trans z);have b:atKey (q::c) k=atKey c k:=by simp[atKey,Q5,a]
   rw[BH e,b];exact g
theorem KT.repl{H:Hp}{kvs:List (List Key×V)}{xs:List (List Key×Addr×Value)}(r:KT H kvs xs)(k:List Key){y:V}{u:S_}(g:Bj y u) :
  KT H (kvs.map λb=>if b.1=k then(b.1,y)else b) (xs.map (putAt k u)):=by
 induction r with
 |nil=>exact .nil
 |@cons p q i j h t f =>
  rw[F7,F7];refine .cons ?_ f;obtain⟨a,c,d⟩:=h;unfold putAt;by_cases e:p.1=k
  .rw[Z9 e,Z9 (a.symm.trans e)];exact⟨a,c,g⟩
  .rw[Z6 e,Z6 (λz=>e (a.trans z))];exact⟨a,c,d⟩
theorem KT.put{H:Hp}{kvs:List (List Key×V)}{xs:List (List Key×Addr×Value)}(r:KT H kvs xs)(k:List Key){b:R_}{y:V}{u:S_}(c:H b=some (.tup (k.map kV)))(a:Bj y u) :
  KT H (EV kvs k y) (storedH xs k b u):=by
 have e:(kvs.any λd=>decide (d.1=k))=(atKey xs k).isSome:=by
  rw[Ju,(r.val k).isSome_eq,Option.isSome_map]
 unfold EV storedH;rw[e];by_cases q:(atKey xs k).isSome=true
 .rw[Z9 q,Z9 q];exact r.repl k a
 .rw[Z6 q,Z6 q];exact A1c r ⟨rfl,c,a⟩
theorem KT.keeps{H a:Hp}{kvs:List (List Key×V)}{xs:List (List Key×Addr×Value)}(r:KT H kvs xs)(c:∀b ys,H b=some (.tup ys)->a b=some (.tup ys)):KT a kvs xs :=
 Paired.mapP r λ_ _ z=>⟨z.1,c _ _ z.2.1,z.2.2⟩
section
variable{P:N_}{w:Q_}{H:Hp}{h:T_}{a:R_}
theorem rd_of{u:HO}(ok:HOk P w H h)(e:Rd H a u):BI P w H h a u:=e.ok ok
theorem QJ{kvs:List (Key×V)}(ok:HOk P w H h)(e:Rd H a (.dK kvs)):kvs.length<=sizeLine/\(a==sysModules)=false/\∃vs,KV kvs vs/\h.DictOf (Cu P w) a vs :=
 show BI P w H h a (.dK kvs)from rd_of ok e
theorem dk_of{kvs:List (Key×V)}(ok:HOk P w H h)(e:H a=some (.dK kvs)):kvs.length<=sizeLine/\(a==sysModules)=false/\∃vs,KV kvs vs/\h.DictOf (Cu P w) a vs:=QJ ok (.inl e)
theorem Pu{ks:List Key}(ok:HOk P w H h)(e:H a=some (.tup (ks.map kV))):(tupleKind (Cu P w)).is h ks a:=by
 obtain⟨_,b,r,o,c,d,n,f⟩:=(show BI P w H h a (.tup (ks.map kV))from ok a _ e)
 exact⟨o,b.toArray,n,c,d,f,by simpa using QC r⟩
theorem QH{kvs:List (List Key×V)}(ok:HOk P w H h)(e:Rd H a (.dT kvs)):kvs.length<=sizeLine/\(a==sysModules)=false /\
  ∃xs,KT H kvs xs/\h.DictOfH (tupleKind (Cu P w)) a xs:=by
 obtain⟨z,y,xs,r,o,f,d,g,i,j,k,n⟩:=(show BI P w H h a (.dT kvs)from rd_of ok e)
 refine⟨z,y,xs,r,o,f,d,g,i,j,k,λx b=>?_,n⟩;have all:∀{l:List (List Key×V)}{m:List (List Key×Addr×Value)},KT H l m->∀x∈m,(tupleKind (Cu P w)).is h x.1 x.2.1:=by
  intro l m q;induction q with
  |nil=>intro x b;exact nomatch b
  |@cons p q u v c t s =>
   intro x b;rcases C2.mp b with e|b
   .subst e;exact Pu ok (by rw[<-c.1];exact c.2.1)
   .exact s x b
 exact all r x b
theorem dt_of{kvs:List (List Key×V)}(ok:HOk P w H h)(e:H a=some (.dT kvs)):kvs.length<=sizeLine/\(a==sysModules)=false /\
 ∃xs,KT H kvs xs/\h.DictOfH (tupleKind (Cu P w)) a xs:=QH ok (.inl e)
end
def Jt(H:Hp)(a:R_)(y:V)(r:Option V):Prop :=
 (∃kvs k,Rd H a (.dK kvs)/\y=kV k/\r=BR kvs k)\/∃kvs k b,Rd H a (.dT kvs)/\y=.ref b/\H b=some (.tup (k.map kV))/\r=BR kvs k
def MS(H:Hp)(a:R_)(y v:V)(H':Hp):Prop :=
 (∃kvs k,H a=some (.dK kvs)/\y=kV k/\kvs.length<sizeLine/\H'=upd H a (.dK (EV kvs k v))) \/
 ∃kvs k b,H a=some (.dT kvs)/\y=.ref b/\H b=some (.tup (k.map kV))/\kvs.length<sizeLine/\H'=upd H a (.dT (EV kvs k v))
theorem Jt.k{H:Hp}{a:R_}{kvs:List (Key×V)}{k:Key}(e:H a=some (.dK kvs)):Jt H a (kV k) (BR kvs k):=.inl ⟨kvs,k,.inl e,rfl,rfl⟩
theorem Jt.t{H:Hp}{a b:R_}{kvs:List (List Key×V)}{k:List Key}(e:H a=some (.dT kvs))(c:H b=some (.tup (k.map kV))):Jt H a (.ref b) (BR kvs k):=.inr ⟨kvs,k,b,.inl e,rfl,c,rfl⟩
theorem MS.k{H:Hp}{a:R_}{kvs:List (Key×V)}{k:Key}{v:V}(e:H a=some (.dK kvs))(b:kvs.length<sizeLine):MS H a (kV k) v (upd H a (.dK (EV kvs k v))):=.inl ⟨kvs,k,e,rfl,b,rfl⟩
theorem MS.t{H:Hp}{a b:R_}{kvs:List (List Key×V)}{k:List Key}{v:V}(e:H a=some (.dT kvs))(c:H b=some (.tup (k.map kV)))(d:kvs.length<sizeLine) :
 MS H a (.ref b) v (upd H a (.dT (EV kvs k v))):=.inr ⟨kvs,k,b,e,rfl,c,d,rfl⟩
section
variable{X:Cx}{pins:A_}{σ:St}{H:Hp}{s:P_}{a:R_}{y v:V}{u r:S_}{o:Option V}{A:Around}{E:B_}
theorem Inv.big(I:Inv X pins σ H s):sysModules<s.heap.objs.size:=by
 have h:mainGlobals<s.heap.objs.size:=(I.mod.glob.keeps I.bk).lt;exact U7 A4 h
theorem Yi{Q:B_}(D:A.units+1<cLine)(I:Inv X pins σ H s)(g:Jt H a y (some v))(q:Bj y u)(h:∀f t,Inv X pins σ H t->Bj v f->Q f t) :
  wpAny (model X.prog X.w) A (getItem (.ref a) u) Q E s:=by
 rcases g with ⟨kvs,k,e,j,l⟩|⟨kvs,k,b,e,j,x,l⟩
 .subst j;obtain⟨z,B,vs,c,i⟩:=QJ I.hok e;obtain⟨f,n,d⟩:=Js.some_of (v:=v) (o:=valueAt vs k) (by rw[l];exact c.val k);exact wpAny_getItem_of (Ty q) i.mapOf n (h f _ (I.tok _) d)
 .subst j;cases(show u=Value.ref b from q);obtain⟨z,B,xs,c,i⟩:=QH I.hok e;obtain⟨f,n,d⟩:=Js.some_of (v:=v) (o:=(atKey xs k).map (·.2)) (by rw[l];exact c.val k);obtain⟨p,C,m⟩:=D6.mp n;refine wpAny_getItem_heap (A4e D) (Pu I.hok x) i C ?_;rw[m];exact h f _ (I.tok _) d
theorem d_notIn{Q:B_}(p:A.units+1<cLine)(I:Inv X pins σ H s)(g:Jt H a y o)(j:Bj y u)(h:∀m,Inv X pins σ H m->Q (.bool (!o.isSome)) m) :
  wpAny (model X.prog X.w) A (compareOp .NotIn u (.ref a)) Q E s:=by
 rcases g with ⟨kvs,k,e,f,l⟩|⟨kvs,k,b,e,f,n,l⟩
 .subst f;obtain⟨z,i,vs,c,d⟩:=QJ I.hok e;refine wpAny_notIn_of (Ty j) i d.mapOf ?_;rw[<-(c.val k).isSome_eq,<-l];exact h _ (I.tok _)
 .subst f;cases(show u=Value.ref b from j);obtain⟨z,i,xs,c,d⟩:=QH I.hok e;refine wpAny_notIn_heap (A4e p) (Pu I.hok n) i d ?_;have q:=(c.val k).isSome_eq;rw[Option.isSome_map]at q;rw[<-q,<-l];exact h _ (I.tok _)
theorem Sf{h':T_}{t':Nat}{c:HO}(I:Inv X pins σ H s)(h:Mut (H a))(g:Heap.SameBut a s.heap h')(f:∃q,h'.get? a=some q)(new:BI X.prog X.w (upd H a c) h' a c) :
  Inv X pins σ (upd H a c) {s with heap:=h',toks:=t'} :=
 I.write (x:=a) (e:=a) h (.inl rfl) (λb q d z=>(g.2 b d).trans z) f new
theorem dk_new{P:N_}{w:Q_}{c:Hp}{h':T_}{kvs:List (Key×V)}{vs:List (Key×Value)}(z:kvs.length<=sizeLine)(e:(a==sysModules)=false)(b:KV kvs vs)(d:h'.DictOf (Cu P w) a vs) :
 BI P w c h' a (.dK kvs):=⟨z,e,vs,b,d⟩
theorem Yh{C:Hp}{Q:Unit->Shared->Prop}(U:A.units+1<cLine)(I:Inv X pins σ H s)(g:MS H a y v C)(K:Bj y u)(G:Bj v r)(h:∀L,Inv X pins σ C L->Q () L) :
  wpAny (model X.prog X.w) A (setItem (.ref a) u r) Q E s:=by
 rcases g with ⟨kvs,k,e,n,l,m⟩|⟨kvs,k,b,e,n,D,l,m⟩
 .subst n m;obtain⟨z,p,vs,d,j⟩:=dk_of I.hok e;have B:vs.length<=sizeLine:=by rw[<-d.length];exact z
  have t:(EV kvs k v).length<=sizeLine:=by have:=Gz kvs k v;lia
  refine wpAny_setItem_pairs (hsz:=B) (Ty K) j λh' f x=>h _ ?_;have T:∃q,h'.get? a=some q:=let ⟨q,_,_,i,_⟩:=f;⟨q,i⟩;exact Sf I (by rw[e];exact True.intro) x T (dk_new t p (d.put k G) f)
 .subst n m;cases(show u=Value.ref b from K);obtain⟨z,p,xs,d,j⟩:=dt_of I.hok e;have B:xs.length<=sizeLine:=by rw[<-K4 d];exact z
  have t:(EV kvs k v).length<=sizeLine:=by have:=Gz kvs k v;lia
  refine wpAny_setItem_heap (hsz:=B) (A4e U) (Pu I.hok D) j λh' f x=>h _ ?_;obtain⟨q,N,M,i,O,P,R,_,S⟩:=f;refine Sf I (by rw[e];exact True.intro) x ⟨q,i⟩ ⟨t,p,_,(d.put k D G).keeps λc ys F=>?_,q,N,M,i,O,P,R,S⟩;rw[Av (AG F e (λz=>nomatch z))];exact F
end
def NoSl(i:Expr):Prop:=∀ov iv,subscripted i false ov iv=operate [ov,iv] (getItem ov iv)
theorem subD_of{prog:N_}{w:Q_}{A:Around}{E:B_}{s:P_}{g:Env}{b a:Expr}{pos:Pos}{T id:String}{Q:B_}
  (m:typeLookup (.type T) "__getitem__" = pure (some (.builtin id))) (n:NoSl a)
  (h:wpAny (model prog w) A (eval b g) (λo e=>wpAny (model prog w) A (eval a g) (λi c=>c.TypeIs o T/\wpAny (model prog w) A (getItem o i) Q E c) E e) E s) :
  wpAny (model prog w) A (eval (.Subscript b a pos) g) Q E s:=by
 refine Subscript_ (A1a h (λo e j=>A1a j (λi c d=>?_) λ_ _ x=>x) λ_ _ x=>x);obtain⟨l,d⟩:=d;unfold subscriptTail;refine Z5 ?_;rw[getitemInPython_of_ne l.not_modules];refine Z5 (wpAny_specialOf l m ?_);have fin:wpAny (model prog w) A (subscripted a false o i) (λr f=>wpAny (model prog w) A (letTemporaryGo b o r >>= λ_=>pure r) Q E f) E c:=by
  rw[n o i];exact wpAny_operating (A1a d (λr f k=>Z5 (wpAny_letTemporaryGo (X4 k))) λ_ _ x=>x)
 first
  |exact X4 (Z5 fin)
  |exact Z5 (X4 (Z5 fin))
  |exact Z5 fin
theorem TD{X:Cx}{c:A_}{σ:St}{H:Hp}{s:P_}{a:R_}{y:V}{o:Option V}(I:Inv X c σ H s)(g:Jt H a y o):s.TypeIs (.ref a) "dict" := by
 rcases g with ⟨kvs,k,e,_,_⟩|⟨kvs,k,b,e,_,_,_⟩
 .obtain⟨_,_,vs,_,d⟩:=QJ I.hok e;exact d.typeIs
 .obtain⟨_,_,xs,_,d⟩:=QH I.hok e;exact d.typeIs
def tDGet(td ty:TE):TE:=fun σ H Q=>td σ H λx H1=>ty σ H1 λy H2=>∃a v,x=.ref a/\Jt H2 a y (some v)/\Q v H2
def tDNotIn(ty td:TE):TE:=fun σ H Q=>ty σ H λy H1=>td σ H1 λx H2=>∃a o,x=.ref a/\Jt H2 a y o/\Q (.bl (!o.isSome)) H2
def sDPut(td ty tv:TE):TS:=λD σ H=>tv σ H λv H1=>td σ H1 λx H2=>ty σ H2 λy H3=>∃a H4,x=.ref a/\MS H3 a y v H4/\D.nx σ H4
section
variable{X:Cx}{o i e value:Expr}{pos pos' tpos:Pos}{td ty tv:TE}
theorem Ru(r:X.A.units+1<cLine)(p:PE X o td)(n:PE X i ty)(q:NoSl i):PE X (.Subscript o i pos) (tDGet td ty):=by
 intro b s σ H Q I h;refine subD_of PySem.F.slot_dict_getitem.lookup q (thn (p b s σ H _ I h) λu C ⟨x,f,k,z,t⟩=>thn (n b C σ f _ k t) λD E ⟨y,j,d,B,a,v,m,g,w⟩=>?_);subst m;obtain rfl:u=Value.ref a:=z;exact⟨TD d g,Yi r d g B λK G l c=>⟨v,j,l,c,w⟩⟩
theorem WE(q:X.A.units+1<cLine)(n:PE X i ty)(p:PE X o td):PC X .NotIn i o (tDNotIn ty td):=by
 intro b s σ H Q I h;refine thn (n b s σ H _ I h) λC B c=>?_;obtain⟨y,d,j,z,t⟩:=c;refine thn (p b B σ d _ j t) λu D c=>?_;obtain⟨x,f,k,w,a,r,m,g,v⟩:=c;subst m;obtain rfl:u=Value.ref a:=w;exact d_notIn q k g z λE l=>⟨.bl (!r.isSome),f,l,rfl,v⟩
theorem II(w:X.A.units+1<cLine)(q:PE X o td)(p:PE X i ty)(z:PE X value tv)(t:swapsWith value (some (.Subscript o i pos')) pos.line X.env=pure false) :
  PS X (.Assign [.Subscript o i pos'] value pos) (sDPut td ty tv):=by
 intro b s σ H D I h;refine wpAny_Assign_Subscript (thn (z b s σ H _ I h) λr L ⟨v,c,j,F,B⟩=>thn (q b L σ c _ j B) λu M ⟨x,d,k,G,C⟩=>thn (p b M σ d _ k C) λO P ⟨y,N,l,K,a,f,n,g,E⟩=>?_) t;subst n;obtain rfl:u=Value.ref a:=G;exact Yh w l g K F λQ m=>⟨σ,f,m,E⟩
end
theorem dk_empty{P:N_}{w:Q_}{H:Hp}(h:T_)(a:sysModules<h.objs.size):BI P w H (h.push {cls:=.type "dict",data:=.dict #[]}) h.objs.size (.dK []) :=
 ⟨J0 _,beq_eq_false_iff_ne.mpr (X6 (J8 a)),[],.nil,Heap.DictOf.new h⟩
theorem dt_empty{P:N_}{w:Q_}{H:Hp}(h:T_)(a:sysModules<h.objs.size):BI P w H (h.push {cls:=.type "dict",data:=.dict #[]}) h.objs.size (.dT []) :=
 ⟨J0 _,beq_eq_false_iff_ne.mpr (X6 (J8 a)),[],.nil,_,#[],0,D5 _ rfl,⟨rfl,rfl,rfl⟩,rfl,rfl,Q0⟩
def tDNewK:TE:=λ_ H Q=>∀p,H p=none->Q (.ref p) (upd H p (.dK []))
def tDNewT:TE:=λ_ H Q=>∀p,H p=none->Q (.ref p) (upd H p (.dT []))
section
variable{X:Cx}{pos:Pos}
theorem Ms:PE X (.Dict [] [] pos) tDNewK:=λb s σ H Q I h =>
 wpAny_Dict_empty ⟨.ref s.heap.objs.size,_,I.laid (a:=s.heap.objs.size) (o:=.dK []) (t':=s.toks) (λ_ _ q=>C3 _ q) (C1 _) (dk_empty s.heap I.big),rfl,h _ (I.hok.fresh (C1 _))⟩
theorem OY:PE X (.Dict [] [] pos) tDNewT:=λb s σ H Q I h =>
 wpAny_Dict_empty ⟨.ref s.heap.objs.size,_,I.laid (a:=s.heap.objs.size) (o:=.dT []) (t':=s.toks) (λ_ _ q=>C3 _ q) (C1 _) (dt_empty s.heap I.big),rfl,h _ (I.hok.fresh (C1 _))⟩
end
structure M1(X:Cx)(o:Expr)(m:Str)(apos:Pos)(e:Expr)(cpos:Pos):Prop where
base:attributeBase o m X.env (eval o X.env)=eval o X.env
few:((backTo cpos (starEach [e] X.env)).all (λx=>!x.1) && (backToKw cpos (keywordEach [] X.env)).all (λx=>x.1.isSome)
 && decide (([e]:List Expr).length+([]:List Keyword).length+(if([]:List Keyword).isEmpty then 0 else 1)<30))=true
line:(apos.endLine==cpos.line)=true
trees:backTo cpos (starEach [e] X.env)=[(false,eval e X.env)]
def IsD(H:Hp)(a:R_):Prop:=(∃kvs,Rd H a (.dK kvs))\/∃kvs,Rd H a (.dT kvs)
theorem isD_at{X:Cx}{g:A_}{σ:St}{H:Hp}{s:P_}{a:R_}(I:Inv X g σ H s)(d:IsD H a) :
  s.TypeIs (.ref a) "dict" /\ (∀b,Value.ref a=.ref b->∃c,s.heap.get? b=some c/\c.dict=none)/\(a==sysModules)=false:=by
 rcases d with ⟨kvs,e⟩|⟨kvs,e⟩
 .obtain⟨_,j,vs,_,f⟩:=QJ I.hok e;refine⟨f.typeIs,λb q=>?_,j⟩;cases q;obtain⟨c,_,_,h,i,_⟩:=f;exact⟨c,h,i.2.1⟩
 .obtain⟨_,j,xs,_,f⟩:=QH I.hok e;refine⟨f.typeIs,λb q=>?_,j⟩;cases q;obtain⟨c,_,_,h,i,_⟩:=f;exact⟨c,h,i.2.1⟩
section
variable{X:Cx}{pins:A_}{σ:St}{H:Hp}{s:P_}{a:R_}{y d:V}{u r:S_}{o:Option V}{A:Around}{E:B_}
theorem d_get1{Q:B_}(t:A.units+1<cLine)(I:Inv X pins σ H s)(g:Jt H a y o)(m:Bj y u)(h:∀p n,Inv X pins σ H n->Bj (o.getD .non) p->Q p n) :
  wpAny (model X.prog X.w) A (call (.builtin "dict.get") [.ref a,u]) Q E s:=by
 rcases g with ⟨kvs,k,e,i,l⟩|⟨kvs,k,b,e,i,q,l⟩
 .subst i;obtain⟨z,j,vs,c,f⟩:=QJ I.hok e;refine call_meetsIn A4f f.typeIs PySem.F.entry_dict_get (PySem.F.args_dict_get_2 _ _) (meets_dict_get (Cu X.prog X.w) a (Ty m) j) ⟨_,f.mapOf,h _ _ (I.tok _) ?_⟩;rw[l];exact(c.val k).getD rfl
 .subst i;cases(show u=Value.ref b from m);obtain⟨z,j,xs,c,f⟩:=QH I.hok e;refine call_meetsIn A4f f.typeIs PySem.F.entry_dict_get (PySem.F.args_dict_get_2 _ _) (meetsH_dict_get (tupleKind (Cu X.prog X.w)) a b j) ⟨A4e t,k,xs,Pu I.hok q,f,h _ _ (I.tok _) ?_⟩;rw[l];exact(c.val k).getD rfl
end
def tDGet1(td ty:TE):TE:=fun σ H Q=>td σ H λx H1=>∃a,x=.ref a/\IsD H1 a/\ty σ H1 λy H2=>∃o,Jt H2 a y o/\Q (o.getD .non) H2
section
variable{X:Cx}{o e f:Expr}{apos cpos:Pos}{td ty tx:TE}
theorem Mt(v:X.A.units+1<cLine)(t:PE X o td)(r:PE X e ty)(m:M1 X o "get" apos e cpos):PE X (.Call (.Attribute o "get" apos) [e] [] cpos) (tDGet1 td ty):=by
 intro b s σ H Q I h;refine wpAny_Call_method m.base m.few m.line PySem.F.plainAttrs_dict A4f PySem.F.type_dict_get (thn (t b s σ H _ I h) λu D q=>?_);obtain⟨x,j,i,B,a,p,d,w⟩:=q;subst p;obtain rfl:u=Value.ref a:=B;obtain⟨E,G,_⟩:=isD_at i d;refine⟨E,G,?_⟩;rw[m.trees];refine Calls.callWith_builtin rfl (Calls.evalArgs_plain (Calls.spliced_cons (thn (r b D σ j _ i w) λK M ⟨y,k,l,C,L,g,z⟩=>Calls.spliced_nil ?_)));exact d_get1 v l g C λO N n c=>⟨_,k,n,c,z⟩
end
section
variable{X:Cx}
theorem call_any(F:X.calm=true):Gk X (.builtin "any") (λxs H Q=>∃(p:R_)(bs:List Bool),xs=[.ref p]/\SqL X.K H p (bs.map V.bl)/\Q (.bl (bs.any id)) H):=by
 intro d s σ H xs us Q I r h;obtain⟨p,bs,rfl,G,q⟩:=h;cases r with
 |cons L M =>
  cases M;cases(show _=Value.ref p from L);obtain⟨a,t,pl,R⟩:=I.list G;have m:p≠s.heap.objs.size:=J8 (by obtain⟨o,n,e,_⟩:=pl;exact D9 e);refine call_any_walk (A2g pl.isList ?_);have f:∀(i:Nat) v,a[i]?=some v->∃b,bs[i]?=some b/\v=.bool b:=λi v e=>by
   cases g:bs[i]? with
   |none =>
    have:a[i]?=none:=t.none_of (by rw[C0,g];rfl);rw[e]at this;cases this
   |some b =>
    obtain⟨u,w,N⟩:=t.get (i:=i) (x:=V.bl b) (by rw[C0,g];rfl);rw[e]at w;cases w;exact⟨b,rfl,N⟩
  refine⟨s.heap.objs.size,_,_,_,_,_,λi=>bs.getD i false,rfl,Walks.list (A:=X.A.in1) (I.ok.hd F) s.heap.objs.size p m a.toArray,⟨⟨_,D5 _ rfl,rfl,rfl⟩,?_⟩,?_,?_⟩
  .exact pl.isList.at λo e=>C3 _ e
  .intro i v O B P D j;obtain⟨b,g,rfl⟩:=f i v (by simpa using D);have l:bs.getD i false=b:=by rw[D2,g];rfl
   have j:B (bs.getD i false) O:=j;rw[l]at j;exact A0c j
  .intro h' tk kk;have y:Inv X d σ H {s with heap:=h',toks:=tk}:=I.kept λb o e=>kk b o (by intro z;exact J8 (D9 e) (by simpa using z)) (C3 _ e);have len:a.toArray.size=bs.length:=by rw[D8,<-t.length,B8]
   have C:(List.range a.toArray.size).any (λi=>bs.getD i false)=bs.any id:=by
    rw[len,Q7,S6,S6];constructor
    .rintro⟨i,k,e⟩;have c:=F5.mp k;rw[D2,C6 c]at e;exact⟨_,R1 c,e⟩
    .rintro⟨b,E,e⟩;obtain⟨i,k,l⟩:=T8.mp E;refine⟨i,F5.mpr k,?_⟩;rw[D2,C6 k,l];exact e
   rw[C];exact⟨.bl _,H,y,rfl,q⟩
theorem Op{K:O_}{e:Expr}{f:Str}{a:TE}{pos:Pos}(b:X.K=K)(d:PE X e a)(c:attributeBase e f X.env (eval e X.env)=eval e X.env):PE X (.Attribute e f pos) (tFld K a f):=b▸AF d c
theorem Ii{ns:I_}{a:F_}(f:AR (ns.map V.int) a):∀(i:Nat) v,a.toArray[i]?=some v->∃t,v=.int (ns.getD i 0) t:=λi v e=>by
 have e:a[i]?=some v:=by simpa using e
 cases c:ns[i]? with
 |none =>
  have:a[i]?=none:=f.none_of (by rw[C0,c];rfl);rw[e]at this;cases this
 |some b =>
  obtain⟨u,d,g⟩:=f.get (i:=i) (x:=V.int b) (by rw[C0,c];rfl);rw[e]at d;cases d;rw[D2,c];obtain⟨t,rfl⟩:=g;exact⟨t,rfl⟩
theorem QN(D:X.calm=true):Gk X (.builtin "min") (λxs H Q=>∃(p:R_)(ns:I_),xs=[.ref p]/\SqL X.K H p (ns.map V.int)/\ns≠[]/\∀m∈ns,(∀x∈ns,m<=x)->Q (.int m) H):=by
 intro g s σ H xs us Q I r h;obtain⟨p,ns,rfl,F,L,q⟩:=h;cases r with
 |cons M N =>
  cases N;cases(show _=Value.ref p from M);obtain⟨a,l,pl,O⟩:=I.list F;have d:p<s.heap.objs.size:=by obtain⟨o,n,e,_⟩:=pl;exact D9 e
  have k:p≠s.heap.objs.size:=J8 d;have len:a.toArray.size=ns.length:=by rw[D8,<-l.length,B8]
  have pos:0<ns.length:=U2.mpr L;refine call_min_walk (A2g pl.isList ?_);refine⟨s.heap.objs.size,_,_,_,_,_,_,rfl,(Walks.list (A:=X.A.in1) (I.ok.hd D) s.heap.objs.size p k a.toArray),⟨⟨_,D5 _ rfl,rfl,rfl⟩,?_⟩,?_,by rw[len];exact pos,CmpOf.ints_lt (λi=>ns.getD i 0) (Ii l),?_⟩
  .exact pl.isList.at λo e=>C3 _ e
  .intro b c;show b<(s.heap.push _).objs.size;rw[Q4];rcases C2.mp c with rfl|c
   .exact T6 _
   .rcases C2.mp c with rfl|c
    .exact Z1 d
    .cases c
  .intro v h' tk w kk;have y:Inv X g σ H {s with heap:=h',toks:=tk}:=I.kept λb o e=>kk b o (by intro z;exact J8 (D9 e) (by simpa using z)) (C3 _ e);obtain⟨t,rfl⟩:=Ii l _ _ w;obtain⟨u,b2⟩:=argBest_lt (λi=>ns.getD i 0) (a.toArray.size-1);generalize argBest (λi j=>decide (ns.getD i 0<ns.getD j 0)) (a.toArray.size-1)=z at u b2 w⊢;rw[len]at u b2;have f:z<ns.length:=by lia
   have C:ns.getD z 0=ns[z]:=by rw[D2,C6 f];rfl
   refine⟨.int _,H,y,⟨t,rfl⟩,q _ (by rw[C];exact R1 f) λx G=>?_⟩;obtain⟨j,E,e⟩:=T8.mp G;have:=b2 j A0;have B:ns.getD j 0=x:=by rw[D2,C6 E,<-e];rfl
   rw[<-B];exact this
theorem QP(D:X.calm=true):Gk X (.builtin "max") (λxs H Q=>∃(p:R_)(ns:I_),xs=[.ref p]/\SqL X.K H p (ns.map V.int)/\ns≠[]/\∀m∈ns,(∀x∈ns,x<=m)->Q (.int m) H):=by
 intro g s σ H xs us Q I r h;obtain⟨p,ns,rfl,F,L,q⟩:=h;cases r with
 |cons M N =>
  cases N;cases(show _=Value.ref p from M);obtain⟨a,l,pl,O⟩:=I.list F;have d:p<s.heap.objs.size:=by obtain⟨o,n,e,_⟩:=pl;exact D9 e
  have k:p≠s.heap.objs.size:=J8 d;have len:a.toArray.size=ns.length:=by rw[D8,<-l.length,B8]
  have pos:0<ns.length:=U2.mpr L;refine call_max_walk (A2g pl.isList ?_);refine⟨s.heap.objs.size,_,_,_,_,_,_,rfl,(Walks.list (A:=X.A.in1) (I.ok.hd D) s.heap.objs.size p k a.toArray),⟨⟨_,D5 _ rfl,rfl,rfl⟩,?_⟩,?_,by rw[len];exact pos,CmpOf.ints_gt (λi=>ns.getD i 0) (Ii l),?_⟩
  .exact pl.isList.at λo e=>C3 _ e
  .intro b c;show b<(s.heap.push _).objs.size;rw[Q4];rcases C2.mp c with rfl|c
   .exact T6 _
   .rcases C2.mp c with rfl|c
    .exact Z1 d
    .cases c
  .intro v h' tk w kk;have y:Inv X g σ H {s with heap:=h',toks:=tk}:=I.kept λb o e=>kk b o (by intro z;exact J8 (D9 e) (by simpa using z)) (C3 _ e);obtain⟨t,rfl⟩:=Ii l _ _ w;obtain⟨u,b2⟩:=argBest_gt (λi=>ns.getD i 0) (a.toArray.size-1);generalize argBest (λi j=>decide (ns.getD i 0 > ns.getD j 0)) (a.toArray.size-1)=z at u b2 w⊢;rw[len]at u b2;have f:z<ns.length:=by lia
   have C:ns.getD z 0=ns[z]:=by rw[D2,C6 f];rfl
   refine⟨.int _,H,y,⟨t,rfl⟩,q _ (by rw[C];exact R1 f) λx G=>?_⟩;obtain⟨j,E,e⟩:=T8.mp G;have:=b2 j A0;have B:ns.getD j 0=x:=by rw[D2,C6 E,<-e];rfl
   rw[<-B];exact this
end
theorem all_same(ns a:I_):((List.range (min ns.length a.length)).all (λj=>ns.getD j 0==a.getD j 0) && ns.length==a.length)=decide (ns=a):=by
 rw[Q7,P9,R3,A5f,decide_eq_true_iff];constructor
 .rintro⟨b,c⟩;refine List.ext_getElem c λi d e=>?_;have:=b i (F5.mpr A0);rw[A5f,D2,D2,C6 d,C6 e]at this;exact this
 .rintro rfl;exact⟨λx _=>beq_iff_eq.mpr rfl,rfl⟩
section
variable{X:Cx}
theorem Wy{H:Hp}{ns:I_}{a:F_}(i:AR (ns.map V.int) a){A:Around}{s:P_}{d:I_}{b:F_}(c:AR (d.map V.int) b)(j:Nat)(g:j<a.toArray.size)(h:j<b.toArray.size):PySem.SeqAt.EqAt A s a.toArray[j] b.toArray[j] (ns.getD j 0==d.getD j 0):=by
 obtain⟨t,e⟩:=Ii i j _ (S8 g);obtain⟨u,f⟩:=Ii c j _ (S8 h);rw[e,f];exact PySem.SeqAt.EqAt.int_int _ t _ u
end
section
variable{prog:N_}{w:Q_}{A:Around}{E:B_}{s:P_}{d it:R_}{o:Obj}{es:Array DictEntry}{ep i:Nat}
theorem Tb{Q:B_}(f:(d==sysModules)=false)(b:s.heap.get? d=some o)(e:o.ExactDict)(c:o.data=.dict es ep)
  (q:Q (.ref s.heap.objs.size) {s with heap:=s.heap.push {cls:=.type "dict_keyiterator",data:=.fields #[.ref d,.int 0 0,.int es.size 0,.int ep 0]} }):wpAny (model prog w) A (pyIter (.ref d)) Q E s:=by
 have a:s.TypeIs (.ref d) "dict" := ⟨o,b,e.1⟩
 refine wpAny_pyIter_slot a F.slot_dict_iter (A1d F.slot_dict_iter a F.entry_dict_iter ?_ (F.args_dict_iter_1 _));unfold Builtin.«dict.__iter__»;refine Z5 ?_;unfold Builtin.Dict.dictSlotNone;refine Z5 (wpAny_notOrdered_dict a ?_);show wpAny _ _ (pure (Value.ref d)) _ _ s;refine X4 ?_;show wpAny _ _ (Builtin.Dict.showsAll d >>= _) _ _ s;unfold Builtin.Dict.showsAll;rw[Z6 (by rw[f];exact D4)];refine Z5 (X4 ?_);refine Z5 (wpAny_dictEntries b c ?_);refine Z5 (wpAny_dictEpoch b c ?_);refine Z5 (A2h (X4 ⟨_,rfl,"dict_keyiterator",_,⟨_,D5 _ rfl,rfl⟩,F.slot_dict_keyiterator_next.lookup,?_⟩));simpa[rawInt] using q
theorem Zb{Q:Option Value->Shared->Prop}(a:s.heap.IsKeyIter it d i es.size ep)(g:s.heap.get? d=some o)(f:o.data=.dict es ep)(h:i<es.size)
  (q:∀h',h'.IsKeyIter it d (i+1) es.size ep->Heap.SameBut it s.heap h'->Q (some es[i].key) {s with heap:=h'}):wpAny (model prog w) A (pyNext (.ref it)) Q E s:=by
 obtain⟨k,c,j,b⟩:=id a;unfold pyNext;refine Z5 (A3c (wpAny_callSpecial?_slot (name:=Str.ofString "__next__") a.typeIs A2e (A1d A2e a.typeIs F.entry_dict_keyiterator_next ?_ (F.args_dict_keyiterator_next_1 _))));refine Z5 (X4 ?_);refine Z5 ?_;refine Z5 ?_
 (first|refine Z5 (A2a a.typeIs (X4 ?_))|refine Z5 (A3e a.typeIs (X4 ?_)));refine Z5 (wpAny_fieldsOf c b ?_)
 have e:Builtin.Dict_items.ownsTuple "dict_keyiterator" = false:=A4;simp only[e,O6,A3a];show wpAny _ _ (if(Value.ref d==Value.none)=true then _ else _) _ _ s;rw[Z6 (show ¬((Value.ref d==Value.none)=true)from D4)];refine Z5 (X4 ?_);refine Z5 (wpAny_dictEntries g f ?_);rw[Z6 A6];refine Z5 (X4 ?_);refine Z5 (wpAny_dictEpoch g f ?_);rw[Z6 A6];refine X4 ?_;simp only[show ¬((i:Int)<0)from by lia,A3a,J3,S8 h];refine Z5 ?_
 (first|refine Z5 (A2a a.typeIs (X4 ?_))|refine Z5 (A3e a.typeIs (X4 ?_)));refine Z5 (wpAny_isOneOf_keyiter a.typeIs ?_)
 show wpAny _ _ (setField (.ref it) 1 (rawInt ((i:Int)+1)) >>= _) _ _ s;refine Z5 (A5g c b A6 ?_);have next:(s.heap.update it (Obj.mapFields (·.setIfInBounds 1 (rawInt ((i:Int)+1))))).IsKeyIter it d (i+1) es.size ep:=⟨_,Y4 _ c (Obj.isFreed_of_fields (A4d b _)),(Obj.cls_mapFields ..).trans j,by rw[A4d b];simp[rawInt]⟩
 refine Z5 (A2f ?_);refine Z5 (wpAny_isOneOf_keyiter (s:={s with heap:=s.heap.update it (Obj.mapFields (·.setIfInBounds 1 (rawInt ((i:Int)+1))))}) next.typeIs ?_);show wpAny _ _ (pure es[i].key) _ _ _;exact X4 (X4 ⟨_,rfl,X4 (q _ next (A4a ..))⟩)
theorem raw_end{Q:Option Value->Shared->Prop}(k:A.handled=none)(c:s.heap.IsKeyIter it d i es.size ep)(j:s.heap.get? d=some o)(h:o.data=.dict es ep)(l:es.size<=i)
  (q:∀h',Heap.ExtBut it s.heap h'->Q none {s with heap:=h'}):wpAny (model prog w) A (pyNext (.ref it)) Q E s:=by
 obtain⟨p,e,n,g⟩:=id c;unfold pyNext;refine Z5 (A3c (wpAny_callSpecial?_slot (name:=Str.ofString "__next__") c.typeIs A2e (A1d A2e c.typeIs F.entry_dict_keyiterator_next ?_ (F.args_dict_keyiterator_next_1 _))));refine Z5 (X4 ?_);refine Z5 ?_;refine Z5 ?_
 (first|refine Z5 (A2a c.typeIs (X4 ?_))|refine Z5 (A3e c.typeIs (X4 ?_)));refine Z5 (wpAny_fieldsOf e g ?_)
 have f:Builtin.Dict_items.ownsTuple "dict_keyiterator" = false:=A4;simp only[f,O6,A3a];show wpAny _ _ (if(Value.ref d==Value.none)=true then _ else _) _ _ s;rw[Z6 (show ¬((Value.ref d==Value.none)=true)from D4)];refine Z5 (X4 ?_);refine Z5 (wpAny_dictEntries j h ?_);rw[Z6 A6];refine Z5 (X4 ?_);refine Z5 (wpAny_dictEpoch j h ?_);rw[Z6 A6];refine X4 ?_;simp only[show ¬((i:Int)<0)from by lia,A3a,J3,Array.getElem?_eq_none l];refine Z5 ?_
 (first|refine Z5 (A2a c.typeIs (X4 ?_))|refine Z5 (A3e c.typeIs (X4 ?_)))
 show wpAny _ _ (setField (.ref it) 0 .none >>= _) _ _ s;refine Z5 (A5g e g A6 ?_);show wpAny _ _ (newExc (.type "StopIteration") [] >>= _) _ _ _;refine Z5 ?_;simp only[newExc,newTuple];refine Z5 (A2h ?_ (by size_fits));refine Z5 (m:=firstArgMember _ _) (wpAny_of_eq (a:=Value.none) (by first|rfl|(simp only[firstArgMember];rfl)) ?_);refine A2h ?_ (by size_fits);simp only[raiseNew];refine Z5 (wpAny_handled ?_);rw[show A.in1.handled=none from k];refine Z5 (X4 (wpAny_throw ?_));refine Z5 (wpAny_isInstance (T:="StopIteration") (b:=true) ⟨_,D5 _ rfl,rfl⟩ isSubtype_stop ?_);exact X4 (q _ (((A4a ..).extBut.push _).push _))
end
def Itd(a:R_)(o:Obj)(kvs:List (List Key×V)):It :=
 ⟨λi H=>H a=some (.frz o (.dT kvs))/\i<kvs.length,λi H x H'=>H'=H/\∃b k v,x=.ref b/\kvs[i]?=some (k,v)/\H b=some (.tup (k.map kV)),λi H=>H a=some (.frz o (.dT kvs))/\kvs.length<=i⟩
theorem frz_dT{P:N_}{w:Q_}{H:Hp}{h:T_}{a:R_}{o:Obj}{kvs:List (List Key×V)}(ok:HOk P w H h)(e:H a=some (.frz o (.dT kvs))) :
  h.get? a=some o/\∃(xs:List (List Key×Addr×Value))(b:Array DictEntry)(c:Nat),KT H kvs xs/\o.data=.dict b c/\b.toList=xs.map (entryOfKey (tupleKind (Cu P w))):=by
 obtain⟨d,z,y,xs,r,l,b,c,f,j,g,i,k⟩:=(show BI P w H h a (.frz o (.dT kvs))from ok a _ e)
 rw[d]at f;cases f;exact⟨d,xs,b,c,r,g,i⟩
theorem KT.at_{H:Hp}:∀{kvs:List (List Key×V)}{xs:List (List Key×Addr×Value)}{i:Nat}{x:List Key×Addr×Value},KT H kvs xs->xs[i]?=some x->∃v,kvs[i]?=some (x.1,v)/\H x.2.1=some (.tup (x.1.map kV)):=by
 intro kvs xs i x r;induction r generalizing i with
 |nil=>intro e;simp at e
 |@cons p q g j h t f =>
  intro e;cases i with
  |zero =>
   have e:q=x:=by simpa using e
   subst e;obtain⟨a,d,_⟩:=h;exact⟨p.2,by rw[List.getElem?_cons_zero,<-a],by rw[<-a];exact d⟩
  |succ i =>
   obtain⟨v,b,c⟩:=f (i:=i) (by simpa using e);exact⟨v,by simpa using b,c⟩
theorem OA{P:N_}{w:Q_}{K:O_}{tg:Expr}(a it:R_)(o:Obj)(kvs:List (List Key×V))(n:Array DictEntry)(N:Nat)(t:o.data=.dict n N)(hz:n.size=kvs.length):Ql P w K tg (Itd a o kvs) [it] it (λi h=>h.IsKeyIter it a i n.size N) where
 mem:=by simp
 obj:=λi h f b j=>by
  obtain rfl:b=it:=by simpa using j
  obtain⟨o,e,c,d⟩:=f;exact⟨o,e,λv z=>(by rw[d]at z;cases z)⟩
 keep:=λi h h' f k=>f.at λo e=>k it A6 o e
 item:=by
  intro X D L C O i g s σ H E I r f F;subst D L C;obtain⟨G,hi⟩:=F;obtain⟨B,xs,aa,Z,kt,m,M⟩:=frz_dT I.hok G;rw[t]at m;cases m;have l:i<n.size:=by lia
  obtain⟨u,x,f2,y,f4,A⟩:=r it A6;refine Zb f B t l λh' p sb=>?_;have R:Inv X g σ H {s with heap:=h'}:=I.turned (t':=s.toks) (λb o j e=>(sb.2 b j).trans e) u x y f4 A
  have Q:i<xs.length:=by rw[<-size_of_entries M];exact l
  obtain⟨v,S,T⟩:=KT.at_ kt (C6 Q);have Y:n[i].key=.ref xs[i].2.1:=by
   have:=entry_at M i;rw[S8 l,C6 Q]at this;rw[K0 this];rfl
  obtain⟨q,e,c,d⟩:=id p;exact⟨_,rfl,TB (s:={s with heap:=h'}) e c d A4 ⟨.ref xs[i].2.1,H,R,Y,⟨rfl,_,_,v,rfl,S,T⟩,p,λb j=>(r b j).1⟩⟩
 done:=by
  intro X D L C O i g s σ H E I r f F;subst D L C;obtain⟨G,hi⟩:=F;obtain⟨B,_⟩:=frz_dT I.hok G;obtain⟨u,x,f2,y,f4,A⟩:=r it A6;exact raw_end (I.ok.hd O) f B t A0 λh' U=>⟨rfl,I.turned (t':=s.toks) (λb o j e=>U b o j e) u x y f4 A⟩
 self:=λ_ _ _ _ _ f h=>wpAny_pyIter_keyiter f h
theorem for_dT{a:R_}{o:Obj}{kvs:List (List Key×V)}{g:TG}{q:TS}{D:LY}{σ:St}{H:Hp}(c:Nat->St->Hp->Prop)(t:c 0 σ H)(y:∀i σ H,i<=kvs.length->c i σ H->H a=some (.frz o (.dT kvs)))
  (A:∀i b k v σ H,kvs[i]?=some (k,v)->H b=some (.tup (k.map kV))->c i σ H->g (.ref b) σ H fun f h=>q {D with nx:=c (i+1),ct:=c (i+1),bk:=D.nx} f h) (u:∀σ H,c kvs.length σ H->D.nx σ H) :
  ∃W:Nat->Nat->St->Hp->Prop,(∃m,W 0 m σ H)/\∀i m σ H,W i m σ H ->
   ((Itd a o kvs).stop i H/\D.nx σ H)\/((Itd a o kvs).go i H/\∃N:St->Hp->Prop,(∀σ' d,N σ' d->∃n,n<m/\W (i+1) n σ' d)/\∀x d,(Itd a o kvs).yld i H x d->g x σ d fun f h=>q {D with nx:=N,ct:=N,bk:=D.nx} f h):=by
 refine⟨λi m σ H=>m=kvs.length-i/\i<=kvs.length/\c i σ H,⟨kvs.length,by simp,J0 _,t⟩,?_⟩;rintro i m σ H ⟨rfl,w,p⟩;have e:=y i σ H w p;by_cases l:i<kvs.length
 .refine .inr ⟨⟨e,l⟩,c (i+1),fun σ' d z=>⟨_,by lia,rfl,by lia,z⟩,?_⟩;rintro x d ⟨rfl,b,k,v,rfl,r,s⟩;exact A i b k v σ _ r s p
 .have j:i=kvs.length:=by lia
  subst j;exact .inl ⟨⟨e,C1 _⟩,u σ H p⟩
section
variable{X:Cx}
def CDivB(i j:Int):Prop:=0<j/\j<2^64
theorem Tg:OpR X (binaryOp .FloorDiv) (rI CDivB λi j=>.int (i/j)):=opI λi j _ _ _ _ _ a q=>by
 have c:(0:Int)<j:=a.1;have d:j<2^64:=a.2;refine floordiv_int A0 (by rw[V1 i A0];exact q) (.inl (PyProof.noPylong_of_log2 ?_));have b:j.natAbs<2^64:=by lia
 exact F2 ((Nat.log2_lt A0).mpr b) A4
end
end L2
namespace L2
open PySem PySem.W PyProof.Rows
section
variable{rk:Nat->Int}{n:Nat}
def rkC(rk:Nat->Int)(n i j:Nat)(C:Bool->Shared->Prop)(s:P_):Prop:=i<n/\j<n/\C (decide (rk i<rk j)) s
structure CD(n:Nat)(p:Array Nat):Prop where
sz:p.size=n
pm:p.Perm (List.range n).toArray
def kk(rk:Nat->Int)(p:Array Nat)(i:Nat):Int:=rk (p.getD i 0)
theorem CD.lt{p:Array Nat}(h:CD n p){i:Nat}(b:i<n):p.getD i 0<n:=by
 have a:i<p.size:=by rw[h.sz];exact b
 have e:p.getD i 0=p[i]:=by simp[Array.getD,a]
 have m:p[i]∈p:=Array.getElem_mem a;have:=(Array.Perm.mem_iff h.pm).mp m;rw[e]
 simpa using this
theorem CD.rev{p:Array Nat}(h:CD n p)(i j:Nat):CD n (kas_rev p i j):=⟨(mirror_size _ _ _ _).trans h.sz,(mirror_perm _ _ _ _).trans h.pm⟩
theorem CD.bub{p:Array Nat}(h:CD n p)(i j:Nat):CD n (bubble p i j):=⟨(bubble_size _ _ _).trans h.sz,(bubble_perm _ _ _).trans h.pm⟩
theorem gd(p:Array Nat)(i:Nat):p.getD i 0=p[i]?.getD 0:=by
 simp
theorem RV{p:Array Nat}(h:CD n p){i j:Nat}(a:j<=n)(k:Nat):kk rk (kas_rev p i j) k=if i<=k/\k<j then kk rk p (i+j-1-k)else kk rk p k:=by
 have e:=getElem?_mirror_all (xs:=p) (i:=i) (by rw[h.sz];exact a) k;unfold kk kas_rev;rw[gd,e];split<;>rw[gd]
theorem ZV{p:Array Nat}(h:CD n p){a d:Nat}(c:a<n)(b:d<=a)(k:Nat):kk rk (bubble p a d) k=if k=a-d then kk rk p a else if a-d<k/\k<=a then kk rk p (k-1)else kk rk p k:=by
 have e:=getElem?_bubble (xs:=p) (by rw[h.sz];exact c) d b k;unfold kk;rw[gd,e];split
 .rw[gd]
 .split<;>rw[gd]
def Up(rk:Nat->Int)(p:Array Nat)(m:Nat):Prop:=∀i j,i<=j->j<m->kk rk p i<=kk rk p j
def Dn(rk:Nat->Int)(p:Array Nat)(m:Nat):Prop:=∀i j,i<=j->j<m->kk rk p j<=kk rk p i
theorem Up.step{p:Array Nat}{m:Nat}(h:Up rk p m)(c:1<=m)(q:kk rk p (m-1)<=kk rk p m):Up rk p (m+1):=λi j b a=>by
 rcases O7.mp a with z|z
 .exact h i j b z
 .subst z;rcases Nat.lt_or_ge i j with y|y
  .exact Int.le_trans (h i (j-1) A0 A0) q
  .have:i=j:=by lia
   subst this;exact R4 _
theorem Dn.step{p:Array Nat}{m:Nat}(h:Dn rk p m)(c:1<=m)(q:kk rk p m<=kk rk p (m-1)):Dn rk p (m+1):=λi j b a=>by
 rcases O7.mp a with z|z
 .exact h i j b z
 .subst z;rcases Nat.lt_or_ge i j with y|y
  .exact Int.le_trans q (h i (j-1) A0 A0)
  .have:i=j:=by lia
   subst this;exact R4 _
theorem Va{p:Array Nat}(a:CD n p):∀{f m:Nat}{s:P_}{Q:Nat->Shared->Prop},1<=m->m+f<=n->Up rk p m->(∀r,m<=r->r<=m+f->Up rk p r->(r<m+f->kk rk p r<kk rk p (r-1))->Q r s)->(kas_asc p f m).kasWp (rkC rk n) Q s
|0,m,s,Q,h1,hf,up,k=>k m (C1 _) (C1 _) up λz=>absurd z (O8 _)
|f+1,m,s,Q,h1,hf,up,k=>by
 refine⟨a.lt A0,a.lt A0,?_⟩;by_cases c:kk rk p m<kk rk p (m-1)
 .rw[Z7 (show rk (p.getD m 0)<rk (p.getD (m-1) 0)from c)];dsimp only;rw[Z9 rfl];exact k m (C1 _) A0 up λ_=>c
 .rw[Z8 (show ¬rk (p.getD m 0)<rk (p.getD (m-1) 0)from c)];dsimp only;rw[Z6 A6];exact Va a A0 A0 (up.step h1 A0) λr e g b d=>k r A0 A0 b λz=>d A0
theorem OT{p:Array Nat}(b:CD n p){m q:Nat}(a:m<=n)(c:q+1<=m)(eq:∀i,m-(q+1)<=i->i<m->kk rk p i=kk rk p (m-1))(k:Nat):kk rk (kas_rev p (m-(q+1)) m) k=kk rk p k:=by
 rw[RV b a];split
 .rename_i z;rw[eq _ A0 A0,eq k z.1 z.2]
 .rfl
theorem Ov:∀{f m q:Nat}{p:Array Nat}{s:P_}{Q:Array Nat×Nat×Nat->Shared->Prop},CD n p->q+1<=m->m+f<=n->Dn rk p m->(∀i,m-(q+1)<=i->i<m->kk rk p i=kk rk p (m-1)) ->
 (∀a b h,CD n a->h+1<=b->b<=n->Dn rk a b->(∀i,b-(h+1)<=i->i<b->kk rk a i=kk rk a (b-1))->Q (a,b,h) s)->(kas_desc f p m q).kasWp (rkC rk n) Q s
|0,m,q,p,s,Q,pn,hq,hf,dn,eq,k=>k p m q pn hq hf dn eq
|f+1,m,q,p,s,Q,pn,hq,hf,dn,eq,k=>by
 refine⟨pn.lt A0,pn.lt A0,?_⟩;have one:∀{a:Array Nat},∀i,m+1-(0+1)<=i->i<m+1->kk rk a i=kk rk a (m+1-1):=λi l o=>by
  have:i=m+1-1:=by lia
  rw[this]
 by_cases c:kk rk p m<kk rk p (m-1)
 .rw[Z7 (show rk (p.getD m 0)<rk (p.getD (m-1) 0)from c)];dsimp only;rw[Z9 rfl];by_cases g:q > 0
  .rw[Z9 g];have same:=OT pn A0 hq eq;refine Ov (pn.rev _ _) A0 A0 ?_ one k;refine Dn.step (λi j t r=>?_) A0 ?_
   .rw[same i,same j];exact dn i j t r
   .rw[same m,same (m-1)];lia
  .rw[Z6 g];exact Ov pn A0 A0 (dn.step A0 A0) one k
 .rw[Z8 (show ¬rk (p.getD m 0)<rk (p.getD (m-1) 0)from c)];dsimp only;rw[Z6 A6];refine⟨pn.lt A0,pn.lt A0,?_⟩;by_cases d:kk rk p (m-1)<kk rk p m
  .rw[Z7 (show rk (p.getD (m-1) 0)<rk (p.getD m 0)from d)];dsimp only;rw[Z9 rfl];exact k p m q pn hq A0 dn eq
  .rw[Z8 (show ¬rk (p.getD (m-1) 0)<rk (p.getD m 0)from d)];dsimp only;rw[Z6 A6];have e:kk rk p m=kk rk p (m-1):=by lia
   refine Ov pn A0 A0 (dn.step A0 A0) (λi l o=>?_) k;rw[Nat.add_sub_cancel];by_cases z:i=m
   .rw[z]
   .rw[eq i A0 A0,e]
theorem Vi{m:Nat}{p:Array Nat}{s:P_}{Q:Nat×Array Nat->Shared->Prop}(a:CD n p)(e:1<=m)(c:m<=n)(d:Dn rk p m)(k:∀r b,CD n b->r<=n->1<=r->Up rk b r->Q (r,b) s):(kas_tail3 m n p).kasWp (rkC rk n) Q s:=by
 unfold kas_tail3;rw[KasT.kasWp_bind];refine Va (a.rev _ _) e A0 (λi j o l=>?_) λr g h f _=>k r _ (a.rev _ _) A0 A0 f;rw[RV a c,RV a c,Z9 ⟨by lia,by lia⟩,Z9 ⟨by lia,by lia⟩];exact d _ _ A0 A0
theorem VI{m:Nat}{p:Array Nat}{s:P_}{Q:Nat×Array Nat->Shared->Prop}(l:CD n p)(t:m+1<=n)(f:Dn rk p (m+1))(k:∀r d,CD n d->r<=n->1<=r->Up rk d r->Q (r,d) s):(kas_descPart m n p).kasWp (rkC rk n) Q s:=by
 unfold kas_descPart;rw[KasT.kasWp_bind];refine Ov l A0 A0 f (λi o q=>?_) λd u v b e a c eq=>?_
 .have:i=m+1-1:=by lia
  rw[this]
 .dsimp only;split
  .refine Vi (b.rev _ _) A0 a (λi j h g=>?_) k;rw[OT b a e eq,OT b a e eq];exact c i j h g
  .exact Vi b A0 a c k
theorem count_wp{p:Array Nat}{s:P_}{Q:Nat×Array Nat->Shared->Prop}(d:CD n p)(x:1<=n)(k:∀r m,CD n m->r<=n->1<=r->Up rk m r->Q (r,m) s):(kas_count n p).kasWp (rkC rk n) Q s:=by
 unfold kas_count;rw[KasT.kasWp_bind];have o:Up rk p 1:=λi j t l=>by
  have f:i=0:=by lia
  have g:j=0:=by lia
  rw[f,g];exact R4 _
 refine Va d (C1 _) A0 o λr f g h w=>?_;by_cases e:r=n
 .rw[Z9 (by simpa using e)];exact k r p d A0 f h
 .rw[Z6 (by simpa using e)];have v:=w A0;by_cases q:r > 1
  .rw[Z9 q];refine⟨d.lt A0,d.lt A0,?_⟩;by_cases c:kk rk p 0<kk rk p (r-1)
   .rw[Z7 (show rk (p.getD 0 0)<rk (p.getD (r-1) 0)from c)];dsimp only;rw[Z9 rfl];exact k r p d A0 f h
   .rw[Z8 (show ¬rk (p.getD 0 0)<rk (p.getD (r-1) 0)from c)];dsimp only;rw[Z6 A6];have all:∀i,i<r->kk rk p i=kk rk p (r-1):=λi u=>by
     have a:=h 0 i A0 u;have b:=h i (r-1) A0 A0;lia
    have same:∀i,kk rk (kas_rev p 0 r) i=kk rk p i:=λi=>by
     rw[RV d A0];split
     .rw[all _ A0,all i A0]
     .rfl
    refine VI (d.rev _ _) A0 (Dn.step (λi j t l=>?_) A0 ?_) k
    .rw[same,same,all i A0,all j l];exact R4 _
    .rw[same,same];lia
  .rw[Z6 q];have:r=1:=by lia
   subst this;refine VI d A0 (Dn.step (λi j t l=>?_) A0 A0) k;have f:i=0:=by lia
   have g:j=0:=by lia
   rw[f,g];exact R4 _
theorem OW{p:Array Nat}{k:Nat}(g:CD n p)(h:k<n):∀{f l r:Nat}{s:P_}{Q:Nat->Shared->Prop},l<=r->r<=k->r<=l+f->Up rk p k->(∀i,i<l->kk rk p i<=kk rk p k)->(∀i,r<=i->i<k->kk rk p k<=kk rk p i) ->
 (∀t,t<=k->(∀i,i<t->kk rk p i<=kk rk p k)->(∀i,t<=i->i<k->kk rk p k<=kk rk p i)->Q t s)->(kas_place p k f l r).kasWp (rkC rk n) Q s
|0,l,r,s,Q,h1,h2,h3,up,a,b,c=>by
 have:l=r:=by lia
 subst this;exact c l h2 a b
|f+1,l,r,s,Q,h1,h2,h3,up,a,b,c=>by
 unfold kas_place;by_cases e:l ≥ r
 .rw[Z9 e];have:l=r:=by lia
  subst this;exact c l h2 a b
 .rw[Z6 e];refine⟨g.lt h,g.lt A0,?_⟩;by_cases d:kk rk p k<kk rk p ((l+r)/2)
  .rw[Z7 (show rk (p.getD k 0)<rk (p.getD ((l+r)/2) 0)from d)];dsimp only;rw[Z9 rfl];refine OW g h A0 A0 A0 up a (λi m j=>?_) c;have:=up ((l+r)/2) i m j;lia
  .rw[Z8 (show ¬rk (p.getD k 0)<rk (p.getD ((l+r)/2) 0)from d)];dsimp only;rw[Z6 A6];refine OW g h A0 A0 A0 up (λi m=>?_) b c;have:=up i ((l+r)/2) A0 A0;lia
theorem bin_wp:∀{f k:Nat}{p:Array Nat}{s:P_}{Q:Array Nat->Shared->Prop},CD n p->k+f=n->Up rk p k->(∀g,CD n g->Up rk g n->Q g s)->(kas_bin f p k).kasWp (rkC rk n) Q s
|0,k,p,s,Q,pn,e,up,c=>c p pn (by rw[<-e];exact up)
|f+1,k,p,s,Q,pn,e,up,c=>by
 unfold kas_bin;rw[KasT.kasWp_bind];refine OW pn A0 (J0 _) (C1 _) A0 up (λi q=>absurd q (N3 _)) (λi u o=>absurd o A0) λt w a b=>?_;refine bin_wp (pn.bub _ _) A0 (λi j r v=>?_) c;rw[ZV pn A0 A0,ZV pn A0 A0,show k-(k-t)=t by lia];by_cases h:i=t
 .rw[Z9 h];by_cases d:j=t
  .rw[Z9 d];exact R4 _
  .rw[Z6 d,Z9 ⟨by lia,by lia⟩];exact b _ A0 A0
 .rw[Z6 h];by_cases l:t<i/\i<=k
  .rw[Z9 l,Z6 A0,Z9 ⟨by lia,by lia⟩];exact up _ _ A0 A0
  .rw[Z6 l];by_cases d:j=t
   .rw[Z9 d];exact a i A0
   .rw[Z6 d];by_cases m:t<j/\j<=k
    .rw[Z9 m];exact up _ _ A0 A0
    .rw[Z6 m];exact up _ _ r A0
theorem sort_wp{s:P_}{Q:Array Nat->Shared->Prop}(e:1<=n)(c:∀a,CD n a->Up rk a n->Q a s):(kas_sort n).kasWp (rkC rk n) Q s:=by
 unfold kas_sort;rw[KasT.kasWp_bind];refine count_wp ⟨by simp,Array.Perm.refl _⟩ e λr a b g f d=>?_;dsimp only;split
 .rw[show max r 1=r by lia];exact bin_wp b A0 d c
 .have:r=n:=by lia
  subst this;exact c a b d
theorem rk_wp{α:Type}{a:Nat->Nat->(Bool->Shared->Prop)->Shared->Prop}{s:P_}(h:∀i j C,i<n->j<n->C (decide (rk i<rk j)) s->a i j C s):∀{t:KasT α}{Q:α->Shared->Prop},t.kasWp (rkC rk n) Q s->t.kasWp a Q s
|.ret _,_,q=>q
|.ask _ _ _,_,⟨h1,h2,h3⟩=>h _ _ _ h1 h2 (rk_wp h h3)
end
end L2
namespace L2
open PySem PySem.W PySem.Spec PyProof.Rows
def EY:List Int->List Int->Bool
|[],[]=>false
|[],_::_=>true
|_::_,[]=>false
|a::as,b::bs=>if a=b then EY as bs else decide (a<b)
theorem Ps:∀a,EY a a=false
|[]=>rfl
|a::as=>by unfold EY;rw[Z9 rfl];exact Ps as
theorem ME:∀{a b c:I_},EY a c=true->EY a b=true\/EY b c=true
|[],[],_,h=>.inr h
|[],_::_,_,_=>.inl rfl
|_::_,_,[],h=>by cases h
|a::as,[],c::cs,_=>.inr rfl
|a::as,b::bs,c::cs,h=>by
 unfold EY at h⊢;by_cases e:a=c
 .subst e;rw[Z9 rfl]at h;by_cases d:a=b
  .subst d;rw[Z9 rfl,Z9 rfl];exact ME h
  .rw[Z6 d,Z6 (λz=>d z.symm)];rcases Int.lt_or_gt_of_ne d with z|z
   .exact .inl (Z7 z)
   .exact .inr (Z7 z)
 .rw[Z6 e]at h;have h:=K3 h;by_cases d:a=b
  .subst d;rw[Z6 e];exact .inr (Z7 h)
  .rw[Z6 d];by_cases z:a<b
   .exact .inl (Z7 z)
   .by_cases f:b=c
    .lia
    .rw[Z6 f];exact .inr (Z7 A0)
theorem ZQ{a b:I_}(h:EY a b=true):EY b a=false:=by
 cases e:EY b a with
 |false=>rfl
 |true =>
  rcases ME (b:=b) (show EY a b=true from h)with z|z
  ·
   have:EY a a=true\/EY a a=false:=by cases EY a a<;>simp
   exact absurd (lexI_two h e) A6
  .rw[Ps]at z;cases z
where lexI_two:∀{a b:I_},EY a b=true->EY b a=true->false=true
|[],[],h,_=>h
|[],_::_,_,h=>h
|_::_,[],h,_=>h
|a::as,b::bs,h,h'=>by
 unfold EY at h h';by_cases c:a=b
 .subst c;rw[Z9 rfl]at h h';exact lexI_two h h'
 .rw[Z6 c]at h;rw[Z6 (λz=>c z.symm)]at h';have:=K3 h;have:=K3 h';lia
def rkOf(rows:List (List Int))(i:Nat):Int:=((rows.countP λr=>EY r (rows.getD i []):Nat):Int)
theorem QK{α:Type}{p q:α->Bool}:∀{l:List α}{x:α},x∈l->(∀y,p y=true->q y=true)->p x=false->q x=true->l.countP p<l.countP q
|y::l,x,a,h,hp,hq=>by
 rw[W1,W1];have le:l.countP p<=l.countP q:=List.countP_mono_left λz _=>h z;rcases C2.mp a with rfl|a
 .rw[hp,hq];simp only[O6,A3a,A3h];lia
 .have:=QK a h hp hq;by_cases b:p y=true
  .rw[b,h y b];lia
  .rw[Z6 b];split<;>lia
theorem rk_iff{c:List (List Int)}{i j:Nat}(e:i<c.length):decide (rkOf c i<rkOf c j)=EY (c.getD i []) (c.getD j []):=by
 have f:c.getD i []∈c:=by
  rw[D2,C6 e];exact R1 e
 unfold rkOf;generalize c.getD i []=a at *
 generalize c.getD j []=b;cases h:EY a b with
 |true =>
  refine Z7 ?_;have:=QK (p:=λr=>EY r a) (q:=λr=>EY r b) f (λy d=>?_) (Ps a) h
  .lia
  .rcases ME (b:=b) d with z|z
   .exact z
   .rw[ZQ h]at z;cases z
 |false =>
  refine Z8 ?_;have:=List.countP_mono_left (l:=c) (p:=λr=>EY r b) (q:=λr=>EY r a) λy _ d=>?_
  .lia
  .rcases ME (b:=a) d with z|z
   .exact z
   .rw[h]at z;cases z
section
variable{prog:N_}{w:Q_}{A:Around}{E:B_}
theorem VT{b:Bool}{Q:Bool->Shared->Prop}{s:P_}:∀{xs ys:I_}{us vs:F_}{i:Nat},AR (xs.map V.int) us->AR (ys.map V.int) vs->Q (EY xs ys) s->KatLex prog w A b (decide (xs.length<ys.length)) Q (us.zip vs) i s
|[],[],_,_,i,.nil,.nil,q=>q
|[],y::ys,_,_,i,.nil,.cons _ _,q=>by
 show Q (decide (0<ys.length+1)) s;rw[Z7 (Nat.succ_pos _)];exact q
|x::xs,[],_,_,i,.cons _ _,.nil,q=>by
 show Q (decide (xs.length+1<0)) s;rw[Z8 (N3 _)];exact q
|x::xs,y::ys,u::us,v::vs,i,.cons r1 t1,.cons r2 t2,q=>by
 obtain⟨t,rfl⟩:=(show ∃t,u=.int x t from r1)
 obtain⟨t',rfl⟩:=(show ∃t,v=.int y t from r2)
 refine wpAny_eqBool_int ?_;unfold EY at q;by_cases e:x=y
 .subst e;rw[Z9 rfl]at q;simp only[beq_self_eq_true,A3h];have h:=VT (b:=b) (i:=i+1) t1 t2 q;rw[show decide ((x::xs).length<(x::ys).length)=decide (xs.length<ys.length) by simp];exact h
 .rw[Z6 e]at q;have a:(x==y)=false:=by simpa using e
  simp only[a,O6,A3a];cases b && i==0 with
  |true=>exact oneLt_int q
  |false =>
   exact kat_one _ _ (wpAny_lt_int q)
end
section
variable{X:Cx}
theorem Vg{H:Hp}{h:T_}(ok:HOk X.prog X.w H h){a:List (Addr×List Int)}(l:∀q∈a,H q.1=some (.tup (q.2.map V.int))/\q.2≠[]){i:Nat}(f:i<a.length) :
  ∃(b:R_)(o:Obj)(us:F_)(m:Nat),(a.map λq=>Value.ref q.1).getD i Value.none=.ref b/\h.get? b=some o/\o.cls=.type "tuple" /\ o.data=.seq us.toArray m/\AR (((a.map (·.2)).getD i []).map V.int) us:=by
 have k:=R1 f;obtain⟨j,p⟩:=l _ k;obtain⟨_,g,r,o,e,c,n,d⟩:=(show BI X.prog X.w H h _ (.tup _)from ok _ _ j)
 refine⟨_,o,g,n,?_,e,c,d,?_⟩
 .rw[D2,C0,C6 f];rfl
 .rw[D2,C0,C6 f];exact r
theorem QG{H:Hp}{h:T_}(ok:HOk X.prog X.w H h):∀{a:List (Addr×List Int)},(∀q∈a,H q.1=some (.tup (q.2.map V.int))/\q.2≠[])->∃fs:List Value,KatTups h (a.map λq=>Value.ref q.1) fs/\fs.length=a.length/\∀v∈fs,∃x t,v=.int x t
|[],_=>⟨[],.nil,rfl,λv b=>nomatch b⟩
|q::a,hq=>by
 obtain⟨fs,i,j,k⟩:=QG ok λs f=>hq s (C7 _ f);obtain⟨e,p⟩:=hq q (C8 ..);obtain⟨_,m,r,o,g,c,n,d⟩:=(show BI X.prog X.w H h _ (.tup _)from ok _ _ e)
 match l:q.2,p with
 |x::xs,_ =>
  rw[l]at r;cases r with
  |@cons _ u _ us y z =>
   obtain⟨t,rfl⟩:=(show ∃t,u=.int x t from y)
   refine⟨.int x t::fs,.cons g c d A6 i,by rw[D7,D7,j],λv b=>?_⟩;rcases C2.mp b with rfl|b
   .exact⟨x,t,rfl⟩
   .exact k v b
end
end L2
namespace L2
open PySem PySem.W PySem.Spec PyProof.Rows
def iDictF(tl:TE):TI:=fun σ H R=>tl σ H λx H1=>∃a kvs,x=.ref a/\Rd H1 a (.dT kvs)/\∀o H2,H2 a=some (.frz o (.dT kvs))->(∀b u,H1 b=some u->b≠a->H2 b=some u)->R (Itd a o kvs) H2
theorem Ze{X:Cx}{S l:Expr}{L:TE}(N:PE X l L):PI X S l (iDictF L):=by
 intro g s σ H R I h;refine thn (N g s σ H _ I h) λv d ⟨x,B,j,Q,P⟩=>?_;obtain⟨a,kvs,e,f,q⟩:=P;subst e;cases Q;rcases f with f|⟨o,f⟩
 .obtain⟨z,y,xs,r,o,k,p,i,t,m,A,K⟩:=(show BI X.prog X.w B d.heap a (.dT kvs)from j.hok a _ f)
  have F:k.size=kvs.length:=by rw[size_of_entries A,<-K4 r]
  have C:Inv X g σ (upd B a (.frz o (.dT kvs))) d:=Sf (t':=d.toks) j (by rw[f];exact True.intro) ⟨rfl,λ_ _=>rfl⟩ ⟨o,i⟩ ⟨i,z,y,xs,KT.keeps r λc ys G=>(by rw[Av (AG G f (λz=>nomatch z))];exact G),o,k,p,i,t,m,A,K⟩;refine Tb y i t m ?_;refine⟨d.heap.objs.size,[d.heap.objs.size],_,_,_,rfl,C.kept (t':=d.toks) λb o e=>C3 _ e,OA a _ o kvs k p m F,⟨_,D5 _ rfl,rfl,rfl⟩,λb E=>?_,q o _ Ag λb u e n=>by rw[Av n];exact e⟩;obtain rfl:b=d.heap.objs.size:=by simpa using E
  exact C.fpOk (C1 _) (C.hok.fresh (C1 _))
 .obtain⟨i,z,y,xs,r,O,k,p,D,t,m,A,K⟩:=(show BI X.prog X.w B d.heap a (.frz o (.dT kvs))from j.hok a _ f)
  have M:o=O:=K0 (i.symm.trans D);subst M;have F:k.size=kvs.length:=by rw[size_of_entries A,<-K4 r]
  refine Tb y i t m ?_;refine⟨d.heap.objs.size,[d.heap.objs.size],_,_,_,rfl,j.kept (t':=d.toks) λb o e=>C3 _ e,OA a _ o kvs k p m F,⟨_,D5 _ rfl,rfl,rfl⟩,λb E=>?_,q o _ f λb u e n=>e⟩;obtain rfl:b=d.heap.objs.size:=by simpa using E
  exact j.fpOk (C1 _) (j.hok.fresh (C1 _))
end L2
namespace L2
open PySem PySem.W PySem.Spec PyProof.Rows
def OB:Sp:=λvs H Q _=>∃(t:R_)(x y:Int)(r:I_),vs=[.ref t]/\H t=some (.tup ((x::y::r).map V.int))/\∀u,H u=none->Q (.ref u) (upd H u (.tup [.int y,.int x]))
structure It3 where
a:Addr
x:Int
y:Int
r:List Int
def It3.ns(q:It3):List Int:=q.x::q.y::q.r
section
variable{X:Cx}{pins:A_}{σ:St}{H H':Hp}{s:P_}{k:Nat}{f b:R_}{fd:E_}{ps:K_}
theorem DC.stay(fp:DC X pins H b)(a:H' b=none):DC X pins H' b:=⟨a,fp.2⟩
theorem DC.turn{h':T_}{t':Nat}(fp:DC X pins H b)(I:Inv X pins σ H s)(kp:∀c o,c≠b->s.heap.get? c=some o->h'.get? c=some o):Inv X pins σ H {s with heap:=h',toks:=t'} :=
 I.turned kp fp.1 fp.2.1 fp.2.2.2.1 fp.2.2.2.2.1 fp.2.2.2.2.2
theorem DC.nost(fp:DC X pins H b)(I:Inv X pins σ H s):b∉frs X.stack:=λz=>by
 rcases C2.mp (I.stkSub b z)with y|y
 .exact fp.2.1 y
 .exact fp.2.2.1 y
theorem VV{p:Around}{P:PySem.Fin->Shared->Prop}{E:B_}(I:Inv X pins σ H s){a g:R_}{i c:Nat}{ks h:M_}{m:SortSt}(u:DC X pins H a)(t:DC X pins H g)(l:g≠a)(y:s.heap.get? g=some (seqObj "list" ks c))(v:s.heap.get? a=some (seqObj "list" #[] i))(n:(arrOf m).map (·.2)=h)(x:failedOf m=none)(z:h.size<=sizeLine)(A:ks.size<=sizeLine)
  (fin:∀(h':T_)(r:Nat),Inv X pins σ H {s with heap:=h'}->h'.get? a=some (seqObj "list" h r)->P (.done (.ret .none)) {s with heap:=h'}):wpAny (model X.prog X.w) p (ksk_tail a false i (.ref g) m) P E s:=by
 unfold ksk_tail;have q:Inv X pins σ H {s with heap:=s.heap.update g (Obj.mapSeq λ_=>#[])}:=t.turn (t':=s.toks) I λb o j e=>by rw[P1 _ _ _ _ j];exact e
 have d:(s.heap.update g (Obj.mapSeq λ_=>#[])).get? a=some (seqObj "list" #[] i):=by rw[P1 _ _ _ _ (X6 l)];exact v
 refine Z5 (listUpdate_at y rfl (Z5 (wpAny_letGo (Z5 (seqEpoch_at d rfl (Z5 (listUpdate_at d rfl ?_ (hsz2:=?_))))))) (hsz:=A))
 .rw[x];simp only[bne_self_eq_false,O6,A3a];rw[n];refine X4 (fin _ _ (u.turn (s:={s with heap:=s.heap.update g (Obj.mapSeq λ_=>#[])}) (t':=s.toks) q λb o j e=>by rw[P1 _ _ _ _ j];exact e) (get?_update_seq d _))
 .simp only[O6,A3a];rw[n];exact Nat.le_succ_of_le z
theorem keyTree {A2:Around} {P:PySem.Fin->Shared->Prop} {E:B_} (F:AK X.prog X.w X.K X.mg X.base CX0 k f fd ps OB) (hb:Df X.K fd ps []) (hr:Db k A2) (an:∀s H,Od X.prog X.w X.K X.mg X.base X.A X.stack s H->Od X.prog X.w X.K X.mg X.base A2 X.stack s H) (I:Inv X pins σ H s) {a:R_} {d:List It3} {n:Nat} (ho:s.heap.get? a=some (seqObj "list" (d.map λq=>Value.ref q.a).toArray n)) (fa:DC X pins H a) (ag:∀q∈d,H q.a=some (.tup (q.ns.map V.int))) (ae:d.length<64)
  (fin:∀(p:Array Nat)(H':Hp)(g:P_)(c:Nat),CD d.length p->Inv X pins σ H' g->(∀b u,H b=some u->H' b=some u)->H' a=none->g.heap.get? a=some (seqObj "list" (p.toList.map λi=>(d.map λq=>Value.ref q.a).getD i Value.none).toArray c)->P (.done (.ret .none)) g) :
  wpAny (model X.prog X.w) A2 (ksk_tree a (.ref f) false) P E s:=by
 have len:(d.map λq=>Value.ref q.a).length=d.length:=B8 _;have ln:d.length<=sizeLine:=D1 (U8 ae) A4;unfold ksk_tree;refine Z5 (listItems_at ho rfl (Z5 (listUpdate_at ho rfl ?_)));have ⟨M,he1⟩:∃M,(s.heap.update a (Obj.mapSeq λ_=>#[])).get? a=some (seqObj "list" #[] M):=⟨_,get?_update_seq ho _⟩
 have I1:Inv X pins σ H {s with heap:=s.heap.update a (Obj.mapSeq λ_=>#[])}:=fa.turn (t':=s.toks) I λc o hc e=>by rw[P1 _ _ _ _ hc];exact e
 generalize s.heap.update a (Obj.mapSeq λ_=>#[])=O at he1 I1⊢;refine Z5 (seqEpoch_at he1 rfl (Z5 (wpAny_newTuple (Z5 (wpAny_newList (A2f ?_))))));have I2:Inv X pins σ H {s with heap:=O.push (seqObj "tuple" (d.map λq=>Value.ref q.a).toArray 0)}:=I1.kept (t':=s.toks) λb o e=>C3 _ e;have ab:=C3 (seqObj "tuple" (d.map λq=>Value.ref q.a).toArray 0) he1;show wpAny (model X.prog X.w) A2 (ksk_rest a (.ref f) false (d.map λq=>Value.ref q.a).toArray M (.ref (O.push (seqObj "tuple" (d.map λq=>Value.ref q.a).toArray 0)).objs.size)) P E {s with heap:=(O.push (seqObj "tuple" (d.map λq=>Value.ref q.a).toArray 0)).push (seqObj "list" #[] 0)};generalize O.push (seqObj "tuple" (d.map λq=>Value.ref q.a).toArray 0)=l at I2 ab⊢;have fS:DC X pins H l.objs.size:=I2.fpOk (C1 _) (I2.hok.fresh (C1 _));have af:=C3 (seqObj "list" #[] 0) ab;have ac:(l.push (seqObj "list" #[] 0)).get? l.objs.size=some (seqObj "list" #[] 0):=D5 _ rfl;have I3:Inv X pins σ H {s with heap:=l.push (seqObj "list" #[] 0)}:=I2.kept (t':=s.toks) λb o e=>C3 _ e;have U:l.objs.size≠a:=U5 (D9 ab);generalize l.push (seqObj "list" #[] 0)=h3 at af ac I3⊢;generalize l.objs.size=S at fS ac U⊢;unfold ksk_rest;refine Z5 (wpAny_rule ?_);rw[List.forIn_toArray];refine Z5 (ksk_fold (λj g=>∃(H':Hp)(us:H_)(c:Nat),Inv X pins σ H' g/\(∀b u,H b=some u->H' b=some u)/\H' a=none/\H' S=none/\g.heap.get? S=some (seqObj "list" (us.map Value.ref).toArray c)/\g.heap.get? a=some (seqObj "list" #[] M)/\us.length=j/\∀(i:Nat) u q,us[i]?=some u->d[i]?=some q->H' u=some (.tup ([q.y,q.x].map V.int))) (d.map λq=>Value.ref q.a) 0 _ ⟨H,[],0,I3,λb u e=>e,fa.1,fS.1,ac,af,rfl,λi u q e=>(nomatch e)⟩ ?_ ?_)
 .rintro j x ⟨hp,gn,dr,tk,os⟩ hx ⟨H',us,c,h,kp,na,nk,hk,ha,L,R⟩;have jl:j<d.length:=by have:=(B9.mp hx).1;rw[len]at this;exact this
  rw[C0]at hx;obtain⟨q,eq,rfl⟩:=D6.mp hx;rw[N1]at L⊢;have N:=fa.stay na;have B:=fS.stay nk;have tq:=kp _ _ (ag q (D0 eq));have ak:OB [V.ref q.a] H' (λv al=>∃u,v=.ref u/\H' u=none/\al=upd H' u (.tup [.int q.y,.int q.x])) E0:=⟨q.a,q.x,q.y,q.r,rfl,tq,λu hu=>⟨u,rfl,hu,rfl⟩⟩
  refine Z5 (A3c (wpAny_call (A5a (F.run A2 X.stack _ H' ⟨[Value.ref q.a],[]⟩ ([Value.ref q.a]++[]) [V.ref q.a] _ E0 hr (an _ _ h.env0) (hb _ [Value.ref q.a] h.kIn (F.len _ _ _ _ ak)) (show AR [V.ref q.a] [Value.ref q.a]from .cons rfl .nil) ak) λr au hq=>?_)));cases r with
  |error e=>exact hq.elim
  |ok fl =>
   cases fl with
   |next=>exact hq.elim
   |brk=>exact hq.elim
   |cont=>exact hq.elim
   |ret u =>
    obtain⟨v,H2,as,Z,un,ai,rv,Y,rfl,ao,rfl⟩:=hq;obtain⟨hh,g2,d2,t2,ar⟩:=au;obtain rfl:ar=os:=as;cases(show _=Value.ref Y from rv);have I4:=h.call (h':=hh) (g':=g2) (d':=d2) (t':=t2) (ch:=[]) un ai Z (λb z=>absurd z A6);have ah:hh.get? S=_:=un.keep _ _ hk nk (B.nost h) A6;have am:hh.get? a=_:=un.keep _ _ ha na (N.nost h) A6;have np:∀{b:R_}{o:HO},H' b=some o->upd H' Y (.tup [.int q.y,.int q.x]) b=some o:=λ{b o} e=>by rw[Av (Aw e ao)];exact e
    have aq:upd H' Y (.tup [.int q.y,.int q.x]) a=none:=un.free _ _ ha na A6;have aj:upd H' Y (.tup [.int q.y,.int q.x]) S=none:=un.free _ _ hk nk A6;have ⟨c2,hk5⟩:∃c2,(hh.update S (Obj.mapSeq (·.push (.ref Y)))).get? S=some (seqObj "list" ((us.map Value.ref).toArray.push (.ref Y)) c2):=⟨_,get?_update_seq ah _⟩
    refine Z5 (listUpdate_at ah rfl (X4 ⟨rfl,upd H' Y (.tup [.int q.y,.int q.x]),us++[Y],c2,(B.stay aj).turn (t':=t2) I4 λb o hb e=>by rw[P1 _ _ _ _ hb];exact e,λb o e=>np (kp b o e),aq,aj,?_,?_,by rw[C5,L];rfl,λi u2 q2 eu aa=>?_⟩) (hsz2:=?_))
    .show(hh.update S _).get? S=_;rw[hk5];simp
    .show(hh.update S _).get? a=_;rw[P1 _ _ _ _ (X6 U)];exact am
    .by_cases hi:i<j
     .rw[M8 A0]at eu;exact np (R i u2 q2 eu aa)
     .have:i=j:=by
       have:=(B9.mp eu).1;rw[C5,L]at this;have:i<j+1:=this;lia
      subst this;rw[J6 A0,L,U4]at eu;cases eu;rw[eq]at aa;cases aa;exact Ag
    .simp;lia
 .rintro⟨hp,gn,dr,tk,os⟩ ⟨H',us,c,h,kp,na,nk,hk,ha,L,R⟩;rw[N1,len]at L;have N:=fa.stay na;have B:=fS.stay nk;have lk:(us.map Value.ref).length=(d.map λq=>Value.ref q.a).length:=by rw[B8,len,L]
  refine Z5 (listItems_at hk rfl ?_);unfold ksk_end;dsimp only;simp only[O6,A3a];have sz:(d.map λq=>Value.ref q.a).toArray.size=d.length:=by rw[D8,len]
  by_cases few:(d.map λq=>Value.ref q.a).toArray.size<2
  .rw[Z9 few,Z9 few];refine Z5 (X4 ?_);rw[StateT.run_pure];refine Z5 (X4 ?_);dsimp only;have eo:(arrOf (SortSt.mk' general' ((us.map Value.ref).toArray.zip (d.map λq=>Value.ref q.a).toArray) #[] 7 none)).map (·.2)=((List.range d.length).toArray.toList.map λi=>(d.map λq=>Value.ref q.a).getD i Value.none).toArray:=by
    rw[sz]at few;clear ag fin ho R h hk;show((us.map Value.ref).toArray.zip (d.map λq=>Value.ref q.a).toArray).map (·.2)=_
    match d,us,L,few with
    |[],[],_,_=>simp
    |[v],[u],_,_=>simp
   refine VV (c:=c) h N B U hk ha eo rfl (by simp;lia) (by simp;lia) λh' c' I5 h5=>fin (List.range d.length).toArray H' _ c' ⟨by simp,Array.Perm.refl _⟩ I5 kp na h5
  .rw[Z6 few,Z6 few];have two:2<=d.length:=by lia
   have D:∀q∈(us.zip (d.map λq=>[q.y,q.x])),H' q.1=some (.tup (q.2.map V.int))/\q.2≠[]:=λq hq=>by
    obtain⟨i,hi⟩:=F6 hq;rw[V2,C0]at hi;obtain⟨O,l⟩:=hi;obtain⟨it,M,e2⟩:=D6.mp l;rw[<-e2];exact⟨R i q.1 it O M,by simp⟩
   have z1:((us.zip (d.map λq=>[q.y,q.x])).map λq=>Value.ref q.1)=us.map Value.ref:=by
    show List.map (Value.ref ∘ Prod.fst) _=_;rw[<-M7];rw[List.map_fst_zip (by rw[B8,L];exact C1 _)]
   have zl:(us.zip (d.map λq=>[q.y,q.x])).length=d.length:=by rw[W8,B8,L,Nat.min_self]
   obtain⟨fs,k1,k2,k3⟩:=QG h.hok D;rw[z1]at k1;refine Z5 (kat_kind (T:=.type "int") k1 (by rw[k2,zl];lia) (λv hv=>?_) rfl ?_)
   .obtain⟨x,t,rfl⟩:=k3 v hv;exact .now
   have ad:(us.map Value.ref).toArray.size<=sizeLine:=by simp;lia
   refine Z5 (A1a (kat_run (ks:=us.map Value.ref) (vs:=d.map λq=>Value.ref q.a) (κ:=tuples' true) (Q:=λW g=>g={heap:=hp,gens:=gn,drawn:=dr,toks:=tk,os:=os}/\failedOf W=none/\∃p,CD d.length p/\arrOf W=p.map (kas_item ((us.map Value.ref).toArray.zip (d.map λq=>Value.ref q.a).toArray))) (G:=λp g=>g={heap:=hp,gens:=gn,drawn:=dr,toks:=tk,os:=os}/\CD d.length p) lk (by rw[len];exact two) (by rw[len];exact ae) (λp W g O l h3 h4=>⟨h4.1,h3,p,h4.2,l⟩) ?_) ?_ λ_ _ e=>e)
   .rw[len];refine rk_wp (rk:=rkOf (d.map λq=>[q.y,q.x])) (λi j C hi hj cc=>?_) (sort_wp A0 λp' O l=>⟨rfl,O⟩);obtain⟨b,o,av,m,M,e2,e3,e4,e5⟩:=Vg h.hok D (i:=i) (by rw[zl];exact hi);obtain⟨b',o',aw,m',f1,f2,f3,f4,f5⟩:=Vg h.hok D (i:=j) (by rw[zl];exact hj);have z2:((us.zip (d.map λq=>[q.y,q.x])).map (·.2))=d.map λq=>[q.y,q.x]:=List.map_snd_zip (by rw[B8,L];exact C1 _);rw[z1]at M f1;rw[z2]at e5 f5;unfold kas_ask;rw[M,f1];refine kat_lt e2 e4 f2 f4 ?_;rw[rk_iff (by rw[B8];exact hi)]at cc;have:=VT (prog:=X.prog) (w:=X.w) (A:=A2) (b:=true) (i:=0) e5 f5 cc;have l1:=e5.length;have l2:=f5.length;rw[B8]at l1 l2;rw[D8,D8,<-l1,<-l2];exact this
   rintro⟨⟨⟩,W⟩ g ⟨rfl,hf,p,pn,ea⟩;dsimp only at hf ea⊢;have eo:=kat_snds lk ea;refine VV (c:=c) h N B U hk ha eo hf (by simp only[D8,B8,U3,pn.sz];exact ln) ad λh' c' I5 h5=>fin p H' _ c' pn I5 kp na h5
theorem WX {Q:VK} (F:AK X.prog X.w X.K X.mg X.base CX0 k f fd ps OB) (G:Df X.K fd ps []) (hr:Db (k+2) X.A) (I:Inv X pins σ H s) {p:R_} {g:List It3} (R:SqL X.K H p (g.map λq=>V.ref q.a)) (B:∀q∈g,H q.a=some (.tup (q.ns.map V.int))) (t:g.length<64)
  (q:∀(L:R_)(h:List It3)(H':Hp),(∀b u,H b=some u->H' b=some u)->H' L=none->h.Perm g->Q (.ref L) (upd H' L (.lst (h.map λq=>V.ref q.a)))) :
  wpAny (model X.prog X.w) X.A (call (.builtin "sorted") [.ref p] [("key",.ref f)]) (EP X pins σ Q) X.xe s:=by
 obtain⟨C,U,pl,hz⟩:=I.list R;have ei:C=g.map λq=>Value.ref q.a:=by
  clear pl hz q R t B;induction g generalizing C with
  |nil=>cases U;rfl
  |cons it g M =>
   cases U with
   |cons Y Z =>
    cases(show _=Value.ref it.a from Y);rw[F7,M _ Z]
 subst ei;have len:(g.map λq=>Value.ref q.a).length=g.length:=B8 _;have N:g.length<=sizeLine:=D1 (U8 t) A4;refine PyProof.Rows.call_function_entry_kw kind_sorted plain_sorted entry_sorted (ksk_s1 _ _) ?_;unfold Builtin.«sorted»;refine Z5 (m:=checkCount "sorted" 1 1 _) (X4 (Z5 (collect_list pl.isList (Z5 (wpAny_newList ?_ (by rw[len];exact N))) (by rw[len];exact N))));have E:((s.heap.push (seqObj "list" #[] 0)).update s.heap.objs.size (Obj.mapSeq (· ++ (g.map λq=>Value.ref q.a).toArray))).objs.size=s.heap.objs.size+1:=by
  rw[Heap.size_update];exact size_push' ..
 have r:(((s.heap.push (seqObj "list" #[] 0)).update s.heap.objs.size (Obj.mapSeq (· ++ (g.map λq=>Value.ref q.a).toArray))).push (seqObj "list" (g.map λq=>Value.ref q.a).toArray 0)).get? (s.heap.objs.size+1)=some (seqObj "list" (g.map λq=>Value.ref q.a).toArray 0):=by
  have:=D5 ((s.heap.push (seqObj "list" #[] 0)).update s.heap.objs.size (Obj.mapSeq (· ++ (g.map λq=>Value.ref q.a).toArray))) (show(seqObj "list" (g.map λq=>Value.ref q.a).toArray 0).isFreed=false from rfl);rw[E]at this;exact this
 have v:∀b o,s.heap.get? b=some o->(((s.heap.push (seqObj "list" #[] 0)).update s.heap.objs.size (Obj.mapSeq (· ++ (g.map λq=>Value.ref q.a).toArray))).push (seqObj "list" (g.map λq=>Value.ref q.a).toArray 0)).get? b=some o:=λb o e =>
  C3 _ (by rw[P1 _ _ _ _ (J8 (D9 e))];exact C3 _ e)
 show wpAny (model X.prog X.w) _ _ _ _ {s with heap:=(((s.heap.push (seqObj "list" #[] 0)).update s.heap.objs.size (Obj.mapSeq (· ++ (g.map λq=>Value.ref q.a).toArray))).push (seqObj "list" (g.map λq=>Value.ref q.a).toArray 0))};rw[E];have O:Inv X pins σ H {s with heap:=(((s.heap.push (seqObj "list" #[] 0)).update s.heap.objs.size (Obj.mapSeq (· ++ (g.map λq=>Value.ref q.a).toArray))).push (seqObj "list" (g.map λq=>Value.ref q.a).toArray 0))}:=I.kept (t':=s.toks) v;have y:DC X pins H (s.heap.objs.size+1):=I.fpOk (S2 _) (I.hok.fresh (S2 _));generalize ((s.heap.push (seqObj "list" #[] 0)).update s.heap.objs.size (Obj.mapSeq (· ++ (g.map λq=>Value.ref q.a).toArray))).push (seqObj "list" (g.map λq=>Value.ref q.a).toArray 0)=h1 at r O⊢;refine Z5 (A2f (PyProof.Rows.wpAny_call_entry_kw slot_list_sort ⟨_,r,rfl⟩ entry_list_sort ?_ (ksk_l1 _ _)));rw[ksk_t1];refine keyTree F G hr.in1.in1 (λs H e=>e.in1.in1) O r y B t λx H' s' c T W kp S ha=>⟨_,rfl,X4 ⟨_,rfl,?_⟩⟩
 have D:x.toList.Perm (List.range g.length):=by simpa using T.pm.toList
 have sz:x.size=g.length:=T.sz;have lt:∀i∈x.toList,i<g.length:=λi n=>by simpa using (D.mem_iff).mp n
 let d:It3:=⟨0,0,0,[]⟩
 have h:(x.toList.map λi=>g.getD i d).Perm g:=by
  refine(D.map _).trans ?_;refine List.Perm.of_eq (List.ext_getElem? λi=>?_);rw[C0];by_cases n:i<g.length
  .rw[O1 n,C6 n];show some (g.getD i d)=_;rw[D2,C6 n];rfl
  .rw[R9 (by simpa using n),R9 A0];rfl
 refine⟨.ref (s.heap.objs.size+1),_,W.track (o:=.lst ((x.toList.map λi=>g.getD i d).map λq=>V.ref q.a)) S (O9 (D1 I.sz (S2 _))) (O9 (D1 I.ok.bsz (D1 I.sz (S2 _)))) (X6 y.2.1) y.2.2.2.2.1 y.2.2.2.2.2 (λb G z=>y.2.2.1 (z▸G)) ⟨by rw[B8,B8,U3,sz];exact N,_,c,?_,ha⟩,rfl,q (s.heap.objs.size+1) _ H' kp S h⟩;have:∀{l:J_},(∀i∈l,i<g.length)->AR ((l.map λi=>g.getD i d).map λq=>V.ref q.a) (l.map λi=>(g.map λq=>Value.ref q.a).getD i Value.none):=by
  intro l;induction l with
  |nil=>intro _;exact .nil
  |cons i l M =>
   intro P;refine .cons ?_ (M λj hj=>P j (C7 _ hj));have n:=P i (C8 ..);show Bj (V.ref (g.getD i d).a) ((g.map λq=>Value.ref q.a).getD i Value.none);rw[D2,D2,C0,C6 n];rfl
 exact this lt
def tSortR(K:O_)(t:TA):TE:=fun σ H Q=>t σ H λvs H1=>∃(p:R_)(items:List It3),vs=[.ref p]/\SqL K H1 p (items.map λq=>V.ref q.a)/\items.length<64/\(∀q∈items,H1 q.a=some (.tup (q.ns.map V.int)))/\∀(L:R_)(out:List It3)(H':Hp),(∀b u,H1 b=some u->H' b=some u)->H' L=none->out.Perm items->Q (.ref L) (upd H' L (.lst (out.map λq=>V.ref q.a)))
theorem Ux{a:Str}{e:Expr}{t:TA}{p kp kpos pos:Pos}(c:Cal X.prog X.w X.K X.mg X.base CX0 k a ps OB)(R:Db (k+2) X.A)(M:Gl X "sorted")(O:X.mg "sorted" = none)(i:Gl X a)(D:PA X [e] t)(G:(a==("__debug__" : Str))=false:=by decide)
  (L:backTo pos (starEach [e] X.env)=(false,eval e X.env)::backTo pos (starEach [] X.env):=by rfl) (m:(backTo pos (starEach [e] X.env)).any (·.1)=false:=by rfl):PE X (.Call (.Name "sorted" p) [e] [⟨some "key",.Name a kp,kpos⟩] pos) (tSortR X.K t):=by
 intro pins s σ H Q I h;obtain⟨f,fd,F,l,N,E⟩:=c.ex;refine A2b (JV I M O PyProof.Rows.boot_sorted ?_);refine PyProof.Rows.callWith_kw (thn (D pos pins s σ H _ I h) λus W g=>?_) L m rfl rfl;obtain⟨vs,o,u,U,T⟩:=g;obtain⟨S,n,rfl,P,d,j,q⟩:=T;refine thn (pk_cons (nm:=some "key") (kpos:=kpos) (pe_gref (pos:=kp) i l G) pk_nil pos pins W σ o (λzs r=>zs=[.ref f]/\r=o) u ⟨rfl,rfl⟩) λZ Y g=>?_;obtain⟨zs,r,v,V,B,C⟩:=g;subst B;subst C;cases U with
 |cons x y =>
  cases y;cases(show _=Value.ref S from x);cases V with
  |cons z b2 =>
   cases b2;cases(show _=Value.ref f from z);exact WX F E R v P j d q
end
end L2
namespace L2
open PySem PyProof.Rows
def Uw(z:Str)(k:Nat):Str:=⟨List.foldl (λx y=>x++y) #[] (List.replicate k z.cps)⟩
theorem repS1(z:Str):Uw z 1=z:=by
 unfold Uw;show(⟨#[]++z.cps⟩:Str)=z;rw[Array.empty_append]
theorem Za(a:Array Nat)(k:Nat):∀b:Array Nat,(List.foldl (λx y=>x++y) b (List.replicate k a)).size=b.size+k*a.size:=by
 induction k with
 |zero=>intro b;simp
 |succ k c =>
  intro b;rw[Q9,T1,c,Array.size_append,W2];lia
theorem Ta{z:Str}(h:z.length=1)(k:Nat):(Uw z k).length=k:=by
 have h:z.cps.size=1:=h;show(List.foldl (λx y=>x++y) #[] (List.replicate k z.cps)).size=k;rw[Za,h];show 0+k*1=k;lia
section
variable{X:Cx}
def rMulN:R2:=λx y H Q=>∃(z:Str)(k:Nat),x=.str z/\y=.int (k:Int)/\z.length=1/\k<=100/\Q (.str (Uw z k)) H
theorem VL:OpR X (binaryOp .Mult) rMulN:=by
 intro c s σ H x y v u Q I f g h;obtain⟨z,k,rfl,rfl,a,e,q⟩:=h;obtain⟨t,rfl⟩:=f;obtain⟨t',rfl⟩:=g;refine PySem.P.mul_str (by rw[Bool.or_eq_false_iff];exact⟨Z8 A0,Z8 A0⟩) (λb _=>?_) (λ_ _=>?_) ?_
 .rw[a];have:(1:Int)<=(2^63-1)/(k:Int):=(Int.le_ediv_iff_mul_le A0).mpr A0;lia
 .rw[a,Nat.one_mul,J3];unfold Builtin.Str.tooLong;have:k<=100:=e;have:(100:Nat)<=sizeLine:=by decide
  exact Z8 (by simp;lia)
 .by_cases d:k=0
  .subst d;rw[Z9 A4];exact⟨by decide,.str _,H,I.tok _,⟨_,rfl⟩,q⟩
  .rw[Z6 A0];by_cases b:k=1
   .subst b;rw[Z9 A6];rw[repS1]at q;exact⟨.str _,H,I,⟨_,rfl⟩,q⟩
   .rw[Z6 (by rw[a];simp;lia),J3];have j:=Ta a k;have i:(100:Nat)<=sizeLine:=by decide
    have le:(Uw z k).length<=sizeLine:=by lia
    exact⟨le,.str _,H,I.tok _,⟨_,rfl⟩,q⟩
theorem Wz{H:Hp}{s:P_}{A:Around}(ok:HOk X.prog X.w H s.heap)(h:A.units<cLine){a b:R_}{ns:I_}(f:H a=some (.tup (ns.map V.int)))(g:H b=some (.tup (ns.map V.int))):PySem.SeqAt.EqAt A s (.ref a) (.ref b) true:=by
 by_cases e:a=b
 .subst e;exact PySem.SeqAt.EqAt.same _
 .obtain⟨_,i,r,pt⟩:=(show BI X.prog X.w H s.heap _ (.tup _)from ok _ _ f)
  obtain⟨_,k,d,c⟩:=(show BI X.prog X.w H s.heap _ (.tup _)from ok _ _ g)
  refine PySem.SeqAt.EqAt.of_refs e ?_;have:=PySem.SeqAt.RcAt.tuples (A:=A) (s:=s) (e:=λj=>ns.getD j 0==ns.getD j 0) pt c h λj l m=>Wy (H:=H) r d j l m;rw[D8,D8,<-r.length,<-d.length,B8,all_same,Z7 rfl]at this;exact this
theorem VE{H:Hp}{s:P_}{A:Around}(ok:HOk X.prog X.w H s.heap)(f:A.units<cLine):∀{b c:List (Addr×List Int)},(∀q∈b,H q.1=some (.tup (q.2.map V.int)))->(∀q∈c,H q.1=some (.tup (q.2.map V.int)))->b.map (·.2)=c.map (·.2) ->
 ∀{xs ys:F_},AR (b.map λq=>V.ref q.1) xs->AR (c.map λq=>V.ref q.1) ys->xs.length=ys.length/\∀j (a:j<xs.length) (h2:j<ys.length),PySem.SeqAt.EqAt A s xs[j] ys[j] true
|[],[],_,_,_,_,_,.nil,.nil=>⟨rfl,λj a=>absurd a (N3 _)⟩
|[],_::_,_,_,e,_,_,_,_=>by cases e
|_::_,[],_,_,e,_,_,_,_=>by cases e
|i::b,j::c,a,h2,e,x::xs,y::ys,.cons r1 t1,.cons r2 t2=>by
 rw[F7,F7]at e;injection e with e0 e1
 obtain⟨l,k⟩:=VE ok f (λq d=>a q (C7 _ d)) (λq d=>h2 q (C7 _ d)) e1 t1 t2;refine⟨by rw[D7,D7,l],λn h m=>?_⟩;cases n with
 |zero =>
  cases(show x=Value.ref i.1 from r1);cases(show y=Value.ref j.1 from r2);have o:=a i (C8 ..);have g:=h2 j (C8 ..);rw[<-e0]at g;exact Wz ok f o g
 |succ n=>exact k n (by simpa using h) (by simpa using m)
theorem all_true(n:Nat):(List.range n).all (λ_=>true)=true:=R3.mpr λ_ _=>rfl
def AlikeT(K:O_)(H:Hp)(x y:V):Prop:=∃(a b:R_)(is js:List (Addr×List Int)),x=.ref a/\y=.ref b/\SqL K H a (is.map λq=>V.ref q.1)/\SqL K H b (js.map λq=>V.ref q.1)/\(∀q∈is,H q.1=some (.tup (q.2.map V.int)))/\(∀q∈js,H q.1=some (.tup (q.2.map V.int)))/\is.map (·.2)=js.map (·.2)
theorem Th(B:X.A.units+64<cLine):OpR X (compareOp .Eq) (λx y H Q=>AlikeT X.K H x y/\Q (.bl true) H):=by
 intro f s σ H x y v u Q I r t h;obtain⟨⟨a,b,C,D,rfl,rfl,g,i,w,z,e⟩,q⟩:=h;cases r;cases t;obtain⟨xs,o,m,_⟩:=I.list g;obtain⟨ys,p,n,_⟩:=I.list i;obtain⟨l,k⟩:=VE (A:=X.A.in1) I.hok (by show X.A.units+1<_;lia) w z e o p;refine PySem.SeqAt.eq_listAt (e:=λ_=>true) m.isList n.isList (by rw[D8,D8,l]) A0 (λj c d=>?_) ?_
 .simp only[D8]at c d
  simpa using k j c d
 .rw[all_true];exact⟨.bl _,H,I,rfl,q⟩
end
end L2
namespace J
open PySem L2
theorem asI{N P:K_}{c:Scope}(a:c.kind=.function:=by rfl)(b:c.isCoroutine=false:=by rfl)(d:c.isGenerator=false:=by rfl)(e:N.Nodup:=by decide +kernel)(f:N.take P.length=P:=by rfl)(g:∀x∈P,c.names.lookup x=some .local∨c.names.lookup x=some .cell:=by decide +kernel)(h:∀y∈c.names,y.2≠.free:=by decide +kernel):As N P c:=⟨a,b,d,e,f,g,h⟩
def top(i:Nat):Stmt:=PySem.Challenge.pw_jumpfield_k54_the_road.main.body.getD i (.Pass ⟨0,0,0,0⟩)
abbrev LL:Stmt:=top 11
abbrev UE:List Str:=["thing"]
theorem SU:As UE UE (Ah LL):=asI
abbrev LM:Stmt:=top 18
theorem SV:As UE UE (Ah LM):=asI
abbrev Rr:Stmt:=top 19
abbrev dP:List Str:=["wanted","state"]
theorem YW:As dP dP (Ah Rr):=asI
abbrev EK:Stmt:=top 23
abbrev LD:List Str:=["text","words","cell","conditions"]
abbrev GR:List Str:=["text"]
theorem DU:As LD GR (Ah EK):=asI
abbrev Ir:Stmt:=top 24
abbrev RD:List Str:=["word"]
theorem PU:As RD RD (Ah Ir):=asI
abbrev GI:Stmt:=top 25
theorem OJ:As RD RD (Ah GI):=asI
abbrev Ew:Stmt:=top 26
theorem Mg:As RD RD (Ah Ew):=asI
abbrev FK:Stmt:=top 27
abbrev Pi:List Str:=["word","parts"]
theorem Jk:As Pi RD (Ah FK):=asI
abbrev FJ:Stmt:=top 28
abbrev Ph:List Str:=["signs","numbers","sign"]
abbrev FU:List Str:=["signs"]
theorem Fd:As Ph FU (Ah FJ):=asI
abbrev EJ:Stmt:=top 29
theorem OK:As RD RD (Ah EJ):=asI
abbrev GH:Stmt:=top 32
abbrev Qb:List Str:=["box","dx","dy"]
theorem OI:As Qb Qb (Ah GH):=asI
abbrev Dg:Stmt:=top 33
abbrev EX:List Str:=["boxes","left","top","right","bottom"]
abbrev Gy:List Str:=["boxes"]
theorem DV:As EX Gy (Ah Dg):=asI
abbrev GJ:Stmt:=top 38
abbrev Qd:List Str:=["box","limit"]
theorem OL:As Qd Qd (Ah GJ):=asI
abbrev LK:Stmt:=top 39
abbrev UD:List Str:=["grove","field"]
theorem ST:As UD UD (Ah LK):=asI
abbrev Iw:Stmt:=top 40
abbrev RG:List Str:=["grove"]
theorem PV:As RG RG (Ah Iw):=asI
abbrev MZ:Stmt:=top 41
abbrev WN:List Str:=["grove","square","level","parts","bare"]
abbrev Lj:List Str:=["grove","square"]
theorem Im:As WN Lj (Ah MZ):=asI
abbrev Na:Stmt:=top 42
abbrev WO:List Str:=["grove","square","kept"]
theorem LI:As WO Lj (Ah Na):=asI
abbrev Gr:Stmt:=top 43
abbrev NQ:List Str:=["grove","square","inner"]
theorem Mh:As NQ Lj (Ah Gr):=asI
abbrev Ex:Stmt:=top 44
abbrev Np:List Str:=["grove","square","bare","place","quarter","part_place","part"]
theorem BP:As Np Lj (Ah Ex):=asI
abbrev FI:Stmt:=top 45
abbrev Pg:List Str:=["grove","field","box","wide"]
abbrev FS:List Str:=["grove","field","box"]
theorem Fc:As Pg FS (Ah FI):=asI
abbrev Ip:Stmt:=top 46
abbrev RB:List Str:=["grove","field","level","wide"]
abbrev IL:List Str:=["grove","field","level"]
theorem GE:As RB IL (Ah Ip):=asI
abbrev Nb:Stmt:=top 47
abbrev WP:List Str:=["grove","field","x","y","state","place","wide","half"]
abbrev Nk:List Str:=["grove","field","x","y","state"]
theorem Io:As WP Nk (Ah Nb):=asI
abbrev LJ:Stmt:=top 48
abbrev UC:List Str:=["grove","square","x","y","state","level","half","parts","place"]
abbrev FT:List Str:=["grove","square","x","y","state"]
theorem DN:As UC FT (Ah LJ):=asI
abbrev LO:Stmt:=top 49
abbrev UH:List Str:=["grove","cells","field","cell"]
abbrev LU:List Str:=["grove","cells"]
theorem Gq:As UH LU (Ah LO):=asI
abbrev OS:Stmt:=top 51
abbrev ZG:List Str:=["grove","field","box","reach"]
theorem MW:As ZG UD (Ah OS):=asI
abbrev Uv:Stmt:=top 53
abbrev dR:List Str:=["jumps","field","n","tuples"]
abbrev Uy:List Str:=["jumps","field","n"]
theorem Vz:As dR Uy (Ah Uv):=asI
abbrev Uu:Stmt:=top 54
abbrev dQ:List Str:=["jumps","field","n","grove","told","here","rest","e","square","result"]
theorem DT:As dQ Uy (Ah Uu):=asI
abbrev Iv:Stmt:=top 55
abbrev RF:List Str:=["grove","field","n","box"]
abbrev IO:List Str:=["grove","field","n"]
theorem Ly:As RF IO (Ah Iv):=asI
abbrev Jy:Stmt:=top 56
abbrev Tn:List Str:=["grove","field","e","reach","level"]
abbrev JG:List Str:=["grove","field","e"]
theorem Fu:As Tn JG (Ah Jy):=asI
abbrev FL:Stmt:=top 60
theorem NV:As GR GR (Ah FL):=asI
abbrev Jx:Stmt:=top 61
abbrev Tm:List Str:=["text","rule"]
theorem Mf:As Tm GR (Ah Jx):=asI
abbrev LP:Stmt:=top 62
abbrev UI:List Str:=["rule","cell","around","number","clause"]
abbrev LV:List Str:=["rule","cell","around"]
theorem Jw:As UI LV (Ah LP):=asI
abbrev Nc:Stmt:=top 63
abbrev WQ:List Str:=["rule","cell","around","number"]
theorem OM:As WQ LV (Ah Nc):=asI
abbrev Iq:Stmt:=top 64
abbrev RC:List Str:=["rule"]
theorem PR:As RC RC (Ah Iq):=asI
abbrev Iu:Stmt:=top 67
abbrev RE:List Str:=["grove","square","parts","a","b","c","d"]
theorem CT:As RE Lj (Ah Iu):=asI
abbrev LN:Stmt:=top 68
abbrev UG:List Str:=["nine"]
theorem SW:As UG UG (Ah LN):=asI
abbrev Dv:Stmt:=top 69
abbrev Lx:List Str:=["grove","four","parts"]
abbrev Ct:List Str:=["grove","four"]
theorem ET:As Lx Ct (Ah Dv):=asI
abbrev Nd:Stmt:=top 72
abbrev WR:List Str:=["_law_script","_law_k"]
theorem Ut:As WR WR (Ah Nd):=asI
abbrev LQ:Stmt:=top 73
abbrev UJ:List Str:=["_law_cell","_law_k","_law_value"]
abbrev IP:List Str:=["_law_cell","_law_k"]
theorem NN:As UJ IP (Ah LQ):=asI
abbrev Fj:Stmt:=top 74
abbrev NZ:List Str:=["_law_mains","_law_value"]
theorem MX:As NZ NZ (Ah Fj):=asI
abbrev Cs:Stmt:=top 75
abbrev Fs:List Str:=["_law_mains","_law_seed","_law_j","_law_wanted","_law_k","_law_value","_law_mask"]
abbrev Dw:List Str:=["_law_mains","_law_seed","_law_j"]
theorem BM:As Fs Dw (Ah Cs):=asI
abbrev Ey:Stmt:=top 76
abbrev Nq:List Str:=["_law_mains","_law_seed","_law_j","_law_taken","_law_conditions","_law_k"]
theorem Ci:As Nq Dw (Ah Ey):=asI
abbrev Iz:Stmt:=top 77
abbrev RJ:List Str:=["_law_condition","_law_around","_law_k","_law_many","_law_state"]
abbrev IS:List Str:=["_law_condition","_law_around"]
theorem Dy:As RJ IS (Ah Iz):=asI
abbrev FM:Stmt:=top 78
abbrev Pl:List Str:=["_law_clauses","_law_cell","_law_around","_law_at_here","_law_fits","_law_condition"]
abbrev FY:List Str:=["_law_clauses","_law_cell","_law_around"]
theorem CQ:As Pl FY (Ah FM):=asI
abbrev FO:Stmt:=top 79
abbrev Pn:List Str:=["_law_clauses","_law_cell","_law_around","_law_at_here"]
theorem Jl:As Pn FY (Ah FO):=asI
abbrev Ec:Stmt:=top 80
abbrev Mz:List Str:=["_law_script","_law_first","_law_many","_law_mains","_law_clauses","_law_k"]
abbrev Ek:List Str:=["_law_script","_law_first","_law_many"]
theorem Ca:As Mz Ek (Ah Ec):=asI
abbrev EU:Stmt:=top 81
abbrev JO:List Str:=["_law_condition"]
theorem Ro:As JO JO (Ah EU):=asI
abbrev Gs:Stmt:=top 82
abbrev NR:List Str:=["_law_clauses","_law_parts","_law_clause","_law_words"]
abbrev JI:List Str:=["_law_clauses"]
theorem Fw:As NR JI (Ah Gs):=asI
abbrev EL:Stmt:=top 83
abbrev LE:List Str:=["_law_script","_law_first"]
theorem ON:As LE LE (Ah EL):=asI
abbrev Eb:Stmt:=top 84
abbrev Mx:List Str:=["_law_made","_law_way","_law_parts","_law_state","_law_word_here"]
abbrev Ej:List Str:=["_law_made","_law_way"]
theorem CI:As Mx Ej (Ah Eb):=asI
abbrev FN:Stmt:=top 85
abbrev Pm:List Str:=["_law_cell"]
theorem NW:As Pm Pm (Ah FN):=asI
abbrev GL:Stmt:=top 86
abbrev Qf:List Str:=["_law_states","_law_some","_law_place"]
abbrev GU:List Str:=["_law_states"]
theorem FH:As Qf GU (Ah GL):=asI
abbrev JA:Stmt:=top 87
theorem Rp:As Pm Pm (Ah JA):=asI
abbrev Jz:Stmt:=top 88
abbrev To:List Str:=["_law_script","_law_first","_law_many","_law_left","_law_top","_law_states","_law_k","_law_value","_law_at_here"]
abbrev JJ:List Str:=["_law_script","_law_first","_law_many","_law_left","_law_top"]
theorem DW:As To JJ (Ah Jz):=asI
abbrev Ix:Stmt:=top 89
abbrev RH:List Str:=["_law_grove","_law_square","_law_level","_law_none","_law_inner","_law_at_here","_law_quarter","_law_some","_law_k"]
abbrev IQ:List Str:=["_law_grove","_law_square","_law_level"]
theorem BY:As RH IQ (Ah Ix):=asI
abbrev Iy:Stmt:=top 90
abbrev RI:List Str:=["_law_level","_law_e","_law_k"]
abbrev IR:List Str:=["_law_level","_law_e"]
theorem GF:As RI IR (Ah Iy):=asI
abbrev IA:Stmt:=top 91
abbrev RK:List Str:=["_law_grove","_law_others","_law_found","_law_field","_law_e","_law_number","_law_level"]
abbrev IT:List Str:=["_law_grove","_law_others","_law_found","_law_field","_law_e"]
theorem GG:As RK IT (Ah IA):=asI
abbrev GK:Stmt:=top 92
abbrev Qe:List Str:=["_law_grove","_law_others","_law_way","_law_field","_law_n","_law_e","_law_at_here"]
abbrev GS:List Str:=["_law_grove","_law_others","_law_way","_law_field","_law_n"]
theorem BZ:As Qe GS (Ah GK):=asI
abbrev YX:Stmt:=top 93
abbrev n_law:List Str:=["_law_script","_law_line","_law_n","_law_many","_law_left","_law_states","_law_grove","_law_rule","_law_jumps","_law_field","_law_way","_law_others","_law_close","_law_last","_law_none"]
abbrev p_law:List Str:=["_law_script"]
theorem Cv:As n_law p_law (Ah YX):=asI
abbrev FQ:Stmt:=Be (top 20) 0
abbrev Pp:List Str:=["self","state","numbers"]
theorem NY:As Pp Pp (Ah FQ):=asI
abbrev Fk:Stmt:=Be (top 20) 1
abbrev Oa:List Str:=["self","around"]
theorem MY:As Oa Oa (Ah Fk):=asI
abbrev GM:Stmt:=Be (top 21) 0
abbrev Qg:List Str:=["self","wanted"]
theorem OO:As Qg Qg (Ah GM):=asI
abbrev Ed:Stmt:=Be (top 21) 1
theorem NX:As Oa Oa (Ah Ed):=asI
abbrev GP:Stmt:=Be (top 22) 0
abbrev Qk:List Str:=["self","cell","conditions","makes"]
theorem OQ:As Qk Qk (Ah GP):=asI
abbrev EN:Stmt:=Be (top 22) 1
abbrev LF:List Str:=["self","cell","around"]
theorem OR:As LF LF (Ah EN):=asI
abbrev IG:Stmt:=Be (top 34) 0
abbrev RP:List Str:=["self","state","level","bare"]
abbrev IW:List Str:=["self"]
theorem EI:As RP IW (Ah IG):=asI
abbrev IF:Stmt:=Be (top 34) 1
abbrev RO:List Str:=["self","parts","level","number"]
abbrev Fz:List Str:=["self","parts","level"]
theorem Lz:As RO Fz (Ah IF):=asI
abbrev FP:Stmt:=Be (top 34) 2
abbrev Po:List Str:=["self","parts","number"]
abbrev AU:List Str:=["self","parts"]
theorem Jn:As Po AU (Ah FP):=asI
abbrev Di:Stmt:=Be (top 34) 3
abbrev JU:List Str:=["self","square"]
theorem Jp:As JU JU (Ah Di):=asI
abbrev IE:Stmt:=Be (top 34) 4
abbrev RN:List Str:=["self","state"]
theorem PZ:As RN RN (Ah IE):=asI
abbrev Ef:Stmt:=Be (top 34) 5
abbrev JT:List Str:=["self","a","b","c","d","square","level"]
abbrev Gc:List Str:=["self","a","b","c","d"]
theorem Fe:As JT Gc (Ah Ef):=asI
abbrev GO:Stmt:=Be (top 34) 6
abbrev Qi:List Str:=["self","level","state","square","below"]
abbrev ER:List Str:=["self","level","state"]
theorem DZ:As Qi ER (Ah GO):=asI
abbrev EB:Stmt:=Be (top 34) 7
theorem Ml:As JU JU (Ah EB):=asI
abbrev EA:Stmt:=Be (top 34) 8
theorem Mj:As JU JU (Ah EA):=asI
abbrev Ez:Stmt:=Be (top 34) 9
theorem Mi:As JU JU (Ah Ez):=asI
abbrev IC:Stmt:=Be (top 34) 12
theorem PY:As JU JU (Ah IC):=asI
abbrev EM:Stmt:=Be (top 34) 13
abbrev Qj:List Str:=["self","square","box"]
theorem Ea:As Qj JU (Ah EM):=asI
abbrev Ds:Stmt:=Be (top 34) 14
abbrev Nz:List Str:=["self","square","level","half","boxes","place","quarter","box"]
theorem BB:As Nz JU (Ah Ds):=asI
abbrev Gu:Stmt:=Be (top 59) 0
abbrev NS:List Str:=["self","text"]
theorem Rq:As NS NS (Ah Gu):=asI
abbrev IB:Stmt:=Be (top 70) 0
abbrev RL:List Str:=["self","grove","rule"]
theorem PX:As RL RL (Ah IB):=asI
abbrev Ee:Stmt:=Be (top 70) 1
abbrev JS:List Str:=["self","rule","text"]
abbrev El:List Str:=["self","rule"]
theorem Jm:As JS El (Ah Ee):=asI
abbrev GN:Stmt:=Be (top 70) 2
abbrev Qh:List Str:=["self","square","e"]
theorem OP:As Qh Qh (Ah GN):=asI
abbrev DI:Stmt:=Be (top 70) 3
abbrev LW:List Str:=["self","square","e","level"]
theorem Fq:As LW Qh (Ah DI):=asI
abbrev Dr:Stmt:=Be (top 70) 4
abbrev Nr:List Str:=["self","square","e","result"]
theorem DX:As Nr Qh (Ah Dr):=asI
abbrev Co:Stmt:=Be (top 70) 5
abbrev ES:List Str:=["self","square","e","grove","level","nine"]
theorem DY:As ES Qh (Ah Co):=asI
abbrev Bu:Stmt:=Be (top 70) 6
abbrev Dl:List Str:=["self","square","e","nine"]
theorem Es:As Dl Qh (Ah Bu):=asI
abbrev Dh:Stmt:=Be (top 70) 7
abbrev JQ:List Str:=["self","square","parts","a","b","c","d"]
theorem Bn:As JQ JU (Ah Dh):=asI
abbrev CJ:Stmt:=Be (top 70) 8
abbrev Gf:List Str:=["self","leaves","leaf","states"]
abbrev DL:List Str:=["self","leaves"]
theorem Cr:As Gf DL (Ah CJ):=asI
structure Ad where
c_Amounts:Addr
c_Places:Addr
c_Clause:Addr
c_Grove:Addr
c_Rule:Addr
c_Jumps:Addr
structure Top(K:O_)(mg:C_)(a:Ad):Prop where
b_all:mg "all" = none
b_any:mg "any" = none
b_bool:mg "bool" = none
b_enumerate:mg "enumerate" = none
b_int:mg "int" = none
b_isinstance:mg "isinstance" = none
b_len:mg "len" = none
b_list:mg "list" = none
b_max:mg "max" = none
b_min:mg "min" = none
b_range:mg "range" = none
b_sorted:mg "sorted" = none
b_str:mg "str" = none
b_tuple:mg "tuple" = none
b_zip:mg "zip" = none
k_STATES:∃t,mg "STATES" = some (.int 8 t)
k_NEIGHBOURS:∃t,mg "NEIGHBOURS" = some (.int 8 t)
k_STATE_FIGURES:∃t,mg "STATE_FIGURES" = some (.str (Str.ofString "01234567") t)
k_AMOUNT_FIGURES:∃t,mg "AMOUNT_FIGURES" = some (.str (Str.ofString "012345678") t)
k_ANY_SIGN:∃t,mg "ANY_SIGN" = some (.str (Str.ofString "*") t)
k_TOP_LEVEL:∃t,mg "TOP_LEVEL" = some (.int 48 t)
k_LIMIT:∃t,mg "LIMIT" = some (.int 1099511627776 t)
k_LEAST_LEVEL:∃t,mg "LEAST_LEVEL" = some (.int 1 t)
k_CLAUSE_MARK:∃t,mg "CLAUSE_MARK" = some (.str (Str.ofString "; ") t)
k_LEAST_JUMPED:∃t,mg "LEAST_JUMPED" = some (.int 2 t)
m_Amounts:mg "Amounts" = some (.ref a.c_Amounts)
cl_Amounts:Cls K a.c_Amounts
na_Amounts_state:BL K a.c_Amounts "state"
na_Amounts_numbers:BL K a.c_Amounts "numbers"
m_Places:mg "Places" = some (.ref a.c_Places)
cl_Places:Cls K a.c_Places
na_Places_wanted:BL K a.c_Places "wanted"
m_Clause:mg "Clause" = some (.ref a.c_Clause)
cl_Clause:Cls K a.c_Clause
na_Clause_cell:BL K a.c_Clause "cell"
na_Clause_conditions:BL K a.c_Clause "conditions"
na_Clause_makes:BL K a.c_Clause "makes"
m_Grove:mg "Grove" = some (.ref a.c_Grove)
cl_Grove:Cls K a.c_Grove
na_Grove_levels:BL K a.c_Grove "levels"
na_Grove_parts:BL K a.c_Grove "parts"
na_Grove_numbers:BL K a.c_Grove "numbers"
na_Grove_bares:BL K a.c_Grove "bares"
na_Grove_amounts:BL K a.c_Grove "amounts"
na_Grove_boxes:BL K a.c_Grove "boxes"
m_Rule:mg "Rule" = some (.ref a.c_Rule)
cl_Rule:Cls K a.c_Rule
na_Rule_text:BL K a.c_Rule "text"
na_Rule_clauses:BL K a.c_Rule "clauses"
m_Jumps:mg "Jumps" = some (.ref a.c_Jumps)
cl_Jumps:Cls K a.c_Jumps
na_Jumps_grove:BL K a.c_Jumps "grove"
na_Jumps_memories:BL K a.c_Jumps "memories"
na_Jumps_rule:BL K a.c_Jumps "rule"
na_Jumps_known_squares:BL K a.c_Jumps "known_squares"
na_Jumps_known_cells:BL K a.c_Jumps "known_cells"
seal L2.PA L2.PE L2.PS L2.PSs L2.PT L2.PW
inductive AX where
|am (s:Int) (ns:I_)
|pl (ws:List (Option Int))
structure AS where
cell:Option Int
conds:List AX
makes:Int
abbrev Az:=List AS
def GY:Option Int->V
|none=>.non
|some i=>.int i
def BS(w:Option Int)(s:Int):Bool:=match w with
|none=>true
|some i=>decide (i=s)
def AX.holds(ar:I_):AX->Bool
|.am s ns=>ns.any λn=>decide (n=((ar.countP (· == s):Nat):Int))
|.pl ws=>(ws.zip ar).all λp=>BS p.1 p.2
def AS.fits(cell:Int)(ar:I_)(c:AS):Bool:=BS c.cell cell && c.conds.all (AX.holds ar)
def Jq(r:Az)(cell:Int)(ar:I_):Option Nat:=r.findIdx? (AS.fits cell ar)
def Cm(r:Az)(cell:Int)(ar:I_):Int:=match r.find? (AS.fits cell ar)with
|none=>cell
|some c=>c.makes
def fl1(f:Str)(a:V):List (Str×V):=AT f a []
def fl2(f g:Str)(a b:V):List (Str×V):=AT g b (AT f a [])
def fl3(f g h:Str)(a b c:V):List (Str×V):=AT h c (AT g b (AT f a []))
theorem fl1_1{f:Str}{a:V}:(fl1 f a).lookup f=some a:=by unfold fl1;rw[Ak,Z9 rfl]
theorem Sc{f m:Str}{a:V}(h:¬m=f):(fl1 f a).lookup m=none:=by unfold fl1;rw[Ak,Z6 h];rfl
theorem fl2_1{f g:Str}{a b:V}(h:¬f=g):(fl2 f g a b).lookup f=some a:=by unfold fl2;rw[Ak,Z6 h,Ak,Z9 rfl]
theorem fl2_2{f g:Str}{a b:V}:(fl2 f g a b).lookup g=some b:=by unfold fl2;rw[Ak,Z9 rfl]
theorem fl2_no{f g m:Str}{a b:V}(c:¬m=f)(d:¬m=g):(fl2 f g a b).lookup m=none:=by unfold fl2;rw[Ak,Z6 d,Ak,Z6 c];rfl
theorem fl3_1{f g h:Str}{a b c:V}(d:¬f=g)(e:¬f=h):(fl3 f g h a b c).lookup f=some a:=by unfold fl3;rw[Ak,Z6 e,Ak,Z6 d,Ak,Z9 rfl]
theorem fl3_2{f g h:Str}{a b c:V}(d:¬g=h):(fl3 f g h a b c).lookup g=some b:=by unfold fl3;rw[Ak,Z6 d,Ak,Z9 rfl]
theorem fl3_3{f g h:Str}{a b c:V}:(fl3 f g h a b c).lookup h=some c:=by unfold fl3;rw[Ak,Z9 rfl]
theorem fl3_no{f g h m:Str}{a b c:V}(d:¬m=f)(e:¬m=g)(i:¬m=h):(fl3 f g h a b c).lookup m=none:=by unfold fl3;rw[Ak,Z6 i,Ak,Z6 e,Ak,Z6 d];rfl
theorem Td(f:Str)(v:V):∀l:List (Str×V),(AT f v l).length<=l.length+1
|[]=>C1 _
| (g,w)::r=>by
 unfold AT;split
 .exact S2 _
 .rw[D7,D7];exact P4 (Td f v r)
theorem Aq{H:Hp}{p:R_}{o:HO}(h:H p=none):AC H (upd H p o):=λb u e=>by
 rw[Av (Aw e h)];exact e
theorem alc{H a:Hp}{p:R_}{o:HO}(h:H p=none)(e:upd H p o=a):AC H a/\a p=some o:=e▸⟨Aq h,Ag⟩
inductive Dx(a:Ad)(H:Hp):Addr->AX->Prop where
|am {p t dx:R_} {s:Int} {ns:I_} (h:H p=some (.ins a.c_Amounts dx (fl2 "state" "numbers" (.int s) (.ref t)))) (ht:H t=some (.tup (ns.map V.int))):Dx a H p (.am s ns)
|pl {p t dx:R_} {ws:List (Option Int)} (h:H p=some (.ins a.c_Places dx (fl1 "wanted" (.ref t)))) (ht:H t=some (.tup (ws.map GY))):Dx a H p (.pl ws)
structure Cf(a:Ad)(H:Hp)(p:R_)(c:AS):Prop where
ex:∃(dx t:R_)(cs:H_),H p=some (.ins a.c_Clause dx (fl3 "cell" "conditions" "makes" (GY c.cell) (.ref t) (.int c.makes)))/\H t=some (.tup (cs.map V.ref))/\Paired (Dx a H) cs c.conds
structure Ce(a:Ad)(H:Hp)(p:R_)(x:Str)(r:Az):Prop where
ex:∃(dx t:R_)(cs:H_),H p=some (.ins a.c_Rule dx (fl2 "text" "clauses" (.str x) (.ref t)))/\H t=some (.tup (cs.map V.ref))/\Paired (Cf a H) cs r
theorem Paired.imp{α β:Type}{F G:α->β->Prop}(h:∀x y,F x y->G x y):∀{l:List α}{m:List β},Paired F l m->Paired G l m
|_,_,.nil=>.nil
|_,_,.cons r t=>.cons (h _ _ r) (Paired.imp h t)
theorem Paired.get{α β:Type}{F:α->β->Prop}:∀{l:List α}{m:List β}{i:Nat}{x:α},Paired F l m->l[i]?=some x->∃y,m[i]?=some y/\F x y
|_,_,_,_,.nil,e=>by simp at e
|_,_,0,_,.cons r _,e=>by simp at e;subst e;exact⟨_,rfl,r⟩
|_,_,i+1,x,.cons _ t,e=>by
 obtain⟨y,a,b⟩:=Paired.get (i:=i) (x:=x) t (by simpa using e);exact⟨y,by simpa using a,b⟩
theorem Dx.same{a:Ad}{H d:Hp}{p:R_}{c:AX}(s:AC H d)(h:Dx a H p c):Dx a d p c:=by
 cases h with
 |am h b=>exact .am (s _ _ h) (s _ _ b)
 |pl h b=>exact .pl (s _ _ h) (s _ _ b)
theorem Cf.same{a:Ad}{H b:Hp}{p:R_}{c:AS}(s:AC H b)(h:Cf a H p c):Cf a b p c:=by
 obtain⟨d,t,cs,e,f,g⟩:=h.ex;exact⟨d,t,cs,s _ _ e,s _ _ f,Paired.imp (λ_ _ z=>z.same s) g⟩
theorem Ce.same{a:Ad}{H b:Hp}{p:R_}{x:Str}{r:Az}(s:AC H b)(h:Ce a H p x r):Ce a b p x r:=by
 obtain⟨c,t,cs,d,e,f⟩:=h.ex;exact⟨c,t,cs,s _ _ d,s _ _ e,Paired.imp (λ_ _ z=>z.same s) f⟩
theorem RY(n:Int)(ns:I_):inV (.int n) (ns.map V.int)=ns.any λm=>decide (m=n):=by
 unfold inV;rw[List.any_map];congr 1
theorem QF(ns:I_):(ns.map V.int).all ML=true:=by
 rw[List.all_map];exact R3.mpr λ_ _=>rfl
theorem Je(i j:Int):decide (V.int i=V.int j)=decide (i=j):=by
 by_cases h:i=j
 .rw[Z7 h,Z7 (by rw[h])]
 .rw[Z8 h,Z8 λz=>h (by injection z)]
section
variable{P:N_}{w:Q_}{K:O_}{mg:C_}{base:T_}{a:Ad}
inductive Wg(vs:List V)(H:Hp)(Q:VK):Prop
|mk (x:Option Int) (s:Int) (_:vs=[GY x,.int s]) (_:Q (.bl (BS x s)) H):Wg vs H Q
def Of:Sp:=λvs H Q _=>Wg vs H Q
theorem Zm(F:Fun K "takes" "takes" Rr f fd):AK P w K mg base CX0 1 f fd dP Of:=by
 refine F.ok YW D_9 λc A b s H vs Q E d h=>?_
 obtain⟨x,s,rfl,k⟩:=h;refine⟨_,(Af (Au (pe_or (Dc Ja (pv 0) Cy (AE _)) (LS (Dc CG (pv 0) (pv 1) (AE _)))))),?_⟩
 try dsimp only[cxK]
 refine xq1 rfl ⟨rfl,(xq1 rfl ?_)⟩;cases x with
 |none=>exact Cz k
 |some i =>
  have e:decide (GY (some i)=V.int s)=BS (some i) s:=Je i s;rw[<-e]at k;exact Bf (xw2 rfl rfl ⟨rfl,k⟩)
inductive TZ(a:Ad)(vs:List V)(H:Hp)(Q:VK):Prop
|mk (p t dx:R_) (s:Int) (_:vs=[.ref p,.int s,.ref t]) (_:H p=some (.ins a.c_Amounts dx [])) (_:Q .non (upd H p (.ins a.c_Amounts dx (fl2 "state" "numbers" (.int s) (.ref t))))):TZ a vs H Q
def OG(a:Ad):Sp:=λvs H Q _=>TZ a vs H Q
theorem WJ(F:Fun K "__init__" "Amounts.__init__" FQ f fd)(T:Top K mg a):AK P w K mg base CX0 1 f fd Pp (OG a):=by
 refine F.ok NY D_9 λd A b s H vs Q E g h=>?_
 obtain⟨p,t,c,s,rfl,e,k⟩:=h;refine⟨_,(Ac (CK (pv 0) (pv 1) rfl) (Af (CK (pv 0) (pv 2) rfl))),?_⟩
 try dsimp only[cxK]
 refine xw2 rfl rfl ⟨p,_,c,[],rfl,e,T.cl_Amounts,T.na_Amounts_state,B4,(xw2 rfl rfl ⟨p,_,c,(xq1 rfl ⟨Ag,T.cl_Amounts,T.na_Amounts_numbers,B6,?_⟩)⟩)⟩;rw[Go];exact k
inductive TX(a:Ad)(vs:List V)(H:Hp)(Q:VK):Prop
|mk (p t dx:R_) (_:vs=[.ref p,.ref t]) (_:H p=some (.ins a.c_Places dx [])) (_:Q .non (upd H p (.ins a.c_Places dx (fl1 "wanted" (.ref t))))):TX a vs H Q
def OC(a:Ad):Sp:=λvs H Q _=>TX a vs H Q
theorem WH(F:Fun K "__init__" "Places.__init__" GM f fd)(T:Top K mg a):AK P w K mg base CX0 1 f fd Qg (OC a):=by
 refine F.ok OO D_9 λc A b s H vs Q E g h=>?_
 obtain⟨p,t,d,rfl,e,k⟩:=h;refine⟨_,(Af (CK (pv 0) (pv 1) rfl)),?_⟩
 try dsimp only[cxK]
 exact xw2 rfl rfl ⟨p,_,d,[],rfl,e,T.cl_Places,T.na_Places_wanted,B4,k⟩
inductive TY(a:Ad)(vs:List V)(H:Hp)(Q:VK):Prop
|mk (p t dx:R_) (c:Option Int) (m:Int) (_:vs=[.ref p,GY c,.ref t,.int m]) (_:H p=some (.ins a.c_Clause dx [])) (_:Q .non (upd H p (.ins a.c_Clause dx (fl3 "cell" "conditions" "makes" (GY c) (.ref t) (.int m))))):TY a vs H Q
def OF(a:Ad):Sp:=λvs H Q _=>TY a vs H Q
theorem WI(F:Fun K "__init__" "Clause.__init__" GP f fd)(T:Top K mg a):AK P w K mg base CX0 1 f fd Qk (OF a):=by
 refine F.ok OQ D_9 λe A d s H vs Q E i h=>?_
 obtain⟨p,t,b,c,m,rfl,g,k⟩:=h;refine⟨_,(Ac (CK (pv 0) (pv 1) rfl) (Ac (CK (pv 0) (pv 2) rfl) (Af (CK (pv 0) (pv 3) rfl)))),?_⟩
 try dsimp only[cxK]
 refine⟨_,rfl,_,rfl,p,_,b,[],rfl,g,T.cl_Clause,T.na_Clause_cell,B4,_,rfl,_,rfl,p,_,b,_,rfl,Ag,T.cl_Clause,T.na_Clause_conditions,B6,_,rfl,_,rfl,p,_,b,_,rfl,Ag,T.cl_Clause,T.na_Clause_makes,
  F3 (Td _ _ _) (by show 2<1000;decide),?_⟩
 rw[Go,Go];exact k
def MV(a:Ad):Sp:=λvs H Q E=>(∃(p l t dx:R_)(s:Int)(ns ar:I_),vs=[.ref p,.ref l]/\H p=some (.ins a.c_Amounts dx (fl2 "state" "numbers" (.int s) (.ref t)))/\H t=some (.tup (ns.map V.int))/\H l=some (.lst (ar.map V.int))/\Q (.bl (AX.holds ar (.am s ns))) H)
theorem UA(F:Fun K "holds" "Amounts.holds" Fk f fd)(T:Top K mg a):AK P w K mg base CX0 1 f fd Oa (MV a):=by
 refine F.ok MY (λvs H Q E h=>?_) (λg A b s H vs Q E m h=>?_)
 .obtain⟨p,l,t,i,s,ns,c,rfl,_⟩:=h;rfl
 .obtain⟨p,l,t,i,s,ns,c,rfl,e,j,d,k⟩:=h;refine⟨_,(Af (Au (Dc Nl (CF X7 PySem.F.slot_list_count PySem.F.type_list_count ZI (pv 1) (Aa (AF (pv 0) rfl) Ab)) (AF (pv 0) rfl) rfl))),?_⟩
  try dsimp only[cxK]
  refine xq1 rfl ⟨.inl ⟨rfl,_,SqL.of d⟩,(xwf rfl rfl e T.cl_Amounts T.na_Amounts_state (fl2_1 A1) ⟨l,c,s,rfl,rfl,d,(xwf rfl rfl e T.cl_Amounts T.na_Amounts_numbers fl2_2 ⟨t,(xq1 rfl ⟨.inr (SqT.of j),rfl,QF ns,?_⟩)⟩)⟩)⟩;show Q (.bl (inV _ _)) H;rw[RY];exact k
inductive QW(a:Ad)(vs:List V)(H:Hp)(Q:VK):Prop
|mk (p l t dx:R_) (ws:List (Option Int)) (ar:I_) (_:vs=[.ref p,.ref l]) (_:H p=some (.ins a.c_Places dx (fl1 "wanted" (.ref t)))) (_:H t=some (.tup (ws.map GY))) (_:H l=some (.lst (ar.map V.int))) (_:ws.length<=100) (_:∀H',AC H H'->Q (.bl (AX.holds ar (.pl ws))) H'):QW a vs H Q
def MU(a:Ad):Sp:=λvs H Q _=>QW a vs H Q
theorem Uz(F:Fun K "holds" "Places.holds" Ed f fd)(T:Top K mg a)(D:Cal P w K mg base CX0 1 "takes" dP Of):AK P w K mg base CX0 2 f fd Oa (MU a):=by
 refine F.ok NX D_9 λG A n s H vs Q E R h=>?_
 obtain⟨p,l,t,Y,b,d,rfl,O,v,u,S,k⟩:=h;refine⟨_,(Af (Au (AO (TR rfl) rfl T.b_all PyProof.Rows.boot_all (Aa (BW rfl (Bz.of (So:=Ah Ed) (No:=Oa) (N:=["one","state"]) (k:=2) (cs:=[]) rfl rfl A1) (pi_zip true false rfl T.b_zip (Aa (AF (pv 0) rfl) (Aa (pv 1) Ab))) (λ_ _ _=>(Zf (i:=0) (j:=1) rfl A1 rfl rfl rfl rfl)) (λ_ _ _=>BG) (λ_ _ _=>(Ar D (rm R) rfl Am (Aa (pv 0) (Aa (pv 1) Ab))))) Ab)))),?_⟩
 try dsimp only[cxK]
 refine xwf rfl rfl O T.cl_Places T.na_Places_wanted fl1_1 (xq1 rfl ⟨t,l,rfl,⟨_,SqT.of v⟩,⟨_,SqL.of u⟩,?_⟩);refine blk_zip (xs:=b.map GY) (ys:=d.map V.int) (λi c g=>AC H g/\c=(((b.zip d).take i).map λp=>V.bl (BS p.1 p.2))) ⟨AC.refl H,rfl⟩ (λi c g z=>⟨SqT.of (z.1 _ _ v),SqL.of (z.1 _ _ u)⟩) ?_ ?_
 .rintro i x y c g X B C ⟨r,rfl⟩ U;rw[C0]at B C;obtain⟨o,L,rfl⟩:=D6.mp B;obtain⟨m,I,rfl⟩:=D6.mp C;have M:(b.zip d)[i]?=some (o,m):=by rw[V2];exact⟨L,I⟩
  refine QD Ag ⟨⟨[some (GY o),some (.int m)],rfl,rfl⟩,?_,?_⟩
  .have:((((b.zip d).take i).map λp=>V.bl (BS p.1 p.2))).length<=b.length:=by
    rw[B8,M5,W8];omega
   exact F3 (D1 this S) A4
  .refine Gm ?_;refine xw2 rfl rfl ⟨o,m,rfl,r.trans (Aq U),?_⟩;rw[F9,M,C4];rfl
 .rintro c g ⟨r,rfl⟩ q W;have len:min (b.map GY).length (d.map V.int).length=(b.zip d).length:=by rw[B8,B8,W8]
  rw[len,J9];refine⟨q,(b.zip d).map (λp=>BS p.1 p.2),rfl,SqL.of (by rw[Ag,M7];rfl),?_⟩;have e:((b.zip d).map (λp=>BS p.1 p.2)).all id=AX.holds d (.pl b):=by rw[List.all_map];rfl
  rw[e];exact k _ (r.trans (Aq W))
inductive SpFits(a:Ad)(vs:List V)(H:Hp)(Q:VK):Prop
|mk (p l:R_) (c:AS) (cell:Int) (ar:I_) (_:vs=[.ref p,.int cell,.ref l]) (_:Cf a H p c) (_:c.conds.length<=100) (_:(∀d∈c.conds,∀ws,d=AX.pl ws->ws.length<=100)) (_:H l=some (.lst (ar.map V.int))) (_:∀H',AC H H'->Q (.bl (c.fits cell ar)) H'):SpFits a vs H Q
def Uq(a:Ad):Sp:=λvs H Q _=>SpFits a vs H Q
theorem ok_Fits(F:Fun K "fits" "Clause.fits" EN f fd)(T:Top K mg a)(Z:Cal P w K mg base CX0 1 "takes" dP Of)(r:BD P w K mg base CX0 1 a.c_Amounts "holds" Oa (MV a))(u:BD P w K mg base CX0 2 a.c_Places "holds" Oa (MU a)) :
 AK P w K mg base CX0 3 f fd LF (Uq a):=by
 refine F.ok OR D_9 λaa A I s H vs Q E G h=>?_
 obtain⟨p,l,c,cell,g,rfl,hC,hn,D,S,k⟩:=h;obtain⟨dx,t,cs,U,W,y⟩:=hC.ex;refine⟨_,(Af (Au (JD (Ar Z (rm G) rfl Am (Aa (AF (pv 0) rfl) (Aa (pv 1) Ab))) (LS (AO (TR rfl) rfl T.b_all PyProof.Rows.boot_all (Aa (BW rfl (Bz.of (So:=Ah EN) (No:=LF) (N:=["condition","around"]) (k:=1) (cs:=[2]) rfl rfl A1) (Nh (AF (pv 0) rfl)) (λ_ _ _=>(Bd (i:=0) A1 rfl rfl)) (λ_ _ _=>BG) (λ_ _ _=>(PE.or (AD (pv 0) r (rm G) Am (Aa (pv 1) Ab)) (AD (pv 0) u (rm G) Am (Aa (pv 1) Ab))))) Ab)))))),?_⟩
 try dsimp only[cxK]
 refine xwf rfl rfl U T.cl_Clause T.na_Clause_cell (fl3_1 A1 A1) (xq1 rfl ⟨c.cell,cell,rfl,BS c.cell cell,rfl,?_⟩);cases R:BS c.cell cell with
 |false =>
  refine Bf ?_;have:=k H (AC.refl H);unfold AS.fits at this;rw[R]at this;exact this
 |true =>
  refine Cz ?_;have ln:cs.length=c.conds.length:=K4 y;refine xwf rfl rfl U T.cl_Clause T.na_Clause_conditions (fl3_2 A1) ⟨t,rfl,⟨_,SqT.of W⟩,?_⟩;refine Ow (xs:=cs.map V.ref) (λi j m=>AC H m/\j=((c.conds.take i).map λd=>V.bl (AX.holds g d))) ⟨AC.refl H,rfl⟩ (λi j m _ z=>SqT.of (z.1 _ _ W)) ?_ ?_
  .rintro i x j m X ⟨n,rfl⟩;rw[C0]at X;obtain⟨q,eq,rfl⟩:=D6.mp X;obtain⟨d,O,hd⟩:=Paired.get y eq;have C:=hd.same n;refine⟨⟨[some (.ref q)],rfl,rfl⟩,?_,?_⟩
   .have:((c.conds.take i).map λd=>V.bl (AX.holds g d)).length<=c.conds.length:=by
     rw[B8,M5];omega
    exact F3 (D1 this hn) A4
   .refine Gm ?_;have nx:∀o,AC m o->AC H o/\((c.conds.take i).map λd=>V.bl (AX.holds g d))++[V.bl (AX.holds g d)]=((c.conds.take (i+1)).map λd=>V.bl (AX.holds g d)):=λo L=>⟨n.trans L,by
     rw[F9,O,C4];rfl⟩
    have md:d∈c.conds:=D0 O;cases C with
    |@am M b s ns v B=>exact .inl ⟨_,rfl,q,b,_,rfl,v,fl2_no A1 A1,_,rfl,q,l,M,b,s,ns,g,rfl,v,B,n _ _ S,nx m (AC.refl m)⟩
    |@pl M b Y v B=>exact .inr ⟨_,rfl,q,b,_,rfl,v,Sc A1,_,rfl,q,l,M,b,Y,g,rfl,v,B,n _ _ S,D _ md Y rfl,λo L=>nx o L⟩
  .rintro j m ⟨n,rfl⟩ q nq;rw[B8,ln,J9];refine⟨q,c.conds.map (AX.holds g),rfl,SqL.of (by rw[Ag,M7];rfl),?_⟩;have e:(c.conds.map (AX.holds g)).all id=c.fits cell g:=by
    unfold AS.fits;rw[R,List.all_map];rfl
   rw[e];exact k _ (n.trans (Aq nq))
def ROk(r:Az):Prop:=r.length<=5000/\∀c∈r,c.conds.length<=100/\∀d∈c.conds,∀ws,d=AX.pl ws->ws.length<=100
def decV(o:Option Nat):V:=match o with
|none=>.non
|some n=>.int n
inductive SpDec(a:Ad)(vs:List V)(H:Hp)(Q:VK):Prop
|mk (p l:R_) (z:Str) (r:Az) (cell:Int) (ar:I_) (_:vs=[.ref p,.int cell,.ref l]) (_:Ce a H p z r) (_:ROk r) (_:H l=some (.lst (ar.map V.int))) (_:∀H',AC H H'->Q (decV (Jq r cell ar)) H'):SpDec a vs H Q
def YT(a:Ad):Sp:=λvs H Q _=>SpDec a vs H Q
theorem ok_dec(F:Fun K "deciding" "deciding" LP f fd)(T:Top K mg a)(X:BD P w K mg base CX0 3 a.c_Clause "fits" LF (Uq a)):AK P w K mg base CX0 4 f fd LV (YT a):=by
 refine F.ok Jw D_9 λY A G s H vs Q E hr h=>?_
 obtain⟨p,l,z,r,cell,m,rfl,hR,N,hl,k⟩:=h;obtain⟨dx,t,cs,hp,O,y⟩:=hR.ex;have ln:cs.length=r.length:=K4 y;refine⟨_,(Ac (BU X5 rfl (Mr true rfl T.b_enumerate (Aa (AF (pv 0) rfl) Ab)) (Nj rfl (CS (AZ (i:=3) Jw.nd rfl O_9) (CS (AZ (i:=4) Jw.nd rfl O_9) Li))) (Af (AM (Ch (AD (pv 4) X (rm hr) Am (Aa (pv 1) (Aa (pv 2) Ab)))) (Af (Au (pv 3))) AB))) (Af (Au Cy))),?_⟩
 try dsimp only[cxK]
 refine xwf rfl rfl hp T.cl_Rule T.na_Rule_clauses fl2_2 ⟨t,rfl,⟨_,SqT.of O⟩,?_⟩;refine La (b:=true) (xs:=cs.map V.ref) (λi σ g=>AC H g/\(∃u v,σ=[some (.ref p),some (.int cell),some (.ref l),u,v])/\∀c∈r.take i,c.fits cell m=false) ⟨AC.refl H,⟨none,none,rfl⟩,λc D=>by simp at D⟩ (λi σ g _ q=>SqT.of (q.1 _ _ O)) ?_ ?_
 .rintro i x σ g T' R ⟨I,⟨u,v,rfl⟩,no⟩ nT;rw[C0]at R;obtain⟨q,eq,rfl⟩:=D6.mp R;obtain⟨c,B,D⟩:=Paired.get y eq;have C:=I.trans (Aq (o:=.tup [.int i,.ref q]) nT);have n:=D.same C;obtain⟨aa,t2,Z,h1,_⟩:=n.ex;refine QD Ag ?_;have S:=D0 B;refine xwn rfl rfl h1 (fl3_no A1 A1 A1) rfl (xq1 rfl ⟨q,l,c,cell,m,rfl,n,(N.2 c S).1,(N.2 c S).2,C _ _ hl,λW U=>(xq1 rfl ?_)⟩);cases L:c.fits cell m with
  |true =>
   refine Cz ?_;refine xq1 rfl ?_;have e:Jq r cell m=some i:=by
    unfold Jq;rw[T3];have hi:i<r.length:=(B9.mp B).1;refine⟨hi,?_,λj hj=>?_⟩
    .rw[(B9.mp B).2];exact L
    .have:=no r[j] (List.mem_take_iff_getElem.mpr ⟨j,by omega,rfl⟩);rw[this];exact D4
   have:=k W (C.trans U);rw[e]at this;exact this
  |false =>
   refine Bf ⟨C.trans U,⟨_,_,rfl⟩,λd M=>?_⟩;rw[F9,B]at M;rcases F1.mp M with z|z
   .exact no d z
   .have:d=c:=by simpa using z
    rw[this];exact L
 .rintro σ g ⟨I,⟨u,v,rfl⟩,no⟩;rw[B8,ln,J9]at no;have e:Jq r cell m=none:=by
   unfold Jq;rw[V3];exact no
  have:=k g I;rw[e]at this;exact this
inductive SpBec(a:Ad)(vs:List V)(H:Hp)(Q:VK):Prop
|mk (p l:R_) (z:Str) (r:Az) (cell:Int) (ar:I_) (_:vs=[.ref p,.int cell,.ref l]) (_:Ce a H p z r) (_:ROk r) (_:H l=some (.lst (ar.map V.int))) (_:∀H',AC H H'->Q (.int (Cm r cell ar)) H'):SpBec a vs H Q
def Vy(a:Ad):Sp:=λvs H Q _=>SpBec a vs H Q
theorem MR{r:Az}{cell:Int}{b:I_}(h:Jq r cell b=none):Cm r cell b=cell:=by
 unfold Jq at h;rw[V3]at h;unfold Cm;rw[List.find?_eq_none.mpr λc d=>by rw[h c d];exact D4]
theorem MQ{r:Az}{cell:Int}{b:I_}{i:Nat}(h:Jq r cell b=some i):∃c,r[i]?=some c/\Cm r cell b=c.makes:=by
 unfold Jq at h;rw[T3]at h;obtain⟨d,e,f⟩:=h;refine⟨r[i],C6 d,?_⟩;unfold Cm;have:r.find? (AS.fits cell b)=some r[i]:=by
  rw[List.find?_eq_some_iff_getElem];exact⟨e,i,d,rfl,λj g=>by simpa using f j g⟩
 rw[this]
theorem ok_bec(F:Fun K "becomes" "becomes" Nc f fd)(T:Top K mg a)(v:Cal P w K mg base CX0 4 "deciding" LV (YT a)):AK P w K mg base CX0 5 f fd LV (Vy a):=by
 refine F.ok OM D_9 λx A j s H vs Q E N h=>?_
 obtain⟨p,l,z,r,cell,n,rfl,u,L,I,k⟩:=h;refine⟨_,(Ac (Ao (i:=3) OM.nd rfl O_9 (Ar v (rm N) rfl Am (Aa (pv 0) (Aa (pv 1) (Aa (pv 2) Ab))))) (Ac (AM (Ay Ja (pv 3) Cy (AE _)) (Af (Au (pv 1))) AB) (Af (Au (AF (Aj An (AF (pv 0) rfl) (pv 3) R_9) rfl))))),?_⟩
 try dsimp only[cxK]
 refine xw3 rfl rfl rfl ⟨p,l,z,r,cell,n,rfl,u,L,I,λm g=>?_⟩;refine xq1 rfl ⟨rfl,(xq1 rfl ?_)⟩;cases e:Jq r cell n with
 |none =>
  refine Cz (xq1 rfl ?_);have:=k m g;rw[MR e]at this;exact this
 |some i =>
  obtain⟨c,o,C⟩:=MQ e;obtain⟨U,t,cs,M,O,d⟩:=u.ex;obtain⟨q,eq⟩:∃q,cs[i]?=some q:=by
   have R:cs.length=r.length:=K4 d;have:i<cs.length:=by rw[R];exact(B9.mp o).1
   exact⟨_,C6 this⟩
  obtain⟨S,b,G⟩:=Paired.get d eq;rw[o]at b;cases b;obtain⟨B,V,y,D,_⟩:=(G.same g).ex;refine Bf (xwf rfl rfl (g _ _ M) T.cl_Rule T.na_Rule_clauses fl2_2 (xwi rfl rfl rfl (SqT.of (g _ _ O)) (Ai (by rw[C0,eq];rfl)) (xq5 D T.cl_Clause T.na_Clause_makes fl3_3 ?_)));have:=k m g;rw[C]at this;exact this
end
def sgD(d:Int):Str:=⟨#[48+d.toNat]⟩
def wC:Option Int->Nat
|none=>42
|some d=>48+d.toNat
def wS(x:Option Int):Str:=⟨#[wC x]⟩
def DP(ns:I_):Str:=⟨(ns.map λn=>48+n.toNat).toArray⟩
def Ba:AX->Str
|.am s ns=>sgD s++⟨#[61]⟩++DP ns
|.pl ws=>⟨(ws.map wC).toArray⟩
def Bg(c:AS):Str:=Str.join ⟨#[32]⟩ (wS c.cell::(c.conds.map Ba++[sgD c.makes]))
def NT:Str:=⟨#[59,32]⟩
def Bc(r:Az):Str:=Str.join NT (r.map Bg)
def Ie(d:Int):Prop:=0<=d/\d<8
def wOk:Option Int->Prop
|none=>True
|some d=>Ie d
def AX.ok:AX->Prop
|.am s ns=>Ie s/\ns≠[]/\(∀n∈ns,0<=n/\n<=8)/\ns.Pairwise (· < ·)
|.pl ws=>ws.length=8/\∀w∈ws,wOk w
structure AS.ok(c:AS):Prop where
cell:wOk c.cell
makes:Ie c.makes
few:c.conds.length<=50
conds:∀d∈c.conds,d.ok
theorem eight{d:Int}(h:Ie d):d=0\/d=1\/d=2\/d=3\/d=4\/d=5\/d=6\/d=7:=by
 obtain⟨m,rfl⟩:=F8 h.1;have a:=h.2;exact(show ∀m:Nat,m<8->((m:Int)=0\/(m:Int)=1\/(m:Int)=2\/(m:Int)=3\/(m:Int)=4\/(m:Int)=5\/(m:Int)=6\/(m:Int)=7) by decide) m A0
abbrev figs8:Str:=Str.ofString "01234567"
abbrev figs9:Str:=Str.ofString "012345678"
theorem YC{d:Int}(h:Ie d):PySem.intText? (sgD d)=some d/\(!(Builtin.Str.occurrences figs8 (sgD d) 0 figs8.length 1).isEmpty)=true:=by
 rcases eight h with rfl|rfl|rfl|rfl|rfl|rfl|rfl|rfl<;>exact⟨by decide +kernel,by decide +kernel⟩
theorem nine{d:Int}(a:0<=d)(b:d<=8):d=0\/d=1\/d=2\/d=3\/d=4\/d=5\/d=6\/d=7\/d=8:=by
 obtain⟨m,rfl⟩:=F8 a;exact(show ∀m:Nat,m<9->((m:Int)=0\/(m:Int)=1\/(m:Int)=2\/(m:Int)=3\/(m:Int)=4\/(m:Int)=5\/(m:Int)=6\/(m:Int)=7\/(m:Int)=8) by decide) m A0
theorem am_facts{d:Int}(a:0<=d)(b:d<=8):PySem.intText? (⟨#[48+d.toNat]⟩:Str)=some d/\(!(Builtin.Str.occurrences figs9 (⟨#[48+d.toNat]⟩:Str) 0 figs9.length 1).isEmpty)=true:=by
 rcases nine a b with rfl|rfl|rfl|rfl|rfl|rfl|rfl|rfl|rfl<;>exact⟨by decide +kernel,by decide +kernel⟩
theorem star_no{d:Int}(h:Ie d):decide (V.str (wS (some d))=V.str (Str.ofString "*"))=false:=by
 rcases eight h with rfl|rfl|rfl|rfl|rfl|rfl|rfl|rfl<;>decide +kernel
theorem Qp{x:Option Int}(h:wOk x):wC x≠61/\wC x≠32/\wC x≠59:=by
 cases x with
 |none=>exact⟨by decide,by decide,by decide⟩
 |some d =>
  have:=h.1;have:=h.2;show 48+d.toNat≠61/\48+d.toNat≠32/\48+d.toNat≠59;refine⟨?_,?_,?_⟩<;>lia
theorem QL{d:AX}(h:d.ok):32∉(Ba d).cps.toList/\59∉(Ba d).cps.toList:=by
 cases d with
 |am s ns =>
  obtain⟨⟨g,i⟩,_,c,_⟩:=h;have e:(Ba (.am s ns)).cps.toList=(48+s.toNat)::61::ns.map λn=>48+n.toNat:=by
   show(sgD s++⟨#[61]⟩++DP ns).cps.toList=_;rw[Tx.CM,Tx.CM];rfl
  rw[e];constructor
  .intro z;rcases C2.mp z with z|z
   .lia
   .rcases C2.mp z with z|z
    .lia
    .obtain⟨n,a,e⟩:=F0.mp z;have:=c n a;lia
  .intro z;rcases C2.mp z with z|z
   .lia
   .rcases C2.mp z with z|z
    .lia
    .obtain⟨n,a,e⟩:=F0.mp z;have:=c n a;lia
 |pl f =>
  have e:(Ba (.pl f)).cps.toList=f.map wC:=rfl;rw[e];constructor
  .intro z;obtain⟨x,b,e⟩:=F0.mp z;exact(Qp (h.2 x b)).2.1 e
  .intro z;obtain⟨x,b,e⟩:=F0.mp z;exact(Qp (h.2 x b)).2.2 e
theorem Oy:∀(ns:I_)(lo:Int),lo<=9->(∀n∈ns,lo<=n/\n<=8)->ns.Pairwise (· < ·)->(ns.length:Int)<=9-lo
|[],lo,h,_,_=>by show(0:Int)<=9-lo;lia
|n::r,lo,_,hn,hp=>by
 have b:=hn n C8;have c:=Oy r (n+1) A0 (λm a=>⟨by have:=(List.pairwise_cons.mp hp).1 m a;lia,(hn m (C7 _ a)).2⟩) (List.pairwise_cons.mp hp).2;rw[D7];lia
theorem MO{d:AX}(h:d.ok):(Ba d).length<=11:=by
 cases d with
 |am s ns =>
  obtain⟨_,_,a,b⟩:=h;have e:=Oy ns 0 A4 a b;rw[Nu.len];show(sgD s++⟨#[61]⟩++DP ns).cps.toList.length<=11;rw[Tx.CM,Tx.CM,C5,C5];show 1+1+(ns.map λn=>48+n.toNat).length<=11;rw[B8];lia
 |pl c =>
  rw[Nu.len];show(c.map wC).length<=11;rw[B8,h.1];decide
section
variable{P:N_}{w:Q_}{K:O_}{mg:C_}{base:T_}{a:Ad}
theorem Vn(K:O_):kitOne K (.type "str") (.type "str")=some true:=by kernel_rfl
inductive SpRS(vs:List V)(H:Hp)(Q:VK):Prop
|mk (d:Int) (_:vs=[.str (sgD d)]) (_:Ie d) (_:Q (.int d) H):SpRS vs H Q
def YF:Sp:=λvs H Q _=>SpRS vs H Q
theorem ok_rs(F:Fun K "read_state" "read_state" Ir f fd)(T:Top K mg a):AK P w K mg base CX0 1 f fd RD YF:=by
 refine F.ok PU D_9 λc A b s H vs Q E j h=>?_
 obtain⟨d,rfl,i,k⟩:=h;obtain⟨e,g⟩:=YC i;refine⟨_,(Ac (AM (PW.pt (Jo (Ay Dk (AO Jg rfl T.b_len K9 (Aa (pv 0) Ab)) Ae (AE _)) (Fl (Ay Mu (pv 0) (Oo rfl T.k_STATE_FIGURES) rfl)))) (Af Bh) AB) (Af (Au (Bo Ia rfl T.b_int A1f (Aa (pv 0) Ab))))),?_⟩
 try dsimp only[cxK]
 refine xw2 rfl rfl ⟨S_1,rfl,(xq1 rfl ?_)⟩;refine JY rfl (xwb rfl rfl rfl (xq1 rfl ?_));rw[g];exact Bf (xq1 rfl ⟨_,d,rfl,e,(by show 1<=640;decide),k⟩)
inductive SpRW(vs:List V)(H:Hp)(Q:VK):Prop
|mk (x:Option Int) (_:vs=[.str (wS x)]) (_:wOk x) (_:Q (GY x) H):SpRW vs H Q
def spRW:Sp:=λvs H Q _=>SpRW vs H Q
theorem ok_rw(F:Fun K "read_wanted" "read_wanted" GI f fd)(T:Top K mg a)(e:Cal P w K mg base CX0 1 "read_state" RD YF):AK P w K mg base CX0 2 f fd RD spRW:=by
 refine F.ok OJ D_9 λg A b s H vs Q E i h=>?_
 obtain⟨x,rfl,c,k⟩:=h;refine⟨_,(Ac (AM (Ay CG (pv 0) (Oo rfl T.k_ANY_SIGN) (AE _)) (Af (Au Cy)) AB) (Af (Au (Ar e (rm i) rfl Am (Aa (pv 0) Ab))))),?_⟩
 try dsimp only[cxK]
 refine xq1 rfl ⟨rfl,(xq1 rfl ?_)⟩;cases x with
 |none=>exact Cz k
 |some d =>
  rw[star_no c];exact Bf (xq1 rfl ⟨d,rfl,c,k⟩)
inductive SpRN(vs:List V)(H:Hp)(Q:VK):Prop
|mk (ns:I_) (_:vs=[.str (DP ns)]) (_:ns≠[]) (_:ns.length<=100) (_:(∀n∈ns,0<=n/\n<=8)) (_:ns.Pairwise (· < ·)) (_:∀(t:R_)(H':Hp),AC H H'->H' t=some (.tup (ns.map V.int))->Q (.ref t) H'):SpRN vs H Q
def spRN:Sp:=λvs H Q _=>SpRN vs H Q
theorem ok_rn(F:Fun K "read_numbers" "read_numbers" FJ f fd)(T:Top K mg a):AK P w K mg base CX0 1 f fd FU spRN:=by
 refine F.ok Fd D_9 λL A q s H vs Q E Y h=>?_
 obtain⟨ns,rfl,o,C,G,S,k⟩:=h;have N:(DP ns).length=ns.length:=by rw[Nu.len];show(ns.map _).length=_;rw[B8]
 have u:(DP ns).cps.toList=ns.map λn=>48+n.toNat:=rfl;have pos:0<ns.length:=U2.mpr o;refine⟨_,(Ac (AM (Ay CG (AO Jg rfl T.b_len K9 (Aa (pv 0) Ab)) Ae (AE _)) (Af Bh) AB) (Ac (Ao (i:=1) Fd.nd rfl O_9 (Cb Ab)) (Ac (BU X5 rfl (Zd (pv 0)) (AZ (i:=2) Fd.nd rfl O_9) (Ac (AM (Ay Mu (pv 2) (Oo rfl T.k_AMOUNT_FIGURES) rfl) (Af Bh) AB) (Ac (AM (PW.pt (JC (Ay Pc (AO BC rfl T.b_len K9 (Aa (pv 1) Ab)) Ae (AE _)) (Gw (Ay JM (Bo Ia rfl T.b_int A1f (Aa (pv 2) Ab)) (Aj Ax (pv 1) (LA GC Ae) R_9) (AE _))))) (Af Bh) AB) (Af (Bm (CF X7 X8 X9 Bw (pv 1) (Aa (Bo Ia rfl T.b_int A1f (Aa (pv 2) Ab)) Ab))))))) (Af (Au (Bo Cp rfl T.b_tuple A0b (Aa (pv 1) Ab))))))),?_⟩
 try dsimp only[cxK]
 refine xw2 rfl rfl ⟨(by rw[N];exact D1 C A4),rfl,(xq1 rfl ?_)⟩;have X:decide (V.int ((DP ns).length:Int)=V.int 0)=false:=Z8 λz=>by
  injection z with z
  lia
 rw[X];refine Bf ⟨S_0,λl m=>?_⟩;refine xw2 rfl rfl ?_;refine for_str (λi σ c=>∃v,σ=[some (.str (DP ns)),some (.ref l),v]/\c=upd H l (.lst ((ns.take i).map V.int))) ⟨none,rfl,rfl⟩ ?_ ?_
 .rintro i ch σ c j ⟨v,rfl,rfl⟩;have b:(ns.map λn=>48+n.toNat)[i]?=some ch:=by rw[<-u];simpa using j
  rw[C0]at b;obtain⟨n,d,rfl⟩:=D6.mp b;have I:=D0 d;obtain⟨y,O⟩:=am_facts (G n I).1 (G n I).2;have B:i<ns.length:=(B9.mp d).1;have r:(ns.take i).length=i:=by rw[M5];lia
  refine xwb rfl rfl rfl (xq1 rfl ?_);rw[O];refine Bf (xq1 rfl ⟨l,(xq1 rfl ⟨.inl (SqL.of Ag),(xq2 rfl rfl (xq1 rfl ?_))⟩)⟩);have nx:∃v,([some (V.str (DP ns)),some (.ref l),some (.str ⟨#[48+n.toNat]⟩)]:St)=[some (.str (DP ns)),some (.ref l),v]/\upd (upd H l (.lst ((ns.take i).map V.int))) l (.lst ((ns.take i).map V.int++[V.int n]))=upd H l (.lst ((ns.take (i+1)).map V.int)):=by
   refine xq1 rfl ?_;rw[Go,F9,d,C4];rfl
  have app:tDrop (tBM K "list" VG (Id 1) (CP (tCB (λxs H Q=>∃x n,xs=[.str x]/\PySem.intText? x=some n/\x.length<=640/\Q (.int n) H) (CP (Id 2) PP)) PP))
    {nx:=fun σ c=>∃v,σ=[some (.str (DP ns)),some (.ref l),v]/\c=upd H l (.lst ((ns.take (i+1)).map V.int)),rt:=Q,bk:=λ_ _=>False,ct:=fun σ c=>∃v,σ=[some (.str (DP ns)),some (.ref l),v]/\c=upd H l (.lst ((ns.take (i+1)).map V.int))}
    [some (.str (DP ns)),some (.ref l),some (.str ⟨#[48+n.toNat]⟩)] (upd H l (.lst ((ns.take i).map V.int))) :=
   ⟨_,rfl,.inl ⟨rfl,_,SqL.of Ag⟩,_,rfl,_,n,rfl,y,(by show 1<=640;decide),l,_,_,rfl,rfl,Ag,(by rw[B8,r];exact F2 B (D1 C A4)),nx⟩
  by_cases W:i=0
  .subst W;exact Bf app
  .have Z:0<i:=by lia
   have p:decide ((0:Int)<(((ns.take i).map V.int).length:Int))=true:=Z7 (by rw[B8,r];lia);rw[p];have D:i-1<ns.length:=by lia
   have R:ns[i-1]<n:=by
    have:=List.pairwise_iff_getElem.mp S (i-1) i D B A0;rw[(B9.mp d).2]at this;exact this
   have g:atI ((ns.take i).map V.int) (-1)=some (V.int ns[i-1]):=by
    have:((ns.take i).map V.int)[i-1]?=some (V.int ns[i-1]):=by
     rw[C0,V7 A0,C6 D];rfl
    have M:((ns.take i).map V.int).length=i:=by rw[B8,r]
    unfold atI ixN;rw[M,Z6 A4,Z9 A0];show((ns.take i).map V.int)[((-1:Int)+(i:Nat)).toNat]?=_;rw[show((-1:Int)+(i:Nat)).toNat=i-1 by lia];exact this
   refine Cz (xq1 rfl ⟨_,n,rfl,y,(by show 1<=640;decide),(xw2 rfl rfl ⟨l,_,(xq2 rfl rfl ⟨SqL.of Ag,g,(xq2 rfl rfl (xq1 rfl ?_))⟩)⟩)⟩);rw[Z8 (by lia:¬n<=ns[i-1])];exact Bf app
 .rintro σ c ⟨v,rfl,rfl⟩;have e:(DP ns).cps.size=ns.length:=by
   have:(DP ns).cps.toList.length=ns.length:=by rw[u,B8]
   simpa using this
  rw[e,J9];refine xq1 rfl ⟨l,(xq1 rfl (.inl ⟨SqL.of Ag,λt U=>?_⟩))⟩;exact k t _ ((Aq m).trans (Aq U)) Ag
theorem eq_in(x:Str):(!(Builtin.Str.occurrences x (Str.ofString "=") 0 x.length 1).isEmpty)=decide (61∈x.cps.toList):=by
 have:Str.ofString "=" = (⟨#[61]⟩:Str):=by decide +kernel
 rw[this];exact StrLaws.found_one x 61
inductive Wl(a:Ad)(vs:List V)(H:Hp)(Q:VK):Prop
|mk (d:AX) (_:vs=[.str (Ba d)]) (_:d.ok) (_:∀(p:R_)(H':Hp),AC H H'->Dx a H' p d->Q (.ref p) H'):Wl a vs H Q
def Re(a:Ad):Sp:=λvs H Q _=>Wl a vs H Q
inductive SpRAm(a:Ad)(vs:List V)(H:Hp)(Q:VK):Prop
|mk (s:Int) (ns:I_) (_:vs=[.str (Ba (.am s ns))]) (_:(AX.am s ns).ok) (_:∀(p:R_)(H':Hp),AC H H'->Dx a H' p (.am s ns)->Q (.ref p) H'):SpRAm a vs H Q
def YH(a:Ad):Sp:=λvs H Q _=>SpRAm a vs H Q
theorem ok_ram(F:Fun K "read_amounts" "read_amounts" FK f fd)(T:Top K mg a)(D:Cal P w K mg base CX0 1 "read_state" RD YF)(G:Cal P w K mg base CX0 1 "read_numbers" FU spRN)
 (I:Sx P w K mg base CX0 1 "Amounts" a.c_Amounts Pp (OG a)):AK P w K mg base CX0 3 f fd RD (YH a):=by
 refine F.ok Jk D_9 λL A p s H vs Q E m h=>?_
 obtain⟨d,ns,rfl,v,k⟩:=h;have r:=MO v;obtain⟨q,l,u,y⟩:=v;have R:=Oy ns 0 A4 u y;have j:Str.ofString "=" = (⟨#[61]⟩:Str):=by decide +kernel
 have M:Txt.partition (Ba (.am d ns)) (Str.ofString "=")=(sgD d,⟨#[61]⟩,DP ns):=by
  rw[j];refine Tx.IK 61 (sgD d) (DP ns) ?_;intro z;have:61=48+d.toNat:=by simpa[sgD] using z
  have:=q.2;lia
 refine⟨_,(Ac (Ao (i:=1) Jk.nd rfl O_9 (CF A0e PySem.F.slot_str_partition PySem.F.type_str_partition RQ (pv 0) (LT Ab))) (Af (Au (IJ I (rm m) rfl Am (Aa (Ar D (rm m) rfl Am (Aa (Aj An (pv 1) Ae R_9) Ab)) (Aa (Ar G (rm m) rfl Am (Aa (Aj An (pv 1) Ae R_9) Ab)) Ab)))))),?_⟩
 try dsimp only[cxK]
 refine xq1 rfl ⟨rfl,(xq2 rfl rfl ⟨A1,A0,λt N=>?_⟩)⟩;rw[M];refine xq1 rfl ⟨t,_,0,(xq1 rfl ⟨rfl,SqT.of Ag,rfl,d,rfl,q,(xq1 rfl ⟨t,_,2,(xq1 rfl ⟨rfl,SqT.of Ag,rfl,ns,rfl,l,by lia,u,y,λC c O n=>?_⟩)⟩)⟩)⟩;intro x b nx e g;have S:AC c (upd (upd c b (.own x)) x (.ins a.c_Amounts b [])):=(Aq e).trans (Aq (by rw[Av (X6 g)];exact nx));refine⟨x,C,b,d,rfl,Ag,rfl,?_⟩;have o:(upd c b (.own x)) x=none:=by rw[Av (X6 g)];exact nx
 rw[Go];have B:AC c (upd (upd c b (.own x)) x (.ins a.c_Amounts b (fl2 "state" "numbers" (.int d) (.ref C)))):=(Aq e).trans (Aq o);exact k x _ (((Aq N).trans O).trans B) (.am Ag (B _ _ n))
inductive SpRPl(a:Ad)(vs:List V)(H:Hp)(Q:VK):Prop
|mk (ws:List (Option Int)) (_:vs=[.str (Ba (.pl ws))]) (_:(AX.pl ws).ok) (_:∀(p:R_)(H':Hp),AC H H'->Dx a H' p (.pl ws)->Q (.ref p) H'):SpRPl a vs H Q
def YG(a:Ad):Sp:=λvs H Q _=>SpRPl a vs H Q
theorem ok_rpl(F:Fun K "read_places" "read_places" EJ f fd)(T:Top K mg a)(C:Cal P w K mg base CX0 2 "read_wanted" RD spRW)
 (G:Sx P w K mg base CX0 1 "Places" a.c_Places Qg (OC a)):AK P w K mg base CX0 3 f fd RD (YG a):=by
 refine F.ok OK D_9 λD A p s H vs Q E z h=>?_
 obtain⟨b,rfl,y,k⟩:=h;have g:=MO y;obtain⟨v,M⟩:=y;have I:(Ba (.pl b)).length=8:=by rw[Nu.len];show(b.map wC).length=8;rw[B8,v]
 have r:(Ba (.pl b)).cps.toList=b.map wC:=rfl;refine⟨_,(Ac (AM (Ay Dk (AO Jg rfl T.b_len K9 (Aa (pv 0) Ab)) (BV rfl T.k_NEIGHBOURS) (AE _)) (Af Bh) AB) (Af (Au (IJ G (rm z) rfl Am (Aa (Bo Cp rfl T.b_tuple A0b (Aa (BW rfl (Bz.of (So:=Ah EJ) (No:=RD) (N:=["sign"]) (k:=1) (cs:=[]) rfl rfl A1) (Zd (pv 0)) (λ_ _ _=>(Bd (i:=0) A1 rfl rfl)) (λ_ _ _=>BG) (λ_ _ _=>(Ar C (rm z) rfl Am (Aa (pv 0) Ab)))) Ab)) Ab))))),?_⟩
 try dsimp only[cxK]
 refine xw2 rfl rfl ⟨D1 g A4,rfl,(xq1 rfl ?_)⟩;rw[I];refine JY rfl (xw2 rfl rfl ?_);refine blk_str (λi d c=>c=H/\d=(b.take i).map GY) ⟨rfl,rfl⟩ ?_ ?_
 .rintro i ch d c e ⟨rfl,rfl⟩;rw[r,C0]at e;obtain⟨x,u,rfl⟩:=D6.mp e;refine⟨⟨[some (.str ⟨#[wC x]⟩)],rfl,rfl⟩,?_,?_⟩
  .rw[B8,M5];exact F3 (P5 _ _) (by rw[v];decide)
  .refine Gm (xq1 rfl ⟨x,rfl,M x (D0 u),rfl,?_⟩);rw[F9,u,C4];rfl
 .rintro d c ⟨rfl,rfl⟩ q O;rw[r,B8,J9];refine⟨q,(xq1 rfl (.inl ⟨SqL.of Ag,λt L=>?_⟩))⟩;intro x j nx l m;have n:∀o,(upd (upd (upd c q (.lst (b.map GY))) t (.tup (b.map GY))) j o) x=none:=λo=>by rw[Av (X6 m)];exact nx
  refine⟨x,t,j,rfl,Ag,rfl,?_⟩;rw[Go];have R:AC c (upd (upd c q (.lst (b.map GY))) t (.tup (b.map GY))):=(Aq O).trans (Aq L);have B:AC (upd (upd c q (.lst (b.map GY))) t (.tup (b.map GY))) (upd (upd (upd (upd c q (.lst (b.map GY))) t (.tup (b.map GY))) j (.own x)) x (.ins a.c_Places j (fl1 "wanted" (.ref t)))):=(Aq l).trans (Aq (n _));exact k x _ (R.trans B) (.pl Ag (B _ _ Ag))
theorem Zr(F:Fun K "read_condition" "read_condition" Ew f fd)(T:Top K mg a)(j:Cal P w K mg base CX0 3 "read_amounts" RD (YH a))(l:Cal P w K mg base CX0 3 "read_places" RD (YG a)) :
 AK P w K mg base CX0 4 f fd RD (Re a):=by
 refine F.ok Mg D_9 λn A c s H vs Q E i h=>?_
 obtain⟨d,rfl,b,k⟩:=h;refine⟨_,(Ac (AM (Ay WF Da (pv 0) rfl) (Af (Au (Ar j (rm i) rfl Am (Aa (pv 0) Ab)))) AB) (Af (Au (Ar l (rm i) rfl Am (Aa (pv 0) Ab))))),?_⟩
 try dsimp only[cxK]
 refine xwb rfl rfl rfl (xq1 rfl ?_);rw[eq_in];cases d with
 |am s ns =>
  have m:61∈(Ba (.am s ns)).cps.toList:=by
   show 61∈(sgD s++⟨#[61]⟩++DP ns).cps.toList;rw[Tx.CM,Tx.CM];simp
  rw[Z7 m];exact Cz (xq1 rfl ⟨s,ns,rfl,b,k⟩)
 |pl g =>
  have m:¬61∈(Ba (.pl g)).cps.toList:=λz=>by
   obtain⟨x,o,e⟩:=F0.mp (show 61∈g.map wC from z);exact(Qp (b.2 x o)).1 e
  rw[Z8 m];exact Bf (xq1 rfl ⟨g,rfl,b,k⟩)
inductive SpRC(a:Ad)(vs:List V)(H:Hp)(Q:VK):Prop
|mk (c:AS) (_:vs=[.str (Bg c)]) (_:c.ok) (_:∀(p:R_)(H':Hp),AC H H'->Cf a H' p c->Q (.ref p) H'):SpRC a vs H Q
def spRC(a:Ad):Sp:=λvs H Q _=>SpRC a vs H Q
theorem Jf{c:AS}(h:c.ok):(Bg c).length<=1000:=by
 have j:=StrLaws.join_length_le ⟨#[32]⟩ (wS c.cell::(c.conds.map Ba++[sgD c.makes]));have b:∀l:List AX,(∀d∈l,d.ok)->((l.map Ba).map (·.length)).sum<=11*l.length:=by
  intro l;induction l with
  |nil=>intro _;exact J0 _
  |cons d r k =>
   intro f;have q:=MO (f d C8);have s:=k λe i=>f e (C7 _ i);simp only[F7,P3,D7];lia
 have p:=b c.conds h.conds;have g:=h.few;simp only[F7,C4,Z3,P3,List.sum_append,List.sum_nil,D7,C5,T0,B8]at j;have m:(wS c.cell).length=1:=rfl;have n:(sgD c.makes).length=1:=rfl;have o:(⟨#[32]⟩:Str).length=1:=rfl;rw[m,n,o]at j;unfold Bg;lia
theorem Lr(x:Option Int)(h:wOk x):32∉(wS x).cps.toList/\59∉(wS x).cps.toList:=by
 have:=Qp h;constructor
 .intro z;have:32=wC x:=by simpa[wS] using z
  exact(Qp h).2.1 this.symm
 .intro z;have:59=wC x:=by simpa[wS] using z
  exact(Qp h).2.2 this.symm
theorem Sh{c:AS}(h:c.ok):Txt.split (Bg c) (Str.ofString " ")=wS c.cell::(c.conds.map Ba++[sgD c.makes]):=by
 have e:Str.ofString " " = (⟨#[32]⟩:Str):=by decide +kernel
 rw[e];refine Tx.SM 32 _ A6 λt b=>?_;rcases C2.mp b with rfl|b
 .exact(Lr _ h.cell).1
 .rcases F1.mp b with b|b
  .obtain⟨d,f,rfl⟩:=F0.mp b;exact(QL (h.conds d f)).1
  .rw[C9.mp b];exact(Lr (some c.makes) h.makes).1
theorem cut_mid(x z:V)(ys:List V):Sg (x::(ys++[z])) (some 1) (some (-1))=ys:=by
 have n:(x::(ys++[z])).length=ys.length+2:=by simp
 unfold Sg;rw[n];have b:HT.sIx (ys.length+2) 0 (some 1)=1:=by
  show(if(1:Int)<0 then((1:Int)+((ys.length+2:Nat):Int)).toNat else min (1:Int).toNat (ys.length+2))=1;rw[Z6 A4];show min 1 (ys.length+2)=1;lia
 have c:HT.sIx (ys.length+2) (ys.length+2) (some (-1))=ys.length+1:=by
  show(if(-1:Int)<0 then((-1:Int)+((ys.length+2:Nat):Int)).toNat else min (-1:Int).toNat (ys.length+2))=ys.length+1;rw[Z9 A4];lia
 rw[b,c];show(ys++[z]).take (ys.length+1-1)=ys;rw[Nat.add_sub_cancel,List.take_left' rfl]
theorem at_last(x:V)(ys:List V)(z:V):atI (x::(ys++[z])) (-1)=some z:=by
 have n:(x::(ys++[z])).length=ys.length+2:=by simp
 unfold atI ixN;rw[n,Z6 A4,Z9 A0];show(x::(ys++[z]))[((-1:Int)+((ys.length+2:Nat):Int)).toNat]?=some z;rw[show((-1:Int)+((ys.length+2:Nat):Int)).toNat=ys.length+1 by lia,W0,J6 (C1 _),U4];rfl
theorem ok_rc(F:Fun K "read_clause" "read_clause" EK f fd)(T:Top K mg a)(aP:Cal P w K mg base CX0 1 "read_state" RD YF)(aX:Cal P w K mg base CX0 2 "read_wanted" RD spRW)
 (bD:Cal P w K mg base CX0 4 "read_condition" RD (Re a)) (dB:Sx P w K mg base CX0 1 "Clause" a.c_Clause Qk (OF a)):AK P w K mg base CX0 5 f fd GR (spRC a):=by
 refine F.ok DU D_9 λad A aa s H vs Q E L h=>?_
 obtain⟨c,rfl,y,k⟩:=h;have ac:=Jf y;have M:=y.few;refine⟨_,(Ac (AM (CZ (Ch (AO Fa rfl T.b_isinstance K8 (Aa (pv 0) (Aa (Gx (v:=.ty "str") rfl T.b_str A0a rfl) Ab))))) (Af Bh) AB) (Ac (Ao (i:=1) DU.nd rfl O_9 (CF A0e PySem.F.slot_str_split PySem.F.type_str_split Tr (pv 0) (LT Ab))) (Ac (AM (Ay Ih (AO BC rfl T.b_len K9 (Aa (pv 1) Ab)) Ae (AE _)) (Af Bh) AB) (Ac (Ao (i:=2) DU.nd rfl O_9 (Ar aX (rm L) rfl Am (Aa (Aj Ax (pv 1) Ae R_9) Ab))) (Ac (Ao (i:=3) DU.nd rfl O_9 (Bo Cp rfl T.b_tuple A0b (Aa (BW rfl (Bz.of (So:=Ah EK) (No:=LD) (N:=["word"]) (k:=1) (cs:=[]) rfl rfl A1) (Cg (OX Rn (pv 1) (On Ae) (On (LA GC Ae)))) (λ_ _ _=>(Bd (i:=0) A1 rfl rfl)) (λ_ _ _=>BG) (λ_ _ _=>(Ar bD (rm L) rfl Am (Aa (pv 0) Ab)))) Ab))) (Af (Au (IJ dB (rm L) rfl Am (Aa (pv 2) (Aa (pv 3) (Aa (Ar aP (rm L) rfl Am (Aa (Aj Ax (pv 1) (LA GC Ae) R_9) Ab)) Ab))))))))))),?_⟩
 try dsimp only[cxK]
 refine xq1 rfl ⟨_,_,_,.type "str",true,rfl,rfl,.of (.str _),Vn K,true,rfl,?_⟩;refine Bf (xq1 rfl ⟨rfl,(xq2 rfl rfl ⟨A1,A0,λl hl=>?_⟩)⟩);rw[Sh y];have eW:((wS c.cell::(c.conds.map Ba++[sgD c.makes])).map V.str)=V.str (wS c.cell)::((c.conds.map λd=>V.str (Ba d))++[V.str (sgD c.makes)]):=by
  rw[F7,C4,M7];rfl
 rw[eW];have hL:∀o,upd H l o l=some o:=λo=>Ag;refine xq1 rfl ⟨l,(xq1 rfl ⟨.inl (SqL.of Ag),(xq2 rfl rfl (xq1 rfl ?_))⟩)⟩;rw[Z8 (by simp;lia:¬((((V.str (wS c.cell)::((c.conds.map λd=>V.str (Ba d))++[V.str (sgD c.makes)])).length:Nat):Int)<2))];refine Bf (xwi rfl rfl rfl (SqL.of Ag) (Ai (j:=0) rfl) ⟨c.cell,rfl,y.cell,?_⟩);refine xw3 rfl rfl rfl (xq1 rfl ⟨l,(xq1 rfl ⟨SqL.of Ag,λq R=>⟨q,rfl,⟨_,SqL.of Ag⟩,?_⟩⟩)⟩);rw[cut_mid];have s0:AC H (upd (upd H l (.lst (V.str (wS c.cell)::((c.conds.map λd=>V.str (Ba d))++[V.str (sgD c.makes)])))) q (.lst (c.conds.map λd=>V.str (Ba d)))):=(Aq hl).trans (Aq R);have Y:l≠q:=λz=>by rw[<-z,Ag]at R;cases R
 generalize m:upd (upd H l (.lst (V.str (wS c.cell)::((c.conds.map λd=>V.str (Ba d))++[V.str (sgD c.makes)])))) q (.lst (c.conds.map λd=>V.str (Ba d)))=C;rw[m]at s0;have S:C q=some (.lst (c.conds.map λd=>V.str (Ba d))):=by rw[<-m];exact Ag
 have O:C l=some (.lst (V.str (wS c.cell)::((c.conds.map λd=>V.str (Ba d))++[V.str (sgD c.makes)]))):=by rw[<-m,Av Y];exact Ag
 refine Dp (xs:=c.conds.map λd=>V.str (Ba d)) (λi e g=>∃b:List Addr,e=b.map V.ref/\AC C g/\Paired (Dx a g) b (c.conds.take i)) ⟨[],rfl,AC.refl C,.nil⟩ (λi e g _ ⟨b,_,I,_⟩=>SqL.of (I _ _ S)) ?_ ?_
 .rintro i x e g hx ⟨b,rfl,I,G⟩;rw[C0]at hx;obtain⟨d,ed,rfl⟩:=D6.mp hx;refine⟨⟨[some (.str (Ba d))],rfl,rfl⟩,?_,?_⟩
  .have e1:=K4 G;rw[M5]at e1;rw[B8,e1];exact F3 (P5 _ _) (F3 M A4)
  .refine Gm (xq1 rfl ⟨d,rfl,y.conds d (D0 ed),λp u B hp=>⟨b++[p],by rw[C4];rfl,I.trans B,?_⟩⟩);rw[F9,ed];exact A1c (Paired.imp (λ_ _ z=>z.same B) G) hp
 .rintro e g ⟨b,rfl,I,G⟩ r nr;rw[B8,J9]at G;refine⟨r,(xq1 rfl (.inl ⟨SqL.of Ag,λt ht=>?_⟩))⟩;have B:AC C (upd (upd g r (.lst (b.map V.ref))) t (.tup (b.map V.ref))):=(I.trans (Aq nr)).trans (Aq ht);generalize n:upd (upd g r (.lst (b.map V.ref))) t (.tup (b.map V.ref))=u;have U:u t=some (.tup (b.map V.ref)):=by rw[<-n];exact Ag
  have ab:AC g u:=by rw[<-n];exact(Aq nr).trans (Aq ht)
  rw[n]at B;refine xw3 rfl rfl rfl (xq1 rfl ⟨l,_,(xq2 rfl rfl ⟨SqL.of (B _ _ O),at_last _ _ _,c.makes,rfl,y.makes,?_⟩)⟩);intro x D nx W X;have Z:∀o,(upd u D o) x=none:=λo=>by rw[Av (X6 X)];exact nx
  refine⟨x,t,D,c.cell,c.makes,rfl,Ag,rfl,?_⟩;rw[Go];have s4:AC u (upd (upd u D (.own x)) x (.ins a.c_Clause D (fl3 "cell" "conditions" "makes" (GY c.cell) (.ref t) (.int c.makes)))):=(Aq W).trans (Aq (Z _));exact k x _ ((s0.trans B).trans s4) ⟨D,t,b,Ag,s4 _ _ U,Paired.imp (λ_ _ z=>(z.same ab).same s4) G⟩
theorem TK{c:AS}(h:c.ok):59∉(Bg c).cps.toList:=by
 intro z;unfold Bg at z;rw[PyProof.Rows.mem_join]at z;rcases z with ⟨t,b,z⟩|⟨_,z⟩
 .rcases C2.mp b with rfl|b
  .exact(Lr _ h.cell).2 z
  .rcases F1.mp b with b|b
   .obtain⟨d,e,rfl⟩:=F0.mp b;exact(QL (h.conds d e)).2 z
   .rw[C9.mp b]at z;exact(Lr (some c.makes) h.makes).2 z
 .have:59=32:=by simpa using z
  lia
end
structure Fb(r:Az):Prop where
few:r.length<=50
ok:∀c∈r,c.ok
theorem Fb.rok{r:Az}(h:Fb r):ROk r:=⟨D1 h.few A4,λc a=>⟨D1 (h.ok c a).few A4,λd b f e=>by
 subst e;rw[((h.ok c a).conds _ b).1];decide⟩⟩
theorem SY{r:Az}(h:Fb r):(Bc r).length<=60000:=by
 have j:=StrLaws.join_length_le NT (r.map Bg);have b:∀l:List AS,(∀c∈l,c.ok)->((l.map Bg).map (·.length)).sum<=1000*l.length:=by
  intro l;induction l with
  |nil=>intro _;exact J0 _
  |cons d r i =>
   intro a;have n:=Jf (a d C8);have o:=i λe g=>a e (C7 _ g);simp only[F7,P3,D7];omega
 have m:=b r h.ok;have f:=h.few;have k:NT.length=2:=rfl;rw[k,B8]at j;unfold Bc;omega
theorem VC{r:Az}(h:r≠[]):decide (V.str (Bc r)=V.str (Str.ofString ""))=false:=by
 refine Z8 λz=>?_;injection z with z
 obtain⟨c,b⟩:=List.exists_mem_of_ne_nil r h;have d:=PySem.join_mem_le NT (r.map Bg) (Bg c) (F0.mpr ⟨c,b,rfl⟩);have e:=PySem.join_mem_le ⟨#[32]⟩ (wS c.cell::(c.conds.map Ba++[sgD c.makes])) (wS c.cell) C8;have f:(wS c.cell).length=1:=rfl;have a:(Bc r).length=0:=by rw[z];decide +kernel
 unfold Bc at a;have g:(Bg c).length=(Str.join ⟨#[32]⟩ (wS c.cell::(c.conds.map Ba++[sgD c.makes]))).length:=rfl;omega
theorem Dx.put{a:Ad}{H:Hp}{p q:R_}{o u:HO}{c:AX}(h:Dx a H q c)(i:H p=some u)(n:∀C d fs,u=HO.ins C d fs->fs.lookup ("state" : Str)=none/\fs.lookup ("wanted" : Str)=none/\fs.lookup ("makes" : Str)=none)(nt:∀xs,u≠.tup xs):Dx a (upd H p o) q c:=by
 have f:∀{b v},H b=some v->v≠u->upd H p o b=some v:=λ{b v} e d=>by rw[Av (AG e i d)];exact e
 cases h with
 |am h g =>
  refine .am (f h λz=>?_) (f g λz=>nt _ z.symm);have:=(n _ _ _ z.symm).1;rw[fl2_1 A1]at this;cases this
 |pl h g =>
  refine .pl (f h λz=>?_) (f g λz=>nt _ z.symm);have:=(n _ _ _ z.symm).2.1;rw[fl1_1]at this;cases this
theorem Cf.put{a:Ad}{H:Hp}{p q:R_}{o u:HO}{c:AS}(h:Cf a H q c)(g:H p=some u)(n:∀C d fs,u=HO.ins C d fs->fs.lookup ("state" : Str)=none/\fs.lookup ("wanted" : Str)=none/\fs.lookup ("makes" : Str)=none)(nt:∀xs,u≠.tup xs):Cf a (upd H p o) q c:=by
 have f:∀{b v},H b=some v->v≠u->upd H p o b=some v:=λ{b v} e d=>by rw[Av (AG e g d)];exact e
 obtain⟨i,t,cs,j,k,l⟩:=h.ex;refine⟨i,t,cs,f j λz=>?_,f k λz=>nt _ z.symm,Paired.imp (λ_ _ z=>z.put g n nt) l⟩;have:=(n _ _ _ z.symm).2.2;rw[fl3_3]at this;cases this
section
variable{P:N_}{w:Q_}{K:O_}{mg:C_}{base:T_}{a:Ad}
inductive SpCT(vs:List V)(H:Hp)(Q:VK):Prop
|mk (r:Az) (_:vs=[.str (Bc r)]) (_:Fb r) (_:∀(l:R_)(H':Hp),AC H H'->H' l=some (.lst (r.map λc=>V.str (Bg c)))->Q (.ref l) H'):SpCT vs H Q
def spCT:Sp:=λvs H Q _=>SpCT vs H Q
theorem ok_ct(F:Fun K "clause_texts" "clause_texts" FL f fd)(T:Top K mg a):AK P w K mg base CX0 1 f fd GR spCT:=by
 refine F.ok NV D_9 λm A g s H vs Q E q h=>?_
 obtain⟨r,rfl,j,k⟩:=h;have i:=SY j;refine⟨_,(Ac (AM (Ay CG (pv 0) Da (AE _)) (Af (Au (Cb Ab))) AB) (Af (Au (CF A0e PySem.F.slot_str_split PySem.F.type_str_split Tr (pv 0) (Aa (Oo rfl T.k_CLAUSE_MARK) Ab))))),?_⟩
 try dsimp only[cxK]
 refine xq1 rfl ⟨rfl,(xq1 rfl ?_)⟩;by_cases b:r=[]
 .subst b;refine Cz ⟨S_0,λl d=>?_⟩;exact k l _ (Aq d) Ag
 .rw[VC b];refine Bf (xq1 rfl ⟨rfl,(xq2 rfl rfl ⟨A1,(by omega),λl d=>?_⟩)⟩);have n:Str.ofString "; " = (⟨#[59,32]⟩:Str):=by decide +kernel
  have e:Txt.split (Bc r) (Str.ofString "; ")=r.map Bg:=by
   rw[n];refine Tx.SK _ (by simpa using b) λt p=>?_;obtain⟨c,o,rfl⟩:=F0.mp p;exact TK (j.ok c o)
  rw[e,M7];exact k l _ (Aq d) Ag
inductive SpRI(a:Ad)(vs:List V)(H:Hp)(Q:VK):Prop
|mk (p dx:R_) (r:Az) (_:vs=[.ref p,.str (Bc r)]) (_:H p=some (.ins a.c_Rule dx [])) (_:Fb r) (_:∀H',(∀b o,H b=some o->b≠p->H' b=some o)->Ce a H' p (Bc r) r->Q .non H'):SpRI a vs H Q
def spRI(a:Ad):Sp:=λvs H Q _=>SpRI a vs H Q
theorem ok_ri(F:Fun K "__init__" "Rule.__init__" Gu f fd)(T:Top K mg a)(bP:Cal P w K mg base CX0 1 "clause_texts" GR spCT)(bX:Cal P w K mg base CX0 5 "read_clause" GR (spRC a)) :
 AK P w K mg base CX0 6 f fd NS (spRI a):=by
 refine F.ok Rq D_9 λab A Y s H vs Q E hr h=>?_
 obtain⟨p,y,r,rfl,hp,S,k⟩:=h;have aa:=SY S;have W:=S.few;refine⟨_,(Ac (CK (pv 0) (pv 1) rfl) (Af (CK (pv 0) (Bo Cp rfl T.b_tuple A0b (Aa (BW rfl (Bz.of (So:=Ah Gu) (No:=NS) (N:=["part"]) (k:=1) (cs:=[]) rfl rfl A1) (Cg (Ar bP (rm hr) rfl Am (Aa (pv 1) Ab))) (λ_ _ _=>(Bd (i:=0) A1 rfl rfl)) (λ_ _ _=>BG) (λ_ _ _=>(Ar bX (rm hr) rfl Am (Aa (pv 0) Ab)))) Ab)) rfl))),?_⟩
 try dsimp only[cxK]
 refine xw2 rfl rfl ⟨p,_,y,[],rfl,hp,T.cl_Rule,T.na_Rule_text,B4,?_⟩;generalize G:upd H p (.ins a.c_Rule y (AT "text" (.str (Bc r)) []))=U;have B:U p=some (.ins a.c_Rule y (AT "text" (.str (Bc r)) [])):=by rw[<-G];exact Ag
 have k1:∀b o,H b=some o->b≠p->U b=some o:=λb o e n=>by rw[<-G,Av n];exact e
 refine xq1 rfl ⟨r,rfl,S,λl Z s2 hl=>⟨l,rfl,⟨_,SqL.of hl⟩,?_⟩⟩;refine Dp (xs:=r.map λc=>V.str (Bg c)) (λi j v=>∃g:List Addr,j=g.map V.ref/\AC Z v/\Paired (Cf a v) g (r.take i)) ⟨[],rfl,AC.refl Z,.nil⟩ (λi j v _ ⟨g,_,R,_⟩=>SqL.of (R _ _ hl)) ?_ ?_
 .rintro i x j v hx ⟨g,rfl,R,L⟩;rw[C0]at hx;obtain⟨c,ec,rfl⟩:=D6.mp hx;refine⟨⟨[some (.str (Bg c))],rfl,rfl⟩,?_,?_⟩
  .have e1:=K4 L;rw[M5]at e1;rw[B8,e1];exact F3 (P5 _ _) (F3 W A4)
  .refine Gm (xq1 rfl ⟨c,rfl,S.ok c (D0 ec),λq u s4 hq=>⟨g++[q],by rw[C4];rfl,R.trans s4,?_⟩⟩);rw[F9,ec];exact A1c (Paired.imp (λ_ _ z=>z.same s4) L) hq
 .rintro j v ⟨g,rfl,R,L⟩ q nq;rw[B8,J9]at L;refine⟨q,(xq1 rfl (.inl ⟨SqL.of Ag,λt ht=>?_⟩))⟩;generalize I:upd (upd v q (.lst (g.map V.ref))) t (.tup (g.map V.ref))=u;have O:AC v u:=by rw[<-I];exact(Aq nq).trans (Aq ht)
  have D:u t=some (.tup (g.map V.ref)):=by rw[<-I];exact Ag
  have m:AC U u:=(s2.trans R).trans O;have X:t≠p:=λz=>by rw[z,m _ _ B]at D;cases D
  refine xq1 rfl ⟨p,_,y,(xq1 rfl ⟨m _ _ B,T.cl_Rule,T.na_Rule_clauses,B6,?_⟩)⟩;have up:∀b o,u b=some o->b≠p->upd u p (.ins a.c_Rule y (fl2 "text" "clauses" (.str (Bc r)) (.ref t))) b=some o:=λb o e n=>by rw[Av n];exact e
  have cl:∀M c,Cf a u M c->Cf a (upd u p (.ins a.c_Rule y (fl2 "text" "clauses" (.str (Bc r)) (.ref t)))) M c:=λM c hc=>by
   exact hc.put (m _ _ B) (λC d fs e=>by
    cases e;exact⟨Sc A1,Sc A1,Sc A1⟩) (λxs z=>by cases z)
  exact k _ (λb o e n=>up _ _ (m _ _ (k1 b o e n)) n) ⟨y,t,g,Ag,up _ _ D X,Paired.imp (λM c z=>cl M c (z.same O)) L⟩
def BF:List Int:=[0,0,0,0,0,0,0,0]
inductive SpRR(a:Ad)(vs:List V)(H:Hp)(Q:VK):Prop
|mk (r:Az) (_:vs=[.str (Bc r)]) (_:Fb r) (_:Cm r 0 BF=0) (_:∀(p:R_)(H':Hp),AC H H'->Ce a H' p (Bc r) r->Q (.ref p) H'):SpRR a vs H Q
def spRR(a:Ad):Sp:=λvs H Q _=>SpRR a vs H Q
theorem ok_rr(F:Fun K "read_rule" "read_rule" Jx f fd)(T:Top K mg a)(D:Sx P w K mg base CX0 6 "Rule" a.c_Rule NS (spRI a))(B:Cal P w K mg base CX0 5 "becomes" LV (Vy a)) :
 AK P w K mg base CX0 8 f fd GR (spRR a):=by
 refine F.ok Mf D_9 λC A g s H vs Q E t h=>?_
 obtain⟨r,rfl,q,I,k⟩:=h;refine⟨_,(Ac (AM (CZ (Ch (AO Fa rfl T.b_isinstance K8 (Aa (pv 0) (Aa (Gx (v:=.ty "str") rfl T.b_str A0a rfl) Ab))))) (Af Bh) AB) (Ac (Ao (i:=1) Mf.nd rfl O_9 (IJ D (rm t) rfl Am (Aa (pv 0) Ab))) (Ac (AM (Ay Dk (Ar B (rm t) rfl Am (Aa (pv 1) (AI (Bl op_rep (Cb (AI Ab)) (BV rfl T.k_NEIGHBOURS) Ab)))) Ae (AE _)) (Af Bh) AB) (Af (Au (pv 1)))))),?_⟩
 try dsimp only[cxK]
 refine xq1 rfl ⟨_,_,_,.type "str",true,rfl,rfl,.of (.str _),Vn K,true,rfl,?_⟩;refine Bf (xq1 rfl ?_);intro x G nx d L;refine⟨x,G,r,rfl,Ag,q,λy kp j=>⟨rfl,?_⟩⟩;have M:AC H y:=λb o e=>kp b o (by rw[Av (Aw e nx),Av (Aw e d)];exact e) (Aw e nx);refine xq1 rfl ⟨S_1,λl n=>?_⟩;refine⟨l,8,(xq1 rfl ⟨rfl,Ag,A4,A4,A4,λm p=>?_⟩)⟩;have N:=(M.trans (Aq (o:=.lst [.int 0]) n)).trans (Aq (o:=.lst (BF.map V.int)) p);have c:=(Aq (o:=.lst [.int 0]) n).trans (Aq (o:=.lst (BF.map V.int)) p);refine⟨x,m,_,r,0,BF,rfl,j.same c,q.rok,Ag,λz u=>?_⟩;refine⟨rfl,(xq1 rfl ?_)⟩;rw[I];refine JY rfl (xq1 rfl ?_);exact k x z (N.trans u) ((j.same c).same u)
end
end J
namespace J
open PySem L2
structure Sq where
parts:List Int
lev:Int
abbrev Gv:=List Sq
structure GA where
p:Addr
dx:Addr
lv:Addr
pt:Addr
nm:Addr
br:Addr
am:Addr
bx:Addr
def fl6(g:GA):List (Str×V):=AT "boxes" (.ref g.bx) (AT "amounts" (.ref g.am) (AT "bares" (.ref g.br) (AT "numbers" (.ref g.nm) (AT "parts" (.ref g.pt) (AT "levels" (.ref g.lv) [])))))
theorem Eo(g:GA):(fl6 g).lookup ("levels" : Str)=some (V.ref g.lv):=by
 unfold fl6;rw[Ak,Z6 A1,Ak,Z6 A1,Ak,Z6 A1,Ak,Z6 A1,Ak,Z6 A1,Ak,Z9 rfl]
theorem CB(g:GA):(fl6 g).lookup ("parts" : Str)=some (V.ref g.pt):=by
 unfold fl6;rw[Ak,Z6 A1,Ak,Z6 A1,Ak,Z6 A1,Ak,Z6 A1,Ak,Z9 rfl]
theorem fl6_nm(g:GA):(fl6 g).lookup ("numbers" : Str)=some (V.ref g.nm):=by
 unfold fl6;rw[Ak,Z6 A1,Ak,Z6 A1,Ak,Z6 A1,Ak,Z9 rfl]
theorem Lb(g:GA):(fl6 g).lookup ("bares" : Str)=some (V.ref g.br):=by
 unfold fl6;rw[Ak,Z6 A1,Ak,Z6 A1,Ak,Z9 rfl]
theorem fl6_am(g:GA):(fl6 g).lookup ("amounts" : Str)=some (V.ref g.am):=by
 unfold fl6;rw[Ak,Z6 A1,Ak,Z9 rfl]
theorem fl6_bx(g:GA):(fl6 g).lookup ("boxes" : Str)=some (V.ref g.bx):=by
 unfold fl6;rw[Ak,Z9 rfl]
theorem Fp(g:GA){m:Str}(a:¬m=("boxes" : Str))(b:¬m=("amounts" : Str))(c:¬m=("bares" : Str))(d:¬m=("numbers" : Str))(e:¬m=("parts" : Str))(f:¬m=("levels" : Str)):(fl6 g).lookup m=none:=by
 unfold fl6;rw[Ak,Z6 a,Ak,Z6 b,Ak,Z6 c,Ak,Z6 d,Ak,Z6 e,Ak,Z6 f];rfl
theorem Rz(g:GA):(fl6 g).lookup ("kept" : Str)=none:=Fp g A1 A1 A1 A1 A1 A1
theorem BK(g:GA):(fl6 g).lookup ("linked" : Str)=none:=Fp g A1 A1 A1 A1 A1 A1
theorem Pd(g:GA):(fl6 g).lookup ("check_square" : Str)=none:=Fp g A1 A1 A1 A1 A1 A1
theorem Ry(g:GA):(fl6 g).lookup ("leaf" : Str)=none:=Fp g A1 A1 A1 A1 A1 A1
theorem Cc(g:GA):(fl6 g).lookup ("level_of" : Str)=none:=Fp g A1 A1 A1 A1 A1 A1
theorem WK(g:GA):(fl6 g).lookup ("joined" : Str)=none:=Fp g A1 A1 A1 A1 A1 A1
theorem Tj(g:GA):(fl6 g).lookup ("solid" : Str)=none:=Fp g A1 A1 A1 A1 A1 A1
theorem NP(g:GA):(fl6 g).lookup ("quarters" : Str)=none:=Fp g A1 A1 A1 A1 A1 A1
theorem UB(g:GA):(fl6 g).lookup ("state_of" : Str)=none:=Fp g A1 A1 A1 A1 A1 A1
def kOf(ps:I_):List Key:=ps.map Sum.inl
theorem ZY(a:I_):(kOf a).map kV=a.map V.int:=by unfold kOf;rw[M7];rfl
theorem MF:∀{a b:I_},kOf a=kOf b->a=b
|[],[],_=>rfl
|[],_::_,h=>by cases h
|_::_,[],h=>by cases h
|x::r,y::t,h=>by
 have h:Sum.inl x::kOf r=(Sum.inl y:Key)::kOf t:=h;injection h with h1 h2
 injection h1 with h1
 rw[h1,MF h2]
def JX:Nat->Gv->List (List Key×V)
|_,[]=>[]
|n,q::r=>(kOf q.parts,.int (n:Int))::JX (n+1) r
theorem Tw:∀(G:Gv)(n:Nat),(JX n G).length=G.length
|[],_=>rfl
|q::r,n=>by show(JX (n+1) r).length+1=r.length+1;rw[Tw r]
theorem QA(q:Sq):∀(G:Gv)(n:Nat),JX n (G++[q])=JX n G++[(kOf q.parts,.int ((n+G.length:Nat):Int))]
|[],_=>rfl
|p::r,n=>by
 show(kOf p.parts,V.int (n:Int))::JX (n+1) (r++[q])=_;rw[QA q r (n+1)];show _=(kOf p.parts,V.int (n:Int))::(JX (n+1) r++[(kOf q.parts,V.int ((n+(r.length+1):Nat):Int))]);rw[show n+1+r.length=n+(r.length+1) by lia]
theorem RU(a:I_):∀(G:Gv)(n:Nat),(∃(i:Nat)(q:Sq),G[i]?=some q/\q.parts=a/\BR (JX n G) (kOf a)=some (.int ((n+i:Nat):Int)))\/(BR (JX n G) (kOf a)=none/\∀q∈G,q.parts≠a)
|[],n=>.inr ⟨rfl,λq b=>by simp at b⟩
|p::r,n=>by
 by_cases e:p.parts=a
 .exact .inl ⟨0,p,rfl,e,BT (by rw[e])⟩
 .have c:¬(kOf p.parts,V.int (n:Int)).1=kOf a:=λz=>e (MF z);rcases RU a r (n+1)with ⟨i,q,h1,h2,h3⟩|⟨h1,h2⟩
  .refine .inl ⟨i+1,q,h1,h2,?_⟩;show BR ((kOf p.parts,V.int (n:Int))::JX (n+1) r) (kOf a)=_;rw[BH c,h3,show n+1+i=n+(i+1) by lia]
  .refine .inr ⟨?_,λq b=>?_⟩
   .show BR ((kOf p.parts,V.int (n:Int))::JX (n+1) r) (kOf a)=_;rw[BH c,h1]
   .rcases C2.mp b with rfl|b
    .exact e
    .exact h2 q b
def TupAt(H:Hp)(t:R_)(q:Sq):Prop:=H t=some (.tup (q.parts.map V.int))
structure AJ(a:Ad)(H:Hp)(g:GA)(G:Gv):Prop where
hp:H g.p=some (.ins a.c_Grove g.dx (fl6 g))
lv:H g.lv=some (.lst (G.map λq=>.int q.lev))
pt:∃ts:List Addr,H g.pt=some (.lst (ts.map V.ref))/\Paired (TupAt H) ts G
nm:H g.nm=some (.dT (JX 0 G))
ne:g.lv≠g.pt
def Fr(g:GA)(H H':Hp):Prop:=∀b o,H b=some o->b≠g.lv->b≠g.pt->b≠g.nm->H' b=some o
theorem Fr.refl(g:GA)(H:Hp):Fr g H H:=λ_ _ e _ _ _=>e
theorem Fr.trans{g:GA}{a c d:Hp}(h:Fr g a c)(k:Fr g c d):Fr g a d:=λb o e f i j=>k b o (h b o e f i j) f i j
theorem AC.fr{g:GA}{a c:Hp}(h:AC a c):Fr g a c:=λb o e _ _ _=>h b o e
theorem PairedM.imp{α β:Type}{F G:α->β->Prop}(h:∀x y,F x y->G x y):∀{l:List α}{m:List β},Paired F l m->Paired G l m
|_,_,.nil=>.nil
|_,_,.cons r t=>.cons (h _ _ r) (PairedM.imp h t)
theorem PairedM.get{α β:Type}{F:α->β->Prop}:∀{l:List α}{m:List β}{i:Nat}{y:β},Paired F l m->m[i]?=some y->∃x,l[i]?=some x/\F x y
|_,_,_,_,.nil,e=>by simp at e
|_,_,0,_,.cons r _,e=>by simp at e;subst e;exact⟨_,rfl,r⟩
|_,_,i+1,y,.cons _ t,e=>by
 obtain⟨x,a,b⟩:=PairedM.get (i:=i) (y:=y) t (by simpa using e);exact⟨x,by simpa using a,b⟩
theorem AN{H:Hp}{p:R_}{o:HO}(h:H p=none):AC H (upd H p o):=λb u e=>by
 rw[Av (Aw e h)];exact e
theorem AJ.same{a:Ad}{H b:Hp}{g:GA}{G:Gv}(s:AC H b)(h:AJ a H g G):AJ a b g G:=by
 obtain⟨c,d,⟨k,e,f⟩,i,j⟩:=h;exact⟨s _ _ c,s _ _ d,⟨k,s _ _ e,PairedM.imp (λt q z=>s _ _ z) f⟩,s _ _ i,j⟩
theorem AJ.put{a:Ad}{H:Hp}{g:GA}{G:Gv}{l:R_}{xs:List V}{o:HO}(p:H l=some (.lst xs))(r:l≠g.lv)(s:l≠g.pt)(h:AJ a H g G):AJ a (upd H l o) g G:=by
 obtain⟨d,f,⟨u,i,j⟩,k,m⟩:=h;have c:∀{b v},H b=some v->v≠.lst xs->upd H l o b=some v:=λ{b v} e n=>by rw[Av (AG e p n)];exact e
 exact⟨c d A3,by rw[Av (X6 r)];exact f,⟨u,by rw[Av (X6 s)];exact i,PairedM.imp (λt q z=>c z A3) j⟩,c k A3,m⟩
def Al(G:Gv)(x:Nat)(l:Int):Prop:=∃q,G[x]?=some q/\q.lev=l
structure GOk(G:Gv):Prop where
leaf:∀s:Nat,s<8->G[s]?=some ⟨[(s:Int)],0⟩
node:∀(i:Nat) q,G[i]?=some q->8<=i->∃x y z w:Nat,q.parts=[(x:Int),(y:Int),(z:Int),(w:Int)]/\(Al G x (q.lev-1)/\Al G y (q.lev-1)/\Al G z (q.lev-1)/\Al G w (q.lev-1))/\1<=q.lev/\q.lev<=48
nd:(G.map Sq.parts).Nodup
theorem Al.lt{G:Gv}{x:Nat}{l:Int}(h:Al G x l):x<G.length:=by
 obtain⟨q,h,_⟩:=h;exact(B9.mp h).1
theorem Lm{G r:Gv}{x:Nat}{q:Sq}(h:G[x]?=some q):(G++r)[x]?=some q:=by
 rw[M8 (B9.mp h).1];exact h
theorem Al.app{G r:Gv}{x:Nat}{l:Int}(h:Al G x l):Al (G++r) x l:=by
 obtain⟨q,h,e⟩:=h;exact⟨q,Lm h,e⟩
theorem GOk.lev{G:Gv}(h:GOk G){i:Nat}{q:Sq}(e:G[i]?=some q):0<=q.lev/\q.lev<=48:=by
 by_cases b:i<8
 .rw[h.leaf i b]at e;cases e;exact⟨R4 0,by show(0:Int)<=48;decide⟩
 .obtain⟨x,y,z,w,_,_,c,a⟩:=h.node i q e A0;exact⟨by lia,a⟩
theorem GOk.snoc{G:Gv}(h:GOk G){x y z w:Nat}{l:Int}(B:Al G x l)(C:Al G y l)(D:Al G z l)(A:Al G w l)(n:l<=47)(new:∀q∈G,q.parts≠[(x:Int),(y:Int),(z:Int),(w:Int)]):GOk (G++[⟨[(x:Int),(y:Int),(z:Int),(w:Int)],l+1⟩]) where
 leaf:=λs v=>Lm (h.leaf s v)
 node:=λi q e o=>by
  by_cases r:i<G.length
  .rw[M8 r]at e;obtain⟨x,y,z,w,k,⟨c,d,f,g⟩,m⟩:=h.node i q e o;exact⟨x,y,z,w,k,⟨c.app,d.app,f.app,g.app⟩,m⟩
  .rw[J6 A0]at e;have:i-G.length=0:=by
    by_cases z:i-G.length=0
    .exact z
    .rw[R9 (by rw[R8];lia)]at e;cases e
   rw[this]at e;cases e;obtain⟨H,b,E⟩:=B;have:=(h.lev b).1;have j:l+1-1=l:=by lia
   refine⟨x,y,z,w,rfl,?_,?_,?_⟩
   .show Al _ x (l+1-1)/\Al _ y (l+1-1)/\Al _ z (l+1-1)/\Al _ w (l+1-1);rw[j];exact⟨Al.app ⟨H,b,E⟩,C.app,D.app,A.app⟩
   .show 1<=l+1;lia
   .show l+1<=48;lia
 nd:=by
  rw[C4,Q8];refine⟨h.nd,by simp,λp t F a=>?_⟩;obtain⟨q,u,rfl⟩:=F0.mp t;rw[show F=[(x:Int),(y:Int),(z:Int),(w:Int)] by simpa using a];exact new q u
theorem GOk.one{G:Gv}(h:GOk G){i j:Nat}{p q:Sq}(a:G[i]?=some p)(b:G[j]?=some q)(e:p.parts=q.parts):i=j:=by
 have d:=(B9.mp a).1;have f:=(B9.mp b).1;have c:(G.map Sq.parts)[i]'(by rw[B8];exact d)=(G.map Sq.parts)[j]'(by rw[B8];exact f):=by
  rw[List.getElem_map,List.getElem_map,(B9.mp a).2,(B9.mp b).2,e]
 exact(List.getElem_inj h.nd).mp c
seal L2.PA L2.PE L2.PS L2.PSs L2.PT L2.PW
theorem Eu{n:Nat}(h:n<10000000):n<sizeLine:=F2 h A4
theorem VU(K:O_):kitOne K (.type "int") (.type "int")=some true/\kitOne K (.type "int") (.type "bool")=some false:=⟨by kernel_rfl,by kernel_rfl⟩
section
variable{P:N_}{w:Q_}{K:O_}{mg:C_}{base:T_}{a:Ad}
inductive SpIW(vs:List V)(H:Hp)(Q:VK):Prop
|mk (i:Int) (_:vs=[.int i]) (_:Q (.bl true) H):SpIW vs H Q
def Ul:Sp:=λvs H Q _=>SpIW vs H Q
theorem ok_iw(F:Fun K "is_whole" "is_whole" LL f fd)(T:Top K mg a):AK P w K mg base CX0 1 f fd UE Ul:=by
 refine F.ok SU D_9 λc A b s H vs Q E d h=>?_
 obtain⟨i,rfl,k⟩:=h;exact⟨_,(Af (Au (JD (AO Fa rfl T.b_isinstance K8 (Aa (pv 0) (Aa (Gx (v:=.ty "int") rfl T.b_int A1f rfl) Ab))) (LS (pe_not (AO Fa rfl T.b_isinstance K8 (Aa (pv 0) (Aa (Gx (v:=.ty "bool") rfl T.b_bool PyProof.Rows.boot_bool rfl) Ab)))))))),(xq1 rfl ⟨_,_,_,.type "int",true,rfl,rfl,.of (.int i),(VU K).1,true,rfl,Cz (xq1 rfl ⟨_,_,_,.type "int",false,rfl,rfl,.of (.int i),(VU K).2,false,rfl,k⟩)⟩)⟩
inductive SpIS(vs:List V)(H:Hp)(Q:VK):Prop
|mk (i:Int) (_:vs=[.int i]) (_:0<=i) (_:i<8) (_:Q (.bl true) H):SpIS vs H Q
def spIS:Sp:=λvs H Q _=>SpIS vs H Q
theorem ok_is(F:Fun K "is_state" "is_state" LM f fd)(T:Top K mg a)(c:Cal P w K mg base CX0 1 "is_whole" UE Ul):AK P w K mg base CX0 2 f fd UE spIS:=by
 refine F.ok SV D_9 λd A b s H vs Q E j h=>?_
 obtain⟨i,rfl,e,g,k⟩:=h;refine⟨_,(Af (Au (JD (Ar c (rm j) rfl Am (Aa (pv 0) Ab)) (LS (Zh JM Ih Ae (pv 0) (BV rfl T.k_STATES)))))),?_⟩
 try dsimp only[cxK]
 refine xq1 rfl ⟨i,rfl,true,rfl,Cz (xwb rfl rfl rfl (xq1 rfl ?_))⟩;rw[Z7 e];refine Cz (xq2 rfl rfl ?_);show Q (.bl (decide (i<8))) H;rw[Z7 g];exact k
inductive SpKept(a:Ad)(vs:List V)(H:Hp)(Q:VK):Prop
|mk (g:GA) (G:Gv) (t:R_) (ps:I_) (l:Int) (_:vs=[.ref g.p,.ref t,.int l]) (_:AJ a H g G) (_:H t=some (.tup (ps.map V.int))) (_:(∀q∈G,q.parts≠ps)) (_:G.length<9000000) (_:∀H',Fr g H H'->AJ a H' g (G++[⟨ps,l⟩])->Q (.int (G.length:Int)) H'):SpKept a vs H Q
def Rh(a:Ad):Sp:=λvs H Q _=>SpKept a vs H Q
theorem ok_kept(F:Fun K "kept" "Grove.kept" IF f fd)(T:Top K mg a):AK P w K mg base CX0 1 f fd Fz (Rh a):=by
 refine F.ok Lz D_9 λaa A Z s H vs Q E hr h=>?_
 obtain⟨g,G,t,j,l,rfl,hg,ht,new,few,k⟩:=h;obtain⟨d,u,⟨U,R,h4⟩,B,W⟩:=hg;have lt:U.length=G.length:=K4 h4;refine⟨_,(Ac (Ao (i:=3) Lz.nd rfl O_9 (AO BC rfl T.b_len K9 (Aa (AF (pv 0) rfl) Ab))) (Ac (II (Gg hr) (AF (pv 0) rfl) (pv 1) (pv 3) rfl) (Ac (Bm (CF X7 X8 X9 Bw (AF (pv 0) rfl) (Aa (pv 2) Ab))) (Ac (Bm (CF X7 X8 X9 Bw (AF (pv 0) rfl) (Aa (pv 1) Ab))) (Af (Au (pv 3))))))),?_⟩
 try dsimp only[cxK]
 refine xwf rfl rfl d T.cl_Grove T.na_Grove_levels (Eo g) ⟨g.lv,(xq1 rfl ⟨.inl (SqL.of u),?_⟩)⟩;rw[B8];have m:g.p≠g.nm:=AG d B A3;have r:g.lv≠g.nm:=AG u B A3;have L:g.pt≠g.nm:=AG R B A3;have M:g.p≠g.lv:=AG d u A3;have Y:g.p≠g.pt:=AG d R A3;have vn:BR (JX 0 G) (kOf j)=none:=by
  rcases RU j G 0 with ⟨i,q,e1,e2,_⟩|⟨e,_⟩
  .exact absurd e2 (new q (D0 e1))
  .exact e
 refine xw2 rfl rfl (xq5 d T.cl_Grove T.na_Grove_numbers (fl6_nm g) (xq1 rfl ⟨g.nm,(xq1 rfl ⟨MS.t (k:=kOf j) B (by rw[ZY];exact ht) (by rw[Tw];exact Eu A0),?_⟩)⟩));rw[Mq _ vn];have e5:JX 0 G++[(kOf j,V.int (G.length:Int))]=JX 0 (G++[⟨j,l⟩]):=by rw[QA,N1]
 rw[e5];generalize C:upd H g.nm (.dT (JX 0 (G++[⟨j,l⟩])))=N;have v:∀b o,H b=some o->b≠g.nm->N b=some o:=λb o e n=>by rw[<-C,Av n];exact e
 have n1:N g.nm=some (.dT (JX 0 (G++[⟨j,l⟩]))):=by rw[<-C];exact Ag
 refine xwf rfl rfl (v _ _ d m) T.cl_Grove T.na_Grove_levels (Eo g) ⟨.inl ⟨rfl,_,SqL.of (v _ _ u r)⟩,(xq1 rfl ⟨g.lv,(xq2 rfl rfl ⟨v _ _ u r,by rw[B8];exact Eu A0,?_⟩)⟩)⟩;generalize D:upd N g.lv (.lst ((G.map λq=>V.int q.lev)++[.int l]))=O;have S:∀b o,N b=some o->b≠g.lv->O b=some o:=λb o e n=>by rw[<-D,Av n];exact e
 have n2:O g.lv=some (.lst ((G++[(⟨j,l⟩:Sq)]).map λq=>V.int q.lev)):=by rw[<-D,Ag,C4];rfl
 have y:=S _ _ (v _ _ R L) (X6 W);refine xwf rfl rfl (S _ _ (v _ _ d m) M) T.cl_Grove T.na_Grove_parts (CB g) ⟨.inl ⟨rfl,_,SqL.of y⟩,(xq1 rfl ⟨g.pt,(xq2 rfl rfl ⟨y,by rw[B8,lt];exact Eu A0,?_⟩)⟩)⟩;generalize I:upd O g.pt (.lst (U.map V.ref++[.ref t]))=x;have X:∀b o,O b=some o->b≠g.pt->x b=some o:=λb o e n=>by rw[<-I,Av n];exact e
 have n3:x g.pt=some (.lst ((U++[t]).map V.ref)):=by rw[<-I,Ag,C4];rfl
 have fr:Fr g H x:=λb o e m1 m2 m3=>X _ _ (S _ _ (v _ _ e m3) m1) m2;have tp:∀(c:R_)(xs:List V),H c=some (.tup xs)->x c=some (.tup xs):=λc xs e=>fr _ _ e (AG e u A3) (AG e R A3) (AG e B A3);refine xq1 rfl (k x fr ⟨fr _ _ d M Y m,X _ _ n2 W,⟨U++[t],n3,A1c (PairedM.imp (λc q z=>tp c _ z) h4) (tp t _ ht)⟩,X _ _ (S _ _ n1 (X6 r)) (X6 L),W⟩)
structure AH(G G':Gv)(n:Nat):Prop where
ok:GOk G'
pre:∃r,G'=G++r
few:G'.length<=G.length+n
theorem AH.refl{G:Gv}(h:GOk G):AH G G 0:=⟨h,⟨[],by simp⟩,C1 _⟩
theorem AH.trans{G d b:Gv}{n m:Nat}(h:AH G d n)(c:AH d b m):AH G b (n+m):=by
 obtain⟨r,e⟩:=h.pre;obtain⟨t,f⟩:=c.pre;have g:=h.few;have i:=c.few;exact⟨c.ok,⟨r++t,by rw[f,e,S1]⟩,by lia⟩
theorem AH.get{G b:Gv}{n x:Nat}{q:Sq}(h:AH G b n)(e:G[x]?=some q):b[x]?=some q:=by
 obtain⟨r,c⟩:=h.pre;rw[c];exact Lm e
theorem AH.lev{G b:Gv}{n x:Nat}{l:Int}(h:AH G b n)(e:Al G x l):Al b x l:=by
 obtain⟨q,e,z⟩:=e;exact⟨q,h.get e,z⟩
inductive Vb(a:Ad)(vs:List V)(H:Hp)(Q:VK):Prop
|mk (g:GA) (G:Gv) (t:R_) (x y z w:Nat) (l:Int) (_:vs=[.ref g.p,.ref t]) (_:AJ a H g G) (_:GOk G) (_:H t=some (.tup [.int x,.int y,.int z,.int w])) (_:(Al G x l/\Al G y l/\Al G z l/\Al G w l)) (_:l<=47) (_:G.length<9000000) (_:∀(n:Nat)(G':Gv)(H':Hp),Fr g H H'->AJ a H' g G'->AH G G' 1->G'[n]?=some ⟨[(x:Int),(y:Int),(z:Int),(w:Int)],l+1⟩->Q (.int n) H'):Vb a vs H Q
def DS(a:Ad):Sp:=λvs H Q _=>Vb a vs H Q
theorem ok_link(F:Fun K "linked" "Grove.linked" FP f fd)(T:Top K mg a)(R:BD P w K mg base CX0 1 a.c_Grove "kept" Fz (Rh a)):AK P w K mg base CX0 2 f fd AU (DS a):=by
 refine F.ok Jn D_9 λS A v s H vs Q E I h=>?_
 obtain⟨g,G,t,x,y,z,w,l,rfl,D,ok,r,⟨u,Z,hz,Y⟩,o,few,k⟩:=h;have d:=D;obtain⟨n,W,⟨ts,h3,h4⟩,C,h6⟩:=D;refine⟨_,(Ac (Ao (i:=2) Jn.nd rfl O_9 (Mt (Gg I) (AF (pv 0) rfl) (pv 1) ⟨rfl,rfl,rfl,rfl⟩)) (Ac (AM (Ay Ja (pv 2) Cy (AE _)) (Af (Au (AD (pv 0) R (rm I) Am (Aa (pv 1) (Bl AQ (Aj Ax (AF (pv 0) rfl) (Aj An (pv 1) Ae R_9) R_9) Ae Ab))))) AB) (Af (Au (pv 2))))),?_⟩
 try dsimp only[cxK]
 refine xwf rfl rfl n T.cl_Grove T.na_Grove_numbers (fl6_nm g) ⟨g.nm,rfl,.inr ⟨_,.inl C⟩,(xq1 rfl ⟨_,Jt.t (k:=kOf [(x:Int),(y:Int),(z:Int),(w:Int)]) C (by rw[ZY];exact r),?_⟩)⟩;rcases RU [(x:Int),(y:Int),(z:Int),(w:Int)] G 0 with ⟨i,q,c,b,U⟩|⟨e,new⟩
 .rw[U];refine xq1 rfl ⟨rfl,(xq1 rfl (Bf (xq1 rfl ?_)))⟩;rw[N1];refine k i G H (Fr.refl g H) d ⟨ok,⟨[],by simp⟩,by lia⟩ ?_;have X:8<=i:=by
   refine P7 λM=>?_;rw[ok.leaf i M]at c;cases c;cases b
  obtain⟨x',y',M,w',p1,⟨L,_⟩,_⟩:=ok.node i q c X;have m:x'=x:=by
   rw[p1]at b;injection b with b _
   exact K1 b
  rw[m]at L;obtain⟨qa,O,a2⟩:=L;obtain⟨qb,B,b2⟩:=u;rw[O]at B;cases B;have V:q.lev=l+1:=by lia
  rw[c];cases q with
  |mk pp ll=>cases b;cases V;rfl
 .rw[e];refine xq1 rfl ⟨rfl,(xq1 rfl (Cz ?_))⟩;obtain⟨q,c,b⟩:=id u;refine xwn rfl rfl n (Rz g) rfl (xwf rfl rfl n T.cl_Grove T.na_Grove_levels (Eo g) (xwi rfl rfl rfl (SqT.of r) (Ai (j:=0) rfl) (xq4 rfl rfl (SqL.of W) (Ai (by rw[C0,c];rfl)) (xq2 rfl rfl ?_))));refine⟨g,G,t,[(x:Int),(y:Int),(z:Int),(w:Int)],l+1,by rw[<-b];rfl,d,r,new,few,λN fr p=>?_⟩;refine k G.length _ N fr p ⟨ok.snoc u Z hz Y o new,⟨_,rfl⟩,by rw[C5];exact C1 _⟩ ?_;rw[J6 (C1 _),U4];rfl
inductive SpChk(a:Ad)(vs:List V)(H:Hp)(Q:VK):Prop
|mk (g:GA) (G:Gv) (i:Nat) (_:vs=[.ref g.p,.int i]) (_:AJ a H g G) (_:i<G.length) (_:Q .non H):SpChk a vs H Q
def SR(a:Ad):Sp:=λvs H Q _=>SpChk a vs H Q
theorem ok_chk(F:Fun K "check_square" "Grove.check_square" Di f fd)(T:Top K mg a)(d:Cal P w K mg base CX0 1 "is_whole" UE Ul):AK P w K mg base CX0 2 f fd JU (SR a):=by
 refine F.ok Jp D_9 λe A b s H vs Q E j h=>?_
 obtain⟨g,G,i,rfl,c,l,k⟩:=h;refine⟨_,(Af (AM (PW.pt (Jo (CZ (Ch (Ar d (rm j) rfl Am (Aa (pv 1) Ab)))) (Fl (CZ (OV JM Ih Ae (pv 1) (AO BC rfl T.b_len K9 (Aa (AF (pv 0) rfl) Ab))))))) (Af Bh) AB)),?_⟩
 try dsimp only[cxK]
 refine⟨_,rfl,_,rfl,true,rfl,Bf ⟨_,rfl,_,_,rfl,rfl,_,rfl,?_⟩⟩;rw[Z7 (by lia:(0:Int)<=(i:Int))];refine Cz (xwf rfl rfl c.hp T.cl_Grove T.na_Grove_levels (Eo g) ⟨g.lv,(xq1 rfl ⟨.inl (SqL.of c.lv),(xq2 rfl rfl (xq1 rfl ?_))⟩)⟩);rw[B8,Z7 (by lia:(i:Int)<(G.length:Int))];exact Bf k
inductive SpLeaf(a:Ad)(vs:List V)(H:Hp)(Q:VK):Prop
|mk (p:R_) (i:Int) (_:vs=[.ref p,.int i]) (_:0<=i) (_:i<8) (_:Q (.int i) H):SpLeaf a vs H Q
def OE(a:Ad):Sp:=λvs H Q _=>SpLeaf a vs H Q
theorem ok_leaf(F:Fun K "leaf" "Grove.leaf" IE f fd)(T:Top K mg a)(c:Cal P w K mg base CX0 2 "is_state" UE spIS):AK P w K mg base CX0 3 f fd RN (OE a):=by
 refine F.ok PZ D_9 λd A b s H vs Q E l h=>?_
 obtain⟨g,i,rfl,e,j,k⟩:=h;exact⟨_,(Ac (AM (CZ (Ch (Ar c (rm l) rfl Am (Aa (pv 1) Ab)))) (Af Bh) AB) (Af (Au (pv 1)))),(xq1 rfl ⟨i,rfl,e,j,true,rfl,Bf (xq1 rfl k)⟩)⟩
inductive SpLev(a:Ad)(vs:List V)(H:Hp)(Q:VK):Prop
|mk (g:GA) (G:Gv) (i:Nat) (q:Sq) (_:vs=[.ref g.p,.int i]) (_:AJ a H g G) (_:G[i]?=some q) (_:Q (.int q.lev) H):SpLev a vs H Q
def Jv(a:Ad):Sp:=λvs H Q _=>SpLev a vs H Q
theorem ok_lev(F:Fun K "level_of" "Grove.level_of" EB f fd)(T:Top K mg a)(e:BD P w K mg base CX0 2 a.c_Grove "check_square" JU (SR a)):AK P w K mg base CX0 3 f fd JU (Jv a):=by
 refine F.ok Ml D_9 λj A c s H vs Q E l h=>?_
 obtain⟨g,G,i,q,rfl,b,d,k⟩:=h;refine⟨_,(Ac (Bm (AD (pv 0) e (rm l) Am (Aa (pv 1) Ab))) (Af (Au (Aj Ax (AF (pv 0) rfl) (pv 1) R_9)))),?_⟩
 try dsimp only[cxK]
 refine xwn rfl rfl b.hp (Pd g) rfl ⟨g,G,i,rfl,b,(B9.mp d).1,?_⟩;exact xwf rfl rfl b.hp T.cl_Grove T.na_Grove_levels (Eo g) (xwi rfl rfl rfl (SqL.of b.lv) (Ai (by rw[C0,d];rfl)) k)
inductive SpQua(a:Ad)(vs:List V)(H:Hp)(Q:VK):Prop
|mk (g:GA) (G:Gv) (i:Nat) (q:Sq) (_:vs=[.ref g.p,.int i]) (_:AJ a H g G) (_:G[i]?=some q) (_:q.lev≠0) (_:∀t,H t=some (.tup (q.parts.map V.int))->Q (.ref t) H):SpQua a vs H Q
def YI(a:Ad):Sp:=λvs H Q _=>SpQua a vs H Q
theorem ok_qua(F:Fun K "quarters" "Grove.quarters" EA f fd)(T:Top K mg a)(e:BD P w K mg base CX0 3 a.c_Grove "level_of" JU (Jv a)):AK P w K mg base CX0 4 f fd JU (YI a):=by
 refine F.ok Mj D_9 λj A c s H vs Q E p h=>?_
 obtain⟨g,G,i,q,rfl,b,d,m,k⟩:=h;refine⟨_,(Ac (AM (Ay CG (AD (pv 0) e (rm p) Am (Aa (pv 1) Ab)) Ae (AE _)) (Af Bh) AB) (Af (Au (Aj Ax (AF (pv 0) rfl) (pv 1) R_9)))),?_⟩
 try dsimp only[cxK]
 refine xwn rfl rfl b.hp (Cc g) rfl ⟨g,G,i,q,rfl,b,d,rfl,(xq1 rfl ?_)⟩;rw[Z8 (by intro z;injection z with z;exact m z)];obtain⟨u,n,o⟩:=b.pt;obtain⟨t,l,r⟩:=PairedM.get o d;exact Bf (xwf rfl rfl b.hp T.cl_Grove T.na_Grove_parts (CB g) (xwi rfl rfl rfl (SqL.of n) (Ai (by rw[C0,l];rfl)) (k t r)))
inductive SpSta(a:Ad)(vs:List V)(H:Hp)(Q:VK):Prop
|mk (g:GA) (G:Gv) (i:Nat) (q:Sq) (_:vs=[.ref g.p,.int i]) (_:AJ a H g G) (_:G[i]?=some q) (_:q.lev=0) (_:Q (.int i) H):SpSta a vs H Q
def YE(a:Ad):Sp:=λvs H Q _=>SpSta a vs H Q
theorem ok_sta(F:Fun K "state_of" "Grove.state_of" Ez f fd)(T:Top K mg a)(d:BD P w K mg base CX0 3 a.c_Grove "level_of" JU (Jv a)):AK P w K mg base CX0 4 f fd JU (YE a):=by
 refine F.ok Mi D_9 λe A b s H vs Q E m h=>?_
 obtain⟨g,G,i,q,rfl,c,l,j,k⟩:=h;refine⟨_,(Ac (AM (Ay Dk (AD (pv 0) d (rm m) Am (Aa (pv 1) Ab)) Ae (AE _)) (Af Bh) AB) (Af (Au (pv 1)))),?_⟩
 try dsimp only[cxK]
 refine xwn rfl rfl c.hp (Cc g) rfl ⟨g,G,i,q,rfl,c,l,rfl,(xq1 rfl ?_)⟩;rw[j];exact JY rfl (xq1 rfl k)
end
def Sol(G:Gv)(s:Nat):Nat->Nat->Prop
|0,n=>n=s
|l+1,n=>∃m:Nat,Sol G s l m/\G[n]?=some ⟨[(m:Int),(m:Int),(m:Int),(m:Int)],(l:Int)+1⟩
theorem Sol.lev{G:Gv}(h:GOk G){s:Nat}(a:s<8):∀{l n:Nat},Sol G s l n->Al G n l
|0,n,e=>by
 have e:n=s:=e;subst e;exact⟨_,h.leaf n a,rfl⟩
|l+1,n,e=>by
 obtain⟨m,_,e⟩:=e;exact⟨_,e,rfl⟩
theorem Sol.goes{G a:Gv}{k:Nat}(h:AH G a k){s:Nat}:∀{l n:Nat},Sol G s l n->Sol a s l n
|0,n,e=>e
|l+1,n,e=>by
 obtain⟨m,b,c⟩:=e;exact⟨m,Sol.goes h b,h.get c⟩
section
variable{P:N_}{w:Q_}{K:O_}{mg:C_}{base:T_}{a:Ad}
inductive SpJoin(a:Ad)(vs:List V)(H:Hp)(Q:VK):Prop
|mk (g:GA) (G:Gv) (x y z w:Nat) (l:Int) (_:vs=[.ref g.p,.int x,.int y,.int z,.int w]) (_:AJ a H g G) (_:GOk G) (_:(Al G x l/\Al G y l/\Al G z l/\Al G w l)) (_:l<=47) (_:G.length<9000000) (_:∀(n:Nat)(G':Gv)(H':Hp),Fr g H H'->AJ a H' g G'->AH G G' 1->G'[n]?=some ⟨[(x:Int),(y:Int),(z:Int),(w:Int)],l+1⟩->Q (.int n) H'):SpJoin a vs H Q
def Uk(a:Ad):Sp:=λvs H Q _=>SpJoin a vs H Q
theorem ok_join(F:Fun K "joined" "Grove.joined" Ef f fd)(T:Top K mg a)(aC:BD P w K mg base CX0 2 a.c_Grove "check_square" JU (SR a))(a9:BD P w K mg base CX0 2 a.c_Grove "linked" AU (DS a)):AK P w K mg base CX0 4 f fd Gc (Uk a):=by
 refine F.ok Fe D_9 λab A aa s H vs Q E hr h=>?_
 obtain⟨g,G,x,y,z,w,l,rfl,hg,ok,⟨Y,Z,hz,X⟩,O,few,k⟩:=h;refine⟨_,(Ac (BU X5 rfl (Nh (Eg (Aa (pv 1) (Aa (pv 2) (Aa (pv 3) (Aa (pv 4) Ab)))))) (AZ (i:=5) Fe.nd rfl O_9) (Af (Bm (AD (pv 0) aC (rm hr) Am (Aa (pv 5) Ab))))) (Ac (Ao (i:=6) Fe.nd rfl (Or.inr rfl) (Aj Ax (AF (pv 0) rfl) (pv 1) R_9)) (Ac (AM (PW.pt (Jo (Ay CG (pv 6) (BV rfl T.k_TOP_LEVEL) (AE _)) (Fl (Ch (AO (call_any rfl) rfl T.b_any PyProof.Rows.boot_any (Aa (BW rfl (Bz.of (So:=Ah Ef) (No:=JT) (N:=["square","self","level"]) (k:=1) (cs:=[0,6]) rfl rfl A1) (Nh (Eg (Aa (pv 2) (Aa (pv 3) (Aa (pv 4) Ab))))) (λ_ _ _=>(Bd (i:=0) A1 rfl rfl)) (λ_ _ _=>BG) (λ_ _ _=>(Dc Dk (Aj (Tz (K:=K) rfl) (Op (K:=K) rfl (pv 1) rfl) (pv 0) R_9) (pv 2) (AE _)))) Ab)))))) (Af Bh) AB) (Af (Au (AD (pv 0) a9 (rm hr) Am (Br (Aa (pv 1) (Aa (pv 2) (Aa (pv 3) (Aa (pv 4) Ab)))) Ab))))))),?_⟩
 try dsimp only[cxK]
 refine xw3 rfl rfl rfl (xq1 rfl ⟨S_4,λI S=>⟨I,rfl,⟨_,SqT.of Ag⟩,?_⟩⟩);have s1:=AN (o:=.tup [.int x,.int y,.int z,.int w]) S;have j:upd H I (.tup [.int x,.int y,.int z,.int w]) I=some (.tup [.int x,.int y,.int z,.int w]):=Ag;generalize upd H I (.tup [.int x,.int y,.int z,.int w])=M at s1 j⊢;have b:=hg.same s1;have mem:∀(i:Nat) v,[V.int (x:Int),V.int (y:Int),V.int (z:Int),V.int (w:Int)][i]?=some v->∃n:Nat,v=.int n/\n<G.length:=λi v e=>by
  have:=D0 e;simp only[C2,D3,K6]at this;rcases this with rfl|rfl|rfl|rfl
  .exact⟨x,rfl,Y.lt⟩
  .exact⟨y,rfl,Z.lt⟩
  .exact⟨z,rfl,hz.lt⟩
  .exact⟨w,rfl,X.lt⟩
 refine VZ (xs:=[.int x,.int y,.int z,.int w]) (λi σ r=>M=r/\∃u5:Option V,σ=[some (.ref g.p),some (.int x),some (.int y),some (.int z),some (.int w),u5,none]) ⟨rfl,none,rfl⟩ (λi σ r _ q=>q.1▸SqT.of j) ?_ ?_
 .rintro i v σ r D ⟨rfl,u5,rfl⟩;obtain⟨n,rfl,hn⟩:=mem i v D;exact xwn rfl rfl b.hp (Pd g) rfl ⟨g,G,n,rfl,b,hn,rfl,_,rfl⟩
 .rintro σ r ⟨rfl,u5,rfl⟩;obtain⟨qx,ex,lx⟩:=id Y;refine xwf rfl rfl b.hp T.cl_Grove T.na_Grove_levels (Eo g) (xwi rfl rfl rfl (SqL.of b.lv) (Ai (by rw[C0,ex];rfl)) ?_);dsimp only;rw[lx];refine xq1 rfl ⟨rfl,(xq1 rfl ?_)⟩;rw[Z8 (by intro z;injection z with z;lia)];refine Bf (xw3 rfl rfl rfl ⟨S_3,λL U=>⟨L,rfl,⟨_,SqT.of Ag⟩,?_⟩⟩);have s2:=AN (o:=.tup [.int y,.int z,.int w]) U;have m:upd M L (.tup [.int y,.int z,.int w]) L=some (.tup [.int y,.int z,.int w]):=Ag;generalize upd M L (.tup [.int y,.int z,.int w])=r at s2 m⊢;have d:=b.same s2;have B:∀(i:Nat) v,[V.int (y:Int),V.int (z:Int),V.int (w:Int)][i]?=some v->∃(n:Nat)(q:Sq),v=.int n/\G[n]?=some q/\q.lev=l:=λi v e=>by
   have:=D0 e;simp only[C2,D3,K6]at this;rcases this with rfl|rfl|rfl
   .obtain⟨q,t,u⟩:=Z;exact⟨y,q,rfl,t,u⟩
   .obtain⟨q,t,u⟩:=hz;exact⟨z,q,rfl,t,u⟩
   .obtain⟨q,t,u⟩:=X;exact⟨w,q,rfl,t,u⟩
  refine Ow (xs:=[.int y,.int z,.int w]) (λi c C=>r=C/\c=(List.replicate i false).map V.bl/\i<=3) ⟨rfl,rfl,by lia⟩ (λi c C _ z=>z.1▸SqT.of m) ?_ ?_
  .rintro i v c C D ⟨rfl,rfl,h3⟩;obtain⟨n,q,rfl,en,lq⟩:=B i v D;have hi:i<3:=(B9.mp D).1;refine⟨⟨[some (.int n)],rfl,rfl⟩,by rw[B8,N5];exact Eu A0,Gm (xwf rfl rfl d.hp T.cl_Grove T.na_Grove_levels (Eo g) (xwi rfl rfl rfl (SqL.of d.lv) (Ai (by rw[C0,en];rfl)) (xq1 rfl ⟨rfl,rfl,?_,hi⟩)))⟩;show List.map V.bl (List.replicate i false)++[V.bl !decide (V.int q.lev=V.int l)]=_;rw[lq,Z7 rfl,List.replicate_succ',C4];rfl
  .rintro c C ⟨rfl,rfl,_⟩ q hq;refine⟨q,List.replicate 3 false,rfl,SqL.of Ag,(xq1 rfl (Bf ?_))⟩;have s3:=AN (o:=.lst ((List.replicate 3 false).map V.bl)) hq;refine xq1 rfl ⟨g.p,g.dx,(xq1 rfl ⟨(d.same s3).hp,BK g,(xw3 rfl rfl rfl (xq1 rfl ⟨S_4,λt4 W=>?_⟩))⟩)⟩;have s4:=s3.trans (AN (o:=.tup [.int x,.int y,.int z,.int w]) W);exact⟨g,G,t4,x,y,z,w,l,rfl,d.same s4,ok,Ag,⟨Y,Z,hz,X⟩,O,few,λn G' H' fr R go e=>k n G' H' ((AC.fr (s1.trans (s2.trans s4))).trans fr) R go e⟩
inductive Wi(a:Ad)(vs:List V)(H:Hp)(Q:VK):Prop
|mk (g:GA) (G:Gv) (l s:Nat) (_:vs=[.ref g.p,.int l,.int s]) (_:AJ a H g G) (_:GOk G) (_:l<=48) (_:s<8) (_:G.length<8000000) (_:∀(n:Nat)(G':Gv)(H':Hp),Fr g H H'->AJ a H' g G'->AH G G' l->Sol G' s l n->Q (.int n) H'):Wi a vs H Q
def Og(a:Ad):Sp:=λvs H Q _=>Wi a vs H Q
theorem Zn(F:Fun K "solid" "Grove.solid" GO f fd)(T:Top K mg a)(N:Cal P w K mg base CX0 1 "is_whole" UE Ul)(O:BD P w K mg base CX0 3 a.c_Grove "leaf" RN (OE a))(M:BD P w K mg base CX0 2 a.c_Grove "linked" AU (DS a)):AK P w K mg base CX0 4 f fd ER (Og a):=by
 refine F.ok DZ D_9 λR A C s H vs Q E B h=>?_
 obtain⟨g,G,l,v,rfl,I,ok,S,U,few,k⟩:=h;refine⟨_,(Ac (AM (PW.pt (Jo (CZ (Ch (Ar N (rm B) rfl Am (Aa (pv 1) Ab)))) (Fl (CZ (OV JM JM Ae (pv 1) (BV rfl T.k_TOP_LEVEL)))))) (Af Bh) AB) (Ac (Ao (i:=3) DZ.nd rfl O_9 (AD (pv 0) O (rm B) Am (Aa (pv 2) Ab))) (Ac (BU X5 rfl (Cw rfl T.b_range (Aa (pv 1) Ab)) (AZ (i:=4) DZ.nd rfl O_9) (Af (Ao (i:=3) DZ.nd rfl O_9 (AD (pv 0) M (rm B) Am (Br (Aa (pv 3) (Aa (pv 3) (Aa (pv 3) (Aa (pv 3) Ab)))) Ab))))) (Af (Au (pv 3)))))),?_⟩
 try dsimp only[cxK]
 refine⟨_,rfl,_,rfl,true,rfl,Bf ⟨_,rfl,_,_,rfl,rfl,_,rfl,?_⟩⟩;rw[Z7 (by lia:(0:Int)<=(l:Int))];refine Cz (xq2 rfl rfl (xq1 rfl ?_));rw[Z7 (by lia:(l:Int)<=(48:Int))];refine Bf (xwn rfl rfl I.hp (Ry g) rfl ⟨g.p,(v:Int),rfl,by lia,by lia,?_⟩);refine xw2 rfl rfl ⟨by lia,by lia,?_⟩;rw[J3];refine CA (n:=l) (λi σ j=>∃(c:Gv)(m:Nat)(D:Option V),σ=[some (.ref g.p),some (.int l),some (.int v),some (.int m),D]/\Fr g H j/\AJ a j g c/\AH G c i/\Sol c v i m) ⟨G,v,none,rfl,Fr.refl g H,I,AH.refl ok,rfl⟩ ?_ ?_
 .rintro i σ j Y ⟨c,m,D,rfl,fr,b,d,u⟩;have Z:=d.few;have r:=Sol.lev d.ok U u;refine xwn rfl rfl b.hp (BK g) rfl (xw3 rfl rfl rfl ⟨S_4,λt W=>?_⟩);have L:=AN (o:=.tup [.int m,.int m,.int m,.int m]) W;refine⟨g,c,t,m,m,m,m,(i:Int),rfl,b.same L,d.ok,Ag,⟨r,r,r,r⟩,by lia,by lia,λn x X y z q e=>?_⟩;exact⟨x,n,(xq1 rfl ⟨(fr.trans (AC.fr L)).trans y,z,d.trans q,m,Sol.goes q u,e⟩)⟩
 .rintro σ j ⟨c,m,D,rfl,fr,b,d,u⟩;exact xq1 rfl (k m c j fr b d u)
end
end J
namespace J
open PySem L2
def bareN:Nat->Nat
|0=>0
|j+1=>8+j
def DO(n:Nat):Gv:=(List.range n).map λ(s:Nat)=>(⟨[(s:Int)],0⟩:Sq)
def Gh(n:Nat):Gv:=(List.range n).map λ(j:Nat)=>(⟨[(bareN j:Int),(bareN j:Int),(bareN j:Int),(bareN j:Int)],(j:Int)+1⟩:Sq)
def G0:Gv:=DO 8++Gh 48
theorem UP(n:Nat):DO (n+1)=DO n++[⟨[(n:Int)],0⟩]:=by unfold DO;rw[P0,C4];rfl
theorem PJ(n:Nat):Gh (n+1)=Gh n++[⟨[(bareN n:Int),(bareN n:Int),(bareN n:Int),(bareN n:Int)],(n:Int)+1⟩]:=by unfold Gh;rw[P0,C4];rfl
theorem FD(n:Nat):(DO n).length=n:=by unfold DO;rw[B8,M4]
theorem QV(n:Nat):(Gh n).length=n:=by unfold Gh;rw[B8,M4]
theorem Ym{i j:Nat}(h:bareN i=bareN j):i=j:=by
 cases i<;>cases j
 .rfl
 .have:0=8+_:=h;lia
 .have:8+_=0:=h;lia
 .have:8+_=8+_:=h;lia
theorem WW(n:Nat):∀q∈DO n,q.parts≠[(n:Int)]:=λq a z=>by
 obtain⟨s,b,rfl⟩:=F0.mp a;have:=F5.mp b;injection z with z _
 have:s=n:=K1 z;lia
theorem QU(n:Nat):∀q∈DO 8++Gh n,q.parts≠[(bareN n:Int),(bareN n:Int),(bareN n:Int),(bareN n:Int)]:=λq a z=>by
 rcases F1.mp a with a|a
 .obtain⟨s,b,rfl⟩:=F0.mp a;cases z
 .obtain⟨s,b,rfl⟩:=F0.mp a;have:=F5.mp b;injection z with z _
  have:=Ym (K1 z);lia
theorem Sa:G0.length=56:=by unfold G0;rw[C5,FD,QV]
theorem MI(j:Nat)(h:j<48):G0[8+j]?=some ⟨[(bareN j:Int),(bareN j:Int),(bareN j:Int),(bareN j:Int)],(j:Int)+1⟩:=by
 unfold G0;rw[J6 (by rw[FD];lia),FD,show 8+j-8=j by lia];unfold Gh;rw[C0,O1 h];rfl
theorem Sb(s:Nat)(h:s<8):G0[s]?=some ⟨[(s:Int)],0⟩:=by
 unfold G0;rw[M8 (by rw[FD];exact h)];unfold DO;rw[C0,O1 h];rfl
theorem g0_lev(j:Nat)(h:j<=48):Al G0 (bareN j) (j:Int):=by
 cases j with
 |zero=>exact⟨_,Sb 0 A4,rfl⟩
 |succ j=>exact⟨_,MI j A0,rfl⟩
theorem g0_nd:∀n,((DO 8++Gh n).map Sq.parts).Nodup
|0=>by decide
|n+1=>by
 rw[PJ,<-S1,C4,Q8];refine⟨g0_nd n,by simp,λp b d a=>?_⟩;obtain⟨q,c,rfl⟩:=F0.mp b;rw[show d=[(bareN n:Int),(bareN n:Int),(bareN n:Int),(bareN n:Int)] by simpa using a];exact QU n q c
theorem g0_ok:GOk G0 where
 leaf:=Sb
 node:=λi q e a=>by
  have b:i<56:=by rw[<-Sa];exact(B9.mp e).1
  obtain⟨j,rfl⟩:∃j,i=8+j:=⟨i-8,by lia⟩
  rw[MI j A0]at e;cases e;have:=g0_lev j A0;refine⟨bareN j,bareN j,bareN j,bareN j,rfl,?_,?_,?_⟩
  .show Al G0 _ ((j:Int)+1-1)/\Al G0 _ ((j:Int)+1-1)/\Al G0 _ ((j:Int)+1-1)/\Al G0 _ ((j:Int)+1-1);rw[show(j:Int)+1-1=(j:Int) by lia];exact⟨this,this,this,this⟩
  .show 1<=(j:Int)+1;lia
  .show(j:Int)+1<=48;lia
 nd:=g0_nd 48
def amK(n:Nat):List (Key×V):=(List.range n).map λ(s:Nat)=>(Sum.inl (s:Int),V.int (if(1:Int)<(s:Int)then 1 else(s:Int)))
theorem TV(n:Nat):amK (n+1)=amK n++[(Sum.inl (n:Int),V.int (if(1:Int)<(n:Int)then 1 else(n:Int)))]:=by unfold amK;rw[P0,C4];rfl
theorem amK_len(n:Nat):(amK n).length=n:=by unfold amK;rw[B8,M4]
theorem QZ{κ:Type}[DecidableEq κ]{k:κ}:∀{l m:List (κ×V)},BR l k=none->BR (l++m) k=BR m k
|[],_,_=>rfl
|p::r,m,h=>by
 by_cases e:p.1=k
 .rw[BT e]at h;cases h
 .rw[BH e]at h;show BR (p::(r++m)) k=_;rw[BH e];exact QZ h
theorem TW(n:Nat):∀m,n<=m->BR (amK n) (Sum.inl (m:Int))=none:=by
 induction n with
 |zero=>intro m _;rfl
 |succ n a =>
  intro m b;rw[TV,QZ (a m A0),BH (by intro z;injection z with z;have:=K1 z;lia)];rfl
def Dq(n:Nat):List Int:=(List.range (n+1)).map λj=>((bareN j:Nat):Int)
theorem PL(n:Nat):Dq (n+1)=Dq n++[((bareN (n+1):Nat):Int)]:=by unfold Dq;rw[P0,C4];rfl
theorem UZ(n:Nat):(Dq n).getLast?=some ((bareN n:Nat):Int):=by
 cases n with
 |zero=>rfl
 |succ n=>rw[PL,List.getLast?_append];rfl
theorem at_lastV{xs:List V}{x:V}(h:xs.getLast?=some x):atI xs (-1)=some x:=by
 obtain⟨ys,rfl⟩:=List.getLast?_eq_some_iff.mp h;unfold atI ixN;rw[Z6 A4,Z9 (by rw[C5,R8];lia)];show(ys++[x])[((-1:Int)+((ys++[x]).length:Nat)).toNat]?=some x;rw[C5,R8,show((-1:Int)+((ys.length+1:Nat):Int)).toNat=ys.length by lia,J6 (C1 _),U4];rfl
seal L2.PA L2.PE L2.PS L2.PSs L2.PT L2.PW
structure Ua(a:Ad)(H H':Hp)(g:GA)(G:Gv)(B:I_)(am:List (Key×V)):Prop where
kp:∀b o,H b=some o->b≠g.p->H' b=some o
at':AJ a H' g G
br:H' g.br=some (.lst (B.map V.int))
am:H' g.am=some (.dK am)
bx:H' g.bx=some (.dK [])
fresh:H g.lv=none/\H g.pt=none/\H g.nm=none/\H g.br=none/\H g.am=none/\H g.bx=none
n1:g.br≠g.lv
n2:g.br≠g.pt
n3:g.am≠g.bx
section
variable{P:N_}{w:Q_}{K:O_}{mg:C_}{base:T_}{a:Ad}
inductive Wp(a:Ad)(vs:List V)(H:Hp)(Q:VK):Prop
|mk (p dx:R_) (_:vs=[.ref p]) (_:H p=some (.ins a.c_Grove dx [])) (_:∀(g:GA)(H':Hp),g.p=p->Ua a H H' g G0 (Dq 48) (amK 8)->Q .non H'):Wp a vs H Q
def Rk(a:Ad):Sp:=λvs H Q _=>Wp a vs H Q
theorem Zw(F:Fun K "__init__" "Grove.__init__" IG f fd)(T:Top K mg a)(aT:BD P w K mg base CX0 1 a.c_Grove "kept" Fz (Rh a)):AK P w K mg base CX0 2 f fd IW (Rk a):=by
 refine F.ok EI D_9 λav A as s H vs Q E hr h=>?_
 obtain⟨p,r,rfl,hp,k⟩:=h;refine⟨_,(Ac (CK (pv 0) (Cb Ab) rfl) (Ac (CK (pv 0) (Cb Ab) rfl) (Ac (CK (pv 0) OY rfl) (Ac (CK (pv 0) (Cb (AI Ab)) rfl) (Ac (CK (pv 0) Ms rfl) (Ac (CK (pv 0) Ms rfl) (Ac (BU X5 rfl (Cw rfl T.b_range (Aa (BV rfl T.k_STATES) Ab)) (AZ (i:=1) EI.nd rfl O_9) (Ac (Bm (AD (pv 0) aT (rm hr) Am (Br (Aa (pv 1) Ab) (AI Ab)))) (Af (II (Gg hr) (AF (pv 0) rfl) (pv 1) (AO (QO rfl) rfl T.b_min A3g (Aa (pv 1) (AI Ab))) rfl)))) (Af (BU X5 rfl (Ni rfl T.b_range (AI (Bl AQ (BV rfl T.k_TOP_LEVEL) Ae Ab))) (AZ (i:=2) EI.nd rfl O_9) (Ac (Ao (i:=3) EI.nd rfl O_9 (Aj Ax (AF (pv 0) rfl) (LA GC Ae) R_9)) (Af (Bm (CF X7 X8 X9 Bw (AF (pv 0) rfl) (Aa (AD (pv 0) aT (rm hr) Am (Br (Aa (pv 3) (Aa (pv 3) (Aa (pv 3) (Aa (pv 3) Ab)))) (Aa (pv 2) Ab))) Ab)))))))))))))),?_⟩
 try dsimp only[cxK]
 have stp:∀{B:Hp}{x:R_}{o:HO}{fs fs':List (Str×V)},B p=some (.ins a.c_Grove r fs)->B x=none->(∀b v,B b=some v->b≠p->upd (upd B x o) p (.ins a.c_Grove r fs') b=some v)/\upd (upd B x o) p (.ins a.c_Grove r fs') x=some o/\upd (upd B x o) p (.ins a.c_Grove r fs') p=some (.ins a.c_Grove r fs')/\upd B x o p=some (.ins a.c_Grove r fs):=λ{B x o fs fs'} e1 e2=>by
  have n:x≠p:=λz=>by rw[z,e1]at e2;cases e2
  exact⟨λb v e nb=>by rw[Av nb,Av (Aw e e2)];exact e,by rw[Av n];exact Ag,Ag,by rw[Av (X6 n)];exact e1⟩
 refine AW ?_;intro M O Z m I;refine⟨S_0,λG aa=>?_⟩;obtain⟨k1,x1,p1,q1⟩:=stp (o:=.lst []) (fs':=AT "levels" (.ref G) []) hp aa;refine xq1 rfl ⟨p,_,r,[],rfl,q1,T.cl_Grove,T.na_Grove_levels,B4,?_⟩;show Z _ _;generalize upd (upd H G _) p _=H1 at k1 x1 p1⊢;refine m ?_;refine AW ?_;intro M O Z m I;refine⟨S_0,λpt Y=>?_⟩;obtain⟨k2,x2,p2,q2⟩:=stp (o:=.lst []) (fs':=AT "parts" (.ref pt) (AT "levels" (.ref G) [])) p1 Y;refine xq1 rfl ⟨p,_,r,(xq1 rfl ⟨q2,T.cl_Grove,T.na_Grove_parts,B6,?_⟩)⟩;show Z _ _;generalize upd (upd H1 pt _) p _=H2 at k2 x2 p2⊢;refine m ?_;refine AW ?_;intro M O Z m I;intro nm ab;obtain⟨k3,x3,p3,q3⟩:=stp (o:=.dT []) (fs':=AT "numbers" (.ref nm) (AT "parts" (.ref pt) (AT "levels" (.ref G) []))) p2 ab;refine xq1 rfl ⟨p,_,r,(xq1 rfl ⟨q3,T.cl_Grove,T.na_Grove_numbers,(by show 2<1000;decide),?_⟩)⟩;show Z _ _;generalize upd (upd H2 nm _) p _=H3 at k3 x3 p3⊢;refine m ?_;refine AW ?_;intro M O Z m I;refine⟨S_1,λR l=>?_⟩;obtain⟨k4,x4,p4,q4⟩:=stp (o:=.lst [.int 0]) (fs':=AT "bares" (.ref R) (AT "numbers" (.ref nm) (AT "parts" (.ref pt) (AT "levels" (.ref G) [])))) p3 l;refine xq1 rfl ⟨p,_,r,(xq1 rfl ⟨q4,T.cl_Grove,T.na_Grove_bares,(by show 3<1000;decide),?_⟩)⟩;show Z _ _;generalize upd (upd H3 R _) p _=H4 at k4 x4 p4⊢;refine m ?_;refine AW ?_;intro M O Z m I;intro W L;obtain⟨k5,x5,p5,q5⟩:=stp (o:=.dK []) (fs':=AT "amounts" (.ref W) (AT "bares" (.ref R) (AT "numbers" (.ref nm) (AT "parts" (.ref pt) (AT "levels" (.ref G) []))))) p4 L;refine xq1 rfl ⟨p,_,r,(xq1 rfl ⟨q5,T.cl_Grove,T.na_Grove_amounts,(by show 4<1000;decide),?_⟩)⟩;show Z _ _;generalize upd (upd H4 W _) p _=H5 at k5 x5 p5⊢;refine m ?_;refine AW ?_;intro M O Z m I;intro bx D;obtain⟨k6,x6,p6,q6⟩:=stp (o:=.dK []) (fs':=fl6 ⟨p,r,G,pt,nm,R,W,bx⟩) p5 D;refine xq1 rfl ⟨p,_,r,(xq1 rfl ⟨q6,T.cl_Grove,T.na_Grove_boxes,(by show 5<1000;decide),?_⟩)⟩;show Z _ (upd (upd H5 bx (.dK [])) p (.ins a.c_Grove r (fl6 ⟨p,r,G,pt,nm,R,W,bx⟩)));generalize upd (upd H5 bx _) p _=H6 at k6 x6 p6⊢;refine m ?_;have aj:∀b v,H1 b=some v->b≠p->H6 b=some v:=λb v e n=>k6 _ _ (k5 _ _ (k4 _ _ (k3 _ _ (k2 _ _ e n) n) n) n) n;have ak:∀b v,H2 b=some v->b≠p->H6 b=some v:=λb v e n=>k6 _ _ (k5 _ _ (k4 _ _ (k3 _ _ e n) n) n) n;have al:∀b v,H3 b=some v->b≠p->H6 b=some v:=λb v e n=>k6 _ _ (k5 _ _ (k4 _ _ e n) n) n;have an:∀b v,H4 b=some v->b≠p->H6 b=some v:=λb v e n=>k6 _ _ (k5 _ _ e n) n;have np:∀{B:Hp}{x:R_}{fs:List (Str×V)},B p=some (.ins a.c_Grove r fs)->B x=none->x≠p:=λ{B x fs} e1 e2 z=>by rw[z,e1]at e2;cases e2
 have no:∀{B Hm:Hp}{x y:R_}{v:HO},B x=some v->B y=none->x≠y:=λ{B Hm x y v} e1 e2=>Aw e1 e2;have ac:=np hp aa;have ad:=np p1 Y;have ah:=np p2 ab;have ag:=np p3 l;have af:=np p4 L;have aq:=np p5 D;have y1:=aj _ _ x1 ac;have y2:=ak _ _ x2 ad;have y3:=al _ _ x3 ah;have y4:=an _ _ x4 ag;have y5:=k6 _ _ x5 af;have C:∀{B:Hp}{x:R_},(∀b v,H b=some v->b≠p->B b=some v)->x≠p->B x=none->H x=none:=λ{B x} kp n e=>by
  cases h:H x with
  |none=>rfl
  |some v=>rw[kp _ _ h n]at e;cases e
 have c2:∀b v,H b=some v->b≠p->H2 b=some v:=λb v e n=>k2 _ _ (k1 _ _ e n) n;have c3:∀b v,H b=some v->b≠p->H3 b=some v:=λb v e n=>k3 _ _ (c2 _ _ e n) n;have c4:∀b v,H b=some v->b≠p->H4 b=some v:=λb v e n=>k4 _ _ (c3 _ _ e n) n;have c5:∀b v,H b=some v->b≠p->H5 b=some v:=λb v e n=>k5 _ _ (c4 _ _ e n) n;have c6:∀b v,H b=some v->b≠p->H6 b=some v:=λb v e n=>k6 _ _ (c5 _ _ e n) n;have d1:G≠pt:=Aw x1 Y;have d2:R≠G:=X6 (Aw (k3 _ _ (k2 _ _ x1 ac) ac) l);have d3:R≠pt:=X6 (Aw (k3 _ _ x2 ad) l);have d4:W≠bx:=Aw x5 D;have N0:Ua a H H6 ⟨p,r,G,pt,nm,R,W,bx⟩ (DO 0) (Dq 0) (amK 0):=⟨c6,⟨p6,y1,⟨[],y2,.nil⟩,y3,d1⟩,y4,y5,x6,⟨aa,C k1 ad Y,C c2 ah ab,C c3 ag l,C c4 af L,C c5 aq D⟩,d2,d3,d4⟩
 have k':=k ⟨p,r,G,pt,nm,R,W,bx⟩;have gp:(⟨p,r,G,pt,nm,R,W,bx⟩:GA).p=p:=rfl;generalize (⟨p,r,G,pt,nm,R,W,bx⟩:GA)=g at N0 k' gp;subst gp;clear k p6 q6 q5 q4 q3 q2 q1 y1 y2 y3 y4 y5 x6 c6 c5 c4 c3 c2 aj ak al an k1 k2 k3 k4 k5 k6 x1 x2 x3 x4 x5 p1 p2 p3 p4 p5 d1 d2 d3 d4 ac ad ah ag af aq D L l ab Y aa C no np stp;refine⟨8,rfl,by decide,by decide,?_⟩;refine CA (n:=8) (λi σ H7=>∃u1:Option V,σ=[some (.ref g.p),u1,none,none]/\Ua a H H7 g (DO i) (Dq 0) (amK i)) ⟨none,rfl,N0⟩ ?_ ?_
 .rintro i σ H7 hi ⟨u1,rfl,N⟩;obtain⟨kp,at',l,L,D,fresh,n1,n2,n3⟩:=N;have cl:(i:Int)=0+(i:Int):=(T5 _).symm;refine xq1 rfl ⟨g.p,g.dx,(xq1 rfl ⟨at'.hp,Rz g,(xq1 rfl ⟨S_1,λt ht=>?_⟩)⟩)⟩;have s1:=AN (o:=.tup [.int (0+(i:Int))]) ht;refine⟨g,DO i,t,[0+(i:Int)],0,rfl,at'.same s1,Ag,by rw[<-cl];exact WW i,by rw[FD];lia,λU fr u=>?_⟩;rw[<-cl,<-UP]at u;have S:Fr g H7 U:=(AC.fr s1).trans fr;obtain⟨ts,h3,h4⟩:=at'.pt;have kd:∀(b:R_)(kvs:List (Key×V)),H7 b=some (.dK kvs)->U b=some (.dK kvs):=λb kvs e=>S _ _ e (AG e at'.lv A3) (AG e h3 A3) (AG e at'.nm A3);have ae:=kd _ _ L;refine xq1 rfl ⟨_,_,rfl,(xwf rfl rfl u.hp T.cl_Grove T.na_Grove_amounts (fl6_am g) (xq1 rfl ⟨g.am,(xq1 rfl ⟨MS.k (k:=Sum.inl (0+(i:Int))) ae (by rw[amK_len];exact Eu A0),?_⟩)⟩))⟩;rw[<-cl,Mq _ (TW i i (C1 _)),<-TV];have d:∀{b:R_}{v:HO},U b=some v->b≠g.am->upd U g.am (.dK (amK (i+1))) b=some v:=λ{b v} e n=>by rw[Av n];exact e
  have na:∀{b:R_}{v:HO},U b=some v->v≠.dK (amK i)->b≠g.am:=λ{b v} e n=>AG e ae n;obtain⟨au,ao,ar⟩:=u.pt;refine xq1 rfl ⟨?_,⟨d u.hp (na u.hp A3),d u.lv (na u.lv A3),⟨au,d ao (na ao A3),PairedM.imp (λc q z=>d z (na z A3)) ar⟩,d u.nm (na u.nm A3),u.ne⟩,?_,Ag,?_,fresh,n1,n2,n3⟩
  .intro b v e nb;have e8:U b=some v:=S _ _ (kp _ _ e nb) (Aw e fresh.1) (Aw e fresh.2.1) (Aw e fresh.2.2.1);exact d e8 (Aw e fresh.2.2.2.2.1)
  .have e8:U g.br=_:=S _ _ l n1 n2 (AG l at'.nm A3);exact d e8 (na e8 A3)
  .exact d (kd _ _ D) (X6 n3)
 .rintro σ H7 ⟨u1,rfl,N⟩;refine xq2 rfl rfl ⟨1,49,rfl,⟨by decide,by decide,by decide,by decide⟩,?_⟩;have N0:Ua a H H7 g (DO 8++Gh 0) (Dq 0) (amK 8):=by rw[show DO 8++Gh 0=DO 8 from U1 _];exact N
  clear N;refine CA (lo:=1) (n:=48) (λj σ U=>∃u2 u3:Option V,σ=[some (.ref g.p),u1,u2,u3]/\Ua a H U g (DO 8++Gh j) (Dq j) (amK 8)) ⟨none,none,rfl,N0⟩ ?_ ?_
  .rintro j σ U hj ⟨u2,u3,rfl,N⟩;obtain⟨kp,at',l,L,D,fresh,n1,n2,n3⟩:=N;refine xwf rfl rfl at'.hp T.cl_Grove T.na_Grove_bares (Lb g) (xwi rfl rfl rfl (SqL.of l) (at_lastV (by rw[List.getLast?_map,UZ];rfl)) ?_);refine xwf rfl rfl at'.hp T.cl_Grove T.na_Grove_bares (Lb g) ⟨.inl ⟨rfl,_,SqL.of l⟩,(xq1 rfl ⟨g.p,g.dx,(xq1 rfl ⟨at'.hp,Rz g,(xw3 rfl rfl rfl (xq1 rfl ⟨S_4,λt ht=>(xq1 rfl ?_)⟩))⟩)⟩)⟩;have s1:=AN (o:=.tup [.int (bareN j:Int),.int (bareN j:Int),.int (bareN j:Int),.int (bareN j:Int)]) ht;have ln:(DO 8++Gh j).length=8+j:=by rw[C5,FD,QV]
   refine⟨g,DO 8++Gh j,t,[(bareN j:Int),(bareN j:Int),(bareN j:Int),(bareN j:Int)],1+(j:Int),rfl,at'.same s1,Ag,QU j,by rw[ln];lia,λH9 fr ai=>?_⟩;rw[show(1:Int)+(j:Int)=(j:Int)+1 by lia,S1,<-PJ]at ai;have S:Fr g U H9:=(AC.fr s1).trans fr;obtain⟨ts,h3,h4⟩:=at'.pt;have kd:∀(b:R_)(kvs:List (Key×V)),U b=some (.dK kvs)->H9 b=some (.dK kvs):=λb kvs e=>S _ _ e (AG e at'.lv A3) (AG e h3 A3) (AG e at'.nm A3);have X:H9 g.br=_:=S _ _ l n1 n2 (AG l at'.nm A3);refine⟨g.br,(xq2 rfl rfl ⟨X,by rw[B8];unfold Dq;rw[B8,M4];exact Eu A0,?_⟩)⟩;have eb:(Dq j).map V.int++[V.int ((DO 8++Gh j).length:Int)]=(Dq (j+1)).map V.int:=by rw[PL,C4,ln];rfl
   rw[eb];have d:∀{b:R_}{v:HO},H9 b=some v->v≠.lst ((Dq j).map V.int)->upd H9 g.br (.lst ((Dq (j+1)).map V.int)) b=some v:=λ{b v} e n=>by rw[Av (AG e X n)];exact e
   refine⟨_,_,rfl,?_,ai.put X n1 n2,Ag,d (kd _ _ L) A3,d (kd _ _ D) A3,fresh,n1,n2,n3⟩;intro b v e nb;rw[Av (Aw e fresh.2.2.2.1)];exact S _ _ (kp _ _ e nb) (Aw e fresh.1) (Aw e fresh.2.1) (Aw e fresh.2.2.1)
  .rintro σ U ⟨u2,u3,rfl,N⟩;exact k' U rfl N
end
end J
namespace J
open PySem L2
theorem Al.uniq{G:Gv}{i:Nat}{l m:Int}(h:Al G i l)(b:Al G i m):l=m:=by
 obtain⟨q,e,z⟩:=h;obtain⟨p,a,c⟩:=b;rw[e]at a;cases a;exact z.symm.trans c
structure Jh(G:Gv)(n i:Nat)(q:Sq)(x y z w:Nat):Prop where
g:G[i]?=some q
ps:q.parts=[(x:Int),(y:Int),(z:Int),(w:Int)]
lev:q.lev=(n:Int)+1
hx:Al G x n
hy:Al G y n
hz:Al G z n
hw:Al G w n
theorem BX{G:Gv}(ok:GOk G){n i:Nat}(h:Al G i ((n+1:Nat):Int)):∃q x y z w,Jh G n i q x y z w:=by
 obtain⟨q,e,f⟩:=h;have l:8<=i:=by
  refine P7 λk=>?_;rw[ok.leaf i k]at e;cases e;have:(0:Int)=((n+1:Nat):Int):=f;lia
 obtain⟨x,y,z,w,j,⟨b,c,d,a⟩,_,_⟩:=ok.node i q e l;have g:q.lev-1=(n:Int):=by lia
 rw[g]at b c d a;exact⟨q,x,y,z,w,e,j,by lia,b,c,d,a⟩
theorem Jh.app{G b:Gv}{k n i:Nat}{q:Sq}{x y z w:Nat}(a:AH G b k)(h:Jh G n i q x y z w):Jh b n i q x y z w:=⟨a.get h.g,h.ps,h.lev,a.lev h.hx,a.lev h.hy,a.lev h.hz,a.lev h.hw⟩
def DM(G:Gv):Nat->Nat->Int
|0,i=>if i=0 then 0 else 1
|n+1,i=>match G[i]? with
 |some q=>(q.parts.map λp=>DM G n p.toNat).sum
 |none=>0
theorem Lq{G:Gv}{n i:Nat}{q:Sq}{x y z w:Nat}(h:Jh G n i q x y z w):DM G (n+1) i=([x,y,z,w].map λk=>DM G n k).sum:=by
 rw[show DM G (n+1) i=(match G[i]? with|some q=>(q.parts.map λ(p:Int)=>DM G n p.toNat).sum|none=>0)from rfl,h.g];show(q.parts.map λ(p:Int)=>DM G n p.toNat).sum=_;rw[h.ps];rfl
theorem Ld{G a:Gv}{k:Nat}(ok:GOk G)(b:AH G a k):∀(n i:Nat),Al G i (n:Int)->DM a n i=DM G n i
|0,i,_=>rfl
|n+1,i,h=>by
 obtain⟨q,x,y,z,w,nd⟩:=BX ok h;rw[Lq nd,Lq (nd.app b)];show DM a n x+(DM a n y+(DM a n z+(DM a n w+0)))=_;rw[Ld ok b n x nd.hx,Ld ok b n y nd.hy,Ld ok b n z nd.hz,Ld ok b n w nd.hw];rfl
theorem FA(G:Gv):∀(n i:Nat),0<=DM G n i
|0,i=>by
 show 0<=if i=0 then(0:Int)else 1;split<;>lia
|n+1,i=>by
 unfold DM;split
 .rename_i q _;have:∀l:List Int,0<=(l.map λp=>DM G n p.toNat).sum:=by
   intro l;induction l with
   |nil=>exact R4 0
   |cons p r a=>rw[F7,P3];have:=FA G n p.toNat;lia
  exact this _
 .exact R4 0
theorem NE:∀(n:Nat)(l:J_),l.Nodup->(∀x∈l,x<n)->l.length<=n
|0,l,_,h=>by
 cases l with
 |nil=>exact C1 0
 |cons x r=>exact absurd (h x C8) (N3 _)
|n+1,l,nd,h=>by
 by_cases c:n∈l
 .have:=NE n (l.erase n) (nd.erase n) λx a=>by
   have b:=(nd.mem_erase_iff).mp a;have:=h x b.2;have:=b.1;lia
  rw[List.length_erase_of_mem c]at this;lia
 .have:=NE n l nd λx a=>by
   have:=h x a;have:x≠n:=λz=>c (z▸a);lia
  lia
structure Ic(G:Gv)(ks:List (Key×V)):Prop where
nd:(ks.map Prod.fst).Nodup
lt:∀k∈ks.map Prod.fst,∃i:Nat,i<G.length/\k=Sum.inl (i:Int)
theorem Ic.len{G:Gv}{ks:List (Key×V)}(h:Ic G ks):ks.length<=G.length:=by
 let f:Key->Nat:=λk=>match k with|.inl i=>i.toNat|.inr _=>0
 have:=NE G.length ((ks.map Prod.fst).map f) (by
  rw[S3,V5];refine A4c (λ{a b} d e c z=>c ?_) (S3.mp h.nd);obtain⟨i,_,rfl⟩:=h.lt a d;obtain⟨j,_,rfl⟩:=h.lt b e;have:(i:Int).toNat=(j:Int).toNat:=z;rw[J3,J3]at this;rw[this]) (λx m=>by
  obtain⟨k,l,rfl⟩:=F0.mp m;obtain⟨i,g,rfl⟩:=h.lt k l;show(i:Int).toNat<_;rw[J3];exact g)
 rw[B8,B8]at this;exact this
theorem Ic.app{G a:Gv}{ks:List (Key×V)}(le:G.length<=a.length)(h:Ic G ks):Ic a ks:=⟨h.nd,λk b=>by
 obtain⟨i,c,e⟩:=h.lt k b;exact⟨i,by lia,e⟩⟩
theorem Ic.put{G:Gv}{ks:List (Key×V)}(h:Ic G ks){i:Nat}(j:i<G.length)(v:V):Ic G (EV ks (Sum.inl (i:Int)) v):=by
 unfold EV;by_cases a:(ks.any λb=>decide (b.1=Sum.inl (i:Int)))=true
 .rw[Z9 a];have e:(ks.map λb=>if b.1=Sum.inl (i:Int)then(b.1,v)else b).map Prod.fst=ks.map Prod.fst:=by
   rw[M7];refine List.map_congr_left λb _=>?_;show(if b.1=Sum.inl (i:Int)then(b.1,v)else b).1=b.1;split<;>rfl
  exact⟨by rw[e];exact h.nd,by rw[e];exact h.lt⟩
 .rw[Z6 a];refine⟨?_,λk c=>?_⟩
  .rw[C4,Q8];refine⟨h.nd,by simp,λk c l d z=>a ?_⟩;have:l=Sum.inl (i:Int):=by simpa using d
   subst this;subst z;obtain⟨b,f,g⟩:=F0.mp c;exact S6.mpr ⟨b,f,Z7 g⟩
  .rw[C4]at c;rcases F1.mp c with z|z
   .exact h.lt k z
   .exact⟨i,j,by simpa using z⟩
structure AmOk(G:Gv)(ks:List (Key×V)):Prop where
keys:Ic G ks
leaf:∀s:Nat,s<8->∃v,BR ks (Sum.inl (s:Int))=some v
val:∀(i:Nat) v,BR ks (Sum.inl (i:Int))=some v->∃l:Nat,Al G i l/\v=.int (DM G l i)
theorem AmOk.app{G b:Gv}{k:Nat}{ks:List (Key×V)}(ok:GOk G)(a:AH G b k)(h:AmOk G ks):AmOk b ks:=⟨h.keys.app (by obtain⟨r,e⟩:=a.pre;rw[e,C5];lia),h.leaf,λi v e=>by
 obtain⟨l,c,d⟩:=h.val i v e;exact⟨l,a.lev c,by rw[Ld ok a l i c];exact d⟩⟩
theorem am0:AmOk G0 (amK 8) where
 keys:=⟨by decide +kernel,λk c=>by
  obtain⟨p,d,rfl⟩:=F0.mp c;obtain⟨s,a,rfl⟩:=F0.mp d;have:=F5.mp a;exact⟨s,by rw[Sa];lia,rfl⟩⟩
 leaf:=λs a=>by
  match s,a with
  |0,_=>exact⟨_,rfl⟩
  |1,_=>exact⟨_,rfl⟩
  |2,_=>exact⟨_,rfl⟩
  |3,_=>exact⟨_,rfl⟩
  |4,_=>exact⟨_,rfl⟩
  |5,_=>exact⟨_,rfl⟩
  |6,_=>exact⟨_,rfl⟩
  |7,_=>exact⟨_,rfl⟩
 val:=λi v e=>by
  have b:i<8:=by
   refine P6 λz=>?_;rw[TW 8 i z]at e;cases e
  refine⟨0,⟨_,Sb i b,rfl⟩,?_⟩
  match i,b with
  |0,_=>cases e;rfl
  |1,_=>cases e;rfl
  |2,_=>cases e;rfl
  |3,_=>cases e;rfl
  |4,_=>cases e;rfl
  |5,_=>cases e;rfl
  |6,_=>cases e;rfl
  |7,_=>cases e;rfl
structure Bx where
l:Int
t:Int
w:Int
h:Int
def Bx.ns(b:Bx):List Int:=[b.l,b.t,b.w,b.h]
def shB(half:Int)(k:Nat)(b:Bx):Bx:=⟨b.l+half*((k:Int)%2),b.t+half*((k:Int)/2),b.w,b.h⟩
def DR(half:Int):Nat->List (Option Bx)->List Bx
|_,[]=>[]
|k,none::r=>DR half (k+1) r
|k,some b::r=>shB half k b::DR half (k+1) r
def mnL(l:I_):Int:=l.min?.getD 0
def mxL(l:I_):Int:=l.max?.getD 0
def Pt(bs:List Bx):Bx:=⟨mnL (bs.map (·.l)),mnL (bs.map (·.t)),mxL (bs.map λb=>b.l+b.w)-mnL (bs.map (·.l)),mxL (bs.map λb=>b.t+b.h)-mnL (bs.map (·.t))⟩
def Qa(half:Int)(obs:List (Option Bx)):Option Bx:=match DR half 0 obs with
|[]=>none
|b::r=>some (Pt (b::r))
def Cd(G:Gv):Nat->Nat->Option Bx
|0,i=>if i=0 then none else some ⟨0,0,1,1⟩
|n+1,i=>match G[i]? with
 |some q=>Qa (2^n) (q.parts.map λ(p:Int)=>Cd G n p.toNat)
 |none=>none
theorem ZJ{l:I_}{m:Int}(h:m∈l)(a:∀x∈l,m<=x):m=mnL l:=by
 unfold mnL;rw[List.min?_eq_some_iff.mpr ⟨h,a⟩];rfl
theorem ZH{l:I_}{m:Int}(h:m∈l)(a:∀x∈l,x<=m):m=mxL l:=by
 unfold mxL;rw[List.max?_eq_some_iff.mpr ⟨h,a⟩];rfl
theorem FE{G:Gv}{n i:Nat}{q:Sq}{x y z w:Nat}(h:Jh G n i q x y z w):Cd G (n+1) i=Qa (2^n) [Cd G n x,Cd G n y,Cd G n z,Cd G n w]:=by
 rw[show Cd G (n+1) i=(match G[i]? with|some q=>Qa (2^n) (q.parts.map λ(p:Int)=>Cd G n p.toNat)|none=>none)from rfl,h.g];show Qa (2^n) (q.parts.map λ(p:Int)=>Cd G n p.toNat)=_;rw[h.ps];rfl
theorem Ik{G b:Gv}{k:Nat}(ok:GOk G)(a:AH G b k):∀(n i:Nat),Al G i (n:Int)->Cd b n i=Cd G n i
|0,i,_=>rfl
|n+1,i,h=>by
 obtain⟨q,x,y,z,w,nd⟩:=BX ok h;rw[FE nd,FE (nd.app a),Ik ok a n x nd.hx,Ik ok a n y nd.hy,Ik ok a n z nd.hz,Ik ok a n w nd.hw]
theorem Qu{half:Int}:∀{a:List (Option Bx)},Qa half a=none ↔ ∀o∈a,o=none:=by
 intro a;have g:∀(a:List (Option Bx))(k:Nat),DR half k a=[] ↔ ∀o∈a,o=none:=by
  intro a;induction a with
  |nil=>intro k;exact⟨λ_ o c=>by simp at c,λ_=>rfl⟩
  |cons o r d =>
   intro k;cases o with
   |none =>
    rw[show DR half k (none::r)=DR half (k+1) r from rfl,d (k+1)];exact⟨λh o c=>by rcases C2.mp c with z|z;exact z;exact h o z,λh o c=>h o (C7 _ c)⟩
   |some b=>exact⟨λh=>(by cases h),λh=>(by cases h (some b) C8)⟩
 rw[<-g a 0];unfold Qa;constructor
 .intro h;split at h
  .assumption
  .cases h
 .intro h;rw[h]
theorem MP{G:Gv}(ok:GOk G):∀(n i:Nat),Al G i (n:Int)->(Cd G n i=none↔DM G n i=0)
|0,i,_=>by
 show(if i=0 then none else some (⟨0,0,1,1⟩:Bx))=none↔(if i=0 then(0:Int)else 1)=0;split
 .exact⟨λ_=>rfl,λ_=>rfl⟩
 .exact⟨λh=>(by cases h),λh=>A0⟩
|n+1,i,h=>by
 obtain⟨q,x,y,z,w,nd⟩:=BX ok h;rw[FE nd,Lq nd,Qu];show _↔DM G n x+(DM G n y+(DM G n z+(DM G n w+0)))=0;have b:=MP ok n x nd.hx;have c:=MP ok n y nd.hy;have d:=MP ok n z nd.hz;have a:=MP ok n w nd.hw;have nx:=FA G n x;have f:=FA G n y;have g:=FA G n z;have nw:=FA G n w;constructor
 .intro h;rw[b.mp (h _ A6),c.mp (h _ A6),d.mp (h _ A6),a.mp (h _ A6)];rfl
 .intro h o e;simp only[C2,D3,K6]at e;rcases e with rfl|rfl|rfl|rfl
  .exact b.mpr A0
  .exact c.mpr A0
  .exact d.mpr A0
  .exact a.mpr A0
theorem UU{G r:Gv}(e:G=G0++r)(j:Nat)(h:j<48):G[8+j]?=some ⟨[(bareN j:Int),(bareN j:Int),(bareN j:Int),(bareN j:Int)],(j:Int)+1⟩:=by
 rw[e];exact Lm (MI j h)
theorem Le{G:Gv}(ok:GOk G){r:Gv}(e:G=G0++r):∀(n i:Nat),n<=48->Al G i (n:Int)->(Cd G n i=none↔i=bareN n)
|0,i,_,_=>by
 show(if i=0 then none else some (⟨0,0,1,1⟩:Bx))=none↔i=0;split
 .rename_i z;exact⟨λ_=>z,λ_=>rfl⟩
 .rename_i z;exact⟨λh=>(by cases h),λh=>absurd h z⟩
|n+1,i,hn,h=>by
 obtain⟨q,x,y,z,w,nd⟩:=BX ok h;rw[FE nd,Qu];have b:=Le ok e n x A0 nd.hx;have c:=Le ok e n y A0 nd.hy;have d:=Le ok e n z A0 nd.hz;have a:=Le ok e n w A0 nd.hw;have f:=UU e n A0;constructor
 .intro h;have l:=b.mp (h _ A6);have m:=c.mp (h _ A6);have s:=d.mp (h _ A6);have k:=a.mp (h _ A6);show i=8+n;refine ok.one nd.g f ?_;rw[nd.ps,l,m,s,k]
 .intro h;have h:i=8+n:=h;have g:=nd.g;rw[h,f]at g;cases g;have p:=nd.ps;have p:[(bareN n:Int),(bareN n:Int),(bareN n:Int),(bareN n:Int)]=[(x:Int),(y:Int),(z:Int),(w:Int)]:=p;injection p with p1 p
  injection p with p2 p
  injection p with p3 p
  injection p with p4 p
  intro o j;simp only[C2,D3,K6]at j;rcases j with rfl|rfl|rfl|rfl
  .exact b.mpr (K1 p1).symm
  .exact c.mpr (K1 p2).symm
  .exact d.mpr (K1 p3).symm
  .exact a.mpr (K1 p4).symm
structure BxOk(G:Gv)(H:Hp)(ks:List (Key×V)):Prop where
keys:Ic G ks
val:∀(i:Nat) v,BR ks (Sum.inl (i:Int))=some v->∃(l:Nat)(b:Bx)(t:R_),Al G i l/\Cd G l i=some b/\v=.ref t/\H t=some (.tup (b.ns.map V.int))
structure AY(a:Ad)(H:Hp)(g:GA)(G:Gv):Prop where
at':AJ a H g G
ok:GOk G
g0:∃r,G=G0++r
br:H g.br=some (.lst ((Dq 48).map V.int))
am:∃ks,H g.am=some (.dK ks)/\AmOk G ks
bx:∃ks,H g.bx=some (.dK ks)/\BxOk G H ks
n1:g.br≠g.lv
n2:g.br≠g.pt
n3:g.am≠g.bx
theorem AY.new{a:Ad}{H b:Hp}{g:GA}(h:Ua a H b g G0 (Dq 48) (amK 8)):AY a b g G0:=⟨h.at',g0_ok,⟨[],by simp⟩,h.br,⟨_,h.am,am0⟩,⟨_,h.bx,⟨by simp,λk c=>by simp at c⟩,λi v e=>by cases e⟩,h.n1,h.n2,h.n3⟩
theorem AY.ne_am{a:Ad}{H:Hp}{g:GA}{G:Gv}(h:AY a H g G){b:R_}{o:HO}(e:H b=some o)(n:∀ks,o≠.dK ks):b≠g.am/\b≠g.bx:=by
 obtain⟨ks,c,_⟩:=h.am;obtain⟨f,d,_⟩:=h.bx;exact⟨AG e c (n _),AG e d (n _)⟩
theorem AY.same{a:Ad}{H d:Hp}{g:GA}{G:Gv}(s:AC H d)(h:AY a H g G):AY a d g G:=by
 obtain⟨at',ok,p,j,⟨ks,q,r⟩,⟨c,u,f⟩,w,x,y⟩:=h;refine⟨at'.same s,ok,p,s _ _ j,⟨ks,s _ _ q,r⟩,⟨c,s _ _ u,f.keys,λi v e=>?_⟩,w,x,y⟩;obtain⟨l,b,t,k,m,n,o⟩:=f.val i v e;exact⟨l,b,t,k,m,n,s _ _ o⟩
theorem AH.le{G a:Gv}{k:Nat}(b:AH G a k):G.length<=a.length:=by
 obtain⟨r,e⟩:=b.pre;rw[e,C5];lia
theorem AY.fr{a:Ad}{H d:Hp}{g:GA}{G j:Gv}{m:Nat}(h:AY a H g G)(f:Fr g H d)(k:AJ a d g j)(c:AH G j m):AY a d g j:=by
 obtain⟨at',ok,⟨r,D⟩,p,⟨ks,E,F⟩,⟨n,I,s⟩,u,w,L⟩:=h;obtain⟨us,K,_⟩:=at'.pt;have keep:∀{b:R_}{o:HO},H b=some o->(∀l,o≠.lst l)->(∀l,o≠.dT l)->d b=some o:=λ{b o} e x M=>f _ _ e (AG e at'.lv (x _)) (AG e K (x _)) (AG e at'.nm (M _));obtain⟨t,C⟩:=c.pre;refine⟨k,c.ok,⟨r++t,by rw[C,D,S1]⟩,f _ _ p u w (AG p at'.nm A3),⟨ks,keep E (by intro l z;cases z) (by intro l z;cases z),F.app ok c⟩,⟨n,keep I (by intro l z;cases z) (by intro l z;cases z),s.keys.app c.le,λi v e=>?_⟩,u,w,L⟩;obtain⟨l,b,t,q,y,A,B⟩:=s.val i v e;exact⟨l,b,t,c.lev q,by rw[Ik ok c l i q];exact y,A,keep B (by intro l z;cases z) (by intro l z;cases z)⟩
theorem AY.put{a:Ad}{H:Hp}{g:GA}{G:Gv}{l:R_}{xs:List V}{o:HO}(h:AY a H g G)(k:H l=some (.lst xs))(y:l≠g.lv)(z:l≠g.pt)(A:l≠g.br):AY a (upd H l o) g G:=by
 obtain⟨at',ok,s,f,⟨ks,u,w⟩,⟨d,x,j⟩,B,C,D⟩:=h;have c:∀{b v},H b=some v->v≠.lst xs->upd H l o b=some v:=λ{b v} e n=>by rw[Av (AG e k n)];exact e
 refine⟨at'.put k y z,ok,s,by rw[Av (X6 A)];exact f,⟨ks,c u A3,w⟩,⟨d,c x A3,j.keys,λi v e=>?_⟩,B,C,D⟩;obtain⟨l,b,t,m,p,q,r⟩:=j.val i v e;exact⟨l,b,t,m,p,q,c r A3⟩
def FrQ(g:GA)(H H':Hp):Prop:=∀b o,H b=some o->b≠g.am->b≠g.bx->H' b=some o
theorem FrQ.refl(g:GA)(H:Hp):FrQ g H H:=λ_ _ e _ _=>e
theorem FrQ.trans{g:GA}{a c d:Hp}(h:FrQ g a c)(j:FrQ g c d):FrQ g a d:=λb o e f i=>j b o (h b o e f i) f i
theorem AC.frq{g:GA}{a c:Hp}(h:AC a c):FrQ g a c:=λb o e _ _=>h b o e
theorem AJ.dict{a:Ad}{H:Hp}{g:GA}{G:Gv}{d:R_}{ks:List (Key×V)}{o:HO}(p:H d=some (.dK ks))(h:AJ a H g G):AJ a (upd H d o) g G:=by
 obtain⟨f,i,⟨r,j,k⟩,l,m⟩:=h;have c:∀{b v},H b=some v->v≠.dK ks->upd H d o b=some v:=λ{b v} e n=>by rw[Av (AG e p n)];exact e
 exact⟨c f A3,c i A3,⟨r,c j A3,PairedM.imp (λt q z=>c z A3) k⟩,c l A3,m⟩
theorem AY.bx_put{a:Ad}{H:Hp}{g:GA}{G:Gv}{ks ks2:List (Key×V)}(h:AY a H g G)(e:H g.bx=some (.dK ks))(j:BxOk G H ks2):AY a (upd H g.bx (.dK ks2)) g G/\FrQ g H (upd H g.bx (.dK ks2)):=by
 obtain⟨at',ok,u,m,⟨f,w,x⟩,⟨_,_,_⟩,z,A,k⟩:=h;have c:∀{b v},H b=some v->v≠.dK ks->upd H g.bx (.dK ks2) b=some v:=λ{b v} d n=>by rw[Av (AG d e n)];exact d
 refine⟨⟨at'.dict e,ok,u,c m A3,⟨f,by rw[Av k];exact w,x⟩,⟨_,Ag,j.keys,λi v e=>?_⟩,z,A,k⟩,λb o d _ y=>by rw[Av y];exact d⟩;obtain⟨l,b,t,p,q,r,s⟩:=j.val i v e;exact⟨l,b,t,p,q,r,c s A3⟩
theorem Tl(g:GA):(fl6 g).lookup ("boxed" : Str)=none:=Fp g A1 A1 A1 A1 A1 A1
theorem Tk(g:GA):(fl6 g).lookup ("measured" : Str)=none:=Fp g A1 A1 A1 A1 A1 A1
theorem no_span(g:GA):(fl6 g).lookup ("span" : Str)=none:=Fp g A1 A1 A1 A1 A1 A1
theorem Jh.mem{G:Gv}{n i:Nat}{q:Sq}{x y z w:Nat}(h:Jh G n i q x y z w){j:Nat}{v:V}(e:(q.parts.map V.int)[j]?=some v):∃k:Nat,v=.int k/\Al G k n/\q.parts[j]?=some (k:Int):=by
 rw[C0]at e;obtain⟨p,a,rfl⟩:=D6.mp e;have b:=D0 a;rw[h.ps]at b;simp only[C2,D3,K6]at b;rcases b with rfl|rfl|rfl|rfl
 .exact⟨x,rfl,h.hx,a⟩
 .exact⟨y,rfl,h.hy,a⟩
 .exact⟨z,rfl,h.hz,a⟩
 .exact⟨w,rfl,h.hw,a⟩
seal L2.PA L2.PE L2.PS L2.PSs L2.PT L2.PW
theorem Pw(half:Int):∀(l r:List (Option Bx))(k:Nat),DR half k (l++r)=DR half k l++DR half (k+l.length) r
|[],r,k=>rfl
|none::l,r,k=>by
 show DR half (k+1) (l++r)=DR half (k+1) l++DR half (k+(l.length+1)) r;rw[Pw half l r (k+1),show k+1+l.length=k+(l.length+1) by lia]
|some b::l,r,k=>by
 show shB half k b::DR half (k+1) (l++r)=shB half k b::(DR half (k+1) l++DR half (k+(l.length+1)) r);rw[Pw half l r (k+1),show k+1+l.length=k+(l.length+1) by lia]
theorem MH(half:Int):∀(l:List (Option Bx))(k:Nat),(DR half k l).length<=l.length
|[],k=>C1 _
|none::l,k=>D1 (MH half l (k+1)) (S2 _)
|some b::l,k=>P4 (MH half l (k+1))
theorem PairedM.getL{α β:Type}{F:α->β->Prop}:∀{l:List α}{m:List β}{i:Nat}{x:α},Paired F l m->l[i]?=some x->∃y,m[i]?=some y/\F x y
|_,_,_,_,.nil,e=>by simp at e
|_,_,0,_,.cons r _,e=>by simp at e;subst e;exact⟨_,rfl,r⟩
|_,_,i+1,x,.cons _ t,e=>by
 obtain⟨y,a,b⟩:=PairedM.getL (i:=i) (x:=x) t (by simpa using e);exact⟨y,by simpa using a,b⟩
def NK(H:Hp)(t:R_)(b:Bx):Prop:=H t=some (.tup (b.ns.map V.int))
theorem Ox{β:Type}{K:O_}{k:Nat}{cs:J_}{g:TG}{tc:TT}{l:TE}{σ:St}{H:Hp}{fin:List V->Hp->Prop}{D:Addr->β->Prop}{L:R_}{e:H_}{bs:List β}(c:β->Int)(o:H L=some (.lst (e.map V.ref)))(i:Paired D e bs)(few:e.length<1000)
  (q:∀t b a N,D t b->a.length<sizeLine->N (a++[.int (c b)]) H->Bt k cs g tc l σ (.ref t) a H N) (p:fin ((bs.map c).map V.int) H):GD k cs g tc l (Itl K L) σ H fin:=by
 have r:e.length=bs.length:=K4 i;refine Dp (xs:=e.map V.ref) (λj a f=>H=f/\a=((bs.take j).map c).map V.int) ⟨rfl,rfl⟩ (λj a f _ z=>z.1▸SqL.of o) ?_ ?_
 .rintro j v a f h ⟨rfl,rfl⟩;rw[C0]at h;obtain⟨t,n,rfl⟩:=D6.mp h;obtain⟨b,m,d⟩:=PairedM.getL i n;refine q t b _ _ d (by rw[B8,B8,M5];exact Eu A0) ⟨rfl,?_⟩;rw[F9,m,C4,C4];rfl
 .rintro a f ⟨rfl,rfl⟩;rw[B8,r,J9];exact p
section
variable{P:N_}{w:Q_}{K:O_}{mg:C_}{base:T_}{a:Ad}
inductive Wj(vs:List V)(H:Hp)(Q:VK):Prop
|mk (t:R_) (b:Bx) (dx dy:Int) (_:vs=[.ref t,.int dx,.int dy]) (_:NK H t b) (_:∀t',H t'=none->Q (.ref t') (upd H t' (.tup [.int (b.l+dx),.int (b.t+dy),.int b.w,.int b.h]))):Wj vs H Q
def Mc:Sp:=λvs H Q _=>Wj vs H Q
theorem Zo(F:Fun K "shifted_box" "shifted_box" GH f fd)(T:Top K mg a):AK P w K mg base CX0 1 f fd Qb Mc:=by
 refine F.ok OI D_9 λe A d s H vs Q E m h=>?_
 obtain⟨t,b,g,i,rfl,c,k⟩:=h;have c:H t=some (.tup [.int b.l,.int b.t,.int b.w,.int b.h]):=c;refine⟨_,(Af (Au (Eg (Bl AQ (Aj An (pv 0) Ae R_9) (pv 1) (Bl AQ (Aj An (pv 0) Ae R_9) (pv 2) (Aa (Aj An (pv 0) Ae R_9) (Aa (Aj An (pv 0) Ae R_9) Ab))))))),?_⟩
 try dsimp only[cxK]
 refine xwi rfl rfl rfl (SqT.of c) (Ai (j:=0) rfl) (xwb rfl rfl rfl (xwi rfl rfl rfl (SqT.of c) (Ai (j:=1) rfl) (xwb rfl rfl rfl (xwi rfl rfl rfl (SqT.of c) (Ai (j:=2) rfl) (xwi rfl rfl rfl (SqT.of c) (Ai (j:=3) rfl) ⟨S_4,λt' n=>k t' n⟩)))))
inductive Wn(vs:List V)(H:Hp)(Q:VK):Prop
|mk (L:R_) (ts:H_) (bs:List Bx) (_:vs=[.ref L]) (_:H L=some (.lst (ts.map V.ref))) (_:Paired (NK H) ts bs) (_:bs≠[]) (_:ts.length<1000) (_:∀t' H',AC H H'->NK H' t' (Pt bs)->Q (.ref t') H'):Wn vs H Q
def Oh:Sp:=λvs H Q _=>Wn vs H Q
theorem Zt(F:Fun K "least_box" "least_box" Dg f fd)(T:Top K mg a):AK P w K mg base CX0 1 f fd Gy Oh:=by
 refine F.ok DV D_9 λaa A S s H vs Q E hr h=>?_
 obtain⟨L,Y,bs,rfl,n,u,ne,few,k⟩:=h;have c:∀m:Bx->Int,bs.map m≠[]:=λm z=>ne (S9.mp z);refine⟨_,(Ac (Ao (i:=1) DV.nd rfl O_9 (AO (QN rfl) rfl T.b_min A3g (Aa (BW rfl (Bz.of (So:=Ah Dg) (No:=EX) (N:=["box"]) (k:=1) (cs:=[]) rfl rfl A1) (Cg (pv 0)) (λ_ _ _=>(Bd (i:=0) A1 rfl rfl)) (λ_ _ _=>BG) (λ_ _ _=>(Aj (Ll (K:=K) rfl) (pv 0) Ae R_9))) Ab))) (Ac (Ao (i:=2) DV.nd rfl O_9 (AO (QN rfl) rfl T.b_min A3g (Aa (BW rfl (Bz.of (So:=Ah Dg) (No:=EX) (N:=["box"]) (k:=1) (cs:=[]) rfl rfl A1) (Cg (pv 0)) (λ_ _ _=>(Bd (i:=0) A1 rfl rfl)) (λ_ _ _=>BG) (λ_ _ _=>(Aj (Ll (K:=K) rfl) (pv 0) Ae R_9))) Ab))) (Ac (Ao (i:=3) DV.nd rfl O_9 (AO (QP rfl) rfl T.b_max A4g (Aa (BW rfl (Bz.of (So:=Ah Dg) (No:=EX) (N:=["box"]) (k:=1) (cs:=[]) rfl rfl A1) (Cg (pv 0)) (λ_ _ _=>(Bd (i:=0) A1 rfl rfl)) (λ_ _ _=>BG) (λ_ _ _=>(AA AQ (Aj (Ll (K:=K) rfl) (pv 0) Ae R_9) (Aj (Ll (K:=K) rfl) (pv 0) Ae R_9)))) Ab))) (Ac (Ao (i:=4) DV.nd rfl O_9 (AO (QP rfl) rfl T.b_max A4g (Aa (BW rfl (Bz.of (So:=Ah Dg) (No:=EX) (N:=["box"]) (k:=1) (cs:=[]) rfl rfl A1) (Cg (pv 0)) (λ_ _ _=>(Bd (i:=0) A1 rfl rfl)) (λ_ _ _=>BG) (λ_ _ _=>(AA AQ (Aj (Ll (K:=K) rfl) (pv 0) Ae R_9) (Aj (Ll (K:=K) rfl) (pv 0) Ae R_9)))) Ab))) (Af (Au (Eg (Aa (pv 1) (Aa (pv 2) (Bl BJ (pv 3) (pv 1) (Bl BJ (pv 4) (pv 2) Ab))))))))))),?_⟩
 try dsimp only[cxK]
 refine xq1 rfl ⟨L,rfl,⟨_,SqL.of n⟩,Ox (·.l) n u few (λt b e N d g nx=>⟨⟨[some (.ref t)],rfl,rfl⟩,g,Gm (xwi rfl rfl rfl (SqT.of d) (Ai (j:=0) rfl) nx)⟩) λq1 h1=>?_⟩;refine⟨q1,(xq1 rfl ⟨SqL.of Ag,c _,λm1 B I=>?_⟩)⟩;obtain rfl:=ZJ B I;have v:=AN (o:=.lst ((bs.map (·.l)).map V.int)) h1;generalize upd H q1 (.lst ((bs.map (·.l)).map V.int))=Z at v⊢;have p:=v _ _ n;have U:Paired (NK Z) Y bs:=PairedM.imp (λt b z=>v _ _ z) u;refine xq1 rfl ⟨L,rfl,⟨_,SqL.of p⟩,Ox (·.t) p U few (λt b e N d g nx=>⟨⟨[some (.ref t)],rfl,rfl⟩,g,Gm (xwi rfl rfl rfl (SqT.of d) (Ai (j:=1) rfl) nx)⟩) λq2 h2=>?_⟩;refine⟨q2,(xq1 rfl ⟨SqL.of Ag,c _,λm2 C M=>?_⟩)⟩;obtain rfl:=ZJ C M;have x:=v.trans (AN (o:=.lst ((bs.map (·.t)).map V.int)) h2);generalize upd Z q2 (.lst ((bs.map (·.t)).map V.int))=H2 at x⊢;have q:=x _ _ n;have W:Paired (NK H2) Y bs:=PairedM.imp (λt b z=>x _ _ z) u;refine xq1 rfl ⟨L,rfl,⟨_,SqL.of q⟩,Ox (λb=>b.l+b.w) q W few (λt b e N d g nx=>⟨⟨[some (.ref t)],rfl,rfl⟩,g,Gm (xwi rfl rfl rfl (SqT.of d) (Ai (j:=0) rfl) (xwi rfl rfl rfl (SqT.of d) (Ai (j:=2) rfl) (xq2 rfl rfl nx)))⟩) λq3 h3=>?_⟩;refine⟨q3,(xq1 rfl ⟨SqL.of Ag,c _,λm3 D O=>?_⟩)⟩;obtain rfl:=ZH D O;have y:=x.trans (AN (o:=.lst ((bs.map λb=>b.l+b.w).map V.int)) h3);generalize upd H2 q3 (.lst ((bs.map λb=>b.l+b.w).map V.int))=H3 at y⊢;have r:=y _ _ n;have X:Paired (NK H3) Y bs:=PairedM.imp (λt b z=>y _ _ z) u;refine xq1 rfl ⟨L,rfl,⟨_,SqL.of r⟩,Ox (λb=>b.t+b.h) r X few (λt b e N d g nx=>⟨⟨[some (.ref t)],rfl,rfl⟩,g,Gm (xwi rfl rfl rfl (SqT.of d) (Ai (j:=1) rfl) (xwi rfl rfl rfl (SqT.of d) (Ai (j:=3) rfl) (xq2 rfl rfl nx)))⟩) λq4 h4=>?_⟩;refine⟨q4,(xq1 rfl ⟨SqL.of Ag,c _,λm4 G R=>?_⟩)⟩;obtain rfl:=ZH G R;have s4:=y.trans (AN (o:=.lst ((bs.map λb=>b.t+b.h).map V.int)) h4);generalize upd H3 q4 (.lst ((bs.map λb=>b.t+b.h).map V.int))=H4 at s4⊢;exact xw3 rfl rfl rfl (xwb rfl rfl rfl (xw2 rfl rfl (xq2 rfl rfl ⟨S_4,λt5 h5=>k t5 _ (s4.trans (AN h5)) Ag⟩)))
inductive SpBox(a:Ad)(n:Nat)(vs:List V)(H:Hp)(Q:VK):Prop
|mk (g:GA) (G:Gv) (i l:Nat) (_:vs=[.ref g.p,.int i]) (_:AY a H g G) (_:Al G i l) (_:l<n) (_:G.length<9000000) (_:(Cd G l i=none->∀H',FrQ g H H'->AY a H' g G->Q .non H')) (_:∀b,Cd G l i=some b->∀t H',FrQ g H H'->AY a H' g G->NK H' t b->Q (.ref t) H'):SpBox a n vs H Q
def SS(a:Ad)(n:Nat):Sp:=λvs H Q _=>SpBox a n vs H Q
inductive SpMea(a:Ad)(n:Nat)(vs:List V)(H:Hp)(Q:VK):Prop
|mk (g:GA) (G:Gv) (i l:Nat) (b:Bx) (_:vs=[.ref g.p,.int i]) (_:AY a H g G) (_:Al G i l) (_:l<n) (_:G.length<9000000) (_:Cd G l i=some b) (_:∀t H',FrQ g H H'->AY a H' g G->NK H' t b->Q (.ref t) H'):SpMea a n vs H Q
def spMea(a:Ad)(n:Nat):Sp:=λvs H Q _=>SpMea a n vs H Q
theorem Ra(m:Nat){l:Int}(e:l=(m:Int)+1):(1:Int)*2^(l-1).toNat=2^m:=by
 rw[e,V6,show((m:Int)+1-1).toNat=m by lia]
theorem ok_mea{n d:Nat}(F:Fun K "measured" "Grove.measured" Ds f fd)(T:Top K mg a)(hd:1<=d)(aK:Cal P w K mg base CX0 1 "shifted_box" Qb Mc)(bA:Cal P w K mg base CX0 1 "least_box" Gy Oh)(b8:BD P w K mg base CX0 d a.c_Grove "boxed" JU (SS a n)):AK P w K mg base CX0 (d+1) f fd JU (spMea a (n+1)):=by
 refine F.ok BB (λvs H Q E h=>?_) (λan A am s H vs Q E hr h=>?_)
 .obtain⟨g,G,i,l,b,rfl,_⟩:=h;rfl
 .obtain⟨g,G,i,l,b,rfl,M,hl,ln,few,Z,k⟩:=h;obtain⟨q0,e0,l0⟩:=id hl;refine⟨_,(Ac (Ao (i:=2) BB.nd rfl O_9 (Aj Ax (AF (pv 0) rfl) (pv 1) R_9)) (Ac (AM (Ay CG (pv 2) Ae (AE _)) (Af (Au (Eg (AI (AI (AI (AI Ab))))))) AB) (Ac (Ao (i:=3) BB.nd rfl O_9 (AA IZ Ae (AA BJ (pv 2) Ae))) (Ac (Ao (i:=4) BB.nd rfl O_9 (Cb Ab)) (Ac (BU X5 rfl (Mr true rfl T.b_enumerate (Aa (Aj Ax (AF (pv 0) rfl) (pv 1) R_9) Ab)) (Nj rfl (CS (AZ (i:=5) BB.nd rfl O_9) (CS (AZ (i:=6) BB.nd rfl O_9) Li))) (Ac (Ao (i:=7) BB.nd rfl O_9 (AD (pv 0) b8 (rm hr) Am (Aa (pv 6) Ab))) (Af (AM (Ay VJ (pv 7) Cy (AE _)) (Af (Bm (CF X7 X8 X9 Bw (pv 4) (Aa (Ar aK (rm hr) rfl Am (Aa (pv 7) (Bl Fo (pv 3) (AA Bb (pv 5) Ae) (Bl Fo (pv 3) (AA DF (pv 5) Ae) Ab)))) Ab)))) AB)))) (Af (Au (Ar bA (rm hr) rfl Am (Aa (pv 4) Ab))))))))),?_⟩
  try dsimp only[cxK]
  refine⟨_,rfl,g.p,_,g.dx,_,_,rfl,M.at'.hp,T.cl_Grove,T.na_Grove_levels,Eo g,_,rfl,g.lv,_,(i:Int),.int q0.lev,rfl,rfl,SqL.of M.at'.lv,Ai (by rw[C0,e0];rfl),?_⟩;cases l with
  |zero =>
   rw[l0];refine xq1 rfl ⟨rfl,(xq1 rfl (Cz ⟨S_4,λt Y=>?_⟩))⟩;have e:b=⟨0,0,1,1⟩:=by
    have Z:(if i=0 then none else some (⟨0,0,1,1⟩:Bx))=some b:=Z;split at Z
    .cases Z
    .cases Z;rfl
   subst e;have sm:=AN (o:=.tup [.int 0,.int 0,.int 1,.int 1]) Y;exact k t _ (AC.frq sm) (M.same sm) Ag
  |succ m =>
   have al:q0.lev=(m:Int)+1:=by rw[l0];lia
   refine xq1 rfl ⟨rfl,(xq1 rfl ?_)⟩;rw[Z8 (by intro z;injection z with z;lia)];obtain⟨q,x,y,z,w,nd⟩:=BX M.ok hl;obtain⟨ts,h3,h4⟩:=M.at'.pt;obtain⟨t,et,Y⟩:=PairedM.get h4 nd.g;have Y:H t=some (.tup (q.parts.map V.int)):=Y;have nt:=M.ne_am Y (by intro l z;cases z);refine Bf (xwb rfl rfl rfl (xq2 rfl rfl ⟨⟨by lia,by have:=(M.ok.lev e0).2;lia,by decide⟩,?_⟩));rw[show(λ(i j:Int)=>V.int (i*2^j.toNat)) 1 (q0.lev-1)=V.int (2^m)from K5 V.int (Ra m al)];refine⟨S_0,λL hL=>?_⟩;have m1:L≠g.lv:=X6 (Aw M.at'.lv hL);have m2:L≠g.pt:=X6 (Aw h3 hL);have m3:L≠g.br:=X6 (Aw M.br hL);have s1:=AN (o:=.lst []) hL;have ad:upd H L (.lst []) L=some (.lst []):=Ag;generalize upd H L (.lst [])=H1 at s1 ad⊢;have ab:=M.same s1;have ai:=s1 _ _ h3;have aj:=s1 _ _ Y;generalize C:[Cd G m x,Cd G m y,Cd G m z,Cd G m w]=r;have D:r.length=4:=by rw[<-C];rfl
   have aa:Cd G (m+1) i=Qa (2^m) r:=by rw[FE nd,C]
   have ac:∀(j k:Nat),q.parts[j]?=some (k:Int)->r[j]?=some (Cd G m k):=by
    intro j k e;rw[nd.ps]at e;rw[<-C]
    match j,e with
    |0,e=>have e:some (x:Int)=some (k:Int):=e;rw[show x=k from K1 (K0 e)];rfl
    |1,e=>have e:some (y:Int)=some (k:Int):=e;rw[show y=k from K1 (K0 e)];rfl
    |2,e=>have e:some (z:Int)=some (k:Int):=e;rw[show z=k from K1 (K0 e)];rfl
    |3,e=>have e:some (w:Int)=some (k:Int):=e;rw[show w=k from K1 (K0 e)];rfl
    |j+4,e=>simp at e
   refine xwf rfl rfl ab.at'.hp T.cl_Grove T.na_Grove_parts (CB g) (xwi rfl rfl rfl (SqL.of ai) (Ai (by rw[C0,et];rfl)) ⟨t,rfl,⟨_,SqT.of aj⟩,?_⟩);refine La (b:=true) (xs:=q.parts.map V.int) (λj σ R=>∃(us:H_)(u5 u6 u7:Option V),σ=[some (.ref g.p),some (.int i),some (.int q0.lev),some (.int (2^m)),some (.ref L),u5,u6,u7]/\FrQ g H R/\AY a R g G/\R L=some (.lst (us.map V.ref))/\Paired (NK R) us (DR (2^m) 0 (r.take j))) ⟨[],none,none,none,rfl,AC.frq s1,ab,ad,.nil⟩ (λj σ R _ ⟨_,_,_,_,_,fr,_⟩=>SqT.of (fr _ _ Y nt.1 nt.2)) ?_ ?_
   .rintro j v σ R T' ev ⟨us,u5,u6,u7,rfl,fr,S,W,pr⟩ nT;obtain⟨k',rfl,hk,ek⟩:=nd.mem ev;have eo:=ac j k' ek;have hj:j<4:=by rw[<-D];exact(B9.mp eo).1
    have lu:us.length<=4:=by
     rw[K4 pr];have:=MH (2^m) (r.take j) 0;rw[M5]at this;lia
    have s2:=AN (o:=.tup [.int j,.int k']) nT;refine QD Ag ?_;generalize upd R T' (.tup [.int j,.int k'])=H3 at s2⊢;have O:=S.same s2;have ge:DR (2^m) 0 (r.take (j+1))=DR (2^m) 0 (r.take j)++DR (2^m) j [Cd G m k']:=by
     rw[F9,eo,R5,Pw,M5,D,N1,Nat.min_eq_left A0]
    have nL:∀{B:Hp},FrQ g H3 B->B L=some (.lst (us.map V.ref)):=λ{B} f4=>by
     have:=s2 _ _ W;have n:=O.ne_am this (by intro l z;cases z);exact f4 _ _ this n.1 n.2
    have nP:∀{B:Hp},FrQ g H3 B->Paired (NK B) us (DR (2^m) 0 (r.take j)):=λ{B} f4=>PairedM.imp (λt b z=>by
     have:=s2 _ _ z;have n:=O.ne_am this (by intro l z;cases z);exact f4 _ _ this n.1 n.2) pr
    refine xq1 rfl ⟨g.p,g.dx,(xq1 rfl ⟨O.at'.hp,Tl g,(xq1 rfl ⟨g,G,k',m,rfl,O,hk,by lia,few,λen B f4 U=>?_,λu ag t4 B f4 U ak=>?_⟩)⟩)⟩
    .refine xq1 rfl ⟨rfl,(xq1 rfl (Bf ⟨us,_,_,_,rfl,(fr.trans (AC.frq s2)).trans f4,U,nL f4,?_⟩))⟩;rw[ge,en];show Paired _ us (_++[]);rw[U1];exact nP f4
    .refine xq1 rfl ⟨rfl,(xq1 rfl (Cz ?_))⟩;refine xq1 rfl ⟨.inl ⟨rfl,_,SqL.of (nL f4)⟩,(xw3 rfl rfl rfl (xq2 rfl rfl ⟨B7,(xq2 rfl rfl ⟨.inr ⟨by lia,by lia⟩,(xw2 rfl rfl (xq2 rfl rfl ⟨⟨by decide,by decide⟩,(xq2 rfl rfl ⟨.inr ⟨by lia,by lia⟩,?_⟩)⟩))⟩)⟩))⟩;refine⟨t4,u,_,_,rfl,ak,λt5 h5=>?_⟩;have s5:=AN (o:=.tup [.int (u.l+2^m*((j:Int)%2)),.int (u.t+2^m*((j:Int)/2)),.int u.w,.int u.h]) h5;have af:NK (upd B t5 (.tup [.int (u.l+2^m*((j:Int)%2)),.int (u.t+2^m*((j:Int)/2)),.int u.w,.int u.h])) t5 (shB (2^m) j u):=Ag;generalize upd B t5 (.tup [.int (u.l+2^m*((j:Int)%2)),.int (u.t+2^m*((j:Int)/2)),.int u.w,.int u.h])=H5 at s5 af⊢;have X:=s5 _ _ (nL f4);have ah:=U.same s5;refine⟨L,(xq2 rfl rfl ⟨X,by rw[B8];exact Eu A0,?_⟩)⟩;have I:∀{c:R_}{l:List V},H5 c=some (.tup l)->upd H5 L (.lst (us.map V.ref++[.ref t5])) c=some (.tup l):=λ{c l} e=>by rw[Av (AG e X A3)];exact e
     refine⟨us++[t5],_,_,_,rfl,?_,ah.put X m1 m2 m3,by rw[Ag,C4];rfl,?_⟩
     .intro c o e n1 n2;have e5:=s5 _ _ (((fr.trans (AC.frq s2)).trans f4) _ _ e n1 n2);rw[Av (Aw e hL)];exact e5
     .rw[ge,ag];exact A1c (PairedM.imp (λc b z=>I (s5 _ _ z)) (nP f4)) (I af)
   .rintro σ R ⟨us,u5,u6,u7,rfl,fr,S,W,pr⟩;rw[B8,show q.parts.length=r.length by rw[nd.ps,D];rfl,J9]at pr;have N:Qa (2^m) r=some b:=by rw[<-aa];exact Z
    have lu:us.length<=4:=by
     rw[K4 pr];have:=MH (2^m) r 0;lia
    have e3:DR (2^m) 0 r≠[]/\Pt (DR (2^m) 0 r)=b:=by
     unfold Qa at N;split at N
     .cases N
     .rename_i b1 r1 eg;rw[eg];exact⟨A3,K0 N⟩
    refine xq1 rfl ⟨L,us,_,rfl,W,pr,e3.1,by lia,λt' H' s' ae=>?_⟩;rw[e3.2]at ae;exact k t' H' (fr.trans (AC.frq s')) (S.same s') ae
theorem bareL_at{l:Nat}(h:l<=48):((Dq 48).map V.int)[l]?=some (.int (bareN l:Int)):=by
 unfold Dq;rw[C0,C0,O1 A0];rfl
theorem ok_boxS{n d:Nat}(F:Fun K "boxed" "Grove.boxed" EM f fd)(T:Top K mg a)(Y:BD P w K mg base CX0 d a.c_Grove "measured" JU (spMea a n)):AK P w K mg base CX0 (d+1) f fd JU (SS a n):=by
 refine F.ok Ea D_9 λZ A S s H vs Q E R h=>?_
 obtain⟨g,G,i,l,rfl,c,x,ln,few,k1,X⟩:=h;obtain⟨q0,V,l0⟩:=id x;have I:l<=48:=by have:=(c.ok.lev V).2;lia
 obtain⟨ks,D,y⟩:=c.bx;have lk:=y.keys.len;obtain⟨r,eg⟩:=c.g0;have U:=Le c.ok eg l i I x;refine⟨_,(Ac (AM (Ay CG (pv 1) (Aj Ax (AF (pv 0) rfl) (Aj Ax (AF (pv 0) rfl) (pv 1) R_9) R_9) (AE _)) (Af (Au Cy)) AB) (Ac (Ao (i:=2) Ea.nd rfl O_9 (Mt (Gg R) (AF (pv 0) rfl) (pv 1) ⟨rfl,rfl,rfl,rfl⟩)) (Ac (AM (Ay Ja (pv 2) Cy (AE _)) (Ac (Ao (i:=2) Ea.nd rfl O_9 (AD (pv 0) Y (rm R) Am (Aa (pv 1) Ab))) (Af (II (Gg R) (AF (pv 0) rfl) (pv 1) (pv 2) rfl))) AB) (Af (Au (pv 2)))))),?_⟩
 try dsimp only[cxK]
 refine xw2 rfl rfl (xq5 c.at'.hp T.cl_Grove T.na_Grove_bares (Lb g) (xwf rfl rfl c.at'.hp T.cl_Grove T.na_Grove_levels (Eo g) (xwi rfl rfl rfl (SqL.of c.at'.lv) (Ai (by rw[C0,V];rfl)) (xq4 rfl rfl (SqL.of c.br) (by rw[l0];exact Ai (bareL_at I)) ⟨rfl,(xq1 rfl ?_)⟩))));refine Er (λN=>?_) (λN=>?_)
 .have ei:i=bareN l:=by
   have:=K3 N;injection this with this
   exact K1 this
  exact k1 (U.mpr ei) H (FrQ.refl g H) c
 .have ne:¬i=bareN l:=λz=>N (by rw[z];exact Z7 rfl);obtain⟨b,B⟩:∃b,Cd G l i=some b:=by
   cases e:Cd G l i with
   |none=>exact absurd (U.mp e) ne
   |some b=>exact⟨b,rfl⟩
  refine xwf rfl rfl c.at'.hp T.cl_Grove T.na_Grove_boxes (fl6_bx g) ⟨g.bx,rfl,.inl ⟨_,.inl D⟩,(xq1 rfl ⟨_,Jt.k (k:=Sum.inl (i:Int)) D,?_⟩)⟩;cases e:BR ks (Sum.inl (i:Int))with
  |some v =>
   obtain⟨l',b',t,O,C,rfl,ht⟩:=y.val i v e;have el:l'=l:=K1 (O.uniq x);subst el;rw[B]at C;cases C;exact xq1 rfl ⟨rfl,(xq1 rfl (Bf (xq1 rfl (X b B t H (FrQ.refl g H) c ht))))⟩
  |none =>
   refine xq1 rfl ⟨rfl,(xq1 rfl (Cz (xq1 rfl ⟨g.p,g.dx,(xq1 rfl ⟨c.at'.hp,Tk g,(xq1 rfl ⟨g,G,i,l,b,rfl,c,x,ln,few,B,λt H2 f2 o u=>?_⟩)⟩)⟩)))⟩;obtain⟨ks2,q,m⟩:=o.bx;have aa:=m.keys.len;obtain⟨M,W⟩:=o.bx_put q (ks2:=EV ks2 (Sum.inl (i:Int)) (.ref t)) ⟨m.keys.put x.lt _,λj v L=>by
    rw[LZ]at L;split at L
    .rename_i z;injection z with z
     have:j=i:=K1 z;subst this;cases L;exact⟨l,b,t,x,B,rfl,u⟩
    .exact m.val j v L⟩
   have nt:=o.ne_am u (by intro l z;cases z);exact xw2 rfl rfl (xq5 o.at'.hp T.cl_Grove T.na_Grove_boxes (fl6_bx g) (xq1 rfl ⟨g.bx,(xq1 rfl ⟨MS.k (k:=Sum.inl (i:Int)) q (Eu A0),(xq1 rfl (X b B t _ (f2.trans W) M (W _ _ u nt.1 nt.2)))⟩)⟩))
theorem Zz{f:R_}{j:E_}{k:R_}{b:E_}(F:Fun K "boxed" "Grove.boxed" EM f j)(q:Fun K "measured" "Grove.measured" Ds k b)(T:Top K mg a)(r:Qm K a.c_Grove "boxed" f)(p:Df K j JU [])(e:Qm K a.c_Grove "measured" k)(c:Df K b JU [])
 (t:Cal P w K mg base CX0 1 "shifted_box" Qb Mc) (u:Cal P w K mg base CX0 1 "least_box" Gy Oh):∀n,AK P w K mg base CX0 (2*n+2) f j JU (SS a n)
|0=>by
 refine F.ok Ea (λvs H Q E h=>?_) (λv A o s H vs Q E x h=>?_)
 .obtain⟨g,G,i,l,rfl,_,_,m,_⟩:=h;exact absurd m (N3 _)
 .obtain⟨g,G,i,l,rfl,_,_,m,_⟩:=h;exact absurd m (N3 _)
|n+1=>ok_boxS F T ⟨⟨k,b,ok_mea (d:=2*n+2) q T A0 t u ⟨⟨f,j,Zz F q T r p e c t u n,r,p⟩,T.cl_Grove⟩,e,c⟩,T.cl_Grove⟩
inductive SpSpan(a:Ad)(vs:List V)(H:Hp)(Q:VK):Prop
|mk (g:GA) (G:Gv) (i l:Nat) (_:vs=[.ref g.p,.int i]) (_:AY a H g G) (_:Al G i l) (_:G.length<9000000) (_:(Cd G l i=none->∀H',FrQ g H H'->AY a H' g G->Q .non H')) (_:∀b,Cd G l i=some b->∀t H',FrQ g H H'->AY a H' g G->NK H' t b->Q (.ref t) H'):SpSpan a vs H Q
def Uf(a:Ad):Sp:=λvs H Q _=>SpSpan a vs H Q
theorem ok_span(F:Fun K "span" "Grove.span" IC f fd)(T:Top K mg a)(m:BD P w K mg base CX0 2 a.c_Grove "check_square" JU (SR a))(n:BD P w K mg base CX0 100 a.c_Grove "boxed" JU (SS a 49)):AK P w K mg base CX0 101 f fd JU (Uf a):=by
 refine F.ok PY D_9 λo A j s H vs Q E k h=>?_
 obtain⟨g,G,i,l,rfl,b,c,few,r,t⟩:=h;refine⟨_,(Ac (Bm (AD (pv 0) m (rm k) Am (Aa (pv 1) Ab))) (Af (Au (AD (pv 0) n (rm k) Am (Aa (pv 1) Ab))))),?_⟩
 try dsimp only[cxK]
 have d:l<49:=by
  obtain⟨q,e,u⟩:=id c;have:=(b.ok.lev e).2;lia
 refine xq1 rfl ⟨g.p,g.dx,(xq1 rfl ⟨b.at'.hp,Pd g,(xq1 rfl ⟨g,G,i,rfl,b.at',c.lt,?_⟩)⟩)⟩;exact xq1 rfl ⟨g.p,g.dx,(xq1 rfl ⟨b.at'.hp,Tl g,(xq1 rfl ⟨g,G,i,l,rfl,b,c,d,few,r,t⟩)⟩)⟩
end
def atN(ns:I_)(k:Int):Int:=ns.getD k.toNat 0
section
variable{P:N_}{w:Q_}{K:O_}{mg:C_}{base:T_}{a:Ad}
inductive SpAt(K:O_)(vs:List V)(H:Hp)(Q:VK):Prop
|mk (l:R_) (ns:I_) (k:Int) (_:vs=[.ref l,.int k]) (_:SqL K H l (ns.map V.int)) (_:0<=k) (_:Q (.int (atN ns k)) H):SpAt K vs H Q
def WB(K:O_):Sp:=λvs H Q _=>SpAt K vs H Q
theorem ok_at(F:Fun K "_law_at" "_law_at" Nd f fd)(T:Top K mg a):AK P w K mg base CX0 1 f fd WR (WB K):=by
 refine F.ok Ut D_9 λi A d s H vs Q E m h=>?_
 obtain⟨l,ns,k,rfl,g,j,q⟩:=h;refine⟨_,(Ac (AM (Ay Ih (pv 1) (AO BC rfl T.b_len K9 (Aa (pv 0) Ab)) (AE _)) (Af (Au (Aj Ax (pv 0) (pv 1) R_9))) AB) (Af (Au Ae))),?_⟩
 try dsimp only[cxK]
 refine⟨_,rfl,_,rfl,l,_,rfl,.inl g,_,_,rfl,rfl,_,rfl,?_⟩;obtain⟨n,rfl⟩:=F8 j;refine Er (λc=>?_) (λc=>?_)
 .have b:n<ns.length:=by
   have:=K3 c;rw[B8]at this;lia
  refine⟨_,rfl,_,rfl,l,_,n,.int ns[n],rfl,rfl,g,Ai (by rw[C0,C6 b];rfl),?_⟩;have e:atN ns (n:Int)=ns[n]:=by
   unfold atN;rw[J3,D2,C6 b];rfl
  rw[e]at q;exact q
 .have b:ns.length<=n:=by
   have:¬(n:Int)<((ns.map V.int).length:Int):=λz=>c (Z7 z);rw[B8]at this;lia
  have e:atN ns (n:Int)=0:=by
   unfold atN;rw[J3,D2,R9 b];rfl
  rw[e]at q;exact q
end
inductive SpLaw(K:O_)(vs:List V)(H:Hp)(Q:VK):Prop
|mk (a:R_) (ns:I_) (_:vs=[.ref a]) (_:SqL K H a (ns.map V.int)) (_:ns.length<=63) (_:∀H',Q (.bl true) H'):SpLaw K vs H Q
def Vu(K:O_):Sp:=λvs H Q _=>SpLaw K vs H Q
end J
namespace J
open PySem L2
def Ap(g:GA)(x:R_):Prop:=x≠g.lv/\x≠g.pt/\x≠g.nm
theorem Ap.new{a:Ad}{H:Hp}{g:GA}{G:Gv}(h:AJ a H g G){x:R_}(n:H x=none):Ap g x:=by
 obtain⟨c,b,_⟩:=h.pt;exact⟨X6 (Aw h.lv n),X6 (Aw b n),X6 (Aw h.nm n)⟩
theorem Fr.get{g:GA}{H a:Hp}{x:R_}{o:HO}(f:Fr g H a)(p:Ap g x)(e:H x=some o):a x=some o:=f _ _ e p.1 p.2.1 p.2.2
theorem Fr.tup{a:Ad}{g:GA}{G:Gv}{H b:Hp}{x:R_}{l:List V}(f:Fr g H b)(h:AJ a H g G)(e:H x=some (.tup l)):b x=some (.tup l):=by
 obtain⟨us,c,_⟩:=h.pt;exact f _ _ e (AG e h.lv A3) (AG e c A3) (AG e h.nm A3)
theorem AH.mono{G a:Gv}{n m:Nat}(h:AH G a n)(e:n<=m):AH G a m:=⟨h.ok,h.pre,D1 h.few A0⟩
theorem Rs(l:Nat):(0:Int)<2^l:=Int.pow_pos A4
theorem pow2_lt{l:Nat}(h:l<64):(2:Int)^l<2^64:=by
 have:(2:Nat)^l<2^64:=Y5 A4 h
 exact_mod_cast this
theorem Ev{d:Int}(a:0<=d)(b:d<=9):d.natAbs.log2<1920:=by
 obtain⟨m,rfl⟩:=F8 a;exact(show ∀m:Nat,m<10->(m:Int).natAbs.log2<1920 by decide +kernel) m (by omega)
theorem De{n:Nat}(h:n<=100000):n<=sizeLine:=D1 h A4
abbrev SJ:Str:=Str.ofString "01234567*"
theorem Vo:∀m:Nat,m<9->SJ.cps.toList[m]?=some (if m=8 then 42 else 48+m):=by decide +kernel
def LG(n:Int)(k:Nat):Bool:=decide (V.int (Builtin.bitAnd (n/2^k) 1)=V.int 1)
def JN(n:Int):List Int:=((List.range 9).filter (LG n)).map λ(k:Nat)=>(k:Int)
theorem nums_ne:∀m:Nat,m<511->JN ((m:Int)+1)≠[]:=by decide +kernel
theorem ZB(n:Int):(JN n).Pairwise (· < ·):=by
 unfold JN;rw[V5];have:((List.range 9).filter (LG n)).Pairwise (· < ·):=W5.sublist List.filter_sublist;exact this.imp λh=>by omega
theorem nums_in(n:Int):∀m∈JN n,0<=m/\m<=8:=λm b=>by
 obtain⟨k,a,rfl⟩:=F0.mp b;have:=F5.mp (U0.mp a).1;omega
seal L2.PA L2.PE L2.PS L2.PSs L2.PT L2.PW
abbrev amT:Str:=Str.ofString "amount"
abbrev plT:Str:=Str.ofString "places"
def unO:Option Int->Int
|none=>8
|some d=>d
inductive CO(H:Hp):Addr->AX->Prop where
|am {q l:R_} {s:Int} {ns:I_} (h:H q=some (.tup [.str amT,.int s,.ref l])) (hl:H l=some (.lst (ns.map V.int))):CO H q (.am s ns)
|pl {q l:R_} {ws:List (Option Int)} (h:H q=some (.tup [.str plT,.ref l])) (hl:H l=some (.lst (ws.map λw=>V.int (unO w)))):CO H q (.pl ws)
structure QX(H:Hp)(q:R_)(c:AS):Prop where
ex:∃(l:R_)(ds:H_),H q=some (.tup [.int (unO c.cell),.ref l,.int c.makes])/\H l=some (.lst (ds.map V.ref))/\Paired (CO H) ds c.conds
structure NU(H:Hp)(q:R_)(r:Az):Prop where
ex:∃cs:List Addr,H q=some (.lst (cs.map V.ref))/\Paired (QX H) cs r
theorem CO.same{H b:Hp}{q:R_}{d:AX}(s:AC H b)(h:CO H q d):CO b q d:=by
 cases h with
 |am h a=>exact .am (s _ _ h) (s _ _ a)
 |pl h a=>exact .pl (s _ _ h) (s _ _ a)
theorem QX.same{H a:Hp}{q:R_}{c:AS}(s:AC H a)(h:QX H q c):QX a q c:=by
 obtain⟨l,ds,b,d,e⟩:=h.ex;exact⟨l,ds,s _ _ b,s _ _ d,Paired.imp (λ_ _ z=>z.same s) e⟩
theorem NU.same{H a:Hp}{q:R_}{r:Az}(s:AC H a)(h:NU H q r):NU a q r:=by
 obtain⟨cs,b,c⟩:=h.ex;exact⟨cs,s _ _ b,Paired.imp (λ_ _ z=>z.same s) c⟩
theorem unO_le{x:Option Int}(h:wOk x):0<=unO x/\unO x<=8:=by
 cases x with
 |none=>exact⟨by decide,by decide⟩
 |some d=>exact⟨h.1,Int.le_of_lt h.2⟩
theorem YB{x:Option Int}(h:wOk x):atI SJ.cps.toList (unO x)=some (wC x):=by
 cases x with
 |none=>exact Ai (Vo 8 A4)
 |some d =>
  obtain⟨n,b⟩:=F8 h.1;have c:=h.2;have a:n≠8:=by lia
  show atI SJ.cps.toList d=some (48+d.toNat);rw[b,J3];have:=Vo n A0;rw[Z6 a]at this;exact Ai this
theorem SE{x:Option Int}(h:wOk x)(y:Int):BS x y=(decide (unO x=8) || decide (unO x=y)):=by
 cases x with
 |none=>rfl
 |some d =>
  have:=h.2;show decide (d=y)=(decide (d=8) || decide (d=y))
  rw[Z8 (by lia:¬d=8),Bool.false_or]
theorem join_w(a:List (Option Int)):Str.join (Str.ofString "") (a.map λw=>(⟨#[wC w]⟩:Str))=Ba (.pl a):=by
 have b:Str.ofString "" = (⟨#[]⟩:Str):=by decide +kernel
 rw[b];refine Nu.ext ?_;rw[Tx.EZ,Tx.UQ,M7];show(a.map _).flatten=a.map wC;induction a with
 |nil=>rfl
 |cons x r c=>rw[F7,S0,c,F7];rfl
theorem ZZ{ns:I_}(h:∀m∈ns,0<=m/\m<=8):Str.join (Str.ofString "") (ns.map λn=>Str.ofString (toString n))=DP ns:=by
 have a:Str.ofString "" = (⟨#[]⟩:Str):=by decide +kernel
 rw[a];refine Nu.ext ?_;rw[Tx.EZ,Tx.UQ,M7];show(ns.map _).flatten=ns.map λn=>48+n.toNat;induction ns with
 |nil=>rfl
 |cons n r d =>
  have b:=h n C8;rw[F7,S0,d λm c=>h m (C7 _ c)];show(Str.ofString (toString n)).cps.toList++_=_;rw[Tx.Ep b.1 A0];rfl
theorem Sd{d:Int}(a:0<=d)(b:d<=9):(Str.ofString (toString d)).length=1:=by rw[Tx.Ep a b];rfl
section
variable{P:N_}{w:Q_}{K:O_}{mg:C_}{base:T_}{a:Ad}
inductive SpMix(vs:List V)(H:Hp)(Q:VK):Prop
|mk (c k:Int) (_:vs=[.int c,.int k]) (_:0<=k) (_:k<=1000000) (_:∀i:Int,0<=i->Q (.int i) H):SpMix vs H Q
def Vs:Sp:=λvs H Q _=>SpMix vs H Q
theorem ok_mix(F:Fun K "_law_mix" "_law_mix" LQ f fd):AK P w K mg base CX0 1 f fd IP Vs:=by
 refine F.ok NN D_9 λd A b s H vs Q E j h=>?_
 obtain⟨c,k,rfl,e,g,q⟩:=h;refine⟨_,(Ac (Ao (i:=2) NN.nd rfl O_9 (AA Bb (AA Fo (AA AQ (AA AQ (AA Bb (pv 0) Ae) (AA Fo Ae (pv 1))) Ae) (AA AQ Ae (AA Fo Ae (pv 1)))) Ae)) (Af (Au (AA DF (AA Bb (AA Fo (AA AQ (AA DF (pv 2) Ae) (pv 1)) Ae) Ae) Ae)))),?_⟩
 try dsimp only[cxK]
 refine xwb rfl rfl rfl ⟨(by show(0:Int)<998244353;decide),(xwb rfl rfl rfl ⟨.inl ⟨by decide,by decide⟩,(xq2 rfl rfl (xq2 rfl rfl (xwb rfl rfl rfl ⟨.inl ⟨by decide,by decide⟩,(xq2 rfl rfl (xq2 rfl rfl ⟨.inr ⟨by lia,by lia⟩,(xq2 rfl rfl ⟨(by show(0:Int)<2147483647;decide),?_⟩)⟩))⟩)))⟩)⟩;refine xwb rfl rfl rfl ⟨⟨by decide,by decide⟩,(xwb rfl rfl rfl (xq2 rfl rfl ⟨.inr ⟨by decide,by decide⟩,(xq2 rfl rfl ⟨(by show(0:Int)<2147483629;decide),(xq2 rfl rfl ⟨⟨by decide,by decide⟩,?_⟩)⟩)⟩))⟩;exact q _ A0
inductive SpSt(vs:List V)(H:Hp)(Q:VK):Prop
|mk (m:R_) (x y v:Int) (_:vs=[.ref m,.int v]) (_:H m=some (.tup [.int x,.int y])) (_:Ie x) (_:Ie y) (_:∀d:Int,Ie d->Q (.int d) H):SpSt vs H Q
def spSt:Sp:=λvs H Q _=>SpSt vs H Q
theorem ok_st(F:Fun K "_law_state_by" "_law_state_by" Fj f fd):AK P w K mg base CX0 1 f fd NZ spSt:=by
 refine F.ok MX D_9 λd A b s H vs Q E n h=>?_
 obtain⟨m,x,y,v,rfl,c,k,l,q⟩:=h;refine⟨_,(Ac (AM (Ay Ih (AA Bb (pv 1) Ae) Ae (AE _)) (Af (Au (Aj An (pv 0) (AA Bb (pv 1) Ae) R_9))) AB) (Af (Au (AA Bb (AA DF (pv 1) Ae) Ae)))),?_⟩
 try dsimp only[cxK]
 refine xwb rfl rfl rfl ⟨B2,(xq2 rfl rfl (xq1 rfl ?_))⟩;refine Er (λg=>?_) (λ_=>?_)
 .have i:v%3<2:=K3 g;rcases(show v%3=0\/v%3=1 by lia)with e|e
  .exact xw2 rfl rfl (xq2 rfl rfl ⟨B2,(xq4 rfl rfl (SqT.of c) (by rw[e];exact Ai (j:=0) rfl) (q x k))⟩)
  .exact xw2 rfl rfl (xq2 rfl rfl ⟨B2,(xq4 rfl rfl (SqT.of c) (by rw[e];exact Ai (j:=1) rfl) (q y l))⟩)
 .exact xwb rfl rfl rfl ⟨⟨by decide,by decide⟩,(xq2 rfl rfl ⟨B5,q _ ⟨by lia,by lia⟩⟩)⟩
def Yn(H:Hp)(m:R_):Prop:=∃x y:Int,H m=some (.tup [.int x,.int y])/\Ie x/\Ie y
theorem Yn.same{H b:Hp}{m:R_}(s:AC H b)(h:Yn H m):Yn b m:=by
 obtain⟨x,y,c,d⟩:=h;exact⟨x,y,s _ _ c,d⟩
inductive SpCo(vs:List V)(H:Hp)(Q:VK):Prop
|mk (m:R_) (sd j:Int) (_:vs=[.ref m,.int sd,.int j]) (_:Yn H m) (_:0<=j) (_:j<=900000) (_:∀(q:R_)(d:AX)(H':Hp),AC H H'->CO H' q d->d.ok->Q (.ref q) H'):SpCo vs H Q
def spCo:Sp:=λvs H Q _=>SpCo vs H Q
theorem ok_co(F:Fun K "_law_condition_by" "_law_condition_by" Cs f fd)(T:Top K mg a)(M:Cal P w K mg base CX0 1 "_law_mix" IP Vs)(aH:Cal P w K mg base CX0 1 "_law_state_by" NZ spSt) :
 AK P w K mg base CX0 2 f fd Dw spCo:=by
 refine F.ok BM D_9 λae A aa s H vs Q E B h=>?_
 obtain⟨m,u,j,rfl,⟨mx,my,hm,C,R⟩,h0,h1,k⟩:=h;refine⟨_,(Ac (AM (Ay CG (AA Bb (Ar M (rm B) rfl Am (Aa (pv 1) (Aa (pv 2) Ab))) Ae) Ae (AE _)) (Ac (Ao (i:=3) BM.nd rfl O_9 (Cb Ab)) (Ac (BU X5 rfl (Cw rfl T.b_range (AI Ab)) (AZ (i:=4) BM.nd rfl O_9) (Ac (Ao (i:=5) BM.nd rfl O_9 (Ar M (rm B) rfl Am (Aa (pv 1) (Bl AQ (AA AQ (pv 2) Ae) (pv 4) Ab)))) (Af (AM (Ay CG (AA Bb (AA DF (pv 5) Ae) Ae) Ae (AE _)) (Af (Bm (CF X7 X8 X9 Bw (pv 3) (Aa (Ar aH (rm B) rfl Am (Aa (pv 0) (Aa (pv 5) Ab))) Ab)))) (Af (Bm (CF X7 X8 X9 Bw (pv 3) (AI Ab)))))))) (Af (Au (Eg (LT (Aa (pv 3) Ab))))))) AB) (Ac (Ao (i:=6) BM.nd rfl (Or.inr rfl) (AA AQ (AA Bb (Ar M (rm B) rfl Am (Aa (pv 1) (Bl AQ (pv 2) Ae Ab))) Ae) Ae)) (Af (Au (Eg (LT (Aa (Ar aH (rm B) rfl Am (Aa (pv 0) (Aa (Ar M (rm B) rfl Am (Aa (pv 1) (Bl AQ (pv 2) Ae Ab))) Ab))) (Aa (BW rfl (Bz.of (So:=Ah Cs) (No:=Fs) (N:=["_law_k","_law_mask"]) (k:=1) (cs:=[6]) rfl rfl A1) (Cw rfl T.b_range (AI Ab)) (λ_ _ _=>(Bd (i:=0) A1 rfl rfl)) (λ_ _ _=>(pts_one (Ay CG (AA op_and (AA op_shr (pv 1) (pv 0)) Ae) Ae (AE _)))) (λ_ _ _=>(pv 0))) Ab)))))))),?_⟩
 try dsimp only[cxK]
 refine xw2 rfl rfl ⟨u,j,rfl,h0,by lia,λv hv=>(xq2 rfl rfl ⟨B2,rfl,(xq1 rfl ?_)⟩)⟩;refine Er (λ_=>?_) (λ_=>?_)
 .refine⟨S_0,λl O=>?_⟩;refine⟨8,rfl,by decide,by decide,CA (n:=8) (λi σ g=>∃(c:List (Option Int))(u5 D G:Option V),σ=[some (.ref m),some (.int u),some (.int j),some (.ref l),u5,D,G]/\g=upd H l (.lst (c.map λw=>V.int (unO w)))/\c.length=i/\∀x∈c,wOk x) ⟨[],none,none,none,rfl,rfl,rfl,λx C=>by simp at C⟩ ?_ ?_⟩
  .rintro i σ g W ⟨c,u5,D,G,rfl,rfl,t,Z⟩;have lt:(c.map λw=>V.int (unO w)).length<sizeLine:=by rw[B8,t];exact F2 W A4
   have X:upd H l (.lst (c.map λw=>V.int (unO w))) m=some (.tup [.int mx,.int my]):=Aq O _ _ hm;refine xq1 rfl (xq1 rfl (xq2 rfl rfl (xq1 rfl (xq2 rfl rfl ⟨u,_,rfl,by lia,by lia,λb Y=>?_⟩))));have app:∀x:Option Int,wOk x->∀D G,∃(z:List (Option Int))(ab ac ad:Option V),([some (.ref m),some (.int u),some (.int j),some (.ref l),some (.int (0+(i:Int))),D,G]:St)=[some (.ref m),some (.int u),some (.int j),some (.ref l),ab,ac,ad] /\
     upd (upd H l (.lst (c.map λw=>V.int (unO w)))) l (.lst ((c.map λw=>V.int (unO w))++[V.int (unO x)]))=upd H l (.lst (z.map λw=>V.int (unO w)))/\z.length=i+1/\∀x∈z,wOk x:=λx C D G =>
    ⟨c++[x],_,_,_,rfl,by rw[Go,C4];rfl,by rw[C5,t];rfl,λy R=>by
     rcases F1.mp R with q|q
     .exact Z y q
     .rw[C9.mp q];exact C⟩
   refine xwb rfl rfl rfl ⟨⟨by decide,by decide⟩,(xq2 rfl rfl ⟨B2,rfl,(xq1 rfl ?_)⟩)⟩;refine Er (λ_=>?_) (λ_=>?_)
   .exact xq1 rfl ⟨.inl ⟨rfl,_,SqL.of Ag⟩,(xw2 rfl rfl ⟨m,mx,my,b,rfl,X,C,R,λd U=>⟨l,(xq2 rfl rfl ⟨Ag,lt,app (some d) U _ _⟩)⟩⟩)⟩
   .exact xq1 rfl ⟨.inl ⟨rfl,_,SqL.of Ag⟩,l,(xq2 rfl rfl ⟨Ag,lt,app none trivial _ _⟩)⟩
  .rintro σ g ⟨c,u5,D,G,rfl,rfl,t,Z⟩;refine xq1 rfl ⟨S_2,λq L=>?_⟩;have s2:=(Aq (o:=.lst (c.map λw=>V.int (unO w))) O).trans (Aq (o:=.tup [.str plT,.ref l]) L);exact k q (.pl c) _ s2 (.pl Ag (Aq L _ _ Ag)) ⟨t,Z⟩
 .refine xq1 rfl (xq1 rfl (xq2 rfl rfl ⟨u,_,rfl,by lia,by lia,λb Y=>(xq2 rfl rfl ⟨(by show(0:Int)<511;decide),_,_,rfl,rfl,?_⟩)⟩));have r:∃n:Nat,n<511/\b%511+1=(n:Int)+1:=by
   obtain⟨n,t⟩:=F8 (show 0<=b%511 by lia);exact⟨n,by lia,by lia⟩
  refine xq1 rfl (xq1 rfl (xq1 rfl (xq2 rfl rfl ⟨u,_,rfl,by lia,by lia,λv3 af=>⟨m,mx,my,v3,rfl,hm,C,R,λd U=>?_⟩⟩)));refine⟨9,rfl,by decide,by decide,?_⟩;refine NI (n:=9) (λi p g=>H=g/\p=(((List.range i).filter (LG (b%511+1))).map λ(k:Nat)=>V.int (k:Int))) ⟨rfl,rfl⟩ ?_ ?_
  .rintro i p g W ⟨rfl,rfl⟩;have lt:(((List.range i).filter (LG (b%511+1))).map λ(k:Nat)=>V.int (k:Int)).length<sizeLine:=by
    rw[B8];have:=List.length_filter_le (LG (b%511+1)) (List.range i);rw[M4]at this;exact F3 (D1 this (U8 W)) A4
   refine⟨⟨[some (.int (0+(i:Int)))],rfl,rfl⟩,lt,?_⟩;refine xw2 rfl rfl (xq2 rfl rfl ⟨(by show(0:Int)<=0+(i:Int);lia),(xq2 rfl rfl ⟨rfl,(xq1 rfl ?_)⟩)⟩);have ei:(0+(i:Int)).toNat=i:=by lia
   have e:(List.range (i+1)).filter (LG (b%511+1))=(List.range i).filter (LG (b%511+1))++if LG (b%511+1) i=true then [i]else []:=by
    rw[P0,List.filter_append,List.filter_cons,List.filter_nil]
   rw[ei];show if LG (b%511+1) i=true then _ else _;refine Er (λS=>?_) (λS=>?_)
   .refine xq1 rfl ⟨rfl,?_⟩;rw[e,Z9 S,C4];show _++[V.int (0+(i:Int))]=_++[V.int (i:Int)]
    rw[T5]
   .refine⟨rfl,?_⟩;rw[e,Z6 S,U1]
  .rintro p g ⟨rfl,rfl⟩ l O;have I:(((List.range 9).filter (LG (b%511+1))).map λ(k:Nat)=>V.int (k:Int))=(JN (b%511+1)).map V.int:=by
    unfold JN;rw[M7];rfl
   rw[I];refine⟨S_3,λq L=>?_⟩;have s2:=(Aq (o:=.lst ((JN (b%511+1)).map V.int)) O).trans (Aq (o:=.tup [.str amT,.int d,.ref l]) L);refine k q (.am d (JN (b%511+1))) _ s2 (.am Ag (Aq L _ _ Ag)) ⟨U,?_,nums_in _,ZB _⟩;obtain⟨n,t,e⟩:=r;rw[e];exact nums_ne n t
end
theorem pl_am:decide (V.str amT=V.str (Str.ofString "places"))=false:=by decide +kernel
theorem pl_pl:decide (V.str plT=V.str (Str.ofString "places"))=true:=by decide +kernel
section
variable{P:N_}{w:Q_}{K:O_}{mg:C_}{base:T_}{a:Ad}
inductive SpWd(vs:List V)(H:Hp)(Q:VK):Prop
|mk (q:R_) (d:AX) (_:vs=[.ref q]) (_:CO H q d) (_:d.ok) (_:∀H',AC H H'->Q (.str (Ba d)) H'):SpWd vs H Q
def spWd:Sp:=λvs H Q _=>SpWd vs H Q
theorem ok_wd(F:Fun K "_law_word" "_law_word" EU f fd)(T:Top K mg a):AK P w K mg base CX0 1 f fd JO spWd:=by
 refine F.ok Ro D_9 λX A R s H vs Q E hr h=>?_
 obtain⟨q,d,rfl,hd,D,k⟩:=h;have W:(Str.ofString "").length=0:=by decide +kernel
 refine⟨_,(Ac (AM (Ay CG (Aj An (pv 0) Ae R_9) Da (AE _)) (Af (Au (CF A0e A1g A1h MB Da (Aa (BW rfl (Bz.of (So:=Ah EU) (No:=JO) (N:=["_law_state"]) (k:=1) (cs:=[]) rfl rfl A1) (Cg (Aj An (pv 0) Ae R_9)) (λ_ _ _=>(Bd (i:=0) A1 rfl rfl)) (λ_ _ _=>BG) (λ_ _ _=>(Aj ix_str Da (pv 0) R_9))) Ab)))) AB) (Af (Au (AA CL (AA CL (Bo CN rfl T.b_str A0a (Aa (Aj An (pv 0) Ae R_9) Ab)) Da) (CF A0e A1g A1h MB Da (Aa (BW rfl (Bz.of (So:=Ah EU) (No:=JO) (N:=["_law_k"]) (k:=1) (cs:=[]) rfl rfl A1) (Cg (Aj An (pv 0) Ae R_9)) (λ_ _ _=>(Bd (i:=0) A1 rfl rfl)) (λ_ _ _=>BG) (λ_ _ _=>(Bo CN rfl T.b_str A0a (Aa (pv 0) Ab)))) Ab)))))),?_⟩
 try dsimp only[cxK]
 cases hd with
 |@pl l S h B =>
  refine xwi rfl rfl rfl (SqT.of h) (Ai (j:=0) rfl) ⟨rfl,(xq1 rfl ?_)⟩;rw[pl_pl];refine Cz ⟨rfl,(xwi rfl rfl rfl (SqT.of h) (Ai (j:=1) rfl) ⟨l,rfl,⟨_,SqL.of B⟩,?_⟩)⟩;refine Dp (xs:=S.map λw=>V.int (unO w)) (λi b m=>H=m/\b=((S.take i).map λx=>(⟨#[wC x]⟩:Str)).map V.str) ⟨rfl,rfl⟩ (λi b m _ z=>z.1▸SqL.of B) ?_ ?_
  .rintro i x b m C ⟨rfl,rfl⟩;rw[C0]at C;obtain⟨n,v,rfl⟩:=D6.mp C;have u:=D.2 n (D0 v);refine⟨⟨[some (.int (unO n))],rfl,rfl⟩,?_,Gm (xq1 rfl ⟨SJ,_,wC n,rfl,rfl,A1,YB u,rfl,?_⟩)⟩
   .rw[B8,B8,M5,D.1];exact F3 (P5 _ _) A4
   .rw[F9,v,C4,C4];rfl
  .rintro b m ⟨rfl,rfl⟩ p M;rw[B8,J9];have c:JoinOk (Str.ofString "") (S.map λx=>(⟨#[wC x]⟩:Str))=true:=by
    refine Tx.MG 1 (λt O=>?_) ?_
    .obtain⟨n,u,rfl⟩:=F0.mp O;exact C1 1
    .rw[B8,W,D.1];decide
   refine⟨_,p,(xq1 rfl ⟨rfl,SqL.of Ag,c,?_⟩)⟩;rw[join_w];exact k _ (Aq M)
 |@am l G ns h B =>
  obtain⟨g,_,u,y⟩:=D;have U:=Oy ns 0 A4 u y;have r:G<=9:=by have:=g.2;lia
  refine xwi rfl rfl rfl (SqT.of h) (Ai (j:=0) rfl) ⟨rfl,(xq1 rfl ?_)⟩;rw[pl_am];refine Bf (xwi rfl rfl rfl (SqT.of h) (Ai (j:=1) rfl) ⟨G,rfl,Ev g.1 r,(xq2 rfl rfl ⟨De (by erw [Sd g.1 r];decide),rfl,(xwi rfl rfl rfl (SqT.of h) (Ai (j:=2) rfl) ⟨l,rfl,⟨_,SqL.of B⟩,?_⟩)⟩)⟩);refine Dp (xs:=ns.map V.int) (λi b m=>H=m/\b=((ns.take i).map λn=>Str.ofString (toString n)).map V.str) ⟨rfl,rfl⟩ (λi b m _ z=>z.1▸SqL.of B) ?_ ?_
  .rintro i x b m C ⟨rfl,rfl⟩;rw[C0]at C;obtain⟨n,v,rfl⟩:=D6.mp C;have I:=u n (D0 v);refine⟨⟨[some (.int n)],rfl,rfl⟩,?_,Gm (xq1 rfl ⟨n,rfl,Ev I.1 A0,rfl,?_⟩)⟩
   .rw[B8,B8,M5];exact F3 (P5 _ _) (F3 (show _<=9 by lia) A4)
   .rw[F9,v,C4,C4];rfl
  .rintro b m ⟨rfl,rfl⟩ p M;rw[B8,J9];have c:JoinOk (Str.ofString "") (ns.map λn=>Str.ofString (toString n))=true:=by
    refine Tx.MG 1 (λt O=>?_) ?_
    .obtain⟨n,L,rfl⟩:=F0.mp O;have:=u n L;rw[Sd this.1 A0];decide
    .rw[B8,W];lia
   refine⟨_,p,(xq1 rfl ⟨rfl,SqL.of Ag,c,(xq2 rfl rfl ⟨De ?_,?_⟩)⟩)⟩
   .rw[ZZ u];have Y:(DP ns).length=ns.length:=by rw[Nu.len];show(ns.map _).length=_;rw[B8]
    have Z:(Str.ofString "=").length=1:=by decide +kernel
    rw[Tx.app_len,Y,Z]
    erw [Sd g.1 r]
    lia
   .have e:Str.ofString (toString G)++Str.ofString "=" ++ Str.join (Str.ofString "") (ns.map λn=>Str.ofString (toString n))=Ba (.am G ns):=by
     rw[ZZ u,Tx.Ep g.1 r,show Str.ofString "=" = (⟨#[61]⟩:Str) by decide +kernel];rfl
    have:=k _ (Aq (o:=.lst ((ns.map λn=>Str.ofString (toString n)).map V.str)) M);rw[<-e]at this;exact this
inductive SpTx(vs:List V)(H:Hp)(Q:VK):Prop
|mk (q:R_) (r:Az) (_:vs=[.ref q]) (_:NU H q r) (_:Fb r) (_:∀H',AC H H'->Q (.str (Bc r)) H'):SpTx vs H Q
def spTx:Sp:=λvs H Q _=>SpTx vs H Q
theorem ok_tx(F:Fun K "_law_text" "_law_text" Gs f fd)(T:Top K mg a)(cN:Cal P w K mg base CX0 1 "_law_word" JO spWd):AK P w K mg base CX0 2 f fd JI spTx:=by
 refine F.ok Fw D_9 λak A aj s H vs Q E hr h=>?_
 obtain⟨q,r,rfl,hR,ho,k⟩:=h;obtain⟨cs,hq,S⟩:=hR.ex;have ln:cs.length=r.length:=K4 S;have ad:=ho.few;refine⟨_,(Ac (Ao (i:=1) Fw.nd rfl O_9 (Cb Ab)) (Ac (BU X5 rfl (Cg (pv 0)) (AZ (i:=2) Fw.nd rfl O_9) (Ac (Ao (i:=3) Fw.nd rfl O_9 (AA Rx (Cb (Aa (Aj ix_str Da (Aj An (pv 2) Ae R_9) R_9) Ab)) (BW rfl (Bz.of (So:=Ah Gs) (No:=NR) (N:=["_law_condition"]) (k:=1) (cs:=[]) rfl rfl A1) (Cg (Aj An (pv 2) Ae R_9)) (λ_ _ _=>(Bd (i:=0) A1 rfl rfl)) (λ_ _ _=>BG) (λ_ _ _=>(Ar cN (rm hr) rfl Am (Aa (pv 0) Ab)))))) (Af (Bm (CF X7 X8 X9 Bw (pv 1) (Aa (CF A0e A1g A1h MB Da (Bl Rx (pv 3) (Cb (Aa (Bo CN rfl T.b_str A0a (Aa (Aj An (pv 2) Ae R_9) Ab)) Ab)) Ab)) Ab)))))) (Af (Au (CF A0e A1g A1h MB Da (Aa (pv 1) Ab)))))),?_⟩
 try dsimp only[cxK]
 refine⟨S_0,λpt I=>?_⟩;have ae:∀o,upd H pt o q=some (.lst (cs.map V.ref)):=λo=>Aq I _ _ hq;refine xq1 rfl ⟨q,rfl,⟨_,SqL.of (ae _)⟩,MJ (xs:=cs.map V.ref) (λi σ m=>∃u2 u3:Option V,σ=[some (.ref q),some (.ref pt),u2,u3]/\AC H m/\m pt=some (.lst ((r.take i).map λc=>V.str (Bg c)))) ⟨none,none,rfl,Aq I,Ag⟩ (λi σ m _ ⟨_,_,_,R,_⟩=>SqL.of (R _ _ hq)) ?_ ?_⟩
 .rintro i x σ m X ⟨u2,u3,rfl,R,l⟩;rw[C0]at X;obtain⟨cq,ab,rfl⟩:=D6.mp X;obtain⟨c,ec,hc⟩:=Paired.get S ab;have mc:=D0 ec;have G:=ho.ok c mc;have aa:=G.few;obtain⟨cl,ds,h1,h2,h3⟩:=(hc.same R).ex;have Y:c.makes<=9:=by have:=G.makes.2;lia
  have un:=unO_le G.cell;refine xwi rfl rfl rfl (SqT.of h1) (Ai (j:=0) rfl) ⟨SJ,_,wC c.cell,rfl,rfl,A1,YB G.cell,S_1,λw1 af=>?_⟩;have O:=Aq (o:=.lst [.str ⟨#[wC c.cell]⟩]) af;refine xwi rfl rfl rfl (SqT.of (O _ _ h1)) (Ai (j:=1) rfl) ⟨cl,rfl,⟨_,SqL.of (O _ _ h2)⟩,?_⟩;have u:upd m w1 (.lst [.str ⟨#[wC c.cell]⟩]) w1=some (.lst [.str ⟨#[wC c.cell]⟩]):=Ag;generalize upd m w1 (.lst [.str ⟨#[wC c.cell]⟩])=H3 at O u⊢;refine Dp (xs:=ds.map V.ref) (λj n M=>AC H3 M/\n=((c.conds.take j).map Ba).map V.str) ⟨AC.refl H3,rfl⟩ (λj n M _ z=>SqL.of (z.1 _ _ (O _ _ h2))) ?_ ?_
  .rintro j x n M X ⟨s4,rfl⟩;rw[C0]at X;obtain⟨dq,ac,rfl⟩:=D6.mp X;obtain⟨d,ed,hd⟩:=Paired.get h3 ac;refine⟨⟨[some (.ref dq)],rfl,rfl⟩,?_,Gm (xq1 rfl ⟨dq,d,rfl,(hd.same O).same s4,G.conds d (D0 ed),λH5 Z=>⟨s4.trans Z,?_⟩⟩)⟩
   .rw[B8,B8,M5];exact F3 (P5 _ _) (F3 aa A4)
   .rw[F9,ed,C4,C4];rfl
  .rintro n M ⟨s4,rfl⟩ w2 ag;have ld:ds.length=c.conds.length:=K4 h3;rw[B8,ld,J9];have Z:=s4.trans (Aq (o:=.lst ((c.conds.map Ba).map V.str)) ag);have v:upd M w2 (.lst ((c.conds.map Ba).map V.str)) w2=some (.lst ((c.conds.map Ba).map V.str)):=Ag;generalize upd M w2 (.lst ((c.conds.map Ba).map V.str))=H5 at Z v⊢;refine⟨w1,w2,(xq2 rfl rfl ⟨Z _ _ u,v,De (by simp only[D7,T0,B8];lia),λw3 ah=>?_⟩)⟩;have s6:=Z.trans (Aq (o:=.lst ([.str ⟨#[wC c.cell]⟩]++(c.conds.map Ba).map V.str)) ah);have y:upd H5 w3 (.lst ([.str ⟨#[wC c.cell]⟩]++(c.conds.map Ba).map V.str)) w3=some (.lst ([.str ⟨#[wC c.cell]⟩]++(c.conds.map Ba).map V.str)):=Ag;generalize upd H5 w3 (.lst ([.str ⟨#[wC c.cell]⟩]++(c.conds.map Ba).map V.str))=H6 at s6 y⊢;have L:AC m H6:=O.trans s6;refine xq1 rfl ⟨.inl ⟨rfl,_,SqL.of (L _ _ l)⟩,rfl,(xwj rfl rfl rfl rfl (SqT.of (L _ _ h1)) (Ai (j:=2) rfl) ⟨c.makes,rfl,Ev G.makes.1 Y,S_1,λw4 W=>?_⟩)⟩;have s7:=L.trans (Aq (o:=.lst [.str (Str.ofString (toString c.makes))]) W);have C:upd H6 w4 (.lst [.str (Str.ofString (toString c.makes))]) w4=some (.lst [.str (Str.ofString (toString c.makes))]):=Ag;have B:=Aq (o:=.lst [.str (Str.ofString (toString c.makes))]) W _ _ y;generalize upd H6 w4 (.lst [.str (Str.ofString (toString c.makes))])=H7 at s7 C B⊢;refine⟨w3,w4,(xq2 rfl rfl ⟨B,C,De (by simp only[C5,D7,T0,B8];lia),λw5 ai=>?_⟩)⟩;have eL:([.str ⟨#[wC c.cell]⟩]++(c.conds.map Ba).map V.str)++[.str (Str.ofString (toString c.makes))]=(wS c.cell::(c.conds.map Ba++[sgD c.makes])).map V.str:=by
    rw[Tx.Ep G.makes.1 Y,F7,C4];rfl
   rw[eL];have s8:=s7.trans (Aq (o:=.lst ((wS c.cell::(c.conds.map Ba++[sgD c.makes])).map V.str)) ai);have D:upd H7 w5 (.lst ((wS c.cell::(c.conds.map Ba++[sgD c.makes])).map V.str)) w5=some (.lst ((wS c.cell::(c.conds.map Ba++[sgD c.makes])).map V.str)):=Ag;generalize upd H7 w5 (.lst ((wS c.cell::(c.conds.map Ba++[sgD c.makes])).map V.str))=H8 at s8 D⊢;have lb:(Str.ofString " ").length=1:=by decide +kernel
   have g:JoinOk (Str.ofString " ") (wS c.cell::(c.conds.map Ba++[sgD c.makes]))=true:=by
    refine Tx.MG 11 (λt p=>?_) ?_
    .rcases C2.mp p with rfl|p
     .show 1<=11;decide
     .rcases F1.mp p with p|p
      .obtain⟨d,hd,rfl⟩:=F0.mp p;exact MO (G.conds d hd)
      .rw[C9.mp p];show 1<=11;decide
    .rw[lb,D7,C5,B8,D7,T0];lia
   refine⟨_,w5,(xq1 rfl ⟨rfl,SqL.of D,g,?_⟩)⟩;have eC:Str.join (Str.ofString " ") (wS c.cell::(c.conds.map Ba++[sgD c.makes]))=Bg c:=by
    rw[show Str.ofString " " = (⟨#[32]⟩:Str) by decide +kernel];rfl
   rw[eC];refine⟨pt,(xq2 rfl rfl ⟨s8 _ _ l,?_,?_⟩)⟩
   .rw[B8,M5];exact F3 (P5 _ _) (F3 ad A4)
   .refine⟨_,_,rfl,λb o e=>?_,?_⟩
    .have ne:b≠pt:=Aw e I;rw[Av ne];exact s8 _ _ (R _ _ e)
    .rw[Ag,F9,ec,C4];rfl
 .rintro σ m ⟨u2,u3,rfl,R,l⟩;rw[B8,ln,J9]at l;have U:m pt=some (.lst ((r.map Bg).map V.str)):=by rw[l,M7];rfl
  have em:Str.ofString "; " = NT:=by decide +kernel
  have g:JoinOk (Str.ofString "; ") (r.map Bg)=true:=by
   refine Tx.MG 1000 (λt p=>?_) ?_
   .obtain⟨c,hc,rfl⟩:=F0.mp p;exact Jf (ho.ok c hc)
   .rw[B8,em,show NT.length=2 from rfl];lia
  refine⟨rfl,(xq1 rfl ⟨_,pt,(xq1 rfl ⟨rfl,SqL.of U,g,?_⟩)⟩)⟩;rw[em];exact k m R
inductive SpHo(vs:List V)(H:Hp)(Q:VK):Prop
|mk (q m:R_) (d:AX) (ar:I_) (_:vs=[.ref q,.ref m]) (_:CO H q d) (_:d.ok) (_:H m=some (.lst (ar.map V.int))) (_:ar.length=8) (_:Q (.bl (d.holds ar)) H):SpHo vs H Q
def spHo:Sp:=λvs H Q _=>SpHo vs H Q
theorem ok_ho(F:Fun K "_law_holds" "_law_holds" Iz f fd)(T:Top K mg a):AK P w K mg base CX0 1 f fd IS spHo:=by
 refine F.ok Dy D_9 λO A C s H vs Q E hr h=>?_
 obtain⟨q,m,d,b,rfl,U,W,y,Z,k⟩:=h;refine⟨_,(Ac (AM (Ay CG (Aj An (pv 0) Ae R_9) Da (AE _)) (Ac (BU X5 rfl (Cw rfl T.b_range (AI Ab)) (AZ (i:=2) Dy.nd rfl O_9) (Af (AM (PW.pt (JC (Ay Dk (Aj Ax (Aj An (pv 0) Ae R_9) (pv 2) R_9) Ae (AE _)) (Gw (Ay Dk (Aj Ax (Aj An (pv 0) Ae R_9) (pv 2) R_9) (Aj Ax (pv 1) (pv 2) R_9) (AE _))))) (Af (Au LB)) AB))) (Af (Au LB))) AB) (Ac (Ao (i:=3) Dy.nd rfl O_9 Ae) (Ac (BU X5 rfl (Cg (pv 1)) (AZ (i:=4) Dy.nd rfl O_9) (Af (AM (Ay CG (pv 4) (Aj An (pv 0) Ae R_9) (AE _)) (Af (Ao (i:=3) Dy.nd rfl O_9 (AA AQ (pv 3) Ae))) AB))) (Af (Au (Dc Nl (pv 3) (Aj An (pv 0) Ae R_9) rfl)))))),?_⟩
 try dsimp only[cxK]
 cases U with
 |@pl l c h t =>
  obtain⟨w8,X⟩:=W;refine xwi rfl rfl rfl (SqT.of h) (Ai (j:=0) rfl) ⟨rfl,(xq1 rfl ?_)⟩;rw[pl_pl];refine Cz ⟨8,rfl,by decide,by decide,CA (n:=8) (λi σ g=>H=g/\(∃v,σ=[some (.ref q),some (.ref m),v,none,none])/\∀p∈(c.zip b).take i,BS p.1 p.2=true) ⟨rfl,⟨none,rfl⟩,λp r=>by simp at r⟩ ?_ ?_⟩
  .rintro i σ g hi ⟨rfl,⟨v,rfl⟩,no⟩;have B:i<c.length:=by lia
   have N:i<b.length:=by lia
   have D:atI (c.map λw=>V.int (unO w)) (0+(i:Int))=some (V.int (unO c[i])):=by rw[T5];exact Ai (by rw[C0,C6 B];rfl)
   have R:atI (b.map V.int) (0+(i:Int))=some (V.int b[i]):=by rw[T5];exact Ai (by rw[C0,C6 N];rfl)
   have G:(c.zip b)[i]?=some (c[i],b[i]):=by rw[V2];exact⟨C6 B,C6 N⟩
   have tk:=SE (X c[i] (R1 B)) b[i];refine xwi rfl rfl rfl (SqT.of h) (Ai (j:=1) rfl) (xwi rfl rfl rfl (SqL.of t) D ⟨rfl,(xq1 rfl ?_)⟩);rw[Je];have nx:BS c[i] b[i]=true->(∃v,([some (.ref q),some (.ref m),some (.int (0+(i:Int))),none,none]:St)=[some (.ref q),some (.ref m),v,none,none])/\∀p∈(c.zip b).take (i+1),BS p.1 p.2=true:=λh=>⟨⟨_,rfl⟩,λp r=>by
    rw[F9,G]at r;rcases F1.mp r with z|z
    .exact no p z
    .have:p=(c[i],b[i]):=by simpa using z
     rw[this];exact h⟩
   by_cases I:unO c[i]=8
   .rw[Z7 I]at tk⊢;exact Bf (Bf ⟨rfl,nx (by rw[tk];rfl)⟩)
   .rw[Z8 I]at tk⊢;refine Cz (xwi rfl rfl rfl (SqT.of h) (Ai (j:=1) rfl) (xwi rfl rfl rfl (SqL.of t) D (xwj rfl rfl rfl rfl (SqL.of y) R ⟨rfl,(xq1 rfl ?_)⟩)));rw[Je];by_cases L:unO c[i]=b[i]
    .rw[Z7 L]at tk⊢;exact Bf ⟨rfl,nx (by rw[tk];rfl)⟩
    .rw[Z8 L]at tk⊢;refine Cz ?_;have e:AX.holds b (.pl c)=false:=by
      show(c.zip b).all _=false;rw[List.all_eq_false];exact⟨_,D0 G,by rw[tk];exact D4⟩
     rw[e]at k;exact k
  .rintro σ g ⟨rfl,⟨v,rfl⟩,no⟩;have e:AX.holds b (.pl c)=true:=by
    show(c.zip b).all _=true;rw[R3];intro p r;have Y:(c.zip b).length=8:=by rw[W8];lia
    rw[<-Y,J9]at no;exact no p r
   rw[e]at k;exact k
 |@am l o ns h t =>
  refine xwi rfl rfl rfl (SqT.of h) (Ai (j:=0) rfl) ⟨rfl,(xq1 rfl ?_)⟩;rw[pl_am];refine Bf ?_;refine xq1 rfl ⟨m,rfl,⟨_,SqL.of y⟩,MJ (xs:=b.map V.int) (λi σ g=>H=g/\∃v,σ=[some (.ref q),some (.ref m),none,some (.int (((b.take i).countP (· == o):Nat):Int)),v]) ⟨rfl,none,rfl⟩ (λi σ g _ z=>z.1▸SqL.of y) ?_ ?_⟩
  .rintro i x σ g M ⟨rfl,v,rfl⟩;rw[C0]at M;obtain⟨n,S,rfl⟩:=D6.mp M;have e:(((b.take (i+1)).countP (· == o):Nat):Int)=(((b.take i).countP (· == o):Nat):Int)+(if n=o then 1 else 0):=by
    rw[F9,S,List.countP_append];by_cases h:n=o<;>simp[h]
   refine xwj rfl rfl rfl rfl (SqT.of h) (Ai (j:=1) rfl) ⟨rfl,(xq1 rfl ?_)⟩;refine Er (λu=>?_) (λu=>?_)
   .have:n=o:=by
     have:=K3 u;injection this
    refine xwb rfl rfl rfl ⟨rfl,some (.int n),?_⟩;rw[e,Z9 this];rfl
   .have:¬n=o:=λz=>u (Z7 (by rw[z]));refine⟨rfl,some (.int n),?_⟩;rw[e,Z6 this,P2];rfl
  .rintro σ g ⟨rfl,v,rfl⟩;rw[B8,J9];refine xwj rfl rfl rfl rfl (SqT.of h) (Ai (j:=2) rfl) ⟨l,(xq1 rfl ⟨.inl (SqL.of t),rfl,QF _,?_⟩)⟩;show Q (.bl (inV _ _)) H;rw[RY];exact k
inductive SpDe(vs:List V)(H:Hp)(Q:VK):Prop
|mk (q m:R_) (r:Az) (cell:Int) (ar:I_) (_:vs=[.ref q,.int cell,.ref m]) (_:NU H q r) (_:Fb r) (_:H m=some (.lst (ar.map V.int))) (_:ar.length=8) (_:∀H',AC H H'->Q (decV (Jq r cell ar)) H'):SpDe vs H Q
def spDe:Sp:=λvs H Q _=>SpDe vs H Q
theorem ok_de(F:Fun K "_law_decides" "_law_decides" FM f fd)(T:Top K mg a)(cG:Cal P w K mg base CX0 1 "_law_holds" IS spHo):AK P w K mg base CX0 2 f fd FY spDe:=by
 refine F.ok CQ D_9 λaa A R s H vs Q E hr h=>?_
 obtain⟨q,m,r,cell,b,rfl,hR,ho,hm,a8,k⟩:=h;obtain⟨cs,O,y⟩:=hR.ex;have ln:cs.length=r.length:=K4 y;have ab:=ho.few;refine⟨_,(Ac (BU X5 rfl (Cw rfl T.b_range (Aa (AO BC rfl T.b_len K9 (Aa (pv 0) Ab)) Ab)) (AZ (i:=3) CQ.nd rfl O_9) (Ac (Ao (i:=4) CQ.nd rfl O_9 (Dc Nl (Aj An (Aj Ax (pv 0) (pv 3) R_9) Ae R_9) (Cb (Aa (pv 1) (AI Ab))) rfl)) (Ac (BU X5 rfl (Cg (Aj An (Aj Ax (pv 0) (pv 3) R_9) Ae R_9)) (AZ (i:=5) CQ.nd rfl O_9) (Af (Ao (i:=4) CQ.nd rfl O_9 (JD (pv 4) (LS (Ar cG (rm hr) rfl Am (Aa (pv 5) (Aa (pv 2) Ab)))))))) (Af (AM (Ch (pv 4)) (Af (Au (pv 3))) AB))))) (Af (Au Cy))),?_⟩
 try dsimp only[cxK]
 refine xq1 rfl ⟨q,(xq1 rfl ⟨.inl (SqL.of O),(xq1 rfl ⟨by rw[B8];lia,by rw[B8];lia,?_⟩)⟩)⟩;rw[show(((cs.map V.ref).length:Nat):Int).toNat=cs.length by rw[B8,J3]];refine CA (n:=cs.length) (λi σ p=>AC H p/\(∃S U G:Option V,σ=[some (.ref q),some (.int cell),some (.ref m),S,U,G])/\∀c∈r.take i,c.fits cell b=false) ⟨AC.refl H,⟨none,none,none,rfl⟩,λc M=>by simp at M⟩ ?_ ?_
 .rintro i σ p N ⟨l,⟨S,U,G,rfl⟩,no⟩;have u:cs[i]?=some cs[i]:=C6 N;obtain⟨c,C,M⟩:=Paired.get y u;have oc:=ho.ok c (D0 C);obtain⟨cl,ds,h1,h2,h3⟩:=(M.same l).ex;have X:atI (cs.map V.ref) (0+(i:Int))=some (.ref cs[i]):=by rw[T5];exact Ai (by rw[C0,u];rfl)
  refine xwj rfl rfl rfl rfl (SqL.of (l _ _ O)) X (xq4 rfl rfl (SqT.of h1) (Ai (j:=0) rfl) (xq1 rfl ⟨S_2,λt ht=>⟨t,(xq1 rfl ⟨.inl (SqL.of Ag),rfl,rfl,?_⟩)⟩⟩));have g:=Aq (o:=.lst [.int cell,.int 8]) ht;have eb:inV (.int (unO c.cell)) [.int cell,.int 8]=BS c.cell cell:=by
   have:=RY (unO c.cell) [cell,8];rw[show([cell,8]:I_).map V.int=[V.int cell,V.int 8]from rfl]at this;rw[this,SE oc.cell];simp only[T7,List.any_nil,Bool.or_false];rw[show decide (cell=unO c.cell)=decide (unO c.cell=cell)from decide_eq_decide.mpr eq_comm,show decide (8=unO c.cell)=decide (unO c.cell=8)from decide_eq_decide.mpr eq_comm,Bool.or_comm]
  show(tSeq _ _) _ _ _;rw[eb];generalize upd p t (.lst [.int cell,.int 8])=I at g⊢;refine xwj rfl rfl rfl rfl (SqL.of (g _ _ (l _ _ O))) X (xq4 rfl rfl (SqT.of (g _ _ h1)) (Ai (j:=1) rfl) ⟨cl,rfl,⟨_,SqL.of (g _ _ h2)⟩,?_⟩);refine MJ (xs:=ds.map V.ref) (λj σ B=>I=B/\∃v,σ=[some (.ref q),some (.int cell),some (.ref m),some (.int (0+(i:Int))),some (.bl (BS c.cell cell && (c.conds.take j).all (AX.holds b))),v]) ⟨rfl,G,by rw[List.take_zero,List.all_nil,Y9];rfl⟩ (λj σ B _ z=>z.1▸SqL.of (g _ _ h2)) ?_ ?_
  .rintro j x σ B hx ⟨rfl,v,rfl⟩;rw[C0]at hx;obtain⟨W,L,rfl⟩:=D6.mp hx;obtain⟨d,Y,D⟩:=Paired.get h3 L;refine xq1 rfl ?_;refine Oz (b2:=AX.holds b d) (λ_ Q' q'=>(xw2 rfl rfl ⟨W,m,d,b,rfl,D.same g,oc.conds d (D0 Y),g _ _ (l _ _ hm),a8,q'⟩)) ?_;refine⟨rfl,some (.ref W),?_⟩;rw[F9,Y,List.all_append,Bool.and_assoc];show _=[_,_,_,_,some (V.bl (BS c.cell cell && ((c.conds.take j).all (AX.holds b) && (AX.holds b d && true)))),_]
   rw[Y9];rfl
  .rintro σ B ⟨rfl,v,rfl⟩;have ld:ds.length=c.conds.length:=K4 h3;rw[B8,ld,J9];refine xw2 rfl rfl ?_;show if c.fits cell b=true then _ else _;cases Z:c.fits cell b with
   |true =>
    refine Cz (xq1 rfl ?_);have e:Jq r cell b=some i:=by
     unfold Jq;rw[T3];have N:i<r.length:=(B9.mp C).1;refine⟨N,?_,λj hj=>?_⟩
     .rw[(B9.mp C).2];exact Z
     .have:=no r[j] (List.mem_take_iff_getElem.mpr ⟨j,by lia,rfl⟩);rw[this];exact D4
    have:=k I (l.trans g);rw[e]at this;show Q (.int (0+(i:Int))) I;rw[T5];exact this
   |false =>
    refine Bf ⟨l.trans g,⟨_,_,_,rfl⟩,λd D=>?_⟩;rw[F9,C]at D;rcases F1.mp D with z|z
    .exact no d z
    .have:d=c:=by simpa using z
     rw[this];exact Z
 .rintro σ p ⟨l,⟨S,U,G,rfl⟩,no⟩;rw[ln,J9]at no;have e:Jq r cell b=none:=by
   unfold Jq;rw[V3];exact no
  have:=k p l;rw[e]at this;exact this
inductive SpBe(vs:List V)(H:Hp)(Q:VK):Prop
|mk (q m:R_) (r:Az) (cell:Int) (ar:I_) (_:vs=[.ref q,.int cell,.ref m]) (_:NU H q r) (_:Fb r) (_:H m=some (.lst (ar.map V.int))) (_:ar.length=8) (_:∀H',AC H H'->Q (.int (Cm r cell ar)) H'):SpBe vs H Q
def spBe:Sp:=λvs H Q _=>SpBe vs H Q
theorem ok_be(F:Fun K "_law_becomes" "_law_becomes" FO f fd)(T:Top K mg a)(y:Cal P w K mg base CX0 2 "_law_decides" FY spDe):AK P w K mg base CX0 3 f fd FY spBe:=by
 refine F.ok Jl D_9 λz A l s H vs Q E M h=>?_
 obtain⟨q,m,r,cell,p,rfl,v,I,G,x,k⟩:=h;refine⟨_,(Ac (Ao (i:=3) Jl.nd rfl O_9 (Ar y (rm M) rfl Am (Aa (pv 0) (Aa (pv 1) (Aa (pv 2) Ab))))) (Ac (AM (Ay Ja (pv 3) Cy (AE _)) (Af (Au (pv 1))) AB) (Af (Au (Aj An (Aj Ax (pv 0) (pv 3) R_9) Ae R_9))))),?_⟩
 try dsimp only[cxK]
 refine xw3 rfl rfl rfl ⟨q,m,r,cell,p,rfl,v,I,G,x,λo n=>?_⟩;refine xq1 rfl ⟨rfl,(xq1 rfl ?_)⟩;cases e:Jq r cell p with
 |none =>
  refine Cz (xq1 rfl ?_);have:=k o n;rw[MR e]at this;exact this
 |some i =>
  obtain⟨c,u,B⟩:=MQ e;obtain⟨cs,L,g⟩:=(v.same n).ex;obtain⟨t,d⟩:∃t,cs[i]?=some t:=by
   have N:cs.length=r.length:=K4 g;have:i<cs.length:=by rw[N];exact(B9.mp u).1
   exact⟨_,C6 this⟩
  obtain⟨O,b,D⟩:=Paired.get g d;rw[u]at b;cases b;obtain⟨R,ds,C,_⟩:=D.ex;refine Bf (xwj rfl rfl rfl rfl (SqL.of L) (Ai (by rw[C0,d];rfl)) (xq4 rfl rfl (SqT.of C) (Ai (j:=2) rfl) ?_));have:=k o n;rw[B]at this;exact this
end
theorem VF{ds:H_}{vs:I_}(h:vs≠[]):ds.map V.ref≠vs.map V.int:=λz=>by
 cases vs with
 |nil=>exact h rfl
 |cons v r =>
  cases ds with
  |nil=>simp at z
  |cons d q=>simp at z
theorem CO.put{H:Hp}{l q:R_}{ds:H_}{o:HO}{d:AX}(i:H l=some (.lst (ds.map V.ref)))(h:CO H q d)(ok:d.ok):CO (upd H l o) q d:=by
 have a:∀{b v},H b=some v->v≠.lst (ds.map V.ref)->upd H l o b=some v:=λ{b v} e n=>by rw[Av (AG e i n)];exact e
 cases h with
 |@am j s ns h c=>exact .am (a h A3) (a c λz=>VF ok.2.1 (HO.lst.inj z).symm)
 |@pl j f h c =>
  refine .pl (a h A3) (a c λz=>?_);have g:=(HO.lst.inj z).symm;rw[show(f.map λw=>V.int (unO w))=(f.map unO).map V.int by rw[M7];rfl]at g;refine VF (ds:=ds) (λq=>?_) g;have:=K5 List.length q;rw[B8,ok.1]at this;cases this
theorem Paired.impMem{α β:Type}{F G:α->β->Prop}:∀{l:List α}{m:List β},(∀x y,y∈m->F x y->G x y)->Paired F l m->Paired G l m
|_,_,_,.nil=>.nil
|_,_,h,.cons r t=>.cons (h _ _ C8 r) (Paired.impMem (λx y a=>h x y (C7 _ a)) t)
def Qn(l0:R_)(H:Hp)(q:R_)(c:AS):Prop:=∃(l:R_)(ds:H_),l≠l0/\H q=some (.tup [.int (unO c.cell),.ref l,.int c.makes])/\H l=some (.lst (ds.map V.ref))/\Paired (CO H) ds c.conds
theorem Qn.at{a:R_}{H:Hp}{q:R_}{c:AS}(h:Qn a H q c):QX H q c:=by
 obtain⟨l,ds,_,r⟩:=h;exact⟨l,ds,r⟩
theorem Qn.same{b:R_}{H a:Hp}{q:R_}{c:AS}(s:AC H a)(h:Qn b H q c):Qn b a q c:=by
 obtain⟨l,ds,n,d,e,f⟩:=h;exact⟨l,ds,n,s _ _ d,s _ _ e,Paired.imp (λ_ _ z=>z.same s) f⟩
theorem Qn.put{a:R_}{H:Hp}{q:R_}{c:AS}{cs:H_}{o:HO}(d:H a=some (.lst (cs.map V.ref)))(h:Qn a H q c)(ok:c.ok):Qn a (upd H a o) q c:=by
 obtain⟨l,ds,n,b,e,f⟩:=h;refine⟨l,ds,n,?_,?_,Paired.impMem (λx y g z=>z.put d (ok.conds y g)) f⟩
 .rw[Av (AG b d A3)];exact b
 .rw[Av n];exact e
def c00:AS:=⟨some 0,[.am 0 [8]],0⟩
theorem c00_ok:c00.ok where
 cell:=⟨by decide,by decide⟩
 makes:=⟨by decide,by decide⟩
 few:=by show 1<=50;decide
 conds:=λd a=>by
  rw[C9.mp a];exact⟨⟨by decide,by decide⟩,by simp,λn b=>by rw[C9.mp b];exact⟨by decide,by decide⟩,List.pairwise_singleton _ _⟩
theorem c00_rest(r:Az):Cm (c00::r) 0 BF=0:=by
 unfold Cm;rw[Q5];have:c00.fits 0 BF=true:=by decide
 rw[this];rfl
section
variable{P:N_}{w:Q_}{K:O_}{mg:C_}{base:T_}{a:Ad}
inductive SpCl(vs:List V)(H:Hp)(Q:VK):Prop
|mk (m:R_) (sd j:Int) (_:vs=[.ref m,.int sd,.int j]) (_:Yn H m) (_:0<=j) (_:j<=800000) (_:∀(q l:R_)(ds:H_)(c:AS)(H':Hp),AC H H'->H l=none->H' q=some (.tup [.int (unO c.cell),.ref l,.int c.makes])->H' l=some (.lst (ds.map V.ref))->Paired (CO H') ds c.conds->c.ok->Q (.ref q) H'):SpCl vs H Q
def spCl:Sp:=λvs H Q _=>SpCl vs H Q
theorem ok_cl(F:Fun K "_law_clause_by" "_law_clause_by" Ey f fd)(T:Top K mg a)(I:Cal P w K mg base CX0 1 "_law_mix" IP Vs)(aH:Cal P w K mg base CX0 1 "_law_state_by" NZ spSt)(b7:Cal P w K mg base CX0 2 "_law_condition_by" Dw spCo) :
 AK P w K mg base CX0 3 f fd Dw spCl:=by
 refine F.ok Ci D_9 λaa A X s H vs Q E B h=>?_
 obtain⟨m,C,j,rfl,⟨U,W,N,S,D⟩,h0,h1,k⟩:=h;let J1:St->Hp->Prop:=fun σ r=>∃x:Option Int,σ=[some (.ref m),some (.int C),some (.int j),some (.int (unO x)),none,none]/\wOk x/\H=r;refine⟨_,(Ac (Ao (i:=3) Ci.nd rfl O_9 Ae) (Ac (ps_ifJ J1 (Ay Pc (AA Bb (Ar I (rm B) rfl Am (Aa (pv 1) (Aa (pv 2) Ab))) Ae) Ae (AE _)) (Af (Ao (i:=3) Ci.nd rfl O_9 (Ar aH (rm B) rfl Am (Aa (pv 0) (Aa (Ar I (rm B) rfl Am (Aa (pv 1) (Bl AQ (pv 2) Ae Ab))) Ab))))) AB) (Ac (Ao (i:=4) Ci.nd rfl O_9 (Cb Ab)) (Ac (BU X5 rfl (Cw rfl T.b_range (Bl Bb (Ar I (rm B) rfl Am (Aa (pv 1) (Bl AQ (pv 2) Ae Ab))) Ae Ab)) (AZ (i:=5) Ci.nd rfl O_9) (Af (Bm (CF X7 X8 X9 Bw (pv 4) (Aa (Ar b7 (rm B) rfl Am (Aa (pv 0) (Aa (pv 1) (Bl AQ (pv 2) (AA Fo Ae (AA AQ (pv 5) Ae)) Ab)))) Ab))))) (Af (Au (Eg (Aa (pv 3) (Aa (pv 4) (Aa (Ar aH (rm B) rfl Am (Aa (pv 0) (Aa (Ar I (rm B) rfl Am (Aa (pv 1) (Bl AQ (pv 2) Ae Ab))) Ab))) Ab)))))))))),?_⟩
 try dsimp only[cxK]
 refine⟨(xw2 rfl rfl ⟨C,j,rfl,h0,by lia,λv hv=>(xq2 rfl rfl ⟨B3,(xq2 rfl rfl (xq1 rfl ?_))⟩)⟩),?_⟩
 .refine Er (λ_=>?_) (λ_=>?_)
  .exact xq1 rfl (xq1 rfl (xq1 rfl (xq2 rfl rfl ⟨C,_,rfl,by lia,by lia,λZ R=>⟨m,U,W,Z,rfl,N,S,D,λd u=>⟨some d,rfl,u,rfl⟩⟩⟩)))
  .exact⟨none,rfl,trivial,rfl⟩
 .rintro σ r ⟨x,rfl,ox,rfl⟩;refine⟨S_0,λl M=>?_⟩;refine xq1 rfl (xq1 rfl (xq2 rfl rfl ⟨C,_,rfl,by lia,by lia,λv hv=>?_⟩));obtain⟨n,ab⟩:=F8 (show 0<=v%4 by lia);refine xq2 rfl rfl ⟨B3,(xq1 rfl ⟨by lia,by lia,?_⟩)⟩;rw[show(v%4).toNat=n by lia];refine CA (n:=n) (λi σ r=>∃(ds:H_)(t:List AX)(Y:Option V),σ=[some (.ref m),some (.int C),some (.int j),some (.int (unO x)),some (.ref l),Y]/\AC H r/\r l=some (.lst (ds.map V.ref))/\Paired (CO r) ds t/\t.length=i/\∀d∈t,d.ok)
   ⟨[],[],none,rfl,Aq M,Ag,.nil,rfl,λd u=>by simp at u⟩ ?_ ?_
  .rintro i σ r hi ⟨ds,t,Y,rfl,G,c,L,O,g⟩;have ld:=K4 L;refine xq1 rfl ⟨.inl ⟨rfl,_,SqL.of c⟩,_,rfl,_,rfl,_,rfl,_,rfl,_,_,rfl,rfl,_,_,rfl,rfl,.inl ⟨by decide,by decide⟩,_,_,rfl,rfl,m,C,_,rfl,⟨U,W,G _ _ N,S,D⟩,by lia,by lia,λq d H3 p u od=>?_⟩;refine⟨l,_,_,rfl,rfl,p _ _ c,by rw[B8,ld,O];exact F2 hi (De A0),?_⟩;refine⟨ds++[q],t++[d],(xq1 rfl ⟨λb o e=>?_,?_,?_,by rw[C5,O];rfl,λe he=>?_⟩)⟩
   .rw[Av (Aw e M)];exact p _ _ (G _ _ e)
   .rw[Ag,C4];rfl
   .refine A1c (Paired.impMem (λx' y D z=>(z.same p).put (p _ _ c) (g y D)) L) (u.put (p _ _ c) od)
   .rcases F1.mp he with z|z
    .exact g e z
    .rw[C9.mp z];exact od
  .rintro σ r ⟨ds,t,Y,rfl,G,c,L,O,g⟩;refine xq1 rfl (xq1 rfl (xq1 rfl (xq1 rfl (xq1 rfl (xq2 rfl rfl ⟨C,_,rfl,by lia,by lia,λZ R=>⟨m,U,W,Z,rfl,G _ _ N,S,D,λd u=>⟨S_3,λq hq=>?_⟩⟩⟩)))));have p:=Aq (o:=.tup [.int (unO x),.ref l,.int d]) hq;exact k q l ds ⟨x,t,d⟩ _ (G.trans p) M Ag (p _ _ c) (Paired.imp (λ_ _ z=>z.same p) L) ⟨ox,u,(by show t.length<=50;lia),g⟩
inductive SpCs(K:O_)(vs:List V)(H:Hp)(Q:VK):Prop
|mk (l:R_) (ns:I_) (ft mn:Int) (_:vs=[.ref l,.int ft,.int mn]) (_:SqL K H l (ns.map V.int)) (_:0<=ft) (_:0<=mn) (_:mn<=40) (_:∀(q:R_)(r:Az)(H':Hp),AC H H'->NU H' q r->Fb r->Cm r 0 BF=0->mn<=r.length->r.length<=mn+1->Q (.ref q) H'):SpCs K vs H Q
def spCs(K:O_):Sp:=λvs H Q _=>SpCs K vs H Q
theorem ok_cs(F:Fun K "_law_clauses_by" "_law_clauses_by" Ec f fd)(T:Top K mg a)(aB:Cal P w K mg base CX0 1 "_law_at" WR (WB K))(bG:Cal P w K mg base CX0 3 "_law_clause_by" Dw spCl)(bS:Cal P w K mg base CX0 3 "_law_becomes" FY spBe) :
 AK P w K mg base CX0 4 f fd Ek (spCs K):=by
 refine F.ok Ca D_9 λaf A ae s H vs Q E W h=>?_
 obtain⟨l,ns,p,mn,rfl,hS,h0,m0,ah,k⟩:=h;refine⟨_,(Ac (Ao (i:=3) Ca.nd rfl O_9 (Eg (Bl Bb (Ar aB (rm W) rfl Am (Aa (pv 0) (Aa (pv 1) Ab))) Ae (Bl Bb (Ar aB (rm W) rfl Am (Aa (pv 0) (Bl AQ (pv 1) Ae Ab))) Ae Ab)))) (Ac (Ao (i:=4) Ca.nd rfl O_9 (Cb Ab)) (Ac (BU X5 rfl (Cw rfl T.b_range (Aa (pv 2) Ab)) (AZ (i:=5) Ca.nd rfl O_9) (Af (Bm (CF X7 X8 X9 Bw (pv 4) (Aa (Ar bG (rm W) rfl Am (Aa (pv 3) (Aa (Ar aB (rm W) rfl Am (Aa (pv 0) (Bl AQ (AA AQ (pv 1) Ae) (pv 5) Ab))) (Bl Fo Ae (pv 5) Ab)))) Ab))))) (Ac (AM (Ay Dk (Ar bS (rm W) rfl Am (Aa (pv 4) (AI (Rv (AI (AI (AI (AI (AI (AI (AI (AI Ab)))))))) Ab)))) Ae (AE _)) (Af (Ao (i:=4) Ca.nd rfl O_9 (AA Rx (Cb (Br (AI (Rv (Br (LT (AI (Rv (AI Ab) Ab))) Ab) (AI Ab))) Ab)) (pv 4)))) AB) (Af (Au (pv 4))))))),?_⟩
 try dsimp only[cxK]
 refine xw2 rfl rfl ⟨l,ns,p,rfl,hS,h0,?_⟩;refine xq2 rfl rfl ⟨B5,(xq1 rfl ?_)⟩;refine xq1 rfl (xq2 rfl rfl ⟨l,ns,_,rfl,hS,by lia,?_⟩);refine⟨_,_,rfl,rfl,B5,S_2,λm hm=>?_⟩;have s1:=Aq (o:=.tup [.int (atN ns p%8),.int (atN ns (p+1)%8)]) hm;have hM:Yn (upd H m (.tup [.int (atN ns p%8),.int (atN ns (p+1)%8)])) m:=⟨_,_,Ag,⟨by lia,by lia⟩,⟨by lia,by lia⟩⟩
 have L:AC H (upd H m (.tup [.int (atN ns p%8),.int (atN ns (p+1)%8)])):=s1;show(tSeq _ _) _ _ (upd H m (.tup [.int (atN ns p%8),.int (atN ns (p+1)%8)]));generalize upd H m (.tup [.int (atN ns p%8),.int (atN ns (p+1)%8)])=H1 at s1 L hM⊢;refine⟨S_0,λv S=>?_⟩;obtain⟨n,rfl⟩:=F8 m0;refine xw2 rfl rfl ⟨by lia,by lia,?_⟩;rw[J3];refine CA (n:=n) (λi σ C=>∃(cs:H_)(r:Az)(u5:Option V),σ=[some (.ref l),some (.int p),some (.int n),some (.ref m),some (.ref v),u5]/\AC H1 C/\C v=some (.lst (cs.map V.ref))/\Paired (Qn v C) cs r/\r.length=i/\∀c∈r,c.ok)
  ⟨[],[],none,rfl,Aq S,Ag,.nil,rfl,λd hd=>by simp at hd⟩ ?_ ?_
 .rintro i σ C hi ⟨cs,r,u5,rfl,Z,g,pr,hn,u⟩;have ld:=K4 pr;have aa:SqL K C l (ns.map V.int):=(L.trans Z).seq hS;refine xq1 rfl ⟨.inl ⟨rfl,_,SqL.of g⟩,_,rfl,_,rfl,_,rfl,_,_,rfl,rfl,_,rfl,_,_,rfl,rfl,l,ns,_,rfl,aa,by lia,_,rfl,_,_,rfl,rfl,.inl ⟨by decide,by decide⟩,m,_,_,rfl,hM.same Z,by lia,by lia,λq l' ds c H3 B nl e1 e2 e3 oc=>?_⟩;refine⟨v,_,_,rfl,rfl,B _ _ g,by rw[B8,ld,hn];exact F2 hi (De A0),?_⟩;have ad:l'≠v:=λz=>by rw[z,g]at nl;cases nl
  refine⟨cs++[q],r++[c],(xq1 rfl ⟨λb o e=>?_,?_,?_,by rw[C5,hn];rfl,λe he=>?_⟩)⟩
  .rw[Av (Aw e S)];exact B _ _ (Z _ _ e)
  .rw[Ag,C4];rfl
  .refine A1c (Paired.impMem (λx' y hy z=>(z.same B).put (B _ _ g) (u y hy)) pr) (Qn.put (B _ _ g) ⟨l',ds,ad,e1,e2,e3⟩ oc)
  .rcases F1.mp he with z|z
   .exact u e z
   .rw[C9.mp z];exact oc
 .rintro σ C ⟨cs,r,u5,rfl,Z,g,pr,hn,u⟩;have hR:NU C v r:=⟨cs,g,Paired.imp (λ_ _ z=>z.at) pr⟩
  have rk:Fb r:=⟨by lia,u⟩
  refine xq1 rfl ⟨(by show 8<=sizeLine;decide),λz8 ac=>?_⟩;have B:=Aq (o:=.lst (BF.map V.int)) ac;refine⟨v,z8,r,0,BF,rfl,hR.same B,rk,Ag,rfl,λH4 s4=>?_⟩;have Y:AC H H4:=((L.trans Z).trans B).trans s4;have O:=(hR.same B).same s4;refine⟨rfl,(xq1 rfl ?_)⟩;rw[Je];by_cases hz:Cm r 0 BF=0
  .rw[Z7 hz];exact Bf (xq1 rfl (k v r H4 Y O rk hz A0 A0))
  .rw[Z8 hz];refine Cz ?_;refine⟨S_1,λb1 ab=>⟨S_3,λb2 R=>⟨S_1,λM I=>⟨S_3,λG x=>⟨S_1,λb5 t=>?_⟩⟩⟩⟩⟩;generalize j:upd (upd (upd (upd (upd H4 b1 (.lst [.int 8])) b2 (.tup [.str (Str.ofString "amount"),.int 0,.ref b1])) M (.lst [.ref b2])) G (.tup [.int 0,.ref M,.int 0])) b5 (.lst [.ref G])=D;have s5:AC H4 D:=by rw[<-j];exact(((Aq ab).trans (Aq R)).trans (Aq I)).trans ((Aq x).trans (Aq t))
   have e1:D b1=some (.lst [.int 8]):=by rw[<-j];exact Aq t _ _ (Aq x _ _ (Aq I _ _ (Aq R _ _ Ag)))
   have e2:D b2=some (.tup [.str (Str.ofString "amount"),.int 0,.ref b1]):=by rw[<-j];exact Aq t _ _ (Aq x _ _ (Aq I _ _ Ag))
   have e3:D M=some (.lst [.ref b2]):=by rw[<-j];exact Aq t _ _ (Aq x _ _ Ag)
   have e4:D G=some (.tup [.int 0,.ref M,.int 0]):=by rw[<-j];exact Aq t _ _ Ag
   have e5:D b5=some (.lst [.ref G]):=by rw[<-j];exact Ag
   obtain⟨N,U,X⟩:=(O.same s5).ex;have ag:=K4 X;refine xq1 rfl ⟨b5,v,(xq2 rfl rfl ⟨e5,U,De (by simp only[D7,T0,B8];lia),λq hq=>?_⟩)⟩;have s6:=Aq (o:=.lst ([V.ref G]++N.map V.ref)) hq;have c0:QX D G c00:=⟨M,[b2],e4,e3,.cons (.am (ns:=[8]) e2 e1) .nil⟩
   refine xq1 rfl (k q (c00::r) _ ((Y.trans s5).trans s6) ⟨G::N,Ag,.cons (c0.same s6) (Paired.imp (λ_ _ z=>z.same s6) X)⟩ ⟨by rw[D7];lia,λc hc=>?_⟩ (c00_rest r) (by rw[D7];lia) (by rw[D7];lia));rcases C2.mp hc with z|z
   .rw[z];exact c00_ok
   .exact u c z
end
theorem AC.noneN{H a:Hp}(s:AC H a){x:R_}(n:a x=none):H x=none:=by
 cases e:H x with
 |none=>rfl
 |some o=>rw[s _ _ e]at n;cases n
theorem MD{T:St->Hp->Prop}{C:Prop}(P:St->Hp->Prop)(h:(∀σ H,P σ H->T σ H)->C)(k:∀σ H,P σ H->T σ H):C:=h k
structure MA where
tp:Addr
l:Addr
kc:Addr
ds:List Addr
def jf2(gp mem:R_):List (Str×V):=AT "memories" (.ref mem) (AT "grove" (.ref gp) [])
def jf5(gp mem pr l kc:R_):List (Str×V):=AT "known_cells" (.ref kc) (AT "known_squares" (.ref l) (AT "rule" (.ref pr) (jf2 gp mem)))
theorem jf2_mem(a mem:R_):(jf2 a mem).lookup ("memories" : Str)=some (V.ref mem):=by
 unfold jf2;rw[Ak,Z9 rfl]
theorem jf2_no(a mem:R_){m:Str}(b:¬m=("memories" : Str))(c:¬m=("grove" : Str)):(jf2 a mem).lookup m=none:=by
 unfold jf2;rw[Ak,Z6 b,Ak,Z6 c];rfl
section
variable(gp mem pr l kc:R_)
theorem jf5_kc:(jf5 gp mem pr l kc).lookup ("known_cells" : Str)=some (V.ref kc):=by
 unfold jf5;rw[Ak,Z9 rfl]
theorem jf5_ks:(jf5 gp mem pr l kc).lookup ("known_squares" : Str)=some (V.ref l):=by
 unfold jf5;rw[Ak,Z6 A1,Ak,Z9 rfl]
theorem jf5_ru:(jf5 gp mem pr l kc).lookup ("rule" : Str)=some (V.ref pr):=by
 unfold jf5;rw[Ak,Z6 A1,Ak,Z6 A1,Ak,Z9 rfl]
theorem jf5_mem:(jf5 gp mem pr l kc).lookup ("memories" : Str)=some (V.ref mem):=by
 unfold jf5 jf2;rw[Ak,Z6 A1,Ak,Z6 A1,Ak,Z6 A1,Ak,Z9 rfl]
theorem En:(jf5 gp mem pr l kc).lookup ("grove" : Str)=some (V.ref gp):=by
 unfold jf5 jf2;rw[Ak,Z6 A1,Ak,Z6 A1,Ak,Z6 A1,Ak,Z6 A1,Ak,Z9 rfl]
theorem Jc{m:Str}(a:¬m=("known_cells" : Str))(b:¬m=("known_squares" : Str))(c:¬m=("rule" : Str))(d:¬m=("memories" : Str))(e:¬m=("grove" : Str)):(jf5 gp mem pr l kc).lookup m=none:=by
 unfold jf5;rw[Ak,Z6 a,Ak,Z6 b,Ak,Z6 c,jf2_no _ _ d e]
theorem Pe:(jf5 gp mem pr l kc).lookup ("change" : Str)=none:=Jc _ _ _ _ _ A1 A1 A1 A1 A1
theorem Qw:(jf5 gp mem pr l kc).lookup ("after" : Str)=none:=Jc _ _ _ _ _ A1 A1 A1 A1 A1
theorem WM:(jf5 gp mem pr l kc).lookup ("check_jump" : Str)=none:=Jc _ _ _ _ _ A1 A1 A1 A1 A1
theorem Mv:(jf5 gp mem pr l kc).lookup ("reckoned" : Str)=none:=Jc _ _ _ _ _ A1 A1 A1 A1 A1
theorem WL:(jf5 gp mem pr l kc).lookup ("fresh" : Str)=none:=Jc _ _ _ _ _ A1 A1 A1 A1 A1
theorem ZD:(jf5 gp mem pr l kc).lookup ("four_halfway" : Str)=none:=Jc _ _ _ _ _ A1 A1 A1 A1 A1
theorem noJ_mid:(jf5 gp mem pr l kc).lookup ("middle_after" : Str)=none:=Jc _ _ _ _ _ A1 A1 A1 A1 A1
theorem ZE:(jf5 gp mem pr l kc).lookup ("cell_after" : Str)=none:=Jc _ _ _ _ _ A1 A1 A1 A1 A1
theorem putN{f g:Str}{v x:V}{r:List (Str×V)}(h:¬g=f):AT f v ((g,x)::r)=(g,x)::AT f v r:=Z6 h
theorem putE{f:Str}{v x:V}{r:List (Str×V)}:AT f v ((f,x)::r)=(f,v)::r:=Z9 rfl
theorem putZ{f:Str}{v:V}:AT f v []=[(f,v)]:=rfl
theorem RW:jf5 gp mem pr l kc=[(("grove" : Str),V.ref gp),(("memories" : Str),V.ref mem),(("rule" : Str),V.ref pr),(("known_squares" : Str),V.ref l),(("known_cells" : Str),V.ref kc)]:=by
 unfold jf5 jf2
 repeat first|rw[putN A1]|rw[putE]|rw[putZ]
theorem jf5_put(b c a:R_):AT "known_cells" (.ref a) (AT "known_squares" (.ref c) (AT "rule" (.ref b) (jf5 gp mem pr l kc)))=jf5 gp mem b c a:=by
 rw[RW,RW]
 repeat first|rw[putN A1]|rw[putE]|rw[putZ]
end
inductive Nv:HO->Prop
|tup {xs:List V}:Nv (.tup xs)
|ins {C dx:R_} {fs:List (Str×V)} (h1:1<=fs.length) (h2:fs.length<=3):Nv (.ins C dx fs)
theorem Om(f:Str)(v:V):∀fs:List (Str×V),1<=(AT f v fs).length
|[]=>C1 1
| (g,x)::r=>by
 unfold AT;split
 .rw[D7];lia
 .rw[D7];lia
theorem Dx.kp{a:Ad}{H e:Hp}{p:R_}{c:AX}(k:∀b o,H b=some o->Nv o->e b=some o)(h:Dx a H p c):Dx a e p c:=by
 cases h with
 |am h d=>exact .am (k _ _ h (.ins (Om _ _ _) (D1 (BE _ _ _) (P4 (D1 (BE _ _ _) (by show 0+1<=2;decide)))))) (k _ _ d .tup)
 |pl h d=>exact .pl (k _ _ h (.ins (Om _ _ _) (D1 (BE _ _ _) (by show 0+1<=3;decide)))) (k _ _ d .tup)
theorem Cf.kp{a:Ad}{H d:Hp}{p:R_}{c:AS}(k:∀b o,H b=some o->Nv o->d b=some o)(h:Cf a H p c):Cf a d p c:=by
 obtain⟨e,t,cs,f,g,i⟩:=h.ex;exact⟨e,t,cs,k _ _ f (.ins (Om _ _ _) (D1 (BE _ _ _) (P4 (D1 (BE _ _ _) (P4 (D1 (BE _ _ _) (by show 0+1<=1;decide))))))),k _ _ g .tup,Paired.imp (λ_ _ z=>z.kp k) i⟩
theorem Ce.kp{a:Ad}{H c:Hp}{p:R_}{x:Str}{r:Az}(k:∀b o,H b=some o->Nv o->c b=some o)(h:Ce a H p x r):Ce a c p x r:=by
 obtain⟨d,t,cs,e,f,g⟩:=h.ex;exact⟨d,t,cs,k _ _ e (.ins (Om _ _ _) (D1 (BE _ _ _) (P4 (D1 (BE _ _ _) (by show 0+1<=2;decide))))),k _ _ f .tup,Paired.imp (λ_ _ z=>z.kp k) g⟩
def mK(ms:List (Str×MA)):List (Key×V):=ms.map λe=>(Sum.inr e.1,V.ref e.2.tp)
theorem VO(t:Str):∀a:List (Str×MA),(∃m,(t,m)∈a/\BR (mK a) (Sum.inr t)=some (.ref m.tp))\/(BR (mK a) (Sum.inr t)=none/\∀e∈a,e.1≠t)
|[]=>.inr ⟨rfl,λe d=>nomatch d⟩
|e::r=>by
 by_cases h:e.1=t
 .refine .inl ⟨e.2,?_,?_⟩
  .rw[<-h];exact C8
  .exact BT (p:=(Sum.inr e.1,V.ref e.2.tp)) (r:=mK r) (by rw[h])
 .have n:BR (mK (e::r)) (Sum.inr t)=BR (mK r) (Sum.inr t):=BH (p:=(Sum.inr e.1,V.ref e.2.tp)) (r:=mK r) λz=>h (Sum.inr.inj z);rcases VO t r with ⟨m,b,c⟩|⟨b,c⟩
  .exact .inl ⟨m,C7 _ b,n.trans c⟩
  .refine .inr ⟨n.trans b,λx f=>?_⟩;rcases C2.mp f with z|z
   .rw[z];exact h
   .exact c x z
inductive Ve(H H':Hp)(t:Str)(ms ms':List (Str×MA))(m:MA):Prop
|old (_:(t,m)∈ms) (_:ms'=ms):Ve H H' t ms ms' m
|new (_:ms'=ms++[(t,m)]) (_:∀e∈ms,e.1≠t) (_:H m.tp=none/\H m.l=none/\H m.kc=none/\∀d∈m.ds,H d=none) (_:H' m.tp=some (.tup [.ref m.l,.ref m.kc])) (_:H' m.l=some (.lst (m.ds.map V.ref))) (_:H' m.kc=some (.dT [])) (_:∀d∈m.ds,H' d=some (.dK [])) (_:m.ds.length=47) (_:m.ds.Nodup):Ve H H' t ms ms' m
section
variable{P:N_}{w:Q_}{K:O_}{mg:C_}{base:T_}{a:Ad}
inductive SpShow(a:Ad)(vs:List V)(H:Hp)(Q:VK):Prop
|mk (p:R_) (t:Str) (r:Az) (_:vs=[.ref p]) (_:Ce a H p t r) (_:Q (.str t) H):SpShow a vs H Q
def Ug(a:Ad):Sp:=λvs H Q _=>SpShow a vs H Q
theorem ok_show(F:Fun K "shown_rule" "shown_rule" Iq f fd)(T:Top K mg a):AK P w K mg base CX0 1 f fd RC (Ug a):=by
 refine F.ok PR D_9 λc A b s H vs Q E l h=>?_
 obtain⟨p,t,r,rfl,e,k⟩:=h;obtain⟨g,m,cs,d,i,j⟩:=e.ex;refine⟨_,(Af (Au (AF (pv 0) rfl))),?_⟩
 try dsimp only[cxK]
 exact xwf rfl rfl d T.cl_Rule T.na_Rule_text (fl2_1 A1) k
inductive SpChg(a:Ad)(vs:List V)(H:Hp)(Q:VK):Prop
|mk (p dx mem pr:R_) (fs:List (Str×V)) (t:Str) (r:Az) (ms:List (Str×MA)) (_:vs=[.ref p,.ref pr]) (_:H p=some (.ins a.c_Jumps dx fs)) (_:fs.lookup ("memories" : Str)=some (.ref mem)) (_:fs.length<=10) (_:H mem=some (.dK (mK ms))) (_:ms.length<=1000) (_:∀e∈ms,H e.2.tp=some (.tup [.ref e.2.l,.ref e.2.kc])) (_:Ce a H pr t r) (_:∀(H':Hp)(m:MA)(ms':List (Str×MA)),(∀b o,H b=some o->b≠p->b≠mem->H' b=some o)->H' p=some (.ins a.c_Jumps dx (AT "known_cells" (.ref m.kc) (AT "known_squares" (.ref m.l) (AT "rule" (.ref pr) fs))))->H' mem=some (.dK (mK ms'))->Ve H H' t ms ms' m->Q .non H'):SpChg a vs H Q
def Vv(a:Ad):Sp:=λvs H Q _=>SpChg a vs H Q
theorem ok_chg(F:Fun K "change" "Jumps.change" Ee f fd)(T:Top K mg a)(cC:Cal P w K mg base CX0 1 "shown_rule" RC (Ug a)):AK P w K mg base CX0 2 f fd El (Vv a):=by
 refine F.ok Jm D_9 λay A ax s H vs Q E hr h=>?_
 obtain⟨p,I,mem,B,fs,t,r,L,rfl,hp,C,az,hm,few,ac,hR,k⟩:=h;refine⟨_,(Ac (Ao (i:=2) Jm.nd rfl O_9 (Ar cC (rm hr) rfl Am (Aa (pv 1) Ab))) (Ac (AM (pt_cmp (WE (Gg hr) (pv 2) (AF (pv 0) rfl))) (Af (II (Gg hr) (AF (pv 0) rfl) (pv 2) (Eg (Aa (BW rfl (Bz.of (So:=Ah Ee) (No:=JS) (N:=["e"]) (k:=1) (cs:=[]) rfl rfl A1) (Cw rfl T.b_range (Bl BJ (BV rfl T.k_TOP_LEVEL) Ae Ab)) (λ_ _ _=>(Bd (i:=0) A1 rfl rfl)) (λ_ _ _=>BG) (λ_ _ _=>Ms)) (Aa OY Ab))) rfl)) AB) (Ac (CK (pv 0) (pv 1) rfl) (Ac (CK (pv 0) (Aj An (Ru (Gg hr) (AF (pv 0) rfl) (pv 2) R_9) Ae R_9) rfl) (Af (CK (pv 0) (Aj An (Ru (Gg hr) (AF (pv 0) rfl) (pv 2) R_9) Ae R_9) rfl)))))),?_⟩
 try dsimp only[cxK]
 have R:p≠mem:=AG hp hm A3;refine xq1 rfl ⟨B,t,r,rfl,hR,?_⟩;apply MD (fun σ U=>σ=[some (.ref p),some (.ref B),some (.str t)]/\∃(m:MA)(G:List (Str×MA)),(∀b o,H b=some o->b≠mem->U b=some o)/\U mem=some (.dK (mK G))/\BR (mK G) (Sum.inr t)=some (.ref m.tp)/\U m.tp=some (.tup [.ref m.l,.ref m.kc])/\Ve H U t L G m/\m.tp≠p/\(H m.tp=none->m.l≠p/\m.kc≠p/\∀d∈m.ds,d≠p))
 .intro S;refine xw2 rfl rfl (xq5 hp T.cl_Jumps T.na_Jumps_memories C ⟨mem,(xq1 rfl ⟨Jt.k (k:=Sum.inr t) hm,(xq1 rfl ?_)⟩)⟩);rcases VO t L with ⟨m,m1,m2⟩|⟨no,nk⟩
  .rw[m2];refine Bf (S _ _ ⟨rfl,m,L,λb o e _=>e,hm,m2,ac _ m1,.old m1 rfl,AG (ac _ m1) hp A3,λz=>?_⟩);rw[ac _ m1]at z;cases z
  .rw[no];refine Cz ?_;refine xq2 rfl rfl (xq1 rfl ⟨by decide,by decide,?_⟩);refine NI (n:=47) (λi X W=>AC H W/\∃ds:List Addr,X=ds.map V.ref/\ds.length=i/\(∀d∈ds,W d=some (.dK []))/\(∀d∈ds,H d=none)/\ds.Nodup) ⟨AC.refl H,[],rfl,rfl,λd c=>(nomatch c),λd c=>(nomatch c),.nil⟩ ?_ ?_
   .rintro i X W hi ⟨sm,ds,rfl,ln,c1,c2,nd⟩;refine⟨⟨[some (.int (0+(i:Int)))],rfl,rfl⟩,?_,Gm λd c=>⟨sm.trans (Aq c),ds++[d],by rw[C4];rfl,by rw[C5,ln];rfl,λx hx=>?_,λx hx=>?_,?_⟩⟩
    .rw[B8,ln];exact F2 hi A4
    .rcases F1.mp hx with z|z
     .exact Aq c _ _ (c1 x z)
     .rw[C9.mp z];exact Ag
    .rcases F1.mp hx with z|z
     .exact c2 x z
     .rw[C9.mp z];exact AC.noneN sm c
    .rw[Q8];refine⟨nd,by simp,λx hx y hy z=>?_⟩;rw[C9.mp hy]at z;rw[<-z,c1 x hx]at c;cases c
   .rintro X W ⟨sm,ds,rfl,ln,c1,c2,nd⟩ l hl;generalize ad:upd W l _=H3;obtain⟨s3,aq⟩:=alc hl ad;intro v af;generalize ae:upd H3 v _=H4;obtain⟨s4,ao⟩:=alc af ae;refine⟨S_2,λg am=>?_⟩;show ∃_,_;generalize dO:upd H4 g _=H5;obtain⟨s5,al⟩:=alc am dO;have n1:H l=none:=AC.noneN sm hl;have n2:H v=none:=AC.noneN (sm.trans s3) af;have n3:H g=none:=AC.noneN ((sm.trans s3).trans s4) am;have ab:=((sm.trans s3).trans s4).trans s5;have as:=ab _ _ hm;refine xwf rfl rfl (ab _ _ hp) T.cl_Jumps T.na_Jumps_memories C (xq1 rfl ⟨mem,(xq1 rfl ⟨MS.k (k:=Sum.inr t) as ?_,?_⟩)⟩)
    .unfold mK;rw[B8];exact F3 few A4
    .rw[Mq _ no];have e6:mK L++[(Sum.inr t,V.ref g)]=mK (L++[(t,⟨g,l,v,ds⟩)]):=by unfold mK;rw[C4];rfl
     rw[e6];have Y:∀b o,H5 b=some o->b≠mem->upd H5 mem (.dK (mK (L++[(t,⟨g,l,v,ds⟩)]))) b=some o:=λb o e n=>by rw[Av n];exact e
     have ai:upd H5 mem (.dK (mK (L++[(t,⟨g,l,v,ds⟩)]))) mem=some (.dK (mK (L++[(t,⟨g,l,v,ds⟩)]))):=Ag;generalize upd H5 mem (.dK (mK (L++[(t,⟨g,l,v,ds⟩)])))=H6 at Y ai⊢;have nm:∀{x:R_},H x=none->x≠mem:=λz y=>by rw[y,hm]at z;cases z
     have np:∀{x:R_},H x=none->x≠p:=λz y=>by rw[y,hp]at z;cases z
     refine S _ _ ⟨rfl,⟨g,l,v,ds⟩,L++[(t,⟨g,l,v,ds⟩)],λb o e n=>Y _ _ (ab _ _ e) n,ai,?_,Y _ _ al (nm n3),.new rfl nk ⟨n3,n1,n2,c2⟩ (Y _ _ al (nm n3)) (Y _ _ (s5 _ _ (s4 _ _ aq)) (nm n1)) (Y _ _ (s5 _ _ ao) (nm n2)) (λd c=>Y _ _ (s5 _ _ (s4 _ _ (s3 _ _ (c1 d c)))) (nm (c2 d c))) ln nd,np n3,λ_=>⟨np n1,np n2,λd c=>np (c2 d c)⟩⟩;rw[<-e6];rw[QZ no];exact BT rfl
 rintro σ U ⟨rfl,m,G,k1,ag,vv,av,chg,aa,an⟩;have aj:=k1 _ _ hp R;have lf:fs.length<1000:=by lia
 have put:∀{Hk:Hp}{fs':List (Str×V)}(q:List (Str×V)),Hk p=some (.ins a.c_Jumps I fs')->(∀b o,Hk b=some o->b≠p->upd Hk p (.ins a.c_Jumps I q) b=some o)/\upd Hk p (.ins a.c_Jumps I q) p=some (.ins a.c_Jumps I q):=λ{Hk fs'} q e=>⟨λb o e n=>by rw[Av n];exact e,Ag⟩
 refine xw2 rfl rfl ⟨p,_,I,fs,rfl,aj,T.cl_Jumps,T.na_Jumps_rule,lf,?_⟩;obtain⟨k2,M⟩:=put (AT "rule" (.ref B) fs) aj;generalize upd U p (.ins a.c_Jumps I (AT "rule" (.ref B) fs))=W at k2 M⊢;have l2:=BE ("rule" : Str) (.ref B) fs;have D:(AT "rule" (.ref B) fs).lookup ("memories" : Str)=some (.ref mem):=by rw[Ak,Z6 A1];exact C
 have ah:=k2 _ _ ag (X6 R);have ak:=k2 _ _ av aa;refine xwf rfl rfl M T.cl_Jumps T.na_Jumps_memories D (xq1 rfl ⟨mem,.ref m.tp,rfl,vv▸Jt.k (k:=Sum.inr t) ah,(xq4 rfl rfl (SqT.of ak) (Ai (j:=0) rfl) (xq1 rfl ⟨p,_,I,(xq1 rfl ⟨M,T.cl_Jumps,T.na_Jumps_known_squares,by lia,?_⟩)⟩))⟩);obtain⟨k3,O⟩:=put (AT "known_squares" (.ref m.l) (AT "rule" (.ref B) fs)) M;generalize upd W p (.ins a.c_Jumps I (AT "known_squares" (.ref m.l) (AT "rule" (.ref B) fs)))=H3 at k3 O⊢;have l3:=BE ("known_squares" : Str) (.ref m.l) (AT "rule" (.ref B) fs);have Z:(AT "known_squares" (.ref m.l) (AT "rule" (.ref B) fs)).lookup ("memories" : Str)=some (.ref mem):=by rw[Ak,Z6 A1];exact D
 have ar:=k3 _ _ ah (X6 R);have aw:=k3 _ _ ak aa;refine xwf rfl rfl O T.cl_Jumps T.na_Jumps_memories Z (xq1 rfl ⟨mem,.ref m.tp,rfl,vv▸Jt.k (k:=Sum.inr t) ar,(xq4 rfl rfl (SqT.of aw) (Ai (j:=1) rfl) (xq1 rfl ⟨p,_,I,(xq1 rfl ⟨O,T.cl_Jumps,T.na_Jumps_known_cells,by lia,?_⟩)⟩))⟩);obtain⟨k4,au⟩:=put (AT "known_cells" (.ref m.kc) (AT "known_squares" (.ref m.l) (AT "rule" (.ref B) fs))) O;have u:∀b o,U b=some o->b≠p->upd H3 p (.ins a.c_Jumps I (AT "known_cells" (.ref m.kc) (AT "known_squares" (.ref m.l) (AT "rule" (.ref B) fs)))) b=some o:=λb o e n=>k4 _ _ (k3 _ _ (k2 _ _ e n) n) n;refine k _ m G (λb o e n1 n2=>u _ _ (k1 _ _ e n2) n1) au (u _ _ ag (X6 R)) ?_;cases chg with
 |old h1 h2=>exact .old h1 h2
 |new h1 h2 h3 h4 h5 h6 h7 h8 h9 =>
  obtain⟨y1,y2,y3⟩:=an h3.1;exact .new h1 h2 h3 (u _ _ h4 aa) (u _ _ h5 y1) (u _ _ h6 y2) (λd c=>u _ _ (h7 d c) (y3 d c)) h8 h9
inductive Ss(a:Ad)(vs:List V)(H:Hp)(Q:VK):Prop
|mk (p dx gp pr:R_) (t:Str) (r:Az) (_:vs=[.ref p,.ref gp,.ref pr]) (_:H p=some (.ins a.c_Jumps dx [])) (_:Ce a H pr t r) (_:∀(H':Hp)(mem:R_)(m:MA),(∀b o,H b=some o->b≠p->H' b=some o)->H mem=none->H' p=some (.ins a.c_Jumps dx (jf5 gp mem pr m.l m.kc))->H' mem=some (.dK (mK [(t,m)]))->(H m.tp=none/\H m.l=none/\H m.kc=none/\∀d∈m.ds,H d=none)->H' m.tp=some (.tup [.ref m.l,.ref m.kc])->H' m.l=some (.lst (m.ds.map V.ref))->H' m.kc=some (.dT [])->(∀d∈m.ds,H' d=some (.dK []))->m.ds.length=47->m.ds.Nodup->(∀d∈m.ds,d≠mem)->Q .non H'):Ss a vs H Q
def Ri(a:Ad):Sp:=λvs H Q _=>Ss a vs H Q
theorem Zu(F:Fun K "__init__" "Jumps.__init__" IB f fd)(T:Top K mg a)(aR:BD P w K mg base CX0 2 a.c_Jumps "change" El (Vv a)):AK P w K mg base CX0 3 f fd RL (Ri a):=by
 refine F.ok PX D_9 λaa A R s H vs Q E hr h=>?_
 obtain⟨p,i,g,Y,t,r,rfl,W,hR,k⟩:=h;refine⟨_,(Ac (CK (pv 0) (pv 1) rfl) (Ac (CK (pv 0) Ms rfl) (Af (Bm (AD (pv 0) aR (rm hr) Am (Aa (pv 2) Ab)))))),?_⟩
 try dsimp only[cxK]
 refine xw2 rfl rfl ⟨p,_,i,[],rfl,W,T.cl_Jumps,T.na_Jumps_grove,B4,?_⟩;have X:∀b o,H b=some o->b≠p->upd H p (.ins a.c_Jumps i (AT "grove" (.ref g) [])) b=some o:=λb o e n=>by rw[Av n];exact e
 have l:upd H p (.ins a.c_Jumps i (AT "grove" (.ref g) [])) p=some (.ins a.c_Jumps i (AT "grove" (.ref g) [])):=Ag;have D:∀b,upd H p (.ins a.c_Jumps i (AT "grove" (.ref g) [])) b=none->H b=none:=λb e=>by
  by_cases z:b=p
  .rw[z,l]at e;cases e
  .rw[Av z]at e;exact e
 generalize upd H p (.ins a.c_Jumps i (AT "grove" (.ref g) []))=H1 at X l D⊢;intro mem c;generalize dU:upd H1 mem _=u;obtain⟨S,L⟩:=alc c dU;have O:mem≠p:=λz=>by rw[z,l]at c;cases c
 refine xq1 rfl ⟨p,_,i,(xq1 rfl ⟨S _ _ l,T.cl_Jumps,T.na_Jumps_memories,B6,?_⟩)⟩;have N:∀b o,u b=some o->b≠p->upd u p (.ins a.c_Jumps i (jf2 g mem)) b=some o:=λb o e n=>by rw[Av n];exact e
 have q:upd u p (.ins a.c_Jumps i (jf2 g mem)) p=some (.ins a.c_Jumps i (jf2 g mem)):=Ag;have j:∀b,upd u p (.ins a.c_Jumps i (jf2 g mem)) b=none->H b=none:=λb e=>by
  by_cases z:b=p
  .rw[z,q]at e;cases e
  .rw[Av z]at e;exact D _ (AC.noneN S e)
 rw[show AT ("memories" : Str) (V.ref mem) (AT ("grove" : Str) (V.ref g) [])=jf2 g mem from rfl];generalize upd u p (.ins a.c_Jumps i (jf2 g mem))=U at N q j⊢;have C:∀b o,H b=some o->b≠p->U b=some o:=λb o e n=>N _ _ (S _ _ (X _ _ e n)) n;have B:=N _ _ L O;have G:Ce a U Y t r:=by
  refine hR.kp λb o e n=>C _ _ e λz=>?_;rw[z,W]at e;cases e;cases n with
  |ins v _=>cases v
 refine xwn rfl rfl q (jf2_no _ _ A1 A1) rfl ⟨p,i,mem,Y,jf2 g mem,t,r,[],rfl,q,jf2_mem _ _,by rw[show(jf2 g mem).length=2 from rfl];decide,B,J0 _,λe he=>(nomatch he),G,λZ m ab fr M y chg=>?_⟩;cases chg with
 |old v _=>cases v
 |new v h2 x h4 h5 h6 h7 h8 h9 =>
  rw[v]at y;refine k Z mem m (λb o e n=>fr _ _ (C _ _ e n) n ?_) (D _ c) M y ⟨j _ x.1,j _ x.2.1,j _ x.2.2.1,λd I=>j _ (x.2.2.2 d I)⟩ h4 h5 h6 h7 h8 h9 λd I z=>?_
  .intro z;rw[z]at e;rw[D _ c]at e;cases e
  .have:=x.2.2.2 d I;rw[z,B]at this;cases this
end
def qO(G:Gv)(n k:Nat):Nat:=match G[n]? with
|some q=>(q.parts.getD k 0).toNat
|none=>0
def cel(G:Gv):Nat->Nat->Nat->Nat->Nat
|0,n,_,_=>n
|l+1,n,x,y=>cel G l (qO G n ((x/2^l)%2+2*((y/2^l)%2))) x y
def stp(r:Az)(c:Nat->Nat->Int):Nat->Nat->Int:=λx y=>Cm r (c x y) [c (x-1) (y-1),c x (y-1),c (x+1) (y-1),c (x-1) y,c (x+1) y,c (x-1) (y+1),c x (y+1),c (x+1) (y+1)]
def Bq(r:Az):Nat->(Nat->Nat->Int)->Nat->Nat->Int
|0,c=>c
|n+1,c=>stp r (Bq r n c)
def CC(G:Gv)(l n:Nat):Nat->Nat->Int:=λx y=>(cel G l n x y:Int)
def JR(r:Az)(G:Gv)(e n m:Nat):Prop:=∃l:Nat,Al G n ((l+2:Nat):Int)/\e<=l/\Al G m ((l+1:Nat):Int)/\∀x y,x<2^(l+1)->y<2^(l+1)->CC G (l+1) m x y=Bq r (2^e) (CC G (l+2) n) (x+2^l) (y+2^l)
theorem GOk.four{G:Gv}(ok:GOk G){n l:Nat}(h:Al G n ((l+1:Nat):Int)):∃x y z w:Nat,G[n]?=some ⟨[(x:Int),(y:Int),(z:Int),(w:Int)],((l+1:Nat):Int)⟩/\Al G x (l:Int)/\Al G y (l:Int)/\Al G z (l:Int)/\Al G w (l:Int):=by
 obtain⟨q,e,a⟩:=h;have i:8<=n:=by
  refine P7 λz=>?_;rw[ok.leaf n z]at e;cases e;have:(0:Int)=((l+1:Nat):Int):=a;lia
 obtain⟨x,y,z,w,p,⟨b,c,d,f⟩,_⟩:=ok.node n q e i;have g:q.lev-1=(l:Int):=by lia
 rw[g]at b c d f;refine⟨x,y,z,w,?_,b,c,d,f⟩;rw[e];cases q with
 |mk k j=>cases p;cases a;rfl
theorem GOk.cell{G:Gv}(ok:GOk G){n:Nat}(h:Al G n 0):n<8:=by
 obtain⟨q,e,a⟩:=h;refine P6 λz=>?_;obtain⟨_,_,_,_,_,_,b,_⟩:=ok.node n q e z;lia
theorem Et{G:Gv}{n x y z w:Nat}{l:Int}(e:G[n]?=some ⟨[(x:Int),(y:Int),(z:Int),(w:Int)],l⟩):qO G n 0=x/\qO G n 1=y/\qO G n 2=z/\qO G n 3=w:=by
 unfold qO;rw[e];exact⟨rfl,rfl,rfl,rfl⟩
theorem LR{G:Gv}(ok:GOk G){n l:Nat}(h:Al G n ((l+1:Nat):Int)){k:Nat}(f:k<4):Al G (qO G n k) (l:Int):=by
 obtain⟨x,y,z,w,e,a,b,c,d⟩:=ok.four h;obtain⟨g,i,j,m⟩:=Et e
 match k,f with
 |0,_=>rw[g];exact a
 |1,_=>rw[i];exact b
 |2,_=>rw[j];exact c
 |3,_=>rw[m];exact d
theorem TQ{G a:Gv}{i:Nat}(ok:GOk G)(b:AH G a i):∀(l n:Nat),Al G n (l:Int)->∀x y,cel a l n x y=cel G l n x y
|0,n,_,x,y=>rfl
|l+1,n,h,x,y=>by
 have e:∀k,qO a n k=qO G n k:=λk=>by
  obtain⟨q,e,_⟩:=h;unfold qO;rw[b.get e,e]
 show cel a l (qO a n _) x y=cel G l (qO G n _) x y;rw[e];exact TQ ok b l _ (LR ok h A0) x y
theorem CY{G a:Gv}{i:Nat}(ok:GOk G)(b:AH G a i){l n:Nat}(h:Al G n (l:Int)):CC a l n=CC G l n:=by
 funext x y
 unfold CC;rw[TQ ok b l n h]
theorem JR.goes{r:Az}{G b:Gv}{i e n m:Nat}(ok:GOk G)(a:AH G b i)(h:JR r G e n m):JR r b e n m:=by
 obtain⟨l,c,f,d,g⟩:=h;refine⟨l,a.lev c,f,a.lev d,λx y j k=>?_⟩;rw[CY ok a c,CY ok a d];exact g x y j k
def Bs(G:Gv):Prop:=∀j:Nat,j<48->G[8+j]?=some ⟨[(bareN j:Int),(bareN j:Int),(bareN j:Int),(bareN j:Int)],(j:Int)+1⟩
theorem Bs.goes{G a:Gv}{i:Nat}(h:Bs G)(b:AH G a i):Bs a:=λj c=>b.get (h j c)
theorem Bs.zero{G:Gv}(h:Bs G):∀(l:Nat),l<=48->∀x y,cel G l (bareN l) x y=0
|0,_,x,y=>rfl
|l+1,hl,x,y=>by
 obtain⟨b,c,d,f⟩:=Et (h l A0);have e:∀k,k<4->qO G (8+l) k=bareN l:=λk a=>by
  match k,a with
  |0,_=>exact b
  |1,_=>exact c
  |2,_=>exact d
  |3,_=>exact f
 show cel G l (qO G (8+l) _) x y=0;rw[e _ A0];exact h.zero l A0 x y
theorem SF{r:Az}(h:Cm r 0 BF=0):∀k,Bq r k (λ_ _=>0)=λ_ _=>0
|0=>rfl
|k+1=>by
 show stp r (Bq r k _)=_;rw[SF h k]
 funext x y
 exact h
theorem Bs.lev{G:Gv}(ok:GOk G)(h:Bs G):∀l:Nat,l<=48->Al G (bareN l) (l:Int)
|0,_=>⟨_,ok.leaf 0 A4,rfl⟩
|l+1,hl=>⟨_,h l A0,by show(l:Int)+1=((l+1:Nat):Int);lia⟩
theorem JR.bare{r:Az}{G:Gv}(ok:GOk G)(h:Bs G)(d:Cm r 0 BF=0){l e:Nat}(a:l+2<=48)(b:e<=l):JR r G e (bareN (l+2)) (bareN (l+1)):=by
 refine⟨l,h.lev ok _ a,b,h.lev ok _ A0,λx y _ _=>?_⟩;have z:∀k,k<=48->CC G k (bareN k)=λ_ _=>0:=λk c=>by
  funext x y
  unfold CC;rw[h.zero k c x y];rfl
 rw[z _ a,z _ A0,SF d]
theorem bec_st{r:Az}(h:Fb r){cell:Int}(f:Ie cell)(a:I_):Ie (Cm r cell a):=by
 cases e:Jq r cell a with
 |none=>rw[MR e];exact f
 |some i =>
  obtain⟨c,b,d⟩:=MQ e;rw[d];exact(h.ok c (D0 b)).makes
theorem eight_of:∀xs:List Int,xs.length=8->∃a b c d e f g h,xs=[a,b,c,d,e,f,g,h]
|[a,b,c,d,e,f,g,h],_=>⟨a,b,c,d,e,f,g,h,rfl⟩
structure Ib(H:Hp)(g:GA)(G:Gv)(N M:Nat)(r:Az)(m:MA):Prop where
tp:H m.tp=some (.tup [.ref m.l,.ref m.kc])
l:H m.l=some (.lst (m.ds.map V.ref))
ap:m.l≠g.lv/\m.l≠g.pt/\m.kc≠g.nm
len:m.ds.length=47
nd:m.ds.Nodup
sq:∀(e:Nat) d,m.ds[e]?=some d->∃kv,H d=some (.dK kv)/\kv.length<=N/\(∀p∈kv,∃i,p.1=Sum.inl i)/\∀(n:Nat) v,BR kv (Sum.inl (n:Int))=some v->∃k:Nat,v=.int (k:Int)/\JR r G e n k
ce:∃kc,H m.kc=some (.dT kc)/\kc.length<=M/\∀(ks:I_) v,BR kc (kOf ks)=some v->∃c ar,ks=c::ar/\v=.int (Cm r c ar)
theorem Ib.mono{H:Hp}{g:GA}{G:Gv}{N M i f:Nat}{r:Az}{m:MA}(h:Ib H g G N M r m)(j:N<=i)(k:M<=f):Ib H g G i f r m:=by
 refine⟨h.tp,h.l,h.ap,h.len,h.nd,λe d n=>?_,?_⟩
 .obtain⟨q,a,b,c,o⟩:=h.sq e d n;exact⟨q,a,D1 b j,c,o⟩
 .obtain⟨p,a,b,c⟩:=h.ce;exact⟨p,a,D1 b k,c⟩
theorem Ib.kp{H p:Hp}{g:GA}{G j:Gv}{N M i:Nat}{r:Az}{m:MA}(h:Ib H g G N M r m)(ok:GOk G)(w:AH G j i)(k:∀b o,H b=some o->b=m.tp\/b=m.l\/b∈m.ds\/b=m.kc->p b=some o):Ib p g j N M r m:=by
 refine⟨k _ _ h.tp (.inl rfl),k _ _ h.l (.inr (.inl rfl)),h.ap,h.len,h.nd,λe d q=>?_,?_⟩
 .obtain⟨A,a,c,f,y⟩:=h.sq e d q;refine⟨A,k _ _ a (.inr (.inr (.inl (D0 q)))),c,f,λn v z=>?_⟩;obtain⟨x,t,u⟩:=y n v z;exact⟨x,t,u.goes ok w⟩
 .obtain⟨s,a,c,f⟩:=h.ce;exact⟨s,k _ _ a (.inr (.inr (.inr rfl))),c,f⟩
structure JW(a:Ad)(H:Hp)(g:GA)(G:Gv)(N M:Nat)(p dx mem pr:R_)(r:Az)(m:MA):Prop where
gr:AJ a H g G
ok:GOk G
bs:Bs G
br:H g.br=some (.lst ((Dq 48).map V.int))
nbr:g.br≠g.lv/\g.br≠g.pt
hp:H p=some (.ins a.c_Jumps dx (jf5 g.p mem pr m.l m.kc))
ru:Ce a H pr (Bc r) r
rok:Fb r
rest:Cm r 0 BF=0
me:Ib H g G N M r m
theorem JW.same{a:Ad}{H c:Hp}{g:GA}{G:Gv}{N M:Nat}{p d mem f:R_}{r:Az}{m:MA}(s:AC H c)(h:JW a H g G N M p d mem f r m):JW a c g G N M p d mem f r m :=
 ⟨h.gr.same s,h.ok,h.bs,s _ _ h.br,h.nbr,s _ _ h.hp,h.ru.same s,h.rok,h.rest,h.me.kp h.ok (AH.refl h.ok) λb o e _=>s _ _ e⟩
theorem JW.mono{a:Ad}{H:Hp}{g:GA}{G:Gv}{N M c b:Nat}{p d mem e:R_}{r:Az}{m:MA}(h:JW a H g G N M p d mem e r m)(f:N<=c)(i:M<=b):JW a H g G c b p d mem e r m :=
 ⟨h.gr,h.ok,h.bs,h.br,h.nbr,h.hp,h.ru,h.rok,h.rest,h.me.mono f i⟩
theorem Ib.fr{a:Ad}{H p:Hp}{g:GA}{G n:Gv}{N M i:Nat}{r:Az}{m:MA}(h:Ib H g G N M r m)(d:AJ a H g G)(ok:GOk G)(f:Fr g H p)(q:AH G n i):Ib p g n N M r m:=by
 obtain⟨v,k,_⟩:=d.pt;refine h.kp ok q λb o e w=>?_;rcases w with z|z|z|z
 .have c:=h.tp;rw[<-z,e]at c;cases c;exact f _ _ e (AG e d.lv A3) (AG e k A3) (AG e d.nm A3)
 .have c:=h.l;rw[z]at e⊢;rw[e]at c;cases c;exact f _ _ e h.ap.1 h.ap.2.1 (AG e d.nm A3)
 .obtain⟨j,s⟩:=F6 z;obtain⟨u,c,_⟩:=h.sq j b s;rw[e]at c;cases c;exact f _ _ e (AG e d.lv A3) (AG e k A3) (AG e d.nm A3)
 .obtain⟨t,c,_⟩:=h.ce;rw[z]at e⊢;rw[e]at c;cases c;exact f _ _ e (AG e d.lv A3) (AG e k A3) h.ap.2.2
theorem Ce.fr{a:Ad}{H d:Hp}{g:GA}{G:Gv}{p:R_}{x:Str}{r:Az}(h:Ce a H p x r)(c:AJ a H g G)(f:Fr g H d):Ce a d p x r:=by
 obtain⟨j,i,_⟩:=c.pt;exact h.kp λb o e n=>f _ _ e (AG e c.lv (by intro z;rw[z]at n;cases n)) (AG e i (by intro z;rw[z]at n;cases n)) (AG e c.nm (by intro z;rw[z]at n;cases n))
theorem JW.fr{a:Ad}{H c:Hp}{g:GA}{G b:Gv}{N M i:Nat}{p j mem k:R_}{r:Az}{m:MA}(h:JW a H g G N M p j mem k r m)(f:Fr g H c)(e:AJ a c g b)(d:AH G b i):JW a c g b N M p j mem k r m:=by
 obtain⟨n,l,_⟩:=h.gr.pt;refine⟨e,d.ok,h.bs.goes d,f _ _ h.br h.nbr.1 h.nbr.2 (AG h.br h.gr.nm A3),h.nbr,f _ _ h.hp (AG h.hp h.gr.lv A3) (AG h.hp l A3) (AG h.hp h.gr.nm A3),h.ru.fr h.gr f,h.rok,h.rest,h.me.fr h.gr h.ok f d⟩
def FrJ(g:GA)(m:MA)(H H':Hp):Prop:=∀b o,H b=some o->b≠g.lv->b≠g.pt->b≠g.nm->b≠m.kc->b∉m.ds->H' b=some o
theorem FrJ.trans{g:GA}{m:MA}{a c d:Hp}(h:FrJ g m a c)(k:FrJ g m c d):FrJ g m a d:=λb o e f i j l n=>k _ _ (h _ _ e f i j l n) f i j l n
theorem Fr.j{g:GA}{m:MA}{a c:Hp}(h:Fr g a c):FrJ g m a c:=λb o e d f i _ _=>h _ _ e d f i
theorem AC.j{g:GA}{m:MA}{a c:Hp}(h:AC a c):FrJ g m a c:=λb o e _ _ _ _ _=>h _ _ e
theorem JW.putC{a:Ad}{H:Hp}{g:GA}{G:Gv}{N M:Nat}{p s mem u:R_}{r:Az}{m:MA}{i:List (List Key×V)}(h:JW a H g G N M p s mem u r m)(len:i.length<=M+1)(j:∀(ks:I_) v,BR i (kOf ks)=some v->∃c k,ks=c::k/\v=.int (Cm r c k)):JW a (upd H m.kc (.dT i)) g G N (M+1) p s mem u r m:=by
 obtain⟨B,A,_⟩:=h.me.ce;have f:∀{b v},H b=some v->(∀kk,v≠.dT kk)->upd H m.kc (.dT i) b=some v:=λ{b v} e n=>by rw[Av (AG e A (n _))];exact e
 obtain⟨K,x,y⟩:=h.gr.pt;refine⟨⟨f h.gr.hp B0,f h.gr.lv B0,⟨K,f x B0,PairedM.imp (λt q z=>f z B0) y⟩,by rw[Av (X6 h.me.ap.2.2)];exact h.gr.nm,h.gr.ne⟩,h.ok,h.bs,f h.br B0,h.nbr,f h.hp B0,h.ru.kp λb o e n=>f e λkk z=>(by rw[z]at n;cases n),h.rok,h.rest,⟨f h.me.tp B0,f h.me.l B0,h.me.ap,h.me.len,h.me.nd,λe d w=>?_,⟨i,Ag,len,j⟩⟩⟩;obtain⟨C,D,E,F,I⟩:=h.me.sq e d w;exact⟨C,f D B0,E,F,I⟩
theorem JW.putS{a:Ad}{H:Hp}{g:GA}{G:Gv}{N M:Nat}{p A mem I:R_}{r:Az}{m:MA}{e:Nat}{d:R_}{u:List (Key×V)}{n k:Nat}(h:JW a H g G N M p A mem I r m)(C:m.ds[e]?=some d)(E:H d=some (.dK u))(jr:JR r G e n k):JW a (upd H d (.dK (EV u (Sum.inl (n:Int)) (.int (k:Int))))) g G (N+1) M p A mem I r m:=by
 have c:∀{b v},H b=some v->(∀kk,v≠.dK kk)->upd H d (.dK (EV u (Sum.inl (n:Int)) (.int (k:Int)))) b=some v:=λ{b v} e n=>by rw[Av (AG e E (n _))];exact e
 obtain⟨W,R,S⟩:=h.gr.pt;obtain⟨T,O,P,Q⟩:=h.me.ce;refine⟨⟨c h.gr.hp B0,c h.gr.lv B0,⟨W,c R B0,PairedM.imp (λt q z=>c z B0) S⟩,c h.gr.nm B0,h.gr.ne⟩,h.ok,h.bs,c h.br B0,h.nbr,c h.hp B0,h.ru.kp λb o e n=>c e λkk z=>(by rw[z]at n;cases n),h.rok,h.rest,⟨c h.me.tp B0,c h.me.l B0,h.me.ap,h.me.len,h.me.nd,λB d' f=>?_,⟨T,c O B0,P,Q⟩⟩⟩;obtain⟨w,x,U,s,L⟩:=h.me.sq B d' f;by_cases z:B=e
 .rw[z,C]at f;cases f;rw[E]at x;cases x;subst z;refine⟨_,Ag,D1 (Gz _ _ _) A0,λq i=>?_,λF v j=>?_⟩
  .unfold EV at i;split at i
   .obtain⟨K,D,rfl⟩:=F0.mp i;split
    .exact s K D
    .exact s K D
   .rcases F1.mp i with y|y
    .exact s q y
    .rw[C9.mp y];exact⟨_,rfl⟩
  .rw[LZ]at j;split at j
   .rename_i y;have:F=n:=by have:=Sum.inl.inj y;lia
    rw[this];cases j;exact⟨k,rfl,jr⟩
   .exact L F v j
 .have nd:d'≠d:=λy=>z (by
   rw[y]at f;exact(List.getElem?_inj (B9.mp f).1 h.me.nd).mp (f.trans C.symm))
  exact⟨w,by rw[Av nd];exact x,D1 U A0,s,L⟩
section
variable{P:N_}{w:Q_}{K:O_}{mg:C_}{base:T_}{a:Ad}
inductive SpCel(a:Ad)(vs:List V)(H:Hp)(Q:VK):Prop
|mk (p dx mem pr t:R_) (g:GA) (G:Gv) (N M:Nat) (r:Az) (m:MA) (c:Int) (ar:I_) (_:vs=[.ref p,.ref t]) (_:JW a H g G N M p dx mem pr r m) (_:H t=some (.tup ((c::ar).map V.int))) (_:ar.length=8) (_:∀x∈c::ar,Ie x) (_:M<9000000) (_:∀H',(∀b o,H b=some o->b≠m.kc->H' b=some o)->JW a H' g G N (M+1) p dx mem pr r m->Q (.int (Cm r c ar)) H'):SpCel a vs H Q
def Vx(a:Ad):Sp:=λvs H Q _=>SpCel a vs H Q
theorem ok_cel(F:Fun K "cell_after" "Jumps.cell_after" CJ f fd)(T:Top K mg a)(bC:BD P w K mg base CX0 4 a.c_Grove "state_of" JU (YE a))(aJ:BD P w K mg base CX0 3 a.c_Grove "leaf" RN (OE a))(bJ:Cal P w K mg base CX0 5 "becomes" LV (Vy a)):AK P w K mg base CX0 6 f fd DL (Vx a):=by
 refine F.ok Cr D_9 λae A ac s H vs Q E X h=>?_
 obtain⟨p,dx,mem,pr,t,g,G,N,M,r,m,c,d,rfl,q,ht,h8,sts,few,k⟩:=h;obtain⟨kc,c1,c2,c3⟩:=q.me.ce;have Y:H t=some (.tup ((kOf (c::d)).map kV)):=by rw[ZY];exact ht
 refine⟨_,(Ac (Ao (i:=2) Cr.nd rfl O_9 (Mt (Gg X) (AF (pv 0) rfl) (pv 1) ⟨rfl,rfl,rfl,rfl⟩)) (Ac (AM (Ay Ja (pv 2) Cy (AE _)) (Ac (IH (i:=3) rfl Cr.nd rfl rfl (Bz.of (So:=Ah CJ) (No:=Gf) (N:=["one","self"]) (k:=1) (cs:=[0]) rfl rfl A1) (Nh (pv 1)) (λ_ _ _=>(Bd (i:=0) A1 rfl rfl)) (λ_ _ _=>BG) (λ_ _ _=>(AD (Op (K:=K) rfl (pv 1) rfl) bC (rm X) Am (Aa (pv 0) Ab)))) (Ac (Ao (i:=2) Cr.nd rfl O_9 (AD (AF (pv 0) rfl) aJ (rm X) Am (Aa (Ar bJ (rm X) rfl Am (Aa (AF (pv 0) rfl) (Aa (Aj Ax (pv 3) Ae R_9) (Aa (OX Rn (pv 3) (On Ae) VH) Ab)))) Ab))) (Af (II (Gg X) (AF (pv 0) rfl) (pv 1) (pv 2) rfl)))) AB) (Af (Au (pv 2))))),?_⟩
 try dsimp only[cxK]
 refine xwf rfl rfl q.hp T.cl_Jumps T.na_Jumps_known_cells (jf5_kc _ _ _ _ _) ⟨m.kc,rfl,.inr ⟨_,.inl c1⟩,(xq1 rfl ⟨_,Jt.t (k:=kOf (c::d)) c1 Y,?_⟩)⟩;cases ev:BR kc (kOf (c::d))with
 |some v =>
  obtain⟨c',ad,e1,e2⟩:=c3 _ v ev;cases e1;rw[e2];exact xq1 rfl ⟨rfl,(xq1 rfl (Bf (xq1 rfl (k H (λb o e _=>e) (q.mono (C1 _) (S2 _))))))⟩
 |none =>
  refine xq1 rfl ⟨rfl,(xq1 rfl (Cz ?_))⟩;refine xq1 rfl ⟨t,rfl,⟨_,SqT.of ht⟩,?_⟩;refine Ow (xs:=(c::d).map V.int) (λi l D=>H=D/\l=((c::d).take i).map V.int) ⟨rfl,rfl⟩ (λi l D _ z=>z.1▸SqT.of ht) ?_ ?_
  .rintro i v l D S ⟨rfl,rfl⟩;rw[C0]at S;obtain⟨x,ex,rfl⟩:=D6.mp S;obtain⟨x0,x8⟩:=sts x (D0 ex);obtain⟨n,rfl⟩:=F8 x0;refine⟨⟨[some (.int (n:Int))],rfl,rfl⟩,?_,Gm (xq1 rfl (xq5 q.hp T.cl_Jumps T.na_Jumps_grove (En _ _ _ _ _) (xq3 rfl q.gr.hp (UB g) (xq1 rfl ⟨g,G,n,_,rfl,q.gr,q.ok.leaf n A0,rfl,rfl,?_⟩))))⟩
   .rw[B8,M5];exact F3 (P5 _ _) (by rw[D7,h8];decide)
   .rw[F9,ex,R5,C4];rfl
  .rintro l D ⟨rfl,rfl⟩ L hL;rw[B8,J9];generalize O:upd H L _=H1;obtain⟨s1,U⟩:=alc hL O;have u:=q.same s1;refine xwf rfl rfl u.hp T.cl_Jumps T.na_Jumps_grove (En _ _ _ _ _) (xq3 rfl u.gr.hp (Ry g) (xwf rfl rfl u.hp T.cl_Jumps T.na_Jumps_rule (jf5_ru _ _ _ _ _) (xwi rfl rfl rfl (SqL.of U) (Ai (j:=0) rfl) ?_)));refine xq1 rfl ⟨1,rfl,L,(xq1 rfl ⟨SqL.of U,λSL ab=>?_⟩)⟩;have R:Sg ((c::d).map V.int) (some 1) none=d.map V.int:=by
    obtain⟨x1,x2,x3,x4,x5,x6,x7,x8,rfl⟩:=eight_of d h8;rfl
   rw[R];generalize dU:upd H1 SL _=D;obtain⟨s2,aa⟩:=alc ab dU;have B:=u.same s2;refine⟨pr,SL,_,r,c,d,rfl,B.ru,B.rok.rok,aa,λH3 s3=>?_⟩;have W:=B.same s3;have C:=(s1.trans s2).trans s3;have I:=bec_st q.rok (sts c C8) d;refine⟨g.p,_,rfl,I.1,I.2,?_⟩;refine xq1 rfl (xq1 rfl (xq5 W.hp T.cl_Jumps T.na_Jumps_known_cells (jf5_kc _ _ _ _ _) (xq1 rfl ⟨m.kc,(xq1 rfl ⟨MS.t (k:=kOf (c::d)) (C _ _ c1) (C _ _ Y) (F3 (show kc.length<=9000000 by lia) A4),?_⟩)⟩)));refine xq1 rfl (k _ (λb o e n=>by rw[Av n];exact C _ _ e) (W.putC (D1 (Gz _ _ _) A0) λks v Z=>?_));rw[LZ]at Z;split at Z
   .rename_i y;rw[MF y];cases Z;exact⟨c,d,rfl,rfl⟩
   .exact c3 ks v Z
end
def FrC(g:GA)(m:MA)(H H':Hp):Prop:=∀b o,H b=some o->b≠g.lv->b≠g.pt->b≠g.nm->b≠m.kc->H' b=some o
theorem FrC.trans{g:GA}{m:MA}{a c d:Hp}(h:FrC g m a c)(k:FrC g m c d):FrC g m a d:=λb o e f i j l=>k _ _ (h _ _ e f i j l) f i j l
theorem FrC.j{g:GA}{m:MA}{a c:Hp}(h:FrC g m a c):FrJ g m a c:=λb o e d f i k _=>h _ _ e d f i k
theorem Fr.c{g:GA}{m:MA}{a d:Hp}(h:Fr g a d):FrC g m a d:=λb o e f i j _=>h _ _ e f i j
def spNo:Sp:=λ_ _ _ _=>False
theorem AK.no{P:N_}{w:Q_}{K:O_}{mg:C_}{a:T_}{CX:CXT}{k:Nat}{f:R_}{b:E_}{c:K_}:AK P w K mg a CX k f b c spNo :=
 ⟨λ_ _ _ _ h=>h.elim,λ_ _ _ _ _ _ _ _ _ _ _ _ _ h=>h.elim⟩
theorem bareJ{l:Nat}(h:l<=48):((Dq 48).map V.int)[l]?=some (.int (bareN l:Int)):=by
 unfold Dq;rw[C0,C0,O1 A0];rfl
section
variable{P:N_}{w:Q_}{K:O_}{mg:C_}{base:T_}{a:Ad}
theorem tretl {c:TA} {D:LY} {σ:St} {H:Hp} (h:c σ H λxs b=>xs.length<=sizeLine/\∀p,b p=none->D.rt (.ref p) (upd b p (.lst xs))):tRet (tLst c) D σ H:=h
theorem Gp {b:TE} {c:TA} {σ:St} {H:Hp} {Q:List V->Hp->Prop} (h:b σ H λx d=>c σ d λxs e=>Q (x::xs) e):CP b c σ H Q:=h
theorem ixt{K:O_}{σ:St}{i:Nat}{H:Hp}{t:R_}{xs:List V}{j:Int}{v:V}{Q:VK}(r:σ[i]?=some (some (.ref t)))(h:H t=some (.tup xs))(e:atI xs j=some v)(k:Q v H):tOp (Lw K) (Id i) (tC (V.int j)) σ H Q:=⟨_,r,t,xs,j,v,rfl,rfl,SqT.of h,e,k⟩
theorem ixp{K:O_}{H:Hp}{p t:R_}{b:H_}{n:Nat}{Q:VK}(h:H p=some (.lst (b.map V.ref)))(e:b[n]?=some t)(k:Q (.ref t) H):rIxL K (.ref p) (.int n) H Q:=⟨p,_,n,_,rfl,rfl,SqL.of h,Ai (by rw[C0,e];rfl),k⟩
structure Ln(a:Ad)(g:GA)(H0:Hp)(G0:Gv)(j:Nat)(H:Hp)(G:Gv):Prop where
fr:Fr g H0 H
kt:∀{b:R_}{xs:List V},H0 b=some (.tup xs)->H b=some (.tup xs)
gr:AJ a H g G
go:AH G0 G j
theorem lnk{a:Ad}{t H:Hp}{g:GA}{G0 G:Gv}{j:Nat}{u:R_}{x y z w:Nat}{l:Int}{Q:VK}(s:Ln a g t G0 j H G)(B:H u=none)(f:Al G0 x l/\Al G0 y l/\Al G0 z l/\Al G0 w l)(q:l<=47)(few:G0.length+j<9000000)
  (k:∀(n:Nat)(d:Gv)(h:Hp),Ln a g t G0 (j+1) h d->AH G d 1->d[n]?=some ⟨[(x:Int),(y:Int),(z:Int),(w:Int)],l+1⟩->Q (.int n) h):Vb a [.ref g.p,.ref u] (upd H u (.tup [.int x,.int y,.int z,.int w])) Q:=by
 generalize o:upd H u _=D;obtain⟨r,v⟩:=alc B o;have m:=s.gr.same r;have E:=s.go.few;refine⟨g,G,u,x,y,z,w,l,rfl,m,s.go.ok,v,⟨s.go.lev f.1,s.go.lev f.2.1,s.go.lev f.2.2.1,s.go.lev f.2.2.2⟩,q,by lia,λn d h fr A c e=>k n d h ⟨s.fr.trans ((AC.fr r).trans fr),λ{b xs} e=>?_,A,s.go.trans c⟩ c e⟩;obtain⟨us,C,_⟩:=m.pt;have i:=r _ _ (s.kt e);exact fr _ _ i (AG i m.lv A3) (AG i C A3) (AG i m.nm A3)
theorem ttup {c:TA} {σ:St} {H:Hp} {Q:VK} (h:c σ H λxs b=>xs.length<=sizeLine/\∀p,b p=none->Q (.ref p) (upd b p (.tup xs))):Yx c σ H Q:=h
theorem al9{P:Int->Prop}{a b c d e f g h i:Int}(k:P a)(l:P b)(m:P c)(n:P d)(o:P e)(p:P f)(q:P g)(r:P h)(s:P i):∀x∈[a,b,c,d,e,f,g,h,i],P x:=by
 intro x j;simp only[C2,D3,K6]at j;rcases j with rfl|rfl|rfl|rfl|rfl|rfl|rfl|rfl|rfl<;>assumption
structure Lc(g:GA)(m:MA)(H0 H:Hp):Prop where
fr:FrC g m H0 H
kt:∀{b:R_}{xs:List V},H0 b=some (.tup xs)->H b=some (.tup xs)
theorem celT{a:Ad}{q H:Hp}{g:GA}{G:Gv}{N M:Nat}{p f mem n u:R_}{r:Az}{m:MA}{c:Int}{d:I_}{Q:VK}(t:JW a H g G N M p f mem n r m)(v:Lc g m q H)(B:H u=none)(sts:∀x∈c::d,Ie x)(A:d.length=8)(z:M<9000000)
  (h:∀(k:Nat)(Y:Hp),Cm r c d=k->k<8->Lc g m q Y->JW a Y g G N (M+1) p f mem n r m->Q (.int k) Y):SpCel a [.ref p,.ref u] (upd H u (.tup ((c::d).map V.int))) Q:=by
 generalize j:upd H u _=X;obtain⟨s,C⟩:=alc B j;have i:=t.same s;refine⟨p,f,mem,n,u,g,G,N,M,r,m,c,d,rfl,i,C,A,sts,z,λY fr l=>?_⟩;obtain⟨E,I⟩:=bec_st t.rok (sts c (.head ..)) d;obtain⟨k,e⟩:=F8 E;rw[e];refine h k Y e A0 ⟨v.fr.trans λb o e _ _ _ D=>fr _ _ (s _ _ e) D,λ{b xs} e=>?_⟩ l;obtain⟨F,y,_⟩:=i.me.ce;have e:=s _ _ (v.kt e);exact fr _ _ e (AG e y A3)
theorem cel9{K:O_}{a:Ad}{b H:Hp}{g:GA}{G:Gv}{N M:Nat}{p E mem pr:R_}{r:Az}{m:MA}{σ:St}{Q:VK}{I L O R S T U X Z:Nat}{t1 t2 t3 t4 t5 t6 t7 t8 t9:R_}{f h i j l n o q s:List V}{j1 j2 j3 j4 j5 j6 j7 j8 j9 t u v y z A B C D:Int}(F:JW a H g G N M p E mem pr r m)(c:Lc g m b H)(h1:b t1=some (.tup f))(h2:b t2=some (.tup h))(h3:b t3=some (.tup i))(h4:b t4=some (.tup j))(h5:b t5=some (.tup l))(h6:b t6=some (.tup n))(h7:b t7=some (.tup o))(h8:b t8=some (.tup q))(h9:b t9=some (.tup s))(sts:∀x∈[t,u,v,y,z,A,B,C,D],Ie x)(hM:M<9000000)
  (k:∀(k:Nat)(Y:Hp),Cm r t [u,v,y,z,A,B,C,D]=k->k<8->Lc g m b Y->JW a Y g G N (M+1) p E mem pr r m->Q (.int k) Y) (e:σ[0]?=some (some (.ref p))/\(σ[I]?=some (some (.ref t1))/\atI f j1=some (.int t))/\(σ[L]?=some (some (.ref t2))/\atI h j2=some (.int u))/\(σ[O]?=some (some (.ref t3))/\atI i j3=some (.int v))/\(σ[R]?=some (some (.ref t4))/\atI j j4=some (.int y))/\(σ[S]?=some (some (.ref t5))/\atI l j5=some (.int z))/\(σ[T]?=some (some (.ref t6))/\atI n j6=some (.int A))/\(σ[U]?=some (some (.ref t7))/\atI o j7=some (.int B))/\(σ[X]?=some (some (.ref t8))/\atI q j8=some (.int C))/\(σ[Z]?=some (some (.ref t9))/\atI s j9=some (.int D)):=by exact⟨rfl,⟨rfl,rfl⟩,⟨rfl,rfl⟩,⟨rfl,rfl⟩,⟨rfl,rfl⟩,⟨rfl,rfl⟩,⟨rfl,rfl⟩,⟨rfl,rfl⟩,⟨rfl,rfl⟩,⟨rfl,rfl⟩⟩) :
  Vj a.c_Jumps "cell_after" (Vx a) [] E0 (Id 0) (CP (Yx (CP (tOp (Lw K) (Id I) (tC (V.int j1))) (CP (tOp (Lw K) (Id L) (tC (V.int j2))) (CP (tOp (Lw K) (Id O) (tC (V.int j3))) (CP (tOp (Lw K) (Id R) (tC (V.int j4))) (CP (tOp (Lw K) (Id S) (tC (V.int j5))) (CP (tOp (Lw K) (Id T) (tC (V.int j6))) (CP (tOp (Lw K) (Id U) (tC (V.int j7))) (CP (tOp (Lw K) (Id X) (tC (V.int j8))) (CP (tOp (Lw K) (Id Z) (tC (V.int j9))) PP)))))))))) PP) σ H Q:=by
 apply AL;intro G_ d;obtain⟨r0,⟨r1,e1⟩,⟨r2,e2⟩,⟨r3,e3⟩,⟨r4,e4⟩,⟨r5,e5⟩,⟨r6,e6⟩,⟨r7,e7⟩,⟨r8,e8⟩,⟨r9,e9⟩⟩:=e;apply d;clear d G_;exact⟨_,r0,(xq3 rfl F.hp (ZE _ _ _ _ _) (ixt r1 (c.kt h1) e1 (ixt r2 (c.kt h2) e2 (ixt r3 (c.kt h3) e3 (ixt r4 (c.kt h4) e4 (ixt r5 (c.kt h5) e5 (ixt r6 (c.kt h6) e6 (ixt r7 (c.kt h7) e7 (ixt r8 (c.kt h8) e8 (ixt r9 (c.kt h9) e9 ⟨(by show 9<=sizeLine;decide),λ_ hu=>celT F c hu sts rfl hM k⟩))))))))))⟩
inductive SpMid2(a:Ad)(vs:List V)(H:Hp)(Q:VK):Prop
|mk (p dx mem pr:R_) (g:GA) (G:Gv) (N M:Nat) (r:Az) (m:MA) (n:Nat) (_:vs=[.ref p,.int n]) (_:JW a H g G N M p dx mem pr r m) (_:Al G n ((1+1:Nat):Int)) (_:M<8500000) (_:G.length<8000000) (_:∀(k:Nat)(G':Gv)(H':Hp),FrC g m H H'->JW a H' g G' N (M+4) p dx mem pr r m->AH G G' 1->JR r G' 0 n k->Q (.int k) H'):SpMid2 a vs H Q
def Rg(a:Ad):Sp:=λvs H Q _=>SpMid2 a vs H Q
theorem ok_mid2(F:Fun K "middle_after" "Jumps.middle_after" Dh f fd)(T:Top K mg a)(a9:BD P w K mg base CX0 2 a.c_Grove "linked" AU (DS a))(aI:BD P w K mg base CX0 6 a.c_Jumps "cell_after" DL (Vx a)):AK P w K mg base CX0 7 f fd JU (Rg a):=by
 refine F.ok Bn (λvs H Q E h=>?_) (λbh A av s H vs Q E U h=>?_)
 .apply AL;intro O y;obtain⟨p,dx,mem,pr,g,G,N,M,r,m,n,rfl,_⟩:=h;apply y;clear y O;rfl
 .apply AL;intro O y;obtain⟨p,dx,mem,pr,g,G,N,M,r,m,n,rfl,d,hl,a5,few,k⟩:=h;obtain⟨qa,qb,qc,qd,en,la,lb,lc,ld⟩:=d.ok.four hl;obtain⟨a0,a1,a2,a3,ea,aq,V,W,B⟩:=d.ok.four (l:=0) la;obtain⟨b0,b1,b2,b3,eb,X,ar,C,Y⟩:=d.ok.four (l:=0) lb;obtain⟨c0,c1,c2,c3,ec,Z,D,as,aa⟩:=d.ok.four (l:=0) lc;obtain⟨d0,d1,d2,d3,ed,I,ab,ac,au⟩:=d.ok.four (l:=0) ld;obtain⟨ts,R,S⟩:=d.gr.pt;obtain⟨t,et,ht⟩:=PairedM.get S en;obtain⟨ta,ah,j⟩:=PairedM.get S ea;obtain⟨tb,ai,o⟩:=PairedM.get S eb;obtain⟨tc,aj,q⟩:=PairedM.get S ec;obtain⟨td,ak,v⟩:=PairedM.get S ed;apply y;clear y O;refine⟨_,(Ac (Ao (i:=2) Bn.nd rfl O_9 (Aj Ax (AF (AF (pv 0) rfl) rfl) (pv 1) R_9)) (Ac (Ao (i:=3) Bn.nd rfl O_9 (Aj Ax (AF (AF (pv 0) rfl) rfl) (Aj An (pv 2) Ae R_9) R_9)) (Ac (Ao (i:=4) Bn.nd rfl O_9 (Aj Ax (AF (AF (pv 0) rfl) rfl) (Aj An (pv 2) Ae R_9) R_9)) (Ac (Ao (i:=5) Bn.nd rfl O_9 (Aj Ax (AF (AF (pv 0) rfl) rfl) (Aj An (pv 2) Ae R_9) R_9)) (Ac (Ao (i:=6) Bn.nd rfl O_9 (Aj Ax (AF (AF (pv 0) rfl) rfl) (Aj An (pv 2) Ae R_9) R_9)) (Af (Au (AD (AF (pv 0) rfl) a9 (rm U) Am (Br (Aa (AD (pv 0) aI (rm U) Am (Br (Aa (Aj An (pv 3) Ae R_9) (Aa (Aj An (pv 3) Ae R_9) (Aa (Aj An (pv 3) Ae R_9) (Aa (Aj An (pv 4) Ae R_9) (Aa (Aj An (pv 3) Ae R_9) (Aa (Aj An (pv 4) Ae R_9) (Aa (Aj An (pv 5) Ae R_9) (Aa (Aj An (pv 5) Ae R_9) (Aa (Aj An (pv 6) Ae R_9) Ab))))))))) Ab)) (Aa (AD (pv 0) aI (rm U) Am (Br (Aa (Aj An (pv 4) Ae R_9) (Aa (Aj An (pv 3) Ae R_9) (Aa (Aj An (pv 4) Ae R_9) (Aa (Aj An (pv 4) Ae R_9) (Aa (Aj An (pv 3) Ae R_9) (Aa (Aj An (pv 4) Ae R_9) (Aa (Aj An (pv 5) Ae R_9) (Aa (Aj An (pv 6) Ae R_9) (Aa (Aj An (pv 6) Ae R_9) Ab))))))))) Ab)) (Aa (AD (pv 0) aI (rm U) Am (Br (Aa (Aj An (pv 5) Ae R_9) (Aa (Aj An (pv 3) Ae R_9) (Aa (Aj An (pv 3) Ae R_9) (Aa (Aj An (pv 4) Ae R_9) (Aa (Aj An (pv 5) Ae R_9) (Aa (Aj An (pv 6) Ae R_9) (Aa (Aj An (pv 5) Ae R_9) (Aa (Aj An (pv 5) Ae R_9) (Aa (Aj An (pv 6) Ae R_9) Ab))))))))) Ab)) (Aa (AD (pv 0) aI (rm U) Am (Br (Aa (Aj An (pv 6) Ae R_9) (Aa (Aj An (pv 3) Ae R_9) (Aa (Aj An (pv 4) Ae R_9) (Aa (Aj An (pv 4) Ae R_9) (Aa (Aj An (pv 5) Ae R_9) (Aa (Aj An (pv 6) Ae R_9) (Aa (Aj An (pv 5) Ae R_9) (Aa (Aj An (pv 6) Ae R_9) (Aa (Aj An (pv 6) Ae R_9) Ab))))))))) Ab)) Ab)))) Ab))))))))),?_⟩
  try dsimp only[cxK]
  refine AW ?_;intro a6 bc k0 z aw;refine xwf rfl rfl d.hp T.cl_Jumps T.na_Jumps_grove (En _ _ _ _ _) (xq5 d.gr.hp T.cl_Grove T.na_Grove_parts (CB g) (xq1 rfl (ixp R et ?_)));refine z ?_;refine AW ?_;intro a7 bd k1 z ax;refine xwf rfl rfl d.hp T.cl_Jumps T.na_Jumps_grove (En _ _ _ _ _) (xq5 d.gr.hp T.cl_Grove T.na_Grove_parts (CB g) (ixt rfl ht rfl (ixp R ah ?_)));refine z ?_;refine AW ?_;intro a8 be k2 z ay;refine xwf rfl rfl d.hp T.cl_Jumps T.na_Jumps_grove (En _ _ _ _ _) (xq5 d.gr.hp T.cl_Grove T.na_Grove_parts (CB g) (ixt rfl ht rfl (ixp R ai ?_)));refine z ?_;refine AW ?_;intro ba bf k3 z az;refine xwf rfl rfl d.hp T.cl_Jumps T.na_Jumps_grove (En _ _ _ _ _) (xq5 d.gr.hp T.cl_Grove T.na_Grove_parts (CB g) (ixt rfl ht rfl (ixp R aj ?_)));refine z ?_;refine AW ?_;intro bb bg k4 z a4;refine xwf rfl rfl d.hp T.cl_Jumps T.na_Jumps_grove (En _ _ _ _ _) (xq5 d.gr.hp T.cl_Grove T.na_Grove_parts (CB g) (ixt rfl ht rfl (ixp R ak ?_)));refine z ?_;have b:∀{x:Nat},Al G x ((0:Nat):Int)->Ie (x:Int):=λ{x} h=>by
   have:=d.ok.cell h;exact⟨by lia,by lia⟩
  have c_:Lc g m H H:=⟨λ_ _ e _ _ _ _=>e,λe=>e⟩
  refine xwf rfl rfl d.hp T.cl_Jumps T.na_Jumps_grove (En _ _ _ _ _) (xq3 rfl d.gr.hp (BK g) ?_);refine Gp (ttup (Gp (cel9 d c_ j j j o j o q q v (al9 (b B) (b aq) (b V) (b X) (b W) (b C) (b Z) (b D) (b I)) A0 λk0 Y0 ad al x0 j0=>?_)));refine Gp (cel9 j0 x0 o j o o j o q v v (al9 (b C) (b V) (b X) (b ar) (b B) (b Y) (b D) (b I) (b ab)) A0 λk1 Y1 ae am x1 j1=>?_);refine Gp (cel9 j1 x1 q j j o q v q q v (al9 (b D) (b W) (b B) (b C) (b Z) (b I) (b as) (b aa) (b ac)) A0 λk2 Y2 af an x2 j2=>?_);refine Gp (cel9 j2 x2 v j o o q v q v v (al9 (b I) (b B) (b C) (b Y) (b D) (b ab) (b aa) (b ac) (b au)) A0 λk3 Y3 ag ao x3 j3=>?_);have lf:∀{k:Nat},k<8->Al G k ((0:Nat):Int):=λ{k} h=>⟨_,d.ok.leaf k h,rfl⟩
  refine⟨S_4,λu hu=>lnk (⟨.refl _ _,λe=>e,j3.gr,.refl d.ok⟩:Ln a g Y3 G 0 Y3 G) hu ⟨lf al,lf am,lf an,lf ao⟩ A4 A0 λx G' H' s L e=>?_⟩;refine k x G' H' (x3.fr.trans (Fr.c s.fr)) (j3.fr s.fr s.gr L) L ⟨0,L.lev hl,C1 0,⟨_,e,rfl⟩,?_⟩;apply AL;intro O y;obtain⟨rfl,rfl,rfl,rfl⟩:=Et (L.get ea);obtain⟨rfl,rfl,rfl,rfl⟩:=Et (L.get eb);obtain⟨rfl,rfl,rfl,rfl⟩:=Et (L.get ec);obtain⟨rfl,rfl,rfl,rfl⟩:=Et (L.get ed);obtain⟨rfl,rfl,rfl,rfl⟩:=Et (L.get en);obtain⟨rfl,rfl,rfl,rfl⟩:=Et e;apply y;clear y O;intro x' y' hx hy
  match x',hx,y',hy with
  |0,_,0,_=>exact ad.symm
  |1,_,0,_=>exact ae.symm
  |0,_,1,_=>exact af.symm
  |1,_,1,_=>exact ag.symm
inductive SpCj(a:Ad)(vs:List V)(H:Hp)(Q:VK):Prop
|mk (p dx gp mem pr l kc:R_) (g:GA) (G:Gv) (n e:Nat) (q:Sq) (_:vs=[.ref p,.int n,.int e]) (_:H p=some (.ins a.c_Jumps dx (jf5 g.p mem pr l kc))) (_:AJ a H g G) (_:G[n]?=some q) (_:2+(e:Int)<=q.lev) (_:Q .non H):SpCj a vs H Q
def spCj(a:Ad):Sp:=λvs H Q _=>SpCj a vs H Q
theorem ok_cj(F:Fun K "check_jump" "Jumps.check_jump" DI f fd)(T:Top K mg a)(r:BD P w K mg base CX0 3 a.c_Grove "level_of" JU (Jv a))(t:Cal P w K mg base CX0 1 "is_whole" UE Ul):AK P w K mg base CX0 4 f fd Qh (spCj a):=by
 refine F.ok Fq (λvs H Q E h=>?_) (λu A d s H vs Q E o h=>?_)
 .apply AL;intro c b;obtain⟨p,v,x,mem,z,l,y,g,G,n,e,q,rfl,_⟩:=h;apply b;clear b c;rfl
 .apply AL;intro c b;obtain⟨p,v,x,mem,z,l,y,g,G,n,e,q,rfl,m,j,eq,B,k⟩:=h;apply b;clear b c;refine⟨_,(Ac (Ao (i:=3) Fq.nd rfl O_9 (AD (AF (pv 0) rfl) r (rm o) Am (Aa (pv 1) Ab))) (Ac (AM (Ay Ih (pv 3) (BV rfl T.k_LEAST_JUMPED) (AE _)) (Af Bh) AB) (Af (AM (PW.pt (Jo (CZ (Ch (Ar t (rm o) rfl Am (Aa (pv 2) Ab)))) (Fl (CZ (OV JM JM Ae (pv 2) (AA BJ (pv 3) (BV rfl T.k_LEAST_JUMPED))))))) (Af Bh) AB)))),?_⟩
  try dsimp only[cxK]
  refine xwf rfl rfl m T.cl_Jumps T.na_Jumps_grove (En _ _ _ _ _) (xq3 rfl j.hp (Cc g) (xq1 rfl ⟨g,G,n,q,rfl,j,eq,?_⟩));refine xwb rfl rfl rfl (xq1 rfl ?_);rw[Z8 (by lia:¬q.lev<2)];refine Bf ?_;refine⟨_,rfl,_,rfl,true,rfl,Bf ⟨_,rfl,_,_,rfl,rfl,_,rfl,?_⟩⟩;rw[Z7 (by lia:(0:Int)<=(e:Int))];refine Cz (xwb rfl rfl rfl (xq2 rfl rfl (xq1 rfl ?_)));rw[Z7 (by lia:(e:Int)<=q.lev-2)];exact Bf k
end
end J
namespace J
open PySem L2
theorem Si(G:Gv):∀(l n x y i j:Nat),cel G l n (x+2^l*i) (y+2^l*j)=cel G l n x y
|0,n,x,y,i,j=>rfl
|l+1,n,x,y,i,j=>by
 show cel G l (qO G n (((x+2^(l+1)*i)/2^l)%2+2*(((y+2^(l+1)*j)/2^l)%2))) (x+2^(l+1)*i) (y+2^(l+1)*j)=cel G l (qO G n ((x/2^l)%2+2*((y/2^l)%2))) x y;have p:0<2^l:=V4 A4;have e:∀i:Nat,2^(l+1)*i=2^l*(2*i):=λi=>by rw[F4,Nat.mul_assoc]
 rw[e i,e j,N9 _ _ p,N9 _ _ p,O4,O4];exact Si G l _ x y (2*i) (2*j)
theorem PH(G:Gv)(l n:Nat){x y i j:Nat}(c:x<2^l)(d:y<2^l)(a:i<2)(b:j<2):CC G (l+1) n (x+2^l*i) (y+2^l*j)=CC G l (qO G n (i+2*j)) x y:=by
 unfold CC;show((cel G l (qO G n (((x+2^l*i)/2^l)%2+2*(((y+2^l*j)/2^l)%2))) (x+2^l*i) (y+2^l*j):Nat):Int)=_;have p:0<2^l:=V4 A4;rw[N9 _ _ p,N9 _ _ p,N7 c,N7 d,N1,N1,O5 a,O5 b,Si]
theorem SH(r:Az)(c:Nat->Nat->Int)(n:Nat):∀m,Bq r (m+n) c=Bq r m (Bq r n c)
|0=>by rw[N1];rfl
|m+1=>by
 rw[show m+1+n=(m+n)+1 by lia];show stp r (Bq r (m+n) c)=stp r (Bq r m (Bq r n c));rw[SH r c n m]
theorem SG(r:Az){c d:Nat->Nat->Int}{X Y:Nat}:∀(k x y:Nat),k<=x->k<=y->(∀u v,x-k<=u->u<=x+k->y-k<=v->v<=y+k->c u v=d (u+X) (v+Y))->Bq r k c x y=Bq r k d (x+X) (y+Y)
|0,x,y,_,_,h=>h x y A0 A0 A0 A0
|k+1,x,y,hx,hy,h=>by
 have e:∀u v,x-1<=u->u<=x+1->y-1<=v->v<=y+1->Bq r k c u v=Bq r k d (u+X) (v+Y):=λu v f g i j=>SG r k u v A0 A0 λa b l m n o=>h a b A0 A0 A0 A0;show Cm r (Bq r k c x y) [Bq r k c (x-1) (y-1),Bq r k c x (y-1),Bq r k c (x+1) (y-1),Bq r k c (x-1) y,Bq r k c (x+1) y,Bq r k c (x-1) (y+1),Bq r k c x (y+1),Bq r k c (x+1) (y+1)]=Cm r (Bq r k d (x+X) (y+Y)) [Bq r k d (x+X-1) (y+Y-1),Bq r k d (x+X) (y+Y-1),Bq r k d (x+X+1) (y+Y-1),Bq r k d (x+X-1) (y+Y),Bq r k d (x+X+1) (y+Y),Bq r k d (x+X-1) (y+Y+1),Bq r k d (x+X) (y+Y+1),Bq r k d (x+X+1) (y+Y+1)];rw[e x y A0 A0 A0 A0,e (x-1) (y-1) A0 A0 A0 A0,e x (y-1) A0 A0 A0 A0,e (x+1) (y-1) A0 A0 A0 A0,e (x-1) y A0 A0 A0 A0,e (x+1) y A0 A0 A0 A0,e (x-1) (y+1) A0 A0 A0 A0,e x (y+1) A0 A0 A0 A0,e (x+1) (y+1) A0 A0 A0 A0];rw[show x-1+X=x+X-1 by lia,show y-1+Y=y+Y-1 by lia,show x+1+X=x+X+1 by lia,show y+1+Y=y+Y+1 by lia]
def Vw(G:Gv)(c:Nat->Nat->Int)(l m X Y:Nat):Prop:=∀x y,x<2^l->y<2^l->CC G l m x y=c (x+X) (y+Y)
theorem Vw.q{G:Gv}{c:Nat->Nat->Int}{l m X Y i j:Nat}(h:Vw G c (l+1) m X Y)(a:i<2)(b:j<2):Vw G c l (qO G m (i+2*j)) (X+2^l*i) (Y+2^l*j):=λx y d e=>by
 rw[<-PH G l m d e a b,h _ _ ?_ ?_]
 .rw[show x+2^l*i+X=x+(X+2^l*i) by lia,show y+2^l*j+Y=y+(Y+2^l*j) by lia]
 .rw[F4];have:2^l*i<=2^l*1:=M0 _ A0;lia
 .rw[F4];have:2^l*j<=2^l*1:=M0 _ A0;lia
theorem Vw.of{G:Gv}{c:Nat->Nat->Int}{l m X Y:Nat}(d:Vw G c l (qO G m 0) X Y)(e:Vw G c l (qO G m 1) (X+2^l) Y)(f:Vw G c l (qO G m 2) X (Y+2^l))(g:Vw G c l (qO G m 3) (X+2^l) (Y+2^l)):Vw G c (l+1) m X Y:=λx y h k=>by
 rw[F4]at h k;by_cases b:x<2^l
 .by_cases a:y<2^l
  .have:=PH G l m b a (i:=0) (j:=0) A4 A4;rw[show x+2^l*0=x by lia,show y+2^l*0=y by lia]at this;rw[this];exact d x y b a
  .have:=PH G l m b (y:=y-2^l) A0 (i:=0) (j:=1) A4 A4;rw[show x+2^l*0=x by lia,show y-2^l+2^l*1=y by lia]at this;rw[this,f x (y-2^l) b A0,show y-2^l+(Y+2^l)=y+Y by lia]
 .by_cases a:y<2^l
  .have:=PH G l m (x:=x-2^l) A0 a (i:=1) (j:=0) A4 A4;rw[show y+2^l*0=y by lia,show x-2^l+2^l*1=x by lia]at this;rw[this,e (x-2^l) y A0 a,show x-2^l+(X+2^l)=x+X by lia]
  .have:=PH G l m (x:=x-2^l) (y:=y-2^l) A0 A0 (i:=1) (j:=1) A4 A4;rw[show x-2^l+2^l*1=x by lia,show y-2^l+2^l*1=y by lia]at this;rw[this,g (x-2^l) (y-2^l) A0 A0,show x-2^l+(X+2^l)=x+X by lia,show y-2^l+(Y+2^l)=y+Y by lia]
theorem Vw.jump{G:Gv}{r:Az}{c:Nat->Nat->Int}{l e m k X Y:Nat}(h:Vw G c (l+2) m X Y)(a:e<=l)(j:∀x y,x<2^(l+1)->y<2^(l+1)->CC G (l+1) k x y=Bq r (2^e) (CC G (l+2) m) (x+2^l) (y+2^l)):Vw G (Bq r (2^e) c) (l+1) k (X+2^l) (Y+2^l):=λx y b d=>by
 have p:2^e<=2^l:=L9 A4 a;have o:2^(l+1)=2^l*2:=F4 ..;have q:2^(l+2)=2^l*2*2:=by rw[F4,F4]
 rw[j x y b d,SG r (X:=X) (Y:=Y) (2^e) (x+2^l) (y+2^l) A0 A0 λu v f g i n=>h u v A0 A0];rw[show x+2^l+X=x+(X+2^l) by lia,show y+2^l+Y=y+(Y+2^l) by lia]
seal L2.PA L2.PE L2.PS L2.PSs L2.PT L2.PW
theorem Vw.at'{G:Gv}{c:Nat->Nat->Int}{l m X Y X' Y':Nat}(h:Vw G c l m X Y)(a:X=X')(b:Y=Y'):Vw G c l m X' Y':=by
 subst a;subst b;exact h
theorem Vw.goes{G a:Gv}{c:Nat->Nat->Int}{l m X Y i:Nat}(h:Vw G c l m X Y)(ok:GOk G)(b:AH G a i)(f:Al G m (l:Int)):Vw a c l m X Y:=λx y d e=>by
 rw[CY ok b f];exact h x y d e
section
variable{P:N_}{w:Q_}{K:O_}{mg:C_}{base:T_}{a:Ad}
inductive SpNine(a:Ad)(vs:List V)(H:Hp)(Q:VK):Prop
|mk (g:GA) (G:Gv) (n l:Nat) (_:vs=[.ref g.p,.int n]) (_:AJ a H g G) (_:GOk G) (_:Al G n ((l+1+1:Nat):Int)) (_:l<=46) (_:G.length<8000000) (_:∀(L:R_)(ks:J_)(G':Gv)(H':Hp),Fr g H H'->AJ a H' g G'->AH G G' 5->H' L=some (.lst (ks.map λ(k:Nat)=>V.int (k:Int)))->ks.length=9->(∀i j,i<3->j<3->∃k,ks[i+3*j]?=some k/\Al G' k ((l+1:Nat):Int)/\Vw G' (CC G (l+2) n) (l+1) k (2^l*i) (2^l*j))->Q (.ref L) H'):SpNine a vs H Q
def OD(a:Ad):Sp:=λvs H Q _=>SpNine a vs H Q
theorem ZO{K:O_}{a:Ad}{b H:Hp}{g:GA}{G0 G:Gv}{j:Nat}{σ:St}{q t u v:Nat}{E F I L:R_}{d f h i:List V}{A B C D:Int}{x y z w:Nat}{l:Int}{Q:VK}(s:Ln a g b G0 j H G)(T:b E=some (.tup d))(U:b F=some (.tup f))(X:b I=some (.tup h))(Y:b L=some (.tup i))(lv:Al G0 x l/\Al G0 y l/\Al G0 z l/\Al G0 w l)(few:l<=47/\G0.length+j<9000000)
  (k:∀(n:Nat)(m:Gv)(o:Hp),Ln a g b G0 (j+1) o m->AH G m 1->m[n]?=some ⟨[(x:Int),(y:Int),(z:Int),(w:Int)],l+1⟩->Q (.int n) o) (e:(σ[0]?=some (some (.ref g.p))/\σ[q]?=some (some (.ref E))/\σ[t]?=some (some (.ref F))/\σ[u]?=some (some (.ref I))/\σ[v]?=some (some (.ref L)))/\atI d A=some (.int x)/\atI f B=some (.int y)/\atI h C=some (.int z)/\atI i D=some (.int w):=by exact⟨⟨rfl,rfl,rfl,rfl,rfl⟩,rfl,rfl,rfl,rfl⟩):Vj a.c_Grove "linked" (DS a) [] E0 (Id 0) (CP (Yx (CP (tOp (Lw K) (Id q) (tC (V.int A))) (CP (tOp (Lw K) (Id t) (tC (V.int B))) (CP (tOp (Lw K) (Id u) (tC (V.int C))) (CP (tOp (Lw K) (Id v) (tC (V.int D))) PP))))) PP) σ H Q:=by
 apply AL;intro M c;obtain⟨⟨r,r1,r2,r3,r4⟩,N,O,R,S⟩:=e;apply c;clear c M;exact⟨_,r,(xq3 rfl s.gr.hp (BK g) (ixt r1 (s.kt T) N (ixt r2 (s.kt U) O (ixt r3 (s.kt X) R (ixt r4 (s.kt Y) S ⟨S_4,λ_ Z=>lnk s Z lv few.1 few.2 k⟩)))))⟩
theorem vw4{G:Gv}{c:Nat->Nat->Int}{l m x y z w X Y:Nat}{j:Int}(e:G[m]?=some ⟨[(x:Int),(y:Int),(z:Int),(w:Int)],j⟩)(f:Vw G c l x (2^l*X) (2^l*Y))(g:Vw G c l y (2^l*(X+1)) (2^l*Y))(h:Vw G c l z (2^l*X) (2^l*(Y+1)))(i:Vw G c l w (2^l*(X+1)) (2^l*(Y+1))):Vw G c (l+1) m (2^l*X) (2^l*Y):=by
 apply AL;intro d b;obtain⟨rfl,rfl,rfl,rfl⟩:=Et e;apply b;clear b d;exact .of f g h i
theorem vwQ{G:Gv}{c:Nat->Nat->Int}{l m x y z w X Y:Nat}{f:Int}(e:G[m]?=some ⟨[(x:Int),(y:Int),(z:Int),(w:Int)],f⟩)(v:Vw G c (l+1) m (2^l*X) (2^l*Y)):Vw G c l x (2^l*X) (2^l*Y)/\Vw G c l y (2^l*(X+1)) (2^l*Y)/\Vw G c l z (2^l*X) (2^l*(Y+1))/\Vw G c l w (2^l*(X+1)) (2^l*(Y+1)):=by
 apply AL;intro d b;obtain⟨rfl,rfl,rfl,rfl⟩:=Et e;apply b;clear b d;exact⟨v.q (i:=0) (j:=0) A4 A4,(v.q (i:=1) (j:=0) A4 A4).at' A0 rfl,(v.q (i:=0) (j:=1) A4 A4).at' rfl A0,(v.q (i:=1) (j:=1) A4 A4).at' A0 A0⟩
theorem ok_nine(F:Fun K "nine_parts" "nine_parts" Iu f fd)(T:Top K mg a)(W:BD P w K mg base CX0 2 a.c_Grove "linked" AU (DS a)):AK P w K mg base CX0 3 f fd Lj (OD a):=by
 refine F.ok CT (λvs H Q E h=>?_) (λbi A an s H vs Q E hr h=>?_)
 .apply AL;intro z b;obtain⟨g,G,n,l,rfl,_⟩:=h;apply b;clear b z;rfl
 .apply AL;intro z b;obtain⟨g,G,n,l,rfl,C,ok,hl,bl,few,k⟩:=h;obtain⟨qa,qb,qc,qd,en,la,lb,lc,ld⟩:=ok.four hl;obtain⟨a0,a1,a2,a3,ea,bm,af,ag,D⟩:=ok.four la;obtain⟨b0,b1,b2,b3,eb,ah,bn,I,ai⟩:=ok.four lb;obtain⟨c0,c1,c2,c3,ec,aj,M,bo,ak⟩:=ok.four lc;obtain⟨d0,d1,d2,d3,ed,N,al,am,bp⟩:=ok.four ld;obtain⟨ts,Y,Z⟩:=C.pt;obtain⟨t,et,v⟩:=PairedM.get Z en;obtain⟨ta,aa,d⟩:=PairedM.get Z ea;obtain⟨tb,ab,m⟩:=PairedM.get Z eb;obtain⟨tc,ac,p⟩:=PairedM.get Z ec;obtain⟨td,ad,q⟩:=PairedM.get Z ed;apply b;clear b z;have s0:Ln a g H G 0 H G:=⟨.refl _ _,λe=>e,C,.refl ok⟩
  refine⟨_,(Ac (Ao (i:=2) CT.nd rfl O_9 (Aj Ax (AF (pv 0) rfl) (pv 1) R_9)) (Ac (Ao (i:=3) CT.nd rfl O_9 (Aj Ax (AF (pv 0) rfl) (Aj An (pv 2) Ae R_9) R_9)) (Ac (Ao (i:=4) CT.nd rfl O_9 (Aj Ax (AF (pv 0) rfl) (Aj An (pv 2) Ae R_9) R_9)) (Ac (Ao (i:=5) CT.nd rfl O_9 (Aj Ax (AF (pv 0) rfl) (Aj An (pv 2) Ae R_9) R_9)) (Ac (Ao (i:=6) CT.nd rfl O_9 (Aj Ax (AF (pv 0) rfl) (Aj An (pv 2) Ae R_9) R_9)) (Af (Au (Cb (Aa (Aj An (pv 2) Ae R_9) (Aa (AD (pv 0) W (rm hr) Am (Br (Aa (Aj An (pv 3) Ae R_9) (Aa (Aj An (pv 4) Ae R_9) (Aa (Aj An (pv 3) Ae R_9) (Aa (Aj An (pv 4) Ae R_9) Ab)))) Ab)) (Aa (Aj An (pv 2) Ae R_9) (Aa (AD (pv 0) W (rm hr) Am (Br (Aa (Aj An (pv 3) Ae R_9) (Aa (Aj An (pv 3) Ae R_9) (Aa (Aj An (pv 5) Ae R_9) (Aa (Aj An (pv 5) Ae R_9) Ab)))) Ab)) (Aa (AD (pv 0) W (rm hr) Am (Br (Aa (Aj An (pv 3) Ae R_9) (Aa (Aj An (pv 4) Ae R_9) (Aa (Aj An (pv 5) Ae R_9) (Aa (Aj An (pv 6) Ae R_9) Ab)))) Ab)) (Aa (AD (pv 0) W (rm hr) Am (Br (Aa (Aj An (pv 4) Ae R_9) (Aa (Aj An (pv 4) Ae R_9) (Aa (Aj An (pv 6) Ae R_9) (Aa (Aj An (pv 6) Ae R_9) Ab)))) Ab)) (Aa (Aj An (pv 2) Ae R_9) (Aa (AD (pv 0) W (rm hr) Am (Br (Aa (Aj An (pv 5) Ae R_9) (Aa (Aj An (pv 6) Ae R_9) (Aa (Aj An (pv 5) Ae R_9) (Aa (Aj An (pv 6) Ae R_9) Ab)))) Ab)) (Aa (Aj An (pv 2) Ae R_9) Ab))))))))))))))))),?_⟩
  try dsimp only[cxK]
  refine AW ?_;intro a7 bd k0 u ay;refine xwf rfl rfl C.hp T.cl_Grove T.na_Grove_parts (CB g) (xq1 rfl (ixp Y et ?_));refine u ?_;refine AW ?_;intro a8 be k1 u az;refine xwf rfl rfl C.hp T.cl_Grove T.na_Grove_parts (CB g) (ixt rfl v rfl (ixp Y aa ?_));refine u ?_;refine AW ?_;intro ba bf k2 u a4;refine xwf rfl rfl C.hp T.cl_Grove T.na_Grove_parts (CB g) (ixt rfl v rfl (ixp Y ab ?_));refine u ?_;refine AW ?_;intro bb bg k3 u a5;refine xwf rfl rfl C.hp T.cl_Grove T.na_Grove_parts (CB g) (ixt rfl v rfl (ixp Y ac ?_));refine u ?_;refine AW ?_;intro bc bh k4 u a6;refine xwf rfl rfl C.hp T.cl_Grove T.na_Grove_parts (CB g) (ixt rfl v rfl (ixp Y ad ?_));refine u ?_;refine tretl (Gp (ixt rfl (s0.kt v) rfl (Gp (ZO s0 d m d m ⟨af,ah,D,I⟩ ⟨by lia,by lia⟩ λm1 G1 H1 s1 bj e1=>?_))));refine Gp (ixt rfl (s1.kt v) rfl (Gp (ZO s1 d d p p ⟨ag,D,aj,M⟩ ⟨by lia,by lia⟩ λm3 G3 H3 s3 ae e3=>?_)));refine Gp (ZO s3 d m p q ⟨D,I,M,N⟩ ⟨by lia,by lia⟩ λm4 G4 H4 s4 X e4=>?_);refine Gp (ZO s4 m m q q ⟨I,ai,N,al⟩ ⟨by lia,by lia⟩ λm5 G5 H5 s5 B e5=>?_);refine Gp (ixt rfl (s5.kt v) rfl (Gp (ZO s5 p q p q ⟨M,N,ak,am⟩ ⟨by lia,by lia⟩ λm7 G7 H7 s7 r e7=>?_)));refine Gp (ixt rfl (s7.kt v) rfl ⟨(by show 9<=sizeLine;decide),λL hL=>?_⟩);have c:=s7.go;have sL:=Aq (o:=.lst (([qa,m1,qb,m3,m4,m5,qc,m7,qd]:J_).map λ(k:Nat)=>V.int (k:Int))) hL;refine k L [qa,m1,qb,m3,m4,m5,qc,m7,qd] G7 _ (s7.fr.trans (AC.fr sL)) (s7.gr.same sL) c Ag rfl ?_;have v0:Vw G (CC G (l+2) n) (l+1+1) n (2^(l+1)*0) (2^(l+1)*0):=λx y _ _=>rfl;have p1:2^(l+1)=2^l*2:=F4 ..;apply AL;intro z b;obtain⟨va,vb,vc,vd⟩:=vwQ (c.get en) (v0.goes ok c hl);apply b;clear b z;have va:=va.at' (X':=2^l*0) (Y':=2^l*0) A0 A0;have vb:=vb.at' (X':=2^l*2) (Y':=2^l*0) A0 A0;have vc:=vc.at' (X':=2^l*0) (Y':=2^l*2) A0 A0;have vd:=vd.at' (X':=2^l*2) (Y':=2^l*2) A0 A0;apply AL;intro z b;obtain⟨bq,ao,aq,O⟩:=vwQ (c.get ea) va;obtain⟨ar,br,R,as⟩:=vwQ (c.get eb) vb;obtain⟨au,S,bt,av⟩:=vwQ (c.get ec) vc;obtain⟨U,aw,ax,bu⟩:=vwQ (c.get ed) vd;apply b;clear b z;have g5:=r.get e5;have g4:=r.get (B.get e4);have g3:=r.get (B.get (X.get e3));have g1:=r.get (B.get (X.get (ae.get e1)));intro i j hi hj
  match i,hi,j,hj with
  |0,_,0,_=>exact⟨qa,rfl,c.lev la,va⟩
  |1,_,0,_=>exact⟨m1,rfl,⟨_,g1,rfl⟩,vw4 g1 ao ar O R⟩
  |2,_,0,_=>exact⟨qb,rfl,c.lev lb,vb⟩
  |0,_,1,_=>exact⟨m3,rfl,⟨_,g3,rfl⟩,vw4 g3 aq O au S⟩
  |1,_,1,_=>exact⟨m4,rfl,⟨_,g4,rfl⟩,vw4 g4 O R S U⟩
  |2,_,1,_=>exact⟨m5,rfl,⟨_,g5,rfl⟩,vw4 g5 R as U aw⟩
  |0,_,2,_=>exact⟨qc,rfl,c.lev lc,vc⟩
  |1,_,2,_=>exact⟨m7,rfl,⟨_,e7,rfl⟩,vw4 e7 S U av ax⟩
  |2,_,2,_=>exact⟨qd,rfl,c.lev ld,vd⟩
inductive Wq(vs:List V)(H:Hp)(Q:VK):Prop
|mk (L:R_) (k0 k1 k2 k3 k4 k5 k6 k7 k8:Nat) (_:vs=[.ref L]) (_:H L=some (.lst [.int k0,.int k1,.int k2,.int k3,.int k4,.int k5,.int k6,.int k7,.int k8])) (_:∀(M t0 t1 t2 t3:R_)(H':Hp),AC H H'->H' M=some (.lst [.ref t0,.ref t1,.ref t2,.ref t3])->H' t0=some (.tup [.int k0,.int k1,.int k3,.int k4])->H' t1=some (.tup [.int k1,.int k2,.int k4,.int k5])->H' t2=some (.tup [.int k3,.int k4,.int k6,.int k7])->H' t3=some (.tup [.int k4,.int k5,.int k7,.int k8])->Q (.ref M) H'):Wq vs H Q
def Md:Sp:=λvs H Q _=>Wq vs H Q
theorem Zx(F:Fun K "fours_of" "fours_of" LN f fd)(T:Top K mg a):AK P w K mg base CX0 1 f fd UG Md:=by
 refine F.ok SW (λvs H Q E h=>?_) (λaa A Y s H vs Q E hr h=>?_)
 .apply AL;intro S c;obtain⟨L,x,i,y,l,b,m,z,n,B,rfl,_⟩:=h;apply c;clear c S;rfl
 .apply AL;intro S c;obtain⟨L,x,i,y,l,b,m,z,n,B,rfl,q,k⟩:=h;apply c;clear c S;refine⟨_,(Af (Au (Cb (Br (Aa (Aj Ax (pv 0) Ae R_9) (Aa (Aj Ax (pv 0) Ae R_9) (Aa (Aj Ax (pv 0) Ae R_9) (Aa (Aj Ax (pv 0) Ae R_9) Ab)))) (Br (Aa (Aj Ax (pv 0) Ae R_9) (Aa (Aj Ax (pv 0) Ae R_9) (Aa (Aj Ax (pv 0) Ae R_9) (Aa (Aj Ax (pv 0) Ae R_9) Ab)))) (Br (Aa (Aj Ax (pv 0) Ae R_9) (Aa (Aj Ax (pv 0) Ae R_9) (Aa (Aj Ax (pv 0) Ae R_9) (Aa (Aj Ax (pv 0) Ae R_9) Ab)))) (Br (Aa (Aj Ax (pv 0) Ae R_9) (Aa (Aj Ax (pv 0) Ae R_9) (Aa (Aj Ax (pv 0) Ae R_9) (Aa (Aj Ax (pv 0) Ae R_9) Ab)))) Ab))))))),?_⟩
  try dsimp only[cxK]
  refine xwi rfl rfl rfl (SqL.of q) (Ai (j:=0) rfl) (xwi rfl rfl rfl (SqL.of q) (Ai (j:=1) rfl) (xwi rfl rfl rfl (SqL.of q) (Ai (j:=3) rfl) (xwi rfl rfl rfl (SqL.of q) (Ai (j:=4) rfl) ⟨S_4,λG U=>?_⟩)));have Z:=Aq (o:=.tup [.int (x:Int),.int (i:Int),.int (l:Int),.int (b:Int)]) U;have h0:upd H G (.tup [.int (x:Int),.int (i:Int),.int (l:Int),.int (b:Int)]) G=some (.tup [.int (x:Int),.int (i:Int),.int (l:Int),.int (b:Int)]):=Ag;generalize r:upd H G (.tup [.int (x:Int),.int (i:Int),.int (l:Int),.int (b:Int)])=X0 at Z h0;have d:=Z _ _ q
  first|rw[r]|(show ∃_,_;rw[r])|skip
  refine xwi rfl rfl rfl (SqL.of d) (Ai (j:=1) rfl) (xwi rfl rfl rfl (SqL.of d) (Ai (j:=2) rfl) (xwi rfl rfl rfl (SqL.of d) (Ai (j:=4) rfl) (xwi rfl rfl rfl (SqL.of d) (Ai (j:=5) rfl) ⟨S_4,λI V=>?_⟩)));have R:=Aq (o:=.tup [.int (i:Int),.int (y:Int),.int (b:Int),.int (m:Int)]) V;have h1:upd X0 I (.tup [.int (i:Int),.int (y:Int),.int (b:Int),.int (m:Int)]) I=some (.tup [.int (i:Int),.int (y:Int),.int (b:Int),.int (m:Int)]):=Ag;generalize t:upd X0 I (.tup [.int (i:Int),.int (y:Int),.int (b:Int),.int (m:Int)])=X1 at R h1;have e:=R _ _ d
  first|rw[t]|(show ∃_,_;rw[t])|skip
  refine xwi rfl rfl rfl (SqL.of e) (Ai (j:=3) rfl) (xwi rfl rfl rfl (SqL.of e) (Ai (j:=4) rfl) (xwi rfl rfl rfl (SqL.of e) (Ai (j:=6) rfl) (xwi rfl rfl rfl (SqL.of e) (Ai (j:=7) rfl) ⟨S_4,λN W=>?_⟩)));have C:=Aq (o:=.tup [.int (l:Int),.int (b:Int),.int (z:Int),.int (n:Int)]) W;have h2:upd X1 N (.tup [.int (l:Int),.int (b:Int),.int (z:Int),.int (n:Int)]) N=some (.tup [.int (l:Int),.int (b:Int),.int (z:Int),.int (n:Int)]):=Ag;generalize u:upd X1 N (.tup [.int (l:Int),.int (b:Int),.int (z:Int),.int (n:Int)])=X2 at C h2;have g:=C _ _ e
  first|rw[u]|(show ∃_,_;rw[u])|skip
  refine xwi rfl rfl rfl (SqL.of g) (Ai (j:=4) rfl) (xwi rfl rfl rfl (SqL.of g) (Ai (j:=5) rfl) (xwi rfl rfl rfl (SqL.of g) (Ai (j:=7) rfl) (xwi rfl rfl rfl (SqL.of g) (Ai (j:=8) rfl) ⟨S_4,λO X=>?_⟩)));have p:=Aq (o:=.tup [.int (b:Int),.int (m:Int),.int (n:Int),.int (B:Int)]) X;have h3:upd X2 O (.tup [.int (b:Int),.int (m:Int),.int (n:Int),.int (B:Int)]) O=some (.tup [.int (b:Int),.int (m:Int),.int (n:Int),.int (B:Int)]):=Ag;generalize v:upd X2 O (.tup [.int (b:Int),.int (m:Int),.int (n:Int),.int (B:Int)])=X3 at p h3;have ab:=p _ _ g
  first|rw[v]|(show ∃_,_;rw[v])|skip
  refine⟨S_4,λM hM=>?_⟩;have D:=Aq (o:=.lst [.ref G,.ref I,.ref N,.ref O]) hM;exact k M G I N O _ ((((Z.trans R).trans C).trans p).trans D) Ag (D _ _ (p _ _ (C _ _ (R _ _ h0)))) (D _ _ (p _ _ (C _ _ h1))) (D _ _ (p _ _ h2)) (D _ _ h3)
inductive SpMet(a:Ad)(vs:List V)(H:Hp)(Q:VK):Prop
|mk (g:GA) (G:Gv) (t:R_) (f0 f1 f2 f3 l:Nat) (_:vs=[.ref g.p,.ref t]) (_:AJ a H g G) (_:GOk G) (_:H t=some (.tup [.int f0,.int f1,.int f2,.int f3])) (_:Al G f0 ((l+1:Nat):Int)/\Al G f1 ((l+1:Nat):Int)/\Al G f2 ((l+1:Nat):Int)/\Al G f3 ((l+1:Nat):Int)) (_:l<=47) (_:G.length<9000000) (_:∀(k:Nat)(G':Gv)(H':Hp),Fr g H H'->AJ a H' g G'->AH G G' 1->G'[k]?=some ⟨[((qO G f0 3:Nat):Int),((qO G f1 2:Nat):Int),((qO G f2 1:Nat):Int),((qO G f3 0:Nat):Int)],(l:Int)+1⟩->Q (.int k) H'):SpMet a vs H Q
def Vt(a:Ad):Sp:=λvs H Q _=>SpMet a vs H Q
theorem ok_met(F:Fun K "met_in_the_middle" "met_in_the_middle" Dv f fd)(T:Top K mg a)(a9:BD P w K mg base CX0 2 a.c_Grove "linked" AU (DS a)):AK P w K mg base CX0 3 f fd Ct (Vt a):=by
 refine F.ok ET (λvs H Q E h=>?_) (λab A W s H vs Q E hr h=>?_)
 .apply AL;intro y b;obtain⟨g,G,t,f0,f1,f2,f3,l,rfl,_⟩:=h;apply b;clear b y;rfl
 .apply AL;intro y b;obtain⟨g,G,t,f0,f1,f2,f3,l,rfl,v,ok,x,⟨l0,l1,l2,l3⟩,ac,few,k⟩:=h;obtain⟨ts,q,r⟩:=v.pt;obtain⟨aq,ar,as,c,e0,ad,ae,af,R⟩:=ok.four l0;obtain⟨u0,z,L⟩:=PairedM.get r e0;obtain⟨a3,a4,a5,X⟩:=Et e0;obtain⟨au,av,d,aw,e1,ag,ah,S,ai⟩:=ok.four l1;obtain⟨u1,B,M⟩:=PairedM.get r e1;obtain⟨a6,a7,Y,a8⟩:=Et e1;obtain⟨ax,m,ay,az,e2,aj,U,ak,al⟩:=ok.four l2;obtain⟨u2,C,N⟩:=PairedM.get r e2;obtain⟨ba,Z,bb,bc⟩:=Et e2;obtain⟨p,a0,a1,a2,e3,V,am,an,ao⟩:=ok.four l3;obtain⟨u3,D,O⟩:=PairedM.get r e3;obtain⟨aa,bd,be,bf⟩:=Et e3;apply b;clear b y;rw[X,Y,Z,aa]at k;refine⟨_,(Ac (Ao (i:=2) ET.nd rfl O_9 (AF (pv 0) rfl)) (Af (Au (AD (pv 0) a9 (rm hr) Am (Br (Aa (Aj An (Aj Ax (pv 2) (Aj An (pv 1) Ae R_9) R_9) Ae R_9) (Aa (Aj An (Aj Ax (pv 2) (Aj An (pv 1) Ae R_9) R_9) Ae R_9) (Aa (Aj An (Aj Ax (pv 2) (Aj An (pv 1) Ae R_9) R_9) Ae R_9) (Aa (Aj An (Aj Ax (pv 2) (Aj An (pv 1) Ae R_9) R_9) Ae R_9) Ab)))) Ab))))),?_⟩
  try dsimp only[cxK]
  refine xwf rfl rfl v.hp T.cl_Grove T.na_Grove_parts (CB g) ?_;refine xwn rfl rfl v.hp (BK g) rfl (xwi rfl rfl rfl (SqT.of x) (Ai (j:=0) rfl) (xq4 rfl rfl (SqL.of q) (Ai (by rw[C0,z];rfl)) (xq4 rfl rfl (SqT.of L) (Ai (j:=3) rfl) (xwj rfl rfl rfl rfl (SqT.of x) (Ai (j:=1) rfl) (xq4 rfl rfl (SqL.of q) (Ai (by rw[C0,B];rfl)) (xq4 rfl rfl (SqT.of M) (Ai (j:=2) rfl) (xwj rfl rfl rfl rfl (SqT.of x) (Ai (j:=2) rfl) (xq4 rfl rfl (SqL.of q) (Ai (by rw[C0,C];rfl)) (xq4 rfl rfl (SqT.of N) (Ai (j:=1) rfl) (xwj rfl rfl rfl rfl (SqT.of x) (Ai (j:=3) rfl) (xq4 rfl rfl (SqL.of q) (Ai (by rw[C0,D];rfl)) (xq4 rfl rfl (SqT.of O) (Ai (j:=0) rfl) ⟨S_4,λu hu=>?_⟩))))))))))));have s1:=Aq (o:=.tup [.int (c:Int),.int (d:Int),.int (m:Int),.int (p:Int)]) hu;exact⟨g,G,u,c,d,m,p,(l:Int),rfl,v.same s1,ok,Ag,⟨R,S,U,V⟩,by lia,few,λn G' H' fr I go e=>k n G' H' ((AC.fr s1).trans fr) I go e⟩
end
end J
namespace J
open PySem L2
def Sv(o:HO):Prop:=Nv o\/∃xs:List V,o=.lst xs/\xs.length<=50
def KpS(H H':Hp):Prop:=∀b o,H b=some o->Sv o->H' b=some o
theorem Sv.lst{xs:List V}(h:xs.length<=50):Sv (.lst xs):=.inr ⟨xs,rfl,h⟩
theorem Bs.long{G:Gv}(h:Bs G):56<=G.length:=(B9.mp (h 47 A4)).1
theorem Sv.nl{b x:R_}{H:Hp}{o:HO}{xs:List V}(s:Sv o)(e:H b=some o)(a:H x=some (.lst xs))(d:50<xs.length):b≠x:=λz=>by
 rw[z,a]at e;cases e;rcases s with s|⟨ys,c,f⟩
 .cases s
 .cases c;lia
theorem Sv.nt{b x:R_}{H:Hp}{o:HO}{k:List (List Key×V)}(s:Sv o)(e:H b=some o)(a:H x=some (.dT k)):b≠x:=λz=>by
 rw[z,a]at e;cases e;rcases s with s|⟨ys,c,d⟩
 .cases s
 .cases c
theorem Sv.nk{b x:R_}{H:Hp}{o:HO}{k:List (Key×V)}(s:Sv o)(e:H b=some o)(a:H x=some (.dK k)):b≠x:=λz=>by
 rw[z,a]at e;cases e;rcases s with s|⟨ys,c,d⟩
 .cases s
 .cases c
theorem Fr.kps{a:Ad}{H d:Hp}{g:GA}{G:Gv}(f:Fr g H d)(c:AJ a H g G)(j:56<=G.length):KpS H d:=by
 intro b o e s;obtain⟨k,h,i⟩:=c.pt;have lt:k.length=G.length:=K4 i;exact f _ _ e (s.nl e c.lv (by rw[B8];lia)) (s.nl e h (by rw[B8];lia)) (s.nt e c.nm)
theorem FrJ.kps{a:Ad}{H d:Hp}{g:GA}{G:Gv}{N M:Nat}{r:Az}{m:MA}(f:FrJ g m H d)(c:AJ a H g G)(q:56<=G.length)(h:Ib H g G N M r m):KpS H d:=by
 intro b o e s;obtain⟨t,l,n⟩:=c.pt;obtain⟨u,i,_⟩:=h.ce;have lt:t.length=G.length:=K4 n;refine f _ _ e (s.nl e c.lv (by rw[B8];lia)) (s.nl e l (by rw[B8];lia)) (s.nt e c.nm) (s.nt e i) λz=>?_;obtain⟨j,p⟩:=F6 z;obtain⟨v,k,_⟩:=h.sq j b p;exact s.nk e k rfl
theorem Sj{G:Gv}(ok:GOk G):∀(l:Nat){n m:Nat},Al G n (l:Int)->Al G m (l:Int)->(∀x y,x<2^l->y<2^l->CC G l n x y=CC G l m x y)->n=m
|0,n,m,_,_,h=>K1 (h 0 0 A4 A4)
|l+1,n,m,hn,hm,h=>by
 have a:∀i j,i<2->j<2->qO G n (i+2*j)=qO G m (i+2*j):=λi j k o=>by
  refine Sj ok l (LR ok hn A0) (LR ok hm A0) λx y p q=>?_;rw[<-PH G l n p q k o,<-PH G l m p q k o];have H:2^l*i<=2^l*1:=M0 _ A0;have I:2^l*j<=2^l*1:=M0 _ A0;exact h _ _ (by rw[F4];lia) (by rw[F4];lia)
 obtain⟨x,y,z,w,e,_⟩:=ok.four hn;obtain⟨D,E,F,C,g,_⟩:=ok.four hm;obtain⟨r,s,t,u⟩:=Et e;obtain⟨v,A,b2,B⟩:=Et g;have b:=a 0 0 A4 A4;have c:=a 1 0 A4 A4;have d:=a 0 1 A4 A4;have f:=a 1 1 A4 A4;have b:x=D:=r.symm.trans (b.trans v);have c:y=E:=s.symm.trans (c.trans A);have d:z=F:=t.symm.trans (d.trans b2);have f:w=C:=u.symm.trans (f.trans B);refine ok.one e g ?_;rw[b,c,d,f]
abbrev Sht:=Nat->Nat->Int
abbrev KTy:=Nat->Nat->Sht->Prop
def Vd(l:Nat)(φ ψ:Sht):Prop:=∀x y,x<2^(l+2)->y<2^(l+2)->φ x y=ψ x y
def s47(f:L_):Nat:=((List.range 47).map f).sum
theorem Vl(f:L_)(e:Nat):∀l:List Nat,l.Nodup->(l.map λi=>if i=e then f i+1 else f i).sum=(l.map f).sum+if e∈l then 1 else 0
|[],_=>by simp
|a::l,h=>by
 rw[N6]at h;rw[F7,F7,P3,P3,Vl f e l h.2];by_cases z:a=e
 .subst z;rw[Z9 rfl,Z6 h.1,Z9 C8];lia
 .rw[Z6 z];by_cases y:e∈l
  .rw[Z9 y,Z9 (C7 _ y)];lia
  .rw[Z6 y,Z6 (λq=>by rcases C2.mp q with rfl|q;exact z rfl;exact y q)];lia
theorem VB(f:L_){e:Nat}(h:e<47):s47 (λi=>if i=e then f i+1 else f i)=s47 f+1:=by
 unfold s47;rw[Vl f e _ List.nodup_range,Z9 (F5.mpr h)]
theorem RX{α β:Type}(R:α->β->Prop)(inj:∀x f y,R x y->R f y->x=f):∀(l:List β)(ks:List α),ks.Nodup->(∀k∈ks,∃y∈l,R k y)->ks.length<=l.length
|[],ks,_,h=>by
 cases ks with
 |nil=>exact C1 _
 |cons k ks=>obtain⟨y,i,_⟩:=h k C8;cases i
|y::l,ks,nd,h=>by
 classical
 have j:=RX R inj l (ks.filter λk=>decide (¬R k y)) (nd.sublist List.filter_sublist) λk b=>by
  rw[U0,decide_eq_true_iff]at b;obtain⟨z,c,e⟩:=h k b.1;rcases C2.mp c with rfl|c
  .exact absurd e b.2
  .exact⟨z,c,e⟩
 have few:∀ks:List α,ks.Nodup->ks.length<=(ks.filter λk=>decide (¬R k y)).length+1:=by
  intro ks;induction ks with
  |nil=>intro _;exact J0 _
  |cons k ks d =>
   intro a;rw[N6]at a;by_cases z:R k y
   .have:ks.filter (λk=>decide (¬R k y))=ks:=List.filter_eq_self.mpr λx g=>Z7 λq=>a.1 (by rw[inj k x y z q];exact g);rw[List.filter_cons_of_neg (by simp[z]),this,D7];exact C1 _
   .rw[List.filter_cons_of_pos (by simp[z]),D7,D7];have:=d a.2;lia
 have:=few ks nd;rw[D7];lia
structure Gj(Κ:KTy)(N:Nat):Prop where
ls:∃M:Nat->Nat,s47 M<=N/\∀e,∃Ls:List (Nat×Sht),Ls.length<=M e/\∀l φ,Κ l e φ->∃ψ,(l,ψ)∈Ls/\Vd l φ ψ
ext:∀{l e φ ψ},Κ l e φ->Vd l φ ψ->Κ l e ψ
theorem Vm(f:L_):∀(l:J_){e:Nat},e∈l->f e<=(l.map f).sum
|a::l,e,h=>by
 rw[F7,P3];rcases C2.mp h with rfl|h
 .exact S5 _ _
 .exact D1 (Vm f l h) (Nat.le_add_left _ _)
theorem Ma{f g:L_}:∀{l:J_},(∀e∈l,f e<=g e)->(l.map f).sum<=(l.map g).sum
|[],_=>C1 _
|a::l,h=>by
 have:=Ma (l:=l) λe b=>h e (C7 _ b);have:=h a C8;rw[F7,P3,F7,P3];lia
structure Cn(H:Hp)(G:Gv)(m:MA)(Κ:KTy)(b:Nat)(f:L_):Prop where
sq:∀(e:Nat) d,m.ds[e]?=some d->∃kv,H d=some (.dK kv)/\kv.length=f e/\(kv.map (·.1)).Nodup/\∀k∈kv.map (·.1),∃n l:Nat,k=Sum.inl (n:Int)/\Al G n ((l+2:Nat):Int)/\Κ l e (CC G (l+2) n)
gl:G.length<=b+10*s47 f
ce:∃kc,H m.kc=some (.dT kc)/\kc.length<=b+10*s47 f
theorem Cn.few'{H:Hp}{G:Gv}{m:MA}{Κ:KTy}{b:Nat}{f M:L_}(h:Cn H G m Κ b f)(ok:GOk G)(fin:∀e,∃a:List (Nat×Sht),a.length<=M e/\∀l φ,Κ l e φ->∃ψ,(l,ψ)∈a/\Vd l φ ψ)(len:m.ds.length=47){e:Nat}(t:e<47):f e<=M e:=by
 have g:e<m.ds.length:=by rw[len];exact t
 obtain⟨v,_,p,r,s⟩:=h.sq e (m.ds[e]'g) (C6 _);obtain⟨a,w,z⟩:=fin e;refine D1 ?_ w;rw[<-p,<-B8 (f:=(·.1)) (as:=v)];refine RX (λ(k:Key)(q:Nat×Sht)=>∃n:Nat,k=Sum.inl (n:Int)/\Al G n ((q.1+2:Nat):Int)/\Vd q.1 (CC G (q.1+2) n) q.2) ?_ a _ r λk u=>?_
 .rintro x D ⟨l,ψ⟩ ⟨n,rfl,c,d⟩ ⟨C,rfl,o,b2⟩;rw[Sj ok _ c o λx y i j=>(d x y i j).trans (b2 x y i j).symm]
 .obtain⟨n,l,rfl,c,d⟩:=s k u;obtain⟨ψ,A,B⟩:=z l _ d;exact⟨_,A,n,rfl,c,B⟩
theorem Cn.sum{H:Hp}{G:Gv}{m:MA}{Κ:KTy}{b N:Nat}{f:L_}(h:Cn H G m Κ b f)(ok:GOk G)(fin:Gj Κ N)(len:m.ds.length=47):s47 f<=N:=by
 obtain⟨M,a,c⟩:=fin.ls;exact D1 (Ma λe d=>h.few' ok c len (F5.mp d)) a
theorem Cn.few{H:Hp}{G:Gv}{m:MA}{Κ:KTy}{b N:Nat}{f:L_}(h:Cn H G m Κ b f)(ok:GOk G)(fin:Gj Κ N)(len:m.ds.length=47){e:Nat}(a:e<47):f e<=N:=D1 (Vm f _ (F5.mpr a)) (h.sum ok fin len)
theorem Cn.mono{H:Hp}{G:Gv}{m:MA}{Κ:KTy}{b a:Nat}{f:L_}(h:Cn H G m Κ b f)(e:b<=a):Cn H G m Κ a f:=by
 obtain⟨d,c,g⟩:=h.ce;have:=h.gl;exact⟨h.sq,by lia,d,c,by lia⟩
theorem Cn.kp{H g:Hp}{G r:Gv}{m:MA}{Κ:KTy}{b i:Nat}{f:L_}(h:Cn H G m Κ b f)(ok:GOk G)(j:AH G r i)(z:∀d∈m.ds,∀o,H d=some o->g d=some o)(A:∀c,H m.kc=some (.dT c)->∃a,g m.kc=some (.dT a)/\a.length<=c.length+i):Cn g r m Κ (b+i) f:=by
 refine⟨λe d t=>?_,?_,?_⟩
 .obtain⟨B,p,u,q,v⟩:=h.sq e d t;refine⟨B,z d (D0 t) _ p,u,q,λk y=>?_⟩;obtain⟨n,l,w,s,x⟩:=v k y;exact⟨n,l,w,j.lev s,by rw[CY ok j s];exact x⟩
 .have:=h.gl;have:=j.few;lia
 .obtain⟨c,p,u⟩:=h.ce;obtain⟨a,q,v⟩:=A c p;exact⟨a,q,by lia⟩
structure JZ(a:Ad)(H:Hp)(g:GA)(G:Gv)(Κ:KTy)(N b:Nat)(p dx mem pr:R_)(r:Az)(m:MA):Prop where
jw:JW a H g G N (b+10*N) p dx mem pr r m
cn:∃f,Cn H G m Κ b f
section
variable{a:Ad}{H H':Hp}{g:GA}{G G':Gv}{Κ:KTy}{N b i:Nat}{p dx mem pr:R_}{r:Az}{m:MA}
theorem JZ.sz(h:JZ a H g G Κ N b p dx mem pr r m)(fin:Gj Κ N):G.length<=b+10*N:=by
 obtain⟨f,c⟩:=h.cn;have:=c.gl;have:=c.sum h.jw.ok fin h.jw.me.len;lia
theorem JZ.mono{d:Nat}(h:JZ a H g G Κ N b p dx mem pr r m)(e:b<=d):JZ a H g G Κ N d p dx mem pr r m:=by
 obtain⟨f,c⟩:=h.cn;exact⟨h.jw.mono (C1 _) A0,f,c.mono e⟩
theorem JZ.same(h:JZ a H g G Κ N b p dx mem pr r m)(s:AC H H'):JZ a H' g G Κ N b p dx mem pr r m:=by
 obtain⟨f,c⟩:=h.cn;exact⟨JW.same s h.jw,f,c.kp (i:=0) h.jw.ok (AH.refl h.jw.ok) (λd _ o e=>s _ _ e) λj e=>⟨j,s _ _ e,C1 _⟩⟩
theorem JZ.fr(h:JZ a H g G Κ N b p dx mem pr r m)(f:Fr g H H')(k:AJ a H' g G')(n:AH G G' i):JZ a H' g G' Κ N (b+i) p dx mem pr r m:=by
 obtain⟨s,c⟩:=h.cn;obtain⟨x,q,_⟩:=h.jw.gr.pt;refine⟨(h.jw.fr f k n).mono (C1 _) A0,s,c.kp h.jw.ok n (λd t o e=>?_) λv e=>⟨v,?_,by lia⟩⟩
 .obtain⟨j,u⟩:=F6 t;obtain⟨w,l,_⟩:=c.sq j d u;rw[e]at l;cases l;exact f _ _ e (AG e h.jw.gr.lv A3) (AG e q A3) (AG e h.jw.gr.nm A3)
 .exact f _ _ e (AG e h.jw.gr.lv A3) (AG e q A3) h.jw.me.ap.2.2
def No(H:Hp)(m:MA)(e n:Nat):Prop:=∀d kv,m.ds[e]?=some d->H d=some (.dK kv)->BR kv (Sum.inl (n:Int))=none
def Up(l:Nat)(G:Gv)(H H':Hp)(m:MA):Prop:=∀e n l':Nat,Al G n ((l'+2:Nat):Int)->l<=l'->No H m e n->No H' m e n
theorem Up.refl(l:Nat)(G:Gv)(H:Hp)(m:MA):Up l G H H m:=λ_ _ _ _ _ h=>h
theorem Up.trans{l:Nat}{c d f:Hp}(h:Up l G c d m)(k:Up l G' d f m)(t:AH G G' i):Up l G c f m:=λe n q j o s=>k e n q (t.lev j) o (h e n q j o s)
theorem Up.mono{l c:Nat}(h:Up l G H H' m)(e:l<=c):Up c G H H' m:=λk n o d f j=>h k n o d (D1 e f) j
theorem Up.of(l:Nat){N M:Nat}(q:Ib H g G N M r m)(k:∀d∈m.ds,∀o,H d=some o->H' d=some o):Up l G H H' m:=λe n u _ _ h d t c j=>by
 obtain⟨s,f,_⟩:=q.sq e d c;have:=k d (D0 c) _ f;rw[j]at this;cases this;exact h d _ c f
theorem JZ.upS(l:Nat)(h:JZ a H g G Κ N b p dx mem pr r m)(s:AC H H'):Up l G H H' m:=Up.of l h.jw.me λd _ o e=>s _ _ e
theorem JZ.upF(l:Nat)(h:JZ a H g G Κ N b p dx mem pr r m)(f:Fr g H H'):Up l G H H' m:=Up.of l h.jw.me λd n o e=>by
 obtain⟨t,k,_⟩:=h.jw.gr.pt;obtain⟨j,q⟩:=F6 n;obtain⟨s,c,_⟩:=h.jw.me.sq j d q;rw[e]at c;cases c;exact f _ _ e (AG e h.jw.gr.lv A3) (AG e k A3) (AG e h.jw.gr.nm A3)
theorem JW.tc{M:Nat}{c:List (List Key×V)}(h:JW a H g G N M p dx mem pr r m)(e:H m.kc=some (.dT c)):JW a H g G N c.length p dx mem pr r m:=by
 obtain⟨j,d,_,f⟩:=h.me.ce;rw[e]at d;cases d;exact⟨h.gr,h.ok,h.bs,h.br,h.nbr,h.hp,h.ru,h.rok,h.rest,⟨h.me.tp,h.me.l,h.me.ap,h.me.len,h.me.nd,h.me.sq,_,e,C1 _,f⟩⟩
theorem JZ.mid{f:L_}{t:List (List Key×V)}(h:JZ a H g G Κ N b p dx mem pr r m)(c:Cn H G m Κ b f)(s:H m.kc=some (.dT t))(fr:FrC g m H H')(k:JW a H' g G' N (t.length+4) p dx mem pr r m)(B:AH G G' 1):JZ a H' g G' Κ N (b+4) p dx mem pr r m/\∀l,Up l G H H' m:=by
 obtain⟨I,C,_⟩:=h.jw.gr.pt;have y:∀d∈m.ds,∀o,H d=some o->H' d=some o:=λd D o e=>by
  obtain⟨j,k⟩:=F6 D;obtain⟨F,x,_⟩:=h.jw.me.sq j d k;rw[e]at x;cases x;exact fr _ _ e (AG e h.jw.gr.lv A3) (AG e C A3) (AG e h.jw.gr.nm A3) (AG e s A3)
 obtain⟨q,v,z,A⟩:=k.me.ce;obtain⟨u,w,E,_⟩:=h.jw.me.ce;rw[s]at w;cases w;have n:=k.me;refine⟨⟨⟨k.gr,k.ok,k.bs,k.br,k.nbr,k.hp,k.ru,k.rok,k.rest,⟨n.tp,n.l,n.ap,n.len,n.nd,n.sq,q,v,by lia,A⟩⟩,f,c.kp (i:=4) h.jw.ok (B.mono A4) y λu e=>⟨q,v,by rw[s]at e;cases e;exact z⟩⟩,λl=>Up.of l h.jw.me y⟩
theorem JZ.put{e n k l:Nat}{d:R_}{t:List (Key×V)}(h:JZ a H g G Κ N (b+10) p dx mem pr r m)(fin:Gj Κ N)(B:m.ds[e]?=some d)(F:H d=some (.dK t))(no:BR t (Sum.inl (n:Int))=none)(S:Al G n ((l+2:Nat):Int))(hk:Κ l e (CC G (l+2) n))(jr:JR r G e n k):JZ a (upd H d (.dK (EV t (Sum.inl (n:Int)) (.int (k:Int))))) g G Κ N b p dx mem pr r m/\Up (l+1) G H (upd H d (.dK (EV t (Sum.inl (n:Int)) (.int (k:Int))))) m:=by
 obtain⟨f,c⟩:=h.cn;have D:e<47:=by rw[<-h.jw.me.len];exact(B9.mp B).1
 have o:=h.jw.putS B F jr;obtain⟨ab,U,q2,q3,q4⟩:=c.sq e d B;rw[F]at U;cases U;have T:=Mq (.int (k:Int)) no;rw[T]at o⊢;have nn:(Sum.inl (n:Int):Key)∉t.map (·.1):=λz=>by
  obtain⟨q,hq,eq⟩:=F0.mp z;have:(t.find? λt=>decide (t.1=(Sum.inl (n:Int):Key)))=none:=by
   unfold BR at no;cases y:t.find? λt=>decide (t.1=(Sum.inl (n:Int):Key))with
   |none=>rfl
   |some w=>rw[y]at no;cases no
  have:=List.find?_eq_none.mp this q hq;exact this (Z7 eq)
 obtain⟨kc,Q,c2⟩:=c.ce;have gl:=c.gl;have oth:∀{d':R_}{s:Nat},m.ds[s]?=some d'->s≠e->d'≠d:=λ{d' s} j z y=>z (by
  rw[y]at j;exact(List.getElem?_inj (B9.mp j).1 h.jw.me.nd).mp (j.trans B.symm))
 have v:Cn (upd H d (.dK (t++[(Sum.inl (n:Int),.int (k:Int))]))) G m Κ b (λi=>if i=e then f i+1 else f i):=by
  refine⟨λs d' j=>?_,by rw[VB f D];lia,kc,?_,by rw[VB f D];lia⟩
  .by_cases z:s=e
   .subst z;rw[B]at j;cases j;refine⟨_,Ag,by rw[Z9 rfl,C5,q2];rfl,?_,λk' E=>?_⟩
    .rw[C4,Q8];refine⟨q3,by simp,λx hx y hy=>?_⟩;rw[C9.mp hy];exact λz=>nn ((show x=Sum.inl (n:Int)from z)▸hx)
    .rw[C4]at E;rcases F1.mp E with y|y
     .exact q4 k' y
     .rw[C9.mp y];exact⟨n,l,rfl,S,hk⟩
   .obtain⟨C,L,M,I,O⟩:=c.sq s d' j;exact⟨C,by rw[Av (oth j z)];exact L,by rw[Z6 z];exact M,I,O⟩
  .rw[Av (AG Q F A3)];exact Q
 refine⟨⟨?_,_,v⟩,λs n' l' Z a2 P d' C j A=>?_⟩
 .have fw:∀{s:Nat},s<47->(if s=e then f s+1 else f s)<=N:=λ{s} he=>v.few h.jw.ok fin h.jw.me.len he;have sm:=v.sum h.jw.ok fin h.jw.me.len;obtain⟨K,R,d2⟩:=v.ce;have u:=o.me;obtain⟨aa,W,r2,r3⟩:=u.ce;rw[R]at W;cases W;refine⟨o.gr,o.ok,o.bs,o.br,o.nbr,o.hp,o.ru,o.rok,o.rest,⟨u.tp,u.l,u.ap,u.len,u.nd,λs d' j=>?_,K,R,by lia,r3⟩⟩;obtain⟨kw,X,u2,u3,u4⟩:=u.sq s d' j;obtain⟨ac,Y,v2,_⟩:=v.sq s d' j;rw[X]at Y;cases Y;exact⟨kw,X,by rw[v2];exact fw (by rw[<-h.jw.me.len];exact(B9.mp j).1),u3,u4⟩
 .by_cases z:s=e
  .subst z;rw[B]at j;cases j;rw[Ag]at A;cases A;rw[<-T,LZ];have ne:n'≠n:=λy=>by
    subst y;have:((l'+2:Nat):Int)=((l+2:Nat):Int):=by
     obtain⟨q,L,M⟩:=Z;obtain⟨q',I,O⟩:=S;rw[L]at I;cases I;exact M.symm.trans O
    lia
   rw[Z6 (λy=>ne (by have:=Sum.inl.inj y;lia))];exact P d t B F
  .rw[Av (oth j z)]at A;exact P d' C j A
end
seal L2.PA L2.PE L2.PS L2.PSs L2.PT L2.PW
structure ClK(r:Az)(Κ:KTy):Prop where
nine1:∀{l e φ},Κ (l+1) e φ->e<=l->∀i j,i<3->j<3->Κ l e λx y=>φ (x+2^(l+1)*i) (y+2^(l+1)*j)
nine2:∀{l φ},Κ (l+1) (l+1) φ->∀i j,i<3->j<3->Κ l l λx y=>φ (x+2^(l+1)*i) (y+2^(l+1)*j)
four:∀{l φ},Κ (l+1) (l+1) φ->∀i j,i<2->j<2->Κ l l λx y=>Bq r (2^l) φ (x+(2^(l+1)*i+2^l)) (y+(2^(l+1)*j+2^l))
theorem Al.one{G:Gv}{n:Nat}{i j:Int}(h:Al G n i)(k:Al G n j):i=j:=by
 obtain⟨q,b,c⟩:=h;obtain⟨p,a,d⟩:=k;rw[b]at a;cases a;exact c.symm.trans d
theorem JR.view{r:Az}{G:Gv}{c:Nat->Nat->Int}{e n m l X Y:Nat}(h:JR r G e n m)(o:Al G n ((l+2:Nat):Int))(v:Vw G c (l+2) n X Y):Al G m ((l+1:Nat):Int)/\e<=l/\Vw G (Bq r (2^e) c) (l+1) m (X+2^l) (Y+2^l):=by
 apply AL;intro d a;obtain⟨k,g,b,i,j⟩:=h;apply a;clear a d;have f:k=l:=by
  have:=g.one o;lia
 subst f;exact⟨i,b,v.jump b j⟩
theorem Vw.jr{r:Az}{G:Gv}{e n m l:Nat}(c:Al G n ((l+1+2:Nat):Int))(a:e<=l+1)(b:Al G m ((l+1+1:Nat):Int))(v:Vw G (Bq r (2^e) (CC G (l+1+2) n)) (l+1+1) m (2^(l+1)) (2^(l+1))):JR r G e n m:=⟨l+1,c,a,b,v⟩
theorem ZL{G d:Gv}{c:Nat->Nat->Int}{l f g h k z X Y i:Nat}(ok:GOk G)(b:AH G d i)(n:Al G f ((l+1:Nat):Int))(o:Al G g ((l+1:Nat):Int))(p:Al G h ((l+1:Nat):Int))(r:Al G k ((l+1:Nat):Int))(w:Vw G c (l+1) f X Y)(x:Vw G c (l+1) g (X+2^(l+1)) Y)(y:Vw G c (l+1) h X (Y+2^(l+1)))(A:Vw G c (l+1) k (X+2^(l+1)) (Y+2^(l+1)))(e:d[z]?=some ⟨[((qO G f 3:Nat):Int),((qO G g 2:Nat):Int),((qO G h 1:Nat):Int),((qO G k 0:Nat):Int)],(l:Int)+1⟩):Vw d c (l+1) z (X+2^l) (Y+2^l):=by
 have F:2^(l+1)=2^l*2:=F4 ..;apply AL;intro m a;obtain⟨B,C,D,E⟩:=Et e;apply a;clear a m;have s:=(w.q (i:=1) (j:=1) A4 A4).goes ok b (LR ok n A4);have t:=(x.q (i:=0) (j:=1) A4 A4).goes ok b (LR ok o A4);have u:=(y.q (i:=1) (j:=0) A4 A4).goes ok b (LR ok p A4);have v:=(A.q (i:=0) (j:=0) A4 A4).goes ok b (LR ok r A4);refine Vw.of ?_ ?_ ?_ ?_
 .rw[B];exact s.at' A0 A0
 .rw[C];exact t.at' A0 A0
 .rw[D];exact u.at' A0 A0
 .rw[E];exact v.at' A0 A0
theorem ND{G d:Gv}{c:Nat->Nat->Int}{l f g h j z X Y i:Nat}{L:Int}(ok:GOk G)(b:AH G d i)(m:Al G f (l:Int))(n:Al G g (l:Int))(o:Al G h (l:Int))(p:Al G j (l:Int))(q:Vw G c l f X Y)(r:Vw G c l g (X+2^l) Y)(s:Vw G c l h X (Y+2^l))(t:Vw G c l j (X+2^l) (Y+2^l))(e:d[z]?=some ⟨[(f:Int),(g:Int),(h:Int),(j:Int)],L⟩):Vw d c (l+1) z X Y:=by
 apply AL;intro k a;obtain⟨u,v,w,x⟩:=Et e;apply a;clear a k;refine Vw.of ?_ ?_ ?_ ?_
 .rw[u];exact q.goes ok b m
 .rw[v];exact r.goes ok b n
 .rw[w];exact s.goes ok b o
 .rw[x];exact t.goes ok b p
theorem VN:∀xs:List Nat,xs.length=9->∃a b c d e f g h i,xs=[a,b,c,d,e,f,g,h,i]
|[a,b,c,d,e,f,g,h,i],_=>⟨a,b,c,d,e,f,g,h,i,rfl⟩
theorem Py:∀xs:List Nat,xs.length=4->∃a b c d,xs=[a,b,c,d]
|[a,b,c,d],_=>⟨a,b,c,d,rfl⟩
def toV(k:Nat):V:=.int (k:Int)
def Nine(G:Gv)(c:Nat->Nat->Int)(l X:Nat)(ys:J_):Prop:=∀i j,i<3->j<3->∃y,ys[i+3*j]?=some y/\Al G y (l:Int)/\Vw G c l y (2^l*i+X) (2^l*j+X)
theorem Qx {r:Az} {b d:Gv} {c:Nat->Nat->Int} {l e x:Nat} {ks ys:J_} (ok:GOk b) (f:AH b d x) (h:∀i j,i<3->j<3->∃k,ks[i+3*j]?=some k/\Al b k ((l+1+1:Nat):Int)/\Vw b c (l+1+1) k (2^(l+1)*i) (2^(l+1)*j)) (u:Paired (λk y=>JR r d e k y) ks ys):Nine d (Bq r (2^e) c) (l+1) (2^l) ys:=λi j s t=>by
 apply AL;intro m a;obtain⟨k,n,g,o⟩:=h i j s t;obtain⟨y,p,q⟩:=Paired.get u n;obtain⟨v,_,w⟩:=q.view (f.lev g) (o.goes ok f g);apply a;clear a m;exact⟨y,p,v,w⟩
theorem Pf{G:Gv}{c:Nat->Nat->Int}{l X:Nat}{H:Hp}{x n y o g p z q A:Nat}{r s u v:R_}(m:Nine G c l X [x,n,y,o,g,p,z,q,A])(B:H r=some (.tup [.int x,.int n,.int o,.int g]))(C:H s=some (.tup [.int n,.int y,.int g,.int p]))(D:H u=some (.tup [.int o,.int g,.int z,.int q]))(E:H v=some (.tup [.int g,.int p,.int q,.int A]))(t:Nat)(w:R_)(a:[r,s,u,v][t]?=some w) :
  ∃b d e f:Nat,H w=some (.tup [.int b,.int d,.int e,.int f])/\(Al G b (l:Int)/\Al G d (l:Int)/\Al G e (l:Int)/\Al G f (l:Int))/\Vw G c l b (2^l*(t%2)+X) (2^l*(t/2)+X)/\Vw G c l d (2^l*(t%2)+X+2^l) (2^l*(t/2)+X)/\Vw G c l e (2^l*(t%2)+X) (2^l*(t/2)+X+2^l)/\Vw G c l f (2^l*(t%2)+X+2^l) (2^l*(t/2)+X+2^l):=by
 have M:t<4:=(B9.mp a).1;have R:=Nat.mul_succ (2^l) (t%2);have S:=Nat.mul_succ (2^l) (t/2);obtain⟨b,h,F,N⟩:=m (t%2) (t/2) A0 A0;obtain⟨d,i,I,O⟩:=m (t%2+1) (t/2) A0 A0;obtain⟨e,j,K,P⟩:=m (t%2) (t/2+1) A0 A0;obtain⟨f,k,L,Q⟩:=m (t%2+1) (t/2+1) A0 A0;refine⟨b,d,e,f,?_,⟨F,I,K,L⟩,N,O.at' A0 rfl,P.at' rfl A0,Q.at' A0 A0⟩
 match t,M,a with
 |0,_,a=>cases h;cases i;cases j;cases k;cases a;exact B
 |1,_,a=>cases h;cases i;cases j;cases k;cases a;exact C
 |2,_,a=>cases h;cases i;cases j;cases k;cases a;exact D
 |3,_,a=>cases h;cases i;cases j;cases k;cases a;exact E
theorem Sn{α:Type}{P:Nat->α->Prop}{zs:List α}{z:α}{i:Nat}(b:zs.length=i)(h:∀t a,zs[t]?=some a->P t a)(c:P i z):∀t a,(zs++[z])[t]?=some a->P t a:=λt a e=>by
 by_cases d:t<i
 .rw[M8 A0]at e;exact h t a e
 .have:t=i:=by
   have:=(B9.mp e).1;rw[C5,b]at this;have:t<i+1:=this;lia
  subst this;rw[J6 A0,b,U4]at e;cases e;exact c
section
variable{P:N_}{w:Q_}{K:O_}{mg:C_}{base:T_}{a:Ad}
inductive SpRecA(a:Ad)(L:Nat)(vs:List V)(H:Hp)(Q:VK):Prop
|mk (p dx mem pr:R_) (g:GA) (G:Gv) (Κ:KTy) (N b:Nat) (r:Az) (m:MA) (n l e:Nat) (_:vs=[.ref p,.int n,.int e]) (_:JZ a H g G Κ N b p dx mem pr r m) (_:Gj Κ N) (_:ClK r Κ) (_:Al G n ((l+2:Nat):Int)) (_:l<L) (_:e<=l) (_:Κ l e (CC G (l+2) n)) (_:b+10*N+10*(l+1)<8000000) (_:∀(k:Nat)(G':Gv)(H':Hp)(i:Nat),FrJ g m H H'->JZ a H' g G' Κ N b p dx mem pr r m->AH G G' i->JR r G' e n k->Up (l+1) G H H' m->Q (.int k) H'):SpRecA a L vs H Q
def FG(a:Ad)(L:Nat):Sp:=λvs H Q _=>SpRecA a L vs H Q
inductive SpFreA(a:Ad)(L:Nat)(vs:List V)(H:Hp)(Q:VK):Prop
|mk (p dx mem pr:R_) (g:GA) (G:Gv) (Κ:KTy) (N b:Nat) (r:Az) (m:MA) (n l e:Nat) (_:vs=[.ref p,.int n,.int e]) (_:JZ a H g G Κ N b p dx mem pr r m) (_:Gj Κ N) (_:ClK r Κ) (_:Al G n ((l+2:Nat):Int)) (_:l<L) (_:e<=l) (_:Κ l e (CC G (l+2) n)) (_:b+10*N+10*(l+1)<8000000) (_:∀(k:Nat)(G':Gv)(H':Hp)(i:Nat),FrJ g m H H'->JZ a H' g G' Κ N (b+10) p dx mem pr r m->AH G G' i->JR r G' e n k->Up l G H H' m->Q (.int k) H'):SpFreA a L vs H Q
def Uo(a:Ad)(L:Nat):Sp:=λvs H Q _=>SpFreA a L vs H Q
inductive Wo(a:Ad)(L:Nat)(vs:List V)(H:Hp)(Q:VK):Prop
|mk (p dx mem pr:R_) (g:GA) (G:Gv) (Κ:KTy) (N b:Nat) (r:Az) (m:MA) (n l:Nat) (_:vs=[.ref p,.int n,.int ((l+1:Nat):Int)]) (_:JZ a H g G Κ N b p dx mem pr r m) (_:Gj Κ N) (_:ClK r Κ) (_:Al G n ((l+1+2:Nat):Int)) (_:l<L) (_:Κ (l+1) (l+1) (CC G (l+1+2) n)) (_:b+10*N+10*(l+2)<8000000) (_:∀(A:R_)(f0 f1 f2 f3:Nat)(G':Gv)(H':Hp)(i:Nat),FrJ g m H H'->JZ a H' g G' Κ N (b+9) p dx mem pr r m->AH G G' i->Up (l+1) G H H' m->H' A=some (.lst [toV f0,toV f1,toV f2,toV f3])->(Al G' f0 ((l+2:Nat):Int)/\Al G' f1 ((l+2:Nat):Int)/\Al G' f2 ((l+2:Nat):Int)/\Al G' f3 ((l+2:Nat):Int))->(Vw G' (Bq r (2^l) (CC G (l+1+2) n)) (l+2) f0 (2^l) (2^l)/\Vw G' (Bq r (2^l) (CC G (l+1+2) n)) (l+2) f1 (2^l+2^(l+1)) (2^l)/\Vw G' (Bq r (2^l) (CC G (l+1+2) n)) (l+2) f2 (2^l) (2^l+2^(l+1))/\Vw G' (Bq r (2^l) (CC G (l+1+2) n)) (l+2) f3 (2^l+2^(l+1)) (2^l+2^(l+1)))->Q (.ref A) H'):Wo a L vs H Q
def Rj(a:Ad)(L:Nat):Sp:=λvs H Q _=>Wo a L vs H Q
theorem Zv{L d:Nat}(F:Fun K "four_halfway" "Jumps.four_halfway" Bu f fd)(T:Top K mg a)(d3:3<=d)(aQ:Cal P w K mg base CX0 3 "nine_parts" Lj (OD a))(aU:Cal P w K mg base CX0 1 "fours_of" UG Md)(a9:BD P w K mg base CX0 2 a.c_Grove "linked" AU (DS a))(aE:BD P w K mg base CX0 d a.c_Jumps "reckoned" Qh (FG a L)):AK P w K mg base CX0 (d+1) f fd Qh (Rj a L):=by
 refine F.ok Es (λvs H Q E h=>?_) (λbb A a7 s H vs Q E hr h=>?_)
 .apply AL;intro C c;obtain⟨p,dx,mem,pr,g,G,Κ,N,b,r,m,n,l,rfl,_⟩:=h;apply c;clear c C;rfl
 .apply AL;intro C c;obtain⟨p,dx,mem,pr,g,G,Κ,N,b,r,m,n,l,rfl,hz,fin,cl,hl,hL,a4,few,k⟩:=h;have hj:=hz.jw;have sz:=hz.sz fin;apply c;clear c C;refine⟨_,(Ac (IH (i:=3) rfl Es.nd rfl rfl (Bz.of (So:=Ah Bu) (No:=Dl) (N:=["part","self","e"]) (k:=1) (cs:=[0,2]) rfl rfl A1) (Cg (Ar aQ (rm hr) rfl Am (Aa (AF (pv 0) rfl) (Aa (pv 1) Ab)))) (λ_ _ _=>(Bd (i:=0) A1 rfl rfl)) (λ_ _ _=>BG) (λ_ _ _=>(AD (pv 1) aE (rm hr) Am (Aa (pv 0) (Bl BJ (pv 2) Ae Ab))))) (Af (Au (BW rfl (Bz.of (So:=Ah Bu) (No:=Dl) (N:=["four","self"]) (k:=1) (cs:=[0]) rfl rfl A1) (Cg (Ar aU (rm hr) rfl Am (Aa (pv 3) Ab))) (λ_ _ _=>(Bd (i:=0) A1 rfl rfl)) (λ_ _ _=>BG) (λ_ _ _=>(AD (Op (K:=K) rfl (pv 1) rfl) a9 (rm hr) Am (Aa (pv 0) Ab))))))),?_⟩
  try dsimp only[cxK]
  obtain⟨q9,aq,bc⟩:=id hl;have be:l<=45:=by have:=(hj.ok.lev aq).2;lia
  refine xwf rfl rfl hj.hp T.cl_Jumps T.na_Jumps_grove (En _ _ _ _ _) (xq1 rfl ⟨g,G,n,l+1,rfl,hj.gr,hj.ok,hl,by lia,by lia,λA9 ks G3 H3 ac ax I am l9 nine=>?_⟩);have af:=hz.fr ac ax I;have M:=af.jw;have bf:=af.sz fin
  skip
  have ao:∀(t k:Nat),ks[t]?=some k->Al G3 k ((l+2:Nat):Int):=λt k e=>by
   have ht:=(B9.mp e).1;obtain⟨k',e1,e2,_⟩:=nine (t%3) (t/3) A0 A0;rw[show t%3+3*(t/3)=t by lia,e]at e1;cases e1;exact e2
  have a6:∀(t k:Nat),ks[t]?=some k->Κ l l (CC G3 (l+2) k):=λt k e=>by
   have ht:=(B9.mp e).1;obtain⟨k',e1,_,v⟩:=nine (t%3) (t/3) A0 A0;rw[show t%3+3*(t/3)=t by lia,e]at e1;cases e1;exact fin.ext (cl.nine2 a4 (t%3) (t/3) A0 A0) λx y hx hy=>(v x y hx hy).symm
  refine⟨A9,rfl,⟨_,SqL.of am⟩,?_⟩;refine Dp (xs:=ks.map λ(k:Nat)=>V.int (k:Int)) (λi u H5=>∃(Y:Gv)(ys:J_)(c5:Nat),u=ys.map toV/\ys.length=i/\FrJ g m H3 H5/\JZ a H5 g Y Κ N (b+5) p dx mem pr r m/\AH G3 Y c5/\Up (l+1) G3 H3 H5 m/\Paired (λk y=>JR r Y l k y) (ks.take i) ys) ⟨G3,[],0,rfl,rfl,λb o e _ _ _ _ _=>e,af,AH.refl M.ok,Up.refl _ _ _ _,.nil⟩ (λi u H5 _ z=>by obtain⟨_,_,_,_,_,fr,_⟩:=z;exact SqL.of ((fr.kps M.gr M.bs.long M.me) _ _ am (.lst (by rw[B8];lia)))) ?_ ?_
  .rintro i v u H5 ev aj;apply AL;intro C c;obtain⟨Y,ys,c5,rfl,ly,ad,R,q,ah,aa⟩:=aj;apply c;clear c C;rw[C0]at ev;obtain⟨k5,ek,rfl⟩:=D6.mp ev;have i9:i<9:=by have:=(B9.mp ek).1;lia
   have ae:=R.jw
   skip
   refine⟨⟨[some (.int (k5:Int))],rfl,rfl⟩,by rw[B8,ly];exact U7 i9 A4,Gm (xwn rfl rfl ae.hp (Mv _ _ _ _ _) rfl (xwb rfl rfl rfl ⟨p,dx,mem,pr,g,Y,Κ,N,b+5,r,m,k5,l,l,(show [V.ref p,V.int (k5:Int),V.int (((l+1:Nat):Int)-1)]=[V.ref p,V.int (k5:Int),V.int (l:Int)] by rw[show((l+1:Nat):Int)-1=(l:Int) by lia]),R,fin,cl,q.lev (ao i k5 ek),hL,C1 l,(by rw[CY M.ok q (ao i k5 ek)];exact a6 i k5 ek),by lia,λy G6 H6 c6 as X al a5 ba=>⟨G6,ys++[y],_,by rw[C4];rfl,by rw[C5,ly];rfl,ad.trans as,X,q.trans al,ah.trans ba q,?_⟩⟩))⟩;rw[F9,ek,R5];exact A1c (Paired.imp (λk y z=>z.goes ae.ok al) aa) a5
  rintro u H5 ai A5 av;apply AL;intro C c;obtain⟨Y,ys,c5,rfl,ly,ad,R,q,ah,aa⟩:=ai;have ae:=R.jw;apply c;clear c C;rw[B8,l9]at ly;rw[B8,J9]at aa;have nj:=Qx M.ok q nine aa;apply AL;intro C c;obtain⟨y0,y1,y2,y3,y4,y5,y6,y7,y8,rfl⟩:=VN ys ly;apply c;clear c C
  skip
  generalize dO:upd H5 A5 _=H6;obtain⟨s5,an⟩:=alc av dO;have X:=R.same s5;have bd:=X.jw;have ar:FrJ g m H H6:=(Fr.j ac).trans (ad.trans (AC.j s5));refine xq1 rfl ⟨A5,y0,y1,y2,y3,y4,y5,y6,y7,y8,rfl,an,λMM t0 t1 t2 t3 H7 s7 hM az a0 a1 a2=>?_⟩;have ag:=X.same s7;have W:=ag.jw;refine⟨MM,rfl,⟨_,SqL.of hM⟩,?_⟩;have p1:2^(l+1)=2^l*2:=F4 ..;have four:=Pf nj az a0 a1 a2;have ab:=W.ok;refine Dp (xs:=[t0,t1,t2,t3].map V.ref) (λi u H8=>∃(Z:Gv)(zs:J_),u=zs.map toV/\zs.length=i/\Fr g H7 H8/\JZ a H8 g Z Κ N (b+5+i) p dx mem pr r m/\AH Y Z i/\∀(t z:Nat),zs[t]?=some z->Al Z z ((l+2:Nat):Int)/\Vw Z (Bq r (2^l) (CC G (l+1+2) n)) (l+1+1) z (2^(l+1)*(t%2)+2^l) (2^(l+1)*(t/2)+2^l)) ⟨Y,[],rfl,rfl,Fr.refl g H7,ag,AH.refl ab,λt z e=>(nomatch e)⟩ (λi u H8 _ z=>by obtain⟨_,_,_,_,fr,_⟩:=z;exact SqL.of ((fr.kps W.gr W.bs.long) _ _ hM (.lst (by show 4<=50;decide)))) ?_ ?_
  .rintro i v u H8 ev aj;apply AL;intro C c;obtain⟨Z,zs,rfl,lz,S,D,B,vz⟩:=aj;have O:=D.jw;have a8:=D.sz fin;apply c;clear c C;rw[C0]at ev;obtain⟨tt,et,rfl⟩:=D6.mp ev;have i4:i<4:=(B9.mp et).1;apply AL;intro C c;obtain⟨f0,f1,f2,f3,a3,⟨m0,m1,m2,m3⟩,w0,w1,w2,w3⟩:=four i tt et;apply c;clear c C
   skip
   refine⟨⟨[some (.ref tt)],rfl,rfl⟩,by rw[B8,lz];exact U7 i4 A4,Gm (xwf rfl rfl O.hp T.cl_Jumps T.na_Jumps_grove (En _ _ _ _ _) (xq3 rfl O.gr.hp (BK g) (xq1 rfl ⟨g,Z,tt,f0,f1,f2,f3,((l+1:Nat):Int),rfl,O.gr,O.ok,(S.kps W.gr W.bs.long) _ _ a3 (.inl .tup),⟨B.lev m0,B.lev m1,B.lev m2,B.lev m3⟩,by lia,by lia,λz G9 H9 ak ay U e9=>⟨G9,zs++[z],by rw[C4];rfl,by rw[C5,lz];rfl,S.trans ak,D.fr ak ay U,B.trans U,?_⟩⟩)))⟩;refine Sn lz (λt z' e=>?_) ?_
   .obtain⟨q1,q2⟩:=vz t z' e;exact⟨U.lev q1,q2.goes O.ok U q1⟩
   .exact⟨⟨_,e9,by show((l+1:Nat):Int)+1=((l+2:Nat):Int);lia⟩,ND ab (B.trans U) m0 m1 m2 m3 w0 w1 w2 w3 e9⟩
  rintro u H8 ai A8 aw;apply AL;intro C c;obtain⟨Z,zs,rfl,lz,S,D,B,vz⟩:=ai;have O:=D.jw;have a8:=D.sz fin;apply c;clear c C;apply AL;intro C c;obtain⟨z0,z1,z2,z3,rfl⟩:=Py zs lz;apply c;clear c C;have s8:AC H8 (upd H8 A8 (.lst ([z0,z1,z2,z3].map toV))):=Aq aw;have au:AH Y Z 4:=B;obtain⟨q0,x0⟩:=vz 0 z0 rfl;obtain⟨q1,x1⟩:=vz 1 z1 rfl;obtain⟨q2,x2⟩:=vz 2 z2 rfl;obtain⟨q3,x3⟩:=vz 3 z3 rfl;refine k A8 z0 z1 z2 z3 Z _ _ (ar.trans ((AC.j s7).trans ((Fr.j S).trans (AC.j s8)))) (D.same s8) ((I.trans q).trans au) (((((hz.upF (l+1) ac).trans ah I).trans (R.upS _ s5) (I.trans q)).trans (X.upS _ s7) (I.trans q)).trans ((ag.upF _ S).trans (D.upS _ s8) B) (I.trans q)) Ag ⟨q0,q1,q2,q3⟩ ⟨x0.at' A0 A0,x1.at' A0 A0,x2.at' A0 A0,x3.at' A0 A0⟩
theorem ok_freA{L d:Nat}(F:Fun K "fresh" "Jumps.fresh" Co f fd)(T:Top K mg a)(d7:7<=d)(aF:BD P w K mg base CX0 7 a.c_Jumps "middle_after" JU (Rg a))(a9:BD P w K mg base CX0 2 a.c_Grove "linked" AU (DS a))(aQ:Cal P w K mg base CX0 3 "nine_parts" Lj (OD a))(aU:Cal P w K mg base CX0 1 "fours_of" UG Md)(aG:Cal P w K mg base CX0 3 "met_in_the_middle" Ct (Vt a))(aE:BD P w K mg base CX0 d a.c_Jumps "reckoned" Qh (FG a L))(cJ:BD P w K mg base CX0 (d+1) a.c_Jumps "four_halfway" Qh (Rj a L)):AK P w K mg base CX0 (d+2) f fd Qh (Uo a (L+1)):=by
 refine F.ok DY (λvs H Q E h=>?_) (λb6 A b1 s H vs Q E hr h=>?_)
 .apply AL;intro R c;obtain⟨p,dx,mem,pr,g,G,Κ,N,b,r,m,n,l,e,rfl,_⟩:=h;apply c;clear c R;rfl
 .apply AL;intro R c;obtain⟨p,dx,mem,pr,g,G,Κ,N,b,r,m,n,l,e,rfl,hz,fin,cl,hl,hL,he,a3,few,k⟩:=h;have U:=hz.jw;have sz:=hz.sz fin;obtain⟨q,eq,el⟩:=id hl;apply c;clear c R;have b8:=(U.ok.lev eq).2;have bz:l<=46:=by lia
  refine⟨_,(Ac (Ao (i:=3) DY.nd rfl (Or.inr rfl) (AF (pv 0) rfl)) (Ac (Ao (i:=4) DY.nd rfl O_9 (Aj Ax (AF (pv 3) rfl) (pv 1) R_9)) (Ac (AM (Ay CG (pv 1) (Aj Ax (AF (pv 3) rfl) (pv 4) R_9) (AE _)) (Af (Au (Aj Ax (AF (pv 3) rfl) (AA BJ (pv 4) Ae) R_9))) AB) (Ac (AM (Ay CG (pv 4) (BV rfl T.k_LEAST_JUMPED) (AE _)) (Af (Au (AD (pv 0) aF (rm hr) Am (Aa (pv 1) Ab)))) AB) (Ac (AM (Ay Ih (pv 2) (AA BJ (pv 4) (BV rfl T.k_LEAST_JUMPED)) (AE _)) (Ac (IH (i:=5) rfl DY.nd rfl rfl (Bz.of (So:=Ah Co) (No:=ES) (N:=["part","self","e"]) (k:=1) (cs:=[0,2]) rfl rfl A1) (Cg (Ar aQ (rm hr) rfl Am (Aa (pv 3) (Aa (pv 1) Ab)))) (λ_ _ _=>(Bd (i:=0) A1 rfl rfl)) (λ_ _ _=>BG) (λ_ _ _=>(AD (pv 1) aE (rm hr) Am (Aa (pv 0) (Aa (pv 2) Ab))))) (Af (Au (AD (pv 3) a9 (rm hr) Am (Aa (Bo Cp rfl T.b_tuple A0b (Aa (BW rfl (Bz.of (So:=Ah Co) (No:=ES) (N:=["four","grove"]) (k:=1) (cs:=[3]) rfl rfl A1) (Cg (Ar aU (rm hr) rfl Am (Aa (pv 5) Ab))) (λ_ _ _=>(Bd (i:=0) A1 rfl rfl)) (λ_ _ _=>BG) (λ_ _ _=>(Ar aG (rm hr) rfl Am (Aa (pv 1) (Aa (pv 0) Ab))))) Ab)) Ab))))) AB) (Af (Au (AD (pv 3) a9 (rm hr) Am (Aa (Bo Cp rfl T.b_tuple A0b (Aa (BW rfl (Bz.of (So:=Ah Co) (No:=ES) (N:=["four","self","e"]) (k:=1) (cs:=[0,2]) rfl rfl A1) (Cg (AD (pv 0) cJ (rm hr) Am (Aa (pv 1) (Aa (pv 2) Ab)))) (λ_ _ _=>(Bd (i:=0) A1 rfl rfl)) (λ_ _ _=>BG) (λ_ _ _=>(AD (pv 1) aE (rm hr) Am (Aa (pv 0) (Bl BJ (pv 2) Ae Ab))))) Ab)) Ab))))))))),?_⟩
  try dsimp only[cxK]
  refine xwf rfl rfl U.hp T.cl_Jumps T.na_Jumps_grove (En _ _ _ _ _) ?_;refine xq1 rfl ⟨g.p,_,g.dx,_,_,rfl,U.gr.hp,T.cl_Grove,T.na_Grove_levels,Eo g,_,rfl,g.lv,_,(n:Int),.int ((l+2:Nat):Int),rfl,rfl,SqL.of U.gr.lv,Ai (by rw[C0,eq,<-el];rfl),?_⟩;refine xq1 rfl (xq1 rfl ⟨g.p,_,g.dx,_,_,rfl,U.gr.hp,T.cl_Grove,T.na_Grove_bares,Lb g,_,rfl,g.br,_,((l+2:Nat):Int),.int (bareN (l+2):Int),rfl,rfl,SqL.of U.br,Ai (bareJ A0),rfl,_,rfl,?_⟩);refine Er (λhc=>?_) (λhc=>?_)
  .have ei:n=bareN (l+2):=by
    have:=K3 hc;injection this with this
    exact K1 this
   refine xwf rfl rfl U.gr.hp T.cl_Grove T.na_Grove_bares (Lb g) (xwb rfl rfl rfl (xq4 rfl rfl (SqL.of U.br) (by rw[show((l+2:Nat):Int)-1=((l+1:Nat):Int) by lia];exact Ai (bareJ A0)) ?_));refine k (bareN (l+1)) G H 0 (λb o e _ _ _ _ _=>e) (hz.mono A0) (AH.refl U.ok) ?_ (Up.refl _ _ _ _);rw[ei];exact JR.bare U.ok U.bs U.rest A0 he
  refine xq1 rfl ⟨rfl,(xq1 rfl ?_)⟩;cases l with
  |zero =>
   refine(show ∀{b:Bool}{A B:Prop},b=true->A->(if b=true then A else B)from λh x=>by rw[h];exact Cz x) (Z7 rfl) ?_;have e0:e=0:=by lia
   subst e0;obtain⟨ff,cn⟩:=hz.cn;obtain⟨kc,c1,c2⟩:=cn.ce;have sm:=cn.sum U.ok fin U.me.len;refine xwn rfl rfl U.hp (noJ_mid _ _ _ _ _) rfl ⟨p,dx,mem,pr,g,G,N,kc.length,r,m,n,rfl,U.tc c1,hl,by lia,by lia,λk' G' H' fr bm go jr=>?_⟩;obtain⟨z1,z2⟩:=hz.mid cn c1 fr bm go;exact k k' G' H' 1 fr.j (z1.mono A0) go jr (z2 _)
  |succ l =>
   refine(show ∀{b:Bool}{A B:Prop},b=false->B->(if b=true then A else B)from λh x=>by rw[h];exact Bf x) (Z8 (by intro z;injection z with z;have z:((l+1+2:Nat):Int)=2:=z;lia)) ?_;have hL:l<L:=by lia
   have p1:2^(l+1)=2^l*2:=F4 ..;refine xw2 rfl rfl (xq2 rfl rfl (xq2 rfl rfl (xq1 rfl ?_)));refine Er (λhc=>?_) (λhc=>?_)
   .have aq:e<=l:=by
     have hc:=K3 hc;have hc:(e:Int)<((l+1+2:Nat):Int)-2:=hc;lia
    obtain⟨q9,bd,b7⟩:=id hl;have bz:l<=45:=by have:=(U.ok.lev bd).2;lia
    refine xw2 rfl rfl ⟨g,G,n,l+1,rfl,U.gr,U.ok,hl,by lia,by lia,λA9 ks G3 H3 ay bj af a7 l9 nine=>?_⟩;have a2:=hz.fr ay bj af;have ag:=a2.jw;have b9:=a2.sz fin
    skip
    have bb:∀(t k:Nat),ks[t]?=some k->Al G3 k ((l+2:Nat):Int):=λt k e=>by
     have ht:=(B9.mp e).1;obtain⟨k',e1,e2,_⟩:=nine (t%3) (t/3) A0 A0;rw[show t%3+3*(t/3)=t by lia,e]at e1;cases e1;exact e2
    have bx:∀(t k:Nat),ks[t]?=some k->Κ l e (CC G3 (l+2) k):=λt k e=>by
     have ht:=(B9.mp e).1;obtain⟨k',e1,_,v⟩:=nine (t%3) (t/3) A0 A0;rw[show t%3+3*(t/3)=t by lia,e]at e1;cases e1;exact fin.ext (cl.nine1 a3 aq (t%3) (t/3) A0 A0) λx y hx hy=>(v x y hx hy).symm
    refine⟨A9,rfl,⟨_,SqL.of a7⟩,?_⟩;refine Dp (xs:=ks.map λ(k:Nat)=>V.int (k:Int)) (λi I H5=>∃(G5:Gv)(ys:J_)(c5:Nat),I=ys.map toV/\ys.length=i/\FrJ g m H3 H5/\JZ a H5 g G5 Κ N (b+5) p dx mem pr r m/\AH G3 G5 c5/\Up (l+1) G3 H3 H5 m/\Paired (λk y=>JR r G5 e k y) (ks.take i) ys) ⟨G3,[],0,rfl,rfl,λb o e _ _ _ _ _=>e,a2,AH.refl ag.ok,Up.refl _ _ _ _,.nil⟩ (λi I H5 _ z=>by obtain⟨_,_,_,_,_,fr,_⟩:=z;exact SqL.of ((fr.kps ag.gr ag.bs.long ag.me) _ _ a7 (.lst (by rw[B8];lia)))) ?_ ?_
    .rintro i v I H5 ev ao;apply AL;intro R c;obtain⟨G5,ys,c5,rfl,ly,az,ah,O,a4,as⟩:=ao;apply c;clear c R;rw[C0]at ev;obtain⟨k5,ek,rfl⟩:=D6.mp ev;have i9:i<9:=by have:=(B9.mp ek).1;lia
     have a1:=ah.jw
     skip
     refine⟨⟨[some (.int (k5:Int))],rfl,rfl⟩,by rw[B8,ly];exact U7 i9 A4,Gm (xwn rfl rfl a1.hp (Mv _ _ _ _ _) rfl (xq1 rfl ⟨p,dx,mem,pr,g,G5,Κ,N,b+5,r,m,k5,l,e,rfl,ah,fin,cl,O.lev (bb i k5 ek),hL,aq,(by rw[CY ag.ok O (bb i k5 ek)];exact bx i k5 ek),by lia,λy G6 H6 c6 bg am a6 bv b2=>⟨G6,ys++[y],_,by rw[C4];rfl,by rw[C5,ly];rfl,az.trans bg,am,O.trans a6,a4.trans b2 O,?_⟩⟩))⟩;rw[F9,ek,R5];exact A1c (Paired.imp (λk y z=>z.goes a1.ok a6) as) bv
    rintro I H5 an A5 bi;apply AL;intro R c;obtain⟨G5,ys,c5,rfl,ly,az,ah,O,a4,as⟩:=an;have a1:=ah.jw;apply c;clear c R;rw[B8,l9]at ly;rw[B8,J9]at as;have nj:=Qx ag.ok O nine as;apply AL;intro R c;obtain⟨y0,y1,y2,y3,y4,y5,y6,y7,y8,rfl⟩:=VN ys ly;apply c;clear c R
    skip
    generalize dO:upd H5 A5 _=H6;obtain⟨s5,a8⟩:=alc bi dO;have am:=ah.same s5;have bn:=am.jw;have be:FrJ g m H H6:=(Fr.j ay).trans (az.trans (AC.j s5));refine xwm rfl rfl bn.gr.hp (BK g) ?_;refine xq1 rfl ⟨A5,y0,y1,y2,y3,y4,y5,y6,y7,y8,rfl,a8,λMM t0 t1 t2 t3 H7 s7 hM bo bp bq bt=>?_⟩;have ai:=am.same s7;have X:=ai.jw;refine⟨MM,rfl,⟨_,SqL.of hM⟩,?_⟩;have four:=Pf nj bo bp bq bt;have Z:=X.ok;refine Dp (xs:=[t0,t1,t2,t3].map V.ref) (λi I H8=>∃(W:Gv)(zs:J_),I=zs.map toV/\zs.length=i/\Fr g H7 H8/\JZ a H8 g W Κ N (b+5+i) p dx mem pr r m/\AH G5 W i/\∀(t z:Nat),zs[t]?=some z->Al W z ((l+1:Nat):Int)/\Vw W (Bq r (2^e) (CC G (l+1+2) n)) (l+1) z (2^(l+1)*(t%2)+2^(l+1)) (2^(l+1)*(t/2)+2^(l+1))) ⟨G5,[],rfl,rfl,Fr.refl g H7,ai,AH.refl Z,λt z e=>(nomatch e)⟩ (λi I H8 _ z=>by obtain⟨_,_,_,_,fr,_⟩:=z;exact SqL.of ((fr.kps X.gr X.bs.long) _ _ hM (.lst (by show 4<=50;decide)))) ?_ ?_
    .rintro i v I H8 ev ao;apply AL;intro R c;obtain⟨W,zs,rfl,lz,aa,D,C,vz⟩:=ao;have ab:=D.jw;have au:=D.sz fin;apply c;clear c R;rw[C0]at ev;obtain⟨tt,et,rfl⟩:=D6.mp ev;have i4:i<4:=(B9.mp et).1;apply AL;intro R c;obtain⟨f0,f1,f2,f3,bu,⟨m0,m1,m2,m3⟩,w0,w1,w2,w3⟩:=four i tt et;apply c;clear c R
     skip
     have qg:∀{f:Nat}(j:Nat),Al G5 f ((l+1:Nat):Int)->qO W f j=qO G5 f j:=λ{f} j h=>by
      obtain⟨q,e,_⟩:=h;unfold qO;rw[C.get e,e]
     refine⟨⟨[some (.ref tt)],rfl,rfl⟩,by rw[B8,lz];exact U7 i4 A4,Gm (xw2 rfl rfl ⟨g,W,tt,f0,f1,f2,f3,l,rfl,ab.gr,ab.ok,(aa.kps X.gr X.bs.long) _ _ bu (.inl .tup),⟨C.lev m0,C.lev m1,C.lev m2,C.lev m3⟩,by lia,by lia,λz G9 H9 ar bl S e9=>⟨G9,zs++[z],by rw[C4];rfl,by rw[C5,lz];rfl,aa.trans ar,D.fr ar bl S,C.trans S,?_⟩⟩)⟩;rw[qg 3 m0,qg 2 m1,qg 1 m2,qg 0 m3]at e9;refine Sn lz (λt z' e=>?_) ?_
     .obtain⟨q1,q2⟩:=vz t z' e;exact⟨S.lev q1,q2.goes ab.ok S q1⟩
     .exact⟨⟨_,e9,by show(l:Int)+1=((l+1:Nat):Int);lia⟩,(ZL Z (C.trans S) m0 m1 m2 m3 w0 w1 w2 w3 e9).at' A0 A0⟩
    rintro I H8 an A8 a0;apply AL;intro R c;obtain⟨W,zs,rfl,lz,aa,D,C,vz⟩:=an;have ab:=D.jw;have au:=D.sz fin;apply c;clear c R;apply AL;intro R c;obtain⟨z0,z1,z2,z3,rfl⟩:=Py zs lz;apply c;clear c R;have bh:AH G5 W 4:=C;have D:JZ a H8 g W Κ N (b+5+4) p dx mem pr r m:=D;have au:=D.sz fin;have Y:=(af.trans O).trans bh;have ax:FrJ g m H H8:=be.trans ((AC.j s7).trans (Fr.j aa));generalize dS:upd H8 A8 _=H9;obtain⟨s8,al⟩:=alc a0 dS;refine⟨A8,(xq1 rfl (.inl ⟨SqL.of al,λu hu=>?_⟩))⟩;have ac:=D.same s8;have ae:=ac.jw;obtain⟨q0,x0⟩:=vz 0 z0 rfl;obtain⟨q1,x1⟩:=vz 1 z1 rfl;obtain⟨q2,x2⟩:=vz 2 z2 rfl;obtain⟨q3,x3⟩:=vz 3 z3 rfl
    skip
    refine lnk (⟨.refl _ _,λe=>e,ae.gr,.refl ae.ok⟩:Ln a g H9 W 0 H9 W) hu ⟨q0,q1,q2,q3⟩ A0 A0 λz av aw ad M aj=>?_;refine k z av aw _ (ax.trans ((AC.j s8).trans (Fr.j ad.fr))) ((ac.fr ad.fr ad.gr M).mono A0) (Y.trans M) ?_ (((((hz.upF (l+1) ay).trans a4 af).trans (ah.upS _ s5) (af.trans O)).trans (am.upS _ s7) (af.trans O)).trans (((ai.upF _ aa).trans (D.upS _ s8) C).trans (ac.upF _ ad.fr) C) (af.trans O));have ak:=Y.trans M;refine Vw.jr (ak.lev hl) he ⟨_,aj,by show((l+1:Nat):Int)+1=((l+1+1:Nat):Int);lia⟩ ?_;rw[CY U.ok ak hl];exact ND ae.ok M q0 q1 q2 q3 (x0.at' A0 A0) (x1.at' A0 A0) (x2.at' A0 A0) (x3.at' A0 A0) aj
   .have aq:e=l+1:=by
     have hc:¬(e:Int)<((l+1+2:Nat):Int)-2:=λz=>hc (Z7 z);lia
    subst aq;refine xwm rfl rfl U.gr.hp (BK g) ?_;refine xwn rfl rfl U.hp (ZD _ _ _ _ _) rfl (xq1 rfl ⟨p,dx,mem,pr,g,G,Κ,N,b,r,m,n,l,rfl,hz,fin,cl,hl,hL,a3,by lia,λA7 f0 f1 f2 f3 G5 H7 i5 bf ai O b3 ba b0 b5=>?_⟩);apply AL;intro R c;obtain⟨m0,m1,m2,m3⟩:=b0;obtain⟨w0,w1,w2,w3⟩:=b5;apply c;clear c R
    skip
    refine⟨A7,rfl,⟨_,SqL.of ba⟩,?_⟩;have X:=ai.jw;have Z:=X.ok;have four:∀(t f:Nat),[f0,f1,f2,f3][t]?=some f->Al G5 f ((l+2:Nat):Int)/\Vw G5 (Bq r (2^l) (CC G (l+1+2) n)) (l+2) f (2^(l+1)*(t%2)+2^l) (2^(l+1)*(t/2)+2^l):=λt f et=>by
     match t,et with
     |0,et=>cases et;exact⟨m0,w0.at' A0 A0⟩
     |1,et=>cases et;exact⟨m1,w1.at' A0 A0⟩
     |2,et=>cases et;exact⟨m2,w2.at' A0 A0⟩
     |3,et=>cases et;exact⟨m3,w3.at' A0 A0⟩
     |j+4,et=>cases et
    have bc:Bq r (2^l) (Bq r (2^l) (CC G (l+1+2) n))=Bq r (2^(l+1)) (CC G (l+1+2) n):=by
     rw[<-SH,p1,Nat.mul_two]
    refine Dp (xs:=[f0,f1,f2,f3].map toV) (λi I H8=>∃(W:Gv)(zs:J_)(c8:Nat),I=zs.map toV/\zs.length=i/\FrJ g m H7 H8/\JZ a H8 g W Κ N (b+9) p dx mem pr r m/\AH G5 W c8/\Up (l+1) G5 H7 H8 m/\∀(t z:Nat),zs[t]?=some z->Al W z ((l+1:Nat):Int)/\Vw W (Bq r (2^(l+1)) (CC G (l+1+2) n)) (l+1) z (2^(l+1)*(t%2)+2^(l+1)) (2^(l+1)*(t/2)+2^(l+1))) ⟨G5,[],0,rfl,rfl,λb o e _ _ _ _ _=>e,ai,AH.refl Z,Up.refl _ _ _ _,λt z e=>(nomatch e)⟩ (λi I H8 _ z=>by obtain⟨_,_,_,_,_,fr,_⟩:=z;exact SqL.of ((fr.kps X.gr X.bs.long X.me) _ _ ba (.lst (by show 4<=50;decide)))) ?_ ?_
    .rintro i v I H8 ev ao;apply AL;intro R c;obtain⟨W,zs,c8,rfl,lz,aa,D,C,a5,vz⟩:=ao;have ab:=D.jw;have au:=D.sz fin;apply c;clear c R;rw[C0]at ev;obtain⟨ff,et,rfl⟩:=D6.mp ev;have i4:i<4:=(B9.mp et).1;obtain⟨mf,wf⟩:=four i ff et
     skip
     refine⟨⟨[some (toV ff)],rfl,rfl⟩,by rw[B8,lz];exact U7 i4 A4,Gm (xwn rfl rfl ab.hp (Mv _ _ _ _ _) rfl (xwb rfl rfl rfl ⟨p,dx,mem,pr,g,W,Κ,N,b+9,r,m,ff,l,l,(show [V.ref p,V.int (ff:Int),V.int (((l+1:Nat):Int)-1)]=[V.ref p,V.int (ff:Int),V.int (l:Int)] by rw[show((l+1:Nat):Int)-1=(l:Int) by lia]),D,fin,cl,C.lev mf,hL,C1 l,(by rw[CY Z C mf];exact fin.ext (cl.four a3 (i%2) (i/2) A0 A0) λx y hx hy=>(wf x y hx hy).symm),by lia,λz G9 H9 c9 ar ac S bw b4=>⟨G9,zs++[z],_,by rw[C4];rfl,by rw[C5,lz];rfl,aa.trans ar,ac,C.trans S,a5.trans b4 C,?_⟩⟩))⟩;refine Sn lz (λt z' e=>?_) ?_
     .obtain⟨q1,q2⟩:=vz t z' e;exact⟨S.lev q1,q2.goes ab.ok S q1⟩
     .obtain⟨r1,_,r3⟩:=bw.view ((C.trans S).lev mf) (wf.goes Z (C.trans S) mf);rw[bc]at r3;exact⟨r1,r3.at' A0 A0⟩
    rintro I H8 an A8 a0;apply AL;intro R c;obtain⟨W,zs,c8,rfl,lz,aa,D,C,a5,vz⟩:=an;have ab:=D.jw;have au:=D.sz fin;apply c;clear c R;apply AL;intro R c;obtain⟨z0,z1,z2,z3,rfl⟩:=Py zs lz;apply c;clear c R;have Y:=O.trans C;have ax:FrJ g m H H8:=bf.trans aa;generalize dS:upd H8 A8 _=H9;obtain⟨s8,al⟩:=alc a0 dS;refine⟨A8,(xq1 rfl (.inl ⟨SqL.of al,λu hu=>?_⟩))⟩;have ac:=D.same s8;have ae:=ac.jw;obtain⟨q0,x0⟩:=vz 0 z0 rfl;obtain⟨q1,x1⟩:=vz 1 z1 rfl;obtain⟨q2,x2⟩:=vz 2 z2 rfl;obtain⟨q3,x3⟩:=vz 3 z3 rfl
    skip
    refine lnk (⟨.refl _ _,λe=>e,ae.gr,.refl ae.ok⟩:Ln a g H9 W 0 H9 W) hu ⟨q0,q1,q2,q3⟩ A0 A0 λz av aw ad M aj=>?_;refine k z av aw _ (ax.trans ((AC.j s8).trans (Fr.j ad.fr))) ((ac.fr ad.fr ad.gr M).mono A0) (Y.trans M) ?_ ((b3.trans a5 O).trans ((D.upS _ s8).trans (ac.upF _ ad.fr) (AH.refl ab.ok)) Y);have ak:=Y.trans M;refine Vw.jr (ak.lev hl) he ⟨_,aj,by show((l+1:Nat):Int)+1=((l+1+1:Nat):Int);lia⟩ ?_;rw[CY U.ok ak hl];exact ND ae.ok M q0 q1 q2 q3 (x0.at' A0 A0) (x1.at' A0 A0) (x2.at' A0 A0) (x3.at' A0 A0) aj
theorem ok_recB{L d:Nat}(F:Fun K "reckoned" "Jumps.reckoned" Dr f fd)(T:Top K mg a)(dC:BD P w K mg base CX0 d a.c_Jumps "fresh" Qh (Uo a L)):AK P w K mg base CX0 (d+1) f fd Qh (FG a L):=by
 refine F.ok DX (λvs H Q E h=>?_) (λae A ac s H vs Q E hr h=>?_)
 .apply AL;intro j c;obtain⟨p,dx,mem,pr,g,G,Κ,N,b,r,m,n,l,e,rfl,_⟩:=h;apply c;clear c j;rfl
 .apply AL;intro j c;obtain⟨p,dx,mem,pr,g,G,Κ,N,b,r,m,n,l,e,rfl,Z,fin,cl,W,hL,he,X,few,k⟩:=h;have u:=Z.jw;have sz:=Z.sz fin;apply c;clear c j;obtain⟨q,eq,el⟩:=id W;have aj:=(u.ok.lev eq).2;have aa:e<m.ds.length:=by rw[u.me.len];lia
  obtain⟨d,C⟩:∃d,m.ds[e]?=some d:=⟨m.ds[e]'aa,C6 _⟩
  apply AL;intro j c;obtain⟨kv,hd,dl,dk,dv⟩:=u.me.sq e d C;apply c;clear c j;refine⟨_,(Ac (Ao (i:=3) DX.nd rfl O_9 (Mt (Gg hr) (Aj Ax (AF (pv 0) rfl) (pv 2) R_9) (pv 1) ⟨rfl,rfl,rfl,rfl⟩)) (Ac (AM (Ay Ja (pv 3) Cy (AE _)) (Ac (Ao (i:=3) DX.nd rfl O_9 (AD (pv 0) dC (rm hr) Am (Aa (pv 1) (Aa (pv 2) Ab)))) (Af (II (Gg hr) (Aj Ax (AF (pv 0) rfl) (pv 2) R_9) (pv 1) (pv 3) rfl))) AB) (Af (Au (pv 3))))),?_⟩
  try dsimp only[cxK]
  have R:atI (m.ds.map V.ref) (e:Int)=some (.ref d):=Ai (by rw[C0,C];rfl);refine xwf rfl rfl u.hp T.cl_Jumps T.na_Jumps_known_squares (jf5_ks _ _ _ _ _) (xwi rfl rfl rfl (SqL.of u.me.l) R ⟨d,rfl,.inl ⟨_,.inl hd⟩,(xq1 rfl ⟨_,Jt.k (k:=Sum.inl (n:Int)) hd,?_⟩)⟩);apply MD (fun σ O=>∃(x:Nat)(B:Gv),σ=[some (.ref p),some (.int (n:Int)),some (.int (e:Int)),some (.int (x:Int))]/\FrJ g m H O/\JZ a O g B Κ N b p dx mem pr r m/\(∃i,AH G B i)/\JR r B e n x/\Up (l+1) G H O m)
  .intro y;refine xq1 rfl ⟨rfl,(xq1 rfl ?_)⟩;cases ev:BR kv (Sum.inl (n:Int))with
   |some v =>
    obtain⟨x,rfl,jr⟩:=dv n v ev;exact Bf (y _ _ ⟨x,G,rfl,λb o e _ _ _ _ _=>e,Z,⟨0,AH.refl u.ok⟩,jr,Up.refl _ _ _ _⟩)
   |none =>
    refine Cz ?_;refine xwn rfl rfl u.hp (WL _ _ _ _ _) rfl (xq1 rfl ⟨p,dx,mem,pr,g,G,Κ,N,b,r,m,n,l,e,rfl,Z,fin,cl,W,hL,he,X,few,λx B H' i' fr t M jr up=>?_⟩);apply AL;intro j c;have I:=t.jw;obtain⟨Y,D,ag,af,ah⟩:=I.me.sq e d C;apply c;clear c j;refine xw2 rfl rfl (xq5 I.hp T.cl_Jumps T.na_Jumps_known_squares (jf5_ks _ _ _ _ _) (xwi rfl rfl rfl (SqL.of I.me.l) R (xq1 rfl ⟨d,(xq1 rfl ⟨MS.k (k:=Sum.inl (n:Int)) D (F3 (show Y.length<=9000000 by lia) A4),?_⟩)⟩)));have ab:=up e n l W (C1 l) (λd2 ai S U=>by rw[C]at S;cases S;rw[hd]at U;cases U;exact ev) d Y C D;obtain⟨z1,z2⟩:=t.put fin C D ab (M.lev W) (by rw[CY u.ok M W];exact X) jr;exact y _ _ ⟨x,B,rfl,λb o e n1 n2 n3 n4 n5=>by rw[Av (λz=>n5 (by rw[z];exact D0 C))];exact fr _ _ e n1 n2 n3 n4 n5,z1,⟨i',M⟩,jr,(up.mono (S2 l)).trans z2 M⟩
  rintro σ O ad;apply AL;intro j c;obtain⟨x,B,rfl,fr,t,⟨i',M⟩,jr,up⟩:=ad;apply c;clear c j;exact xq1 rfl (k x B O i' fr t M jr up)
theorem VM{f M I:R_}{x q o:E_}(F:Fun K "reckoned" "Jumps.reckoned" Dr f x)(A:Fun K "four_halfway" "Jumps.four_halfway" Bu M q)(z:Fun K "fresh" "Jumps.fresh" Co I o)(T:Top K mg a)(B:Qm K a.c_Jumps "reckoned" f)(y:Df K x Qh [])(j:Qm K a.c_Jumps "four_halfway" M)(d:Df K q Qh [])(i:Qm K a.c_Jumps "fresh" I)(c:Df K o Qh [])(C:BD P w K mg base CX0 7 a.c_Jumps "middle_after" JU (Rg a))(t:BD P w K mg base CX0 2 a.c_Grove "linked" AU (DS a))(u:Cal P w K mg base CX0 3 "nine_parts" Lj (OD a))(v:Cal P w K mg base CX0 1 "fours_of" UG Md)(D:Cal P w K mg base CX0 3 "met_in_the_middle" Ct (Vt a)):∀L,AK P w K mg base CX0 (10+3*L) f x Qh (FG a L)
|0=>(AK.no (k:=10)).imp λvs H Q E h=>by
 apply AL;intro O s;obtain⟨p,Y,mem,Z,g,G,Κ,N,b,r,m,n,l,e,_,_,_,_,_,W,_⟩:=h;apply s;clear s O;exact absurd W (N3 l)
|L+1=>by
 have X:=VM F A z T B y j d i c C t u v D L;have M1:BD P w K mg base CX0 (10+3*L) a.c_Jumps "reckoned" Qh (FG a L):=⟨⟨_,_,X,B,y⟩,T.cl_Jumps⟩
 have U:=Zv A T A0 u v t M1;have R:BD P w K mg base CX0 (10+3*L+1) a.c_Jumps "four_halfway" Qh (Rj a L):=⟨⟨_,_,U,j,d⟩,T.cl_Jumps⟩
 have V:=ok_freA z T A0 C t u v D M1 R;have S:BD P w K mg base CX0 (10+3*L+2) a.c_Jumps "fresh" Qh (Uo a (L+1)):=⟨⟨_,_,V,i,c⟩,T.cl_Jumps⟩
 exact ok_recB F T S
theorem WG{L d:Nat}(F:Fun K "after" "Jumps.after" GN f fd)(T:Top K mg a)(S:4<=d)(C:BD P w K mg base CX0 4 a.c_Jumps "check_jump" Qh (spCj a))(B:BD P w K mg base CX0 d a.c_Jumps "reckoned" Qh (FG a L)):AK P w K mg base CX0 (d+1) f fd Qh (FG a L):=by
 refine F.ok OP (λvs H Q E h=>?_) (λD A v s H vs Q E z h=>?_)
 .apply AL;intro j c;obtain⟨p,o,mem,x,g,G,Κ,N,b,r,m,n,l,e,rfl,_⟩:=h;apply c;clear c j;rfl
 .apply AL;intro j c;obtain⟨p,o,mem,x,g,G,Κ,N,b,r,m,n,l,e,rfl,t,fin,I,y,O,R,u,few,k⟩:=h;have i:=t.jw;have sz:=t.sz fin;obtain⟨q,eq,M⟩:=id y;apply c;clear c j;refine⟨_,(Ac (Bm (AD (pv 0) C (rm z) Am (Aa (pv 1) (Aa (pv 2) Ab)))) (Af (Au (AD (pv 0) B (rm z) Am (Aa (pv 1) (Aa (pv 2) Ab)))))),?_⟩
  try dsimp only[cxK]
  refine xwn rfl rfl i.hp (WM _ _ _ _ _) rfl (xq1 rfl ⟨p,o,g.p,mem,x,m.l,m.kc,g,G,n,e,q,rfl,i.hp,i.gr,eq,by rw[M];lia,?_⟩);exact xwn rfl rfl i.hp (Mv _ _ _ _ _) rfl (xq1 rfl ⟨p,o,mem,x,g,G,Κ,N,b,r,m,n,l,e,rfl,t,fin,I,y,O,R,u,few,k⟩)
end
theorem CU(l:Nat):(2:Int)^(l+1)=2^l+2^l:=by rw[S7];lia
def Ji(x y w h r:Int):Prop:=-r<=x/\-r<=y/\x+w<=r/\y+h<=r
instance(x y w h r:Int):Decidable (Ji x y w h r):=by unfold Ji;infer_instance
theorem lies_b(x y w h r:Int):(decide (-r<=x) && (decide (-r<=y) && (decide (x+w<=r) && decide (y+h<=r))))=decide (Ji x y w h r):=by
 rw[Q7];simp only[P9,A6a];exact Iff.rfl
structure Wid(G:Gv)(n f w:Nat):Prop where
ex:∃(q:Sq)(x y z v a b c d:Nat),Jh G n f q x y z v/\G[a]?=some ⟨[(bareN n:Int),(bareN n:Int),(bareN n:Int),(x:Int)],(n:Int)+1⟩/\G[b]?=some ⟨[(bareN n:Int),(bareN n:Int),(y:Int),(bareN n:Int)],(n:Int)+1⟩ /\
 G[c]?=some ⟨[(bareN n:Int),(z:Int),(bareN n:Int),(bareN n:Int)],(n:Int)+1⟩/\G[d]?=some ⟨[(v:Int),(bareN n:Int),(bareN n:Int),(bareN n:Int)],(n:Int)+1⟩/\G[w]?=some ⟨[(a:Int),(b:Int),(c:Int),(d:Int)],(n:Int)+2⟩
theorem Wid.lev{G:Gv}{n f w:Nat}(h:Wid G n f w):Al G w ((n+2:Nat):Int):=by
 obtain⟨q,x,y,z,v,a,b,c,d,nd,g,i,j,k,e⟩:=h.ex;exact⟨_,e,by show(n:Int)+2=_;lia⟩
theorem Wid.app{G g:Gv}{k n f w:Nat}(e:AH G g k)(h:Wid G n f w):Wid g n f w:=by
 obtain⟨q,x,y,z,v,a,b,c,d,nd,i,j,l,m,o⟩:=h.ex;exact⟨q,x,y,z,v,a,b,c,d,nd.app e,e.get i,e.get j,e.get l,e.get m,e.get o⟩
theorem Il{G r:Gv}(e:G=G0++r){n:Nat}(h:n<=48):Al G (bareN n) (n:Int):=by
 rw[e];exact(g0_lev n h).app
theorem bareL_at'{l:Nat}(h:l<=48):((Dq 48).map V.int)[l]?=some (.int (bareN l:Int)):=by
 unfold Dq;rw[C0,C0,O1 A0];rfl
section
variable{P:N_}{w:Q_}{K:O_}{mg:C_}{base:T_}{a:Ad}
inductive SpLie(vs:List V)(H:Hp)(Q:VK):Prop
|mk (t:R_) (x y w h r:Int) (_:vs=[.ref t,.int r]) (_:H t=some (.tup [.int x,.int y,.int w,.int h])) (_:Q (.bl (decide (Ji x y w h r))) H):SpLie vs H Q
def SQ:Sp:=λvs H Q _=>SpLie vs H Q
theorem ok_lie(F:Fun K "lies_within" "lies_within" GJ f fd)(T:Top K mg a):AK P w K mg base CX0 1 f fd Qd SQ:=by
 refine F.ok OL D_9 λd A c s H vs Q E p h=>?_
 obtain⟨t,x,y,q,o,r,rfl,b,k⟩:=h;rw[<-lies_b]at k;refine⟨_,(Af (Au (JD (Dc JM (LA GC (pv 1)) (Aj An (pv 0) Ae R_9) (AE _)) (JD (Dc JM (LA GC (pv 1)) (Aj An (pv 0) Ae R_9) (AE _)) (JD (Dc JM (AA AQ (Aj An (pv 0) Ae R_9) (Aj An (pv 0) Ae R_9)) (pv 1) (AE _)) (LS (Dc JM (AA AQ (Aj An (pv 0) Ae R_9) (Aj An (pv 0) Ae R_9)) (pv 1) (AE _)))))))),?_⟩
 try dsimp only[cxK]
 refine xw3 rfl rfl rfl (xq4 rfl rfl (SqT.of b) (Ai (j:=0) rfl) (xq2 rfl rfl (Oz (λ_ l e=>?_) k)));refine xw3 rfl rfl rfl (xq4 rfl rfl (SqT.of b) (Ai (j:=1) rfl) (xq2 rfl rfl (Oz (λ_ m g=>?_) e)));refine xwi rfl rfl rfl (SqT.of b) (Ai (j:=0) rfl) (xwi rfl rfl rfl (SqT.of b) (Ai (j:=2) rfl) (xq2 rfl rfl (xwb rfl rfl rfl (Oz (λ_ n i=>?_) g))));exact xwi rfl rfl rfl (SqT.of b) (Ai (j:=1) rfl) (xwi rfl rfl rfl (SqT.of b) (Ai (j:=3) rfl) (xq2 rfl rfl (xwb rfl rfl rfl i)))
inductive Wk(a:Ad)(vs:List V)(H:Hp)(Q:VK):Prop
|mk (g:GA) (G:Gv) (i n:Nat) (_:vs=[.ref g.p,.int i]) (_:AJ a H g G) (_:Al G i ((n+1:Nat):Int)) (_:n<48) (_:Q (.int (2^n)) H):Wk a vs H Q
def Lf(a:Ad):Sp:=λvs H Q _=>Wk a vs H Q
theorem Zq(F:Fun K "reach_of" "reach_of" LK f fd)(T:Top K mg a)(d:BD P w K mg base CX0 3 a.c_Grove "level_of" JU (Jv a)):AK P w K mg base CX0 4 f fd UD (Lf a):=by
 refine F.ok ST D_9 λj A b s H vs Q E o h=>?_
 obtain⟨g,G,i,n,rfl,c,⟨q,e,l⟩,p,k⟩:=h;refine⟨_,(Af (Au (AA IZ Ae (AA BJ (AD (pv 0) d (rm o) Am (Aa (pv 1) Ab)) Ae)))),?_⟩
 try dsimp only[cxK]
 have m:q.lev=(n:Int)+1:=by rw[l];lia
 refine xwn rfl rfl c.hp (Cc g) rfl ⟨g,G,i,q,rfl,c,e,(xq2 rfl rfl (xq2 rfl rfl ⟨⟨by lia,by lia,by decide⟩,?_⟩))⟩;show Q (.int (1*2^(q.lev-1).toNat)) H;rw[Ra n m];exact k
inductive Ws(a:Ad)(vs:List V)(H:Hp)(Q:VK):Prop
|mk (g:GA) (G:Gv) (_:vs=[.ref g.p]) (_:AY a H g G) (_:Q (.int (bareN 1:Int)) H):Ws a vs H Q
def Ol(a:Ad):Sp:=λvs H Q _=>Ws a vs H Q
theorem ZA(F:Fun K "bare_field" "bare_field" Iw f fd)(T:Top K mg a):AK P w K mg base CX0 1 f fd RG (Ol a):=by
 refine F.ok PV D_9 λd A b s H vs Q E e h=>?_
 obtain⟨g,G,rfl,c,k⟩:=h;exact⟨_,(Af (Au (Aj Ax (AF (pv 0) rfl) (BV rfl T.k_LEAST_LEVEL) R_9))),(xwf rfl rfl c.at'.hp T.cl_Grove T.na_Grove_bares (Lb g) (xq4 rfl rfl (SqL.of c.br) (Ai (j:=1) (bareL_at' A0)) k))⟩
inductive SpWid(a:Ad)(vs:List V)(H:Hp)(Q:VK):Prop
|mk (g:GA) (G:Gv) (f n:Nat) (_:vs=[.ref g.p,.int f]) (_:AY a H g G) (_:Al G f ((n+1:Nat):Int)) (_:n<47) (_:G.length<8900000) (_:∀(w:Nat)(G':Gv)(H':Hp),Fr g H H'->AJ a H' g G'->AH G G' 5->Wid G' n f w->Q (.int w) H'):SpWid a vs H Q
def Vp(a:Ad):Sp:=λvs H Q _=>SpWid a vs H Q
theorem ok_wid(F:Fun K "widened" "widened" MZ f fd)(T:Top K mg a)(aA:BD P w K mg base CX0 3 a.c_Grove "level_of" JU (Jv a))(M:BD P w K mg base CX0 2 a.c_Grove "linked" AU (DS a)):AK P w K mg base CX0 4 f fd Lj (Vp a):=by
 refine F.ok Im D_9 λao A an s H vs Q E L h=>?_
 obtain⟨g,G,f',n,rfl,d,hl,aq,few,k⟩:=h;obtain⟨q,x,y,z,v,nd⟩:=BX d.ok hl;have lq:=nd.lev;obtain⟨ts,h3,h4⟩:=d.at'.pt;obtain⟨t,et,D⟩:=PairedM.get h4 nd.g;have D:H t=some (.tup [.int x,.int y,.int z,.int v]):=by
  have D:H t=some (.tup (q.parts.map V.int)):=D;rw[nd.ps]at D;exact D
 obtain⟨r,e0⟩:=d.g0;have m:=Il e0 (n:=n) A0;refine⟨_,(Ac (Ao (i:=2) Im.nd rfl O_9 (AD (pv 0) aA (rm L) Am (Aa (pv 1) Ab))) (Ac (AM (PW.pt (Jo (Ay Ih (pv 2) (BV rfl T.k_LEAST_LEVEL) (AE _)) (Fl (Ay CG (pv 2) (BV rfl T.k_TOP_LEVEL) (AE _))))) (Af Bh) AB) (Ac (Ao (i:=3) Im.nd rfl O_9 (Aj Ax (AF (pv 0) rfl) (pv 1) R_9)) (Ac (Ao (i:=4) Im.nd rfl O_9 (Aj Ax (AF (pv 0) rfl) (AA BJ (pv 2) Ae) R_9)) (Af (Au (AD (pv 0) M (rm L) Am (Br (Aa (AD (pv 0) M (rm L) Am (Br (Aa (pv 4) (Aa (pv 4) (Aa (pv 4) (Aa (Aj An (pv 3) Ae R_9) Ab)))) Ab)) (Aa (AD (pv 0) M (rm L) Am (Br (Aa (pv 4) (Aa (pv 4) (Aa (Aj An (pv 3) Ae R_9) (Aa (pv 4) Ab)))) Ab)) (Aa (AD (pv 0) M (rm L) Am (Br (Aa (pv 4) (Aa (Aj An (pv 3) Ae R_9) (Aa (pv 4) (Aa (pv 4) Ab)))) Ab)) (Aa (AD (pv 0) M (rm L) Am (Br (Aa (Aj An (pv 3) Ae R_9) (Aa (pv 4) (Aa (pv 4) (Aa (pv 4) Ab)))) Ab)) Ab)))) Ab)))))))),?_⟩
 try dsimp only[cxK]
 refine xq1 rfl ⟨g.p,g.dx,(xq1 rfl ⟨d.at'.hp,Cc g,(xq1 rfl ⟨g,G,f',q,rfl,d.at',nd.g,?_⟩)⟩)⟩;refine xwb rfl rfl rfl (xq1 rfl ?_);rw[Z8 (by lia:¬q.lev<1)];refine Bf (xq1 rfl ⟨rfl,(xq1 rfl ?_)⟩);rw[Z8 (by intro z;injection z with z;lia)];refine Bf (xwf rfl rfl d.at'.hp T.cl_Grove T.na_Grove_parts (CB g) (xwi rfl rfl rfl (SqL.of h3) (Ai (by rw[C0,et];rfl)) ?_));refine xwf rfl rfl d.at'.hp T.cl_Grove T.na_Grove_bares (Lb g) (xwb rfl rfl rfl (xq4 rfl rfl (SqL.of d.br) (by rw[show q.lev-1=(n:Int) by lia];exact Ai (bareL_at' A0)) ?_));refine xq1 rfl ⟨g.p,g.dx,(xq1 rfl ⟨d.at'.hp,BK g,?_⟩)⟩;refine xq1 rfl ⟨g.p,g.dx,(xq1 rfl ⟨d.at'.hp,BK g,(xw3 rfl rfl rfl (xwi rfl rfl rfl (SqT.of D) (Ai (j:=0) rfl) ⟨S_4,λt1 af=>?_⟩))⟩)⟩;have s1:=AN (o:=.tup [.int (bareN n:Int),.int (bareN n:Int),.int (bareN n:Int),.int x]) af;refine⟨g,G,t1,bareN n,bareN n,bareN n,x,(n:Int),rfl,d.at'.same s1,d.ok,Ag,⟨m,m,m,nd.hx⟩,by lia,by lia,λU G1 H1 Z O e e1=>?_⟩;have f1:=(AC.fr s1).trans Z;have ak:=f1.tup d.at' D;have n1:=e.few;refine xwn rfl rfl O.hp (BK g) rfl (xwj rfl rfl rfl rfl (SqT.of ak) (Ai (j:=1) rfl) (xq1 rfl ⟨S_4,λt2 ag=>?_⟩));have s2:=AN (o:=.tup [.int (bareN n:Int),.int (bareN n:Int),.int y,.int (bareN n:Int)]) ag;refine⟨g,G1,t2,bareN n,bareN n,y,bareN n,(n:Int),rfl,O.same s2,e.ok,Ag,⟨e.lev m,e.lev m,e.lev nd.hy,e.lev m⟩,by lia,by lia,λW G2 H2 fr2 R C e2=>?_⟩;have f2:=f1.trans ((AC.fr s2).trans fr2);have al:=f2.tup d.at' D;have n2:=C.few;have b:=e.trans C;refine xwn rfl rfl R.hp (BK g) rfl (xwi rfl rfl rfl (SqT.of al) (Ai (j:=2) rfl) (xw2 rfl rfl ⟨S_4,λt3 ah=>?_⟩));have s3:=AN (o:=.tup [.int (bareN n:Int),.int z,.int (bareN n:Int),.int (bareN n:Int)]) ah;refine⟨g,G2,t3,bareN n,z,bareN n,bareN n,(n:Int),rfl,R.same s3,C.ok,Ag,⟨b.lev m,b.lev nd.hz,b.lev m,b.lev m⟩,by lia,by lia,λX G3 H3 aa S u e3=>?_⟩;have f3:=f2.trans ((AC.fr s3).trans aa);have am:=f3.tup d.at' D;have n3:=u.few;have c:=b.trans u;refine xwn rfl rfl S.hp (BK g) rfl (xq4 rfl rfl (SqT.of am) (Ai (j:=3) rfl) (xw3 rfl rfl rfl ⟨S_4,λt4 ai=>?_⟩));have s4:=AN (o:=.tup [.int v,.int (bareN n:Int),.int (bareN n:Int),.int (bareN n:Int)]) ai;refine⟨g,G3,t4,v,bareN n,bareN n,bareN n,(n:Int),rfl,S.same s4,u.ok,Ag,⟨c.lev nd.hw,c.lev m,c.lev m,c.lev m⟩,by lia,by lia,λY G4 H4 ab ad l e4=>?_⟩;have f4:=f3.trans ((AC.fr s4).trans ab);have n4:=l.few;have N:=c.trans l;refine⟨S_4,λt5 aj=>?_⟩;have s5:=AN (o:=.tup [.int U,.int W,.int X,.int Y]) aj;have E1:=(C.trans (u.trans l)).get e1;have E2:=(u.trans l).get e2;have E3:=l.get e3;refine⟨g,G4,t5,U,W,X,Y,(n:Int)+1,rfl,ad.same s5,l.ok,Ag,⟨⟨_,E1,rfl⟩,⟨_,E2,rfl⟩,⟨_,E3,rfl⟩,⟨_,e4,rfl⟩⟩,by lia,by lia,λw' G5 H5 ac ae B e5=>?_⟩;have I:=N.trans B;exact k w' G5 H5 (f4.trans ((AC.fr s5).trans ac)) ae I ⟨q,x,y,z,v,U,W,X,Y,nd.app I,B.get E1,B.get E2,B.get E3,B.get e4,by rw[e5,show(n:Int)+1+1=(n:Int)+2 by lia]⟩
end
structure Oe(G:Gv)(n i:Nat)(qs:L_)(ps:Nat->Nat->Nat):Prop where
node:∃q,Jh G (n+1) i q (qs 0) (qs 1) (qs 2) (qs 3)
sub:∀k,k<4->∃q,Jh G n (qs k) q (ps k 0) (ps k 1) (ps k 2) (ps k 3)
theorem Oe.app{G a:Gv}{k n i:Nat}{d:L_}{c:Nat->Nat->Nat}(b:AH G a k)(h:Oe G n i d c):Oe a n i d c:=by
 obtain⟨q,nd⟩:=h.node;exact⟨⟨q,nd.app b⟩,λk e=>by obtain⟨q,nd⟩:=h.sub k e;exact⟨q,nd.app b⟩⟩
def f4(x y z w:Nat)(k:Nat):Nat:=match k with|0=>x|1=>y|2=>z|_=>w
theorem deep_of{G:Gv}(ok:GOk G){n i:Nat}(h:Al G i ((n+2:Nat):Int)):∃e d,Oe G n i e d:=by
 obtain⟨q,x,y,z,w,nd⟩:=BX ok (n:=n+1) h;obtain⟨_,m,o,p,r,nx⟩:=BX ok nd.hx;obtain⟨_,s,t,u,v,b⟩:=BX ok nd.hy;obtain⟨_,A,B,C,D,c⟩:=BX ok nd.hz;obtain⟨_,f,g,j,l,nw⟩:=BX ok nd.hw;refine⟨f4 x y z w,λk=>match k with|0=>f4 m o p r|1=>f4 s t u v|2=>f4 A B C D|_=>f4 f g j l,⟨q,nd⟩,λk a=>?_⟩
 match k,a with
 |0,_=>exact⟨_,nx⟩
 |1,_=>exact⟨_,b⟩
 |2,_=>exact⟨_,c⟩
 |3,_=>exact⟨_,nw⟩
theorem Jh.nat{G:Gv}{n i:Nat}{q:Sq}{x y z w:Nat}(h:Jh G n i q x y z w){j:Nat}(a:j<4):q.parts[j]?=some ((f4 x y z w j:Nat):Int)/\Al G (f4 x y z w j) n:=by
 rw[h.ps]
 match j,a with
 |0,_=>exact⟨rfl,h.hx⟩
 |1,_=>exact⟨rfl,h.hy⟩
 |2,_=>exact⟨rfl,h.hz⟩
 |3,_=>exact⟨rfl,h.hw⟩
theorem PB(p:L_){j:Nat}(a:j<4):f4 (p 0) (p 1) (p 2) (p 3) j=p j:=by
 match j,a with
 |0,_=>rfl
 |1,_=>rfl
 |2,_=>rfl
 |3,_=>rfl
def BA(n:Nat)(ps:Nat->Nat->Nat):Prop:=∀k j,k<4->j<4->j+k≠3->ps k j=bareN n
def Ft(G:Gv):Nat->Nat->Nat->Prop
|0,_,_=>False
|1,f,r=>r=f
|n+2,f,r=>∃qs ps,Oe G n f qs ps/\((¬BA n ps/\r=f)\/(BA n ps/\∃m,G[m]?=some ⟨[(ps 0 3:Int),(ps 1 2:Int),(ps 2 1:Int),(ps 3 0:Int)],(n:Int)+1⟩/\Ft G (n+1) m r))
theorem Ft.app{G b:Gv}{k:Nat}(a:AH G b k):∀{n f r:Nat},Ft G n f r->Ft b n f r
|0,_,_,h=>h
|1,_,_,h=>h
|n+2,f,r,h=>by
 obtain⟨j,i,d,h⟩:=h;refine⟨j,i,d.app a,?_⟩;rcases h with h|⟨c,m,e,g⟩
 .exact .inl h
 .exact .inr ⟨c,m,a.get e,Ft.app a g⟩
section
variable{P:N_}{w:Q_}{K:O_}{mg:C_}{base:T_}{a:Ad}
theorem IK{H:Hp}{g:GA}{G:Gv}(h:AJ a H g G){n i:Nat}{q:Sq}{x y z w:Nat}(nd:Jh G n i q x y z w):∃(c:H_)(t:R_),H g.pt=some (.lst (c.map V.ref))/\(c.map V.ref)[i]?=some (.ref t)/\H t=some (.tup [.int x,.int y,.int z,.int w]):=by
 obtain⟨c,e,f⟩:=h.pt;obtain⟨t,d,b⟩:=PairedM.get f nd.g;refine⟨c,t,e,by rw[C0,d];rfl,?_⟩;have b:H t=some (.tup (q.parts.map V.int)):=b;rw[nd.ps]at b;exact b
inductive SpMid(a:Ad)(vs:List V)(H:Hp)(Q:VK):Prop
|mk (g:GA) (G:Gv) (i n:Nat) (qs:L_) (ps:Nat->Nat->Nat) (_:vs=[.ref g.p,.int i]) (_:AJ a H g G) (_:GOk G) (_:Oe G n i qs ps) (_:n<47) (_:G.length<8900000) (_:∀(m:Nat)(G':Gv)(H':Hp),Fr g H H'->AJ a H' g G'->AH G G' 1->G'[m]?=some ⟨[(ps 0 3:Int),(ps 1 2:Int),(ps 2 1:Int),(ps 3 0:Int)],(n:Int)+1⟩->Q (.int m) H'):SpMid a vs H Q
def YK(a:Ad):Sp:=λvs H Q _=>SpMid a vs H Q
theorem ok_mid(F:Fun K "middle_of" "middle_of" Gr f fd)(T:Top K mg a)(a9:BD P w K mg base CX0 2 a.c_Grove "linked" AU (DS a)):AK P w K mg base CX0 3 f fd Lj (YK a):=by
 refine F.ok Mh D_9 λab A aa s H vs Q E hr h=>?_
 obtain⟨g,G,i,n,c,l,rfl,M,ok,I,ac,few,k⟩:=h;obtain⟨q,nd⟩:=I.node;obtain⟨ts,t,U,et,ht⟩:=IK M nd;refine⟨_,(Ac (IH (i:=2) rfl Mh.nd rfl rfl (Bz.of (So:=Ah Gr) (No:=NQ) (N:=["quarter","grove"]) (k:=1) (cs:=[0]) rfl rfl A1) (Nh (Aj Ax (AF (pv 0) rfl) (pv 1) R_9)) (λ_ _ _=>(Bd (i:=0) A1 rfl rfl)) (λ_ _ _=>BG) (λ_ _ _=>(Aj (Tz (K:=K) rfl) (Op (K:=K) rfl (pv 1) rfl) (pv 0) R_9))) (Af (Au (AD (pv 0) a9 (rm hr) Am (Br (Aa (Aj An (Aj Ax (pv 2) Ae R_9) Ae R_9) (Aa (Aj An (Aj Ax (pv 2) Ae R_9) Ae R_9) (Aa (Aj An (Aj Ax (pv 2) Ae R_9) Ae R_9) (Aa (Aj An (Aj Ax (pv 2) Ae R_9) Ae R_9) Ab)))) Ab))))),?_⟩
 try dsimp only[cxK]
 refine xwf rfl rfl M.hp T.cl_Grove T.na_Grove_parts (CB g) (xwi rfl rfl rfl (SqL.of U) (Ai et) ⟨t,rfl,⟨_,SqT.of ht⟩,?_⟩);have b:∀k,k<4->∃tk,(ts.map V.ref)[c k]?=some (.ref tk)/\H tk=some (.tup [.int (l k 0),.int (l k 1),.int (l k 2),.int (l k 3)]):=λk hk=>by
  obtain⟨qk,Z⟩:=I.sub k hk;obtain⟨ad,tk,u,S,X⟩:=IK M Z;rw[U]at u;have u:=HO.lst.inj (K0 u);exact⟨tk,by rw[u];exact S,X⟩
 obtain⟨x,e0,p0⟩:=b 0 A4;obtain⟨y,e1,p1⟩:=b 1 A4;obtain⟨B,e2,p2⟩:=b 2 A4;obtain⟨C,e3,p3⟩:=b 3 A4;have all:∀(j:Nat)(v:V),[V.int (c 0:Int),V.int (c 1:Int),V.int (c 2:Int),V.int (c 3:Int)][j]?=some v->∃(k:Nat)(tk:R_),v=.int (k:Int)/\(ts.map V.ref)[k]?=some (.ref tk)/\[V.ref x,V.ref y,V.ref B,V.ref C][j]?=some (.ref tk):=λj v d=>by
  match j,d with
  |0,d=>cases d;exact⟨c 0,x,rfl,e0,rfl⟩
  |1,d=>cases d;exact⟨c 1,y,rfl,e1,rfl⟩
  |2,d=>cases d;exact⟨c 2,B,rfl,e2,rfl⟩
  |3,d=>cases d;exact⟨c 3,C,rfl,e3,rfl⟩
  |j+4,d=>simp at d
 refine Ow (xs:=[.int (c 0:Int),.int (c 1:Int),.int (c 2:Int),.int (c 3:Int)]) (λj r R=>H=R/\r=[V.ref x,V.ref y,V.ref B,V.ref C].take j) ⟨rfl,rfl⟩ (λj r R _ z=>z.1▸SqT.of ht) ?_ ?_
 .rintro j v r R d ⟨rfl,rfl⟩;obtain⟨k',tk,rfl,ek,el⟩:=all j v d;refine⟨⟨[some (.int k')],rfl,rfl⟩,by rw[M5];exact Eu (by show min j 4<10000000;lia),Gm (xwf rfl rfl M.hp T.cl_Grove T.na_Grove_parts (CB g) (xwi rfl rfl rfl (SqL.of U) (Ai ek) ⟨rfl,?_⟩))⟩;rw[F9,el];rfl
 .rintro r R ⟨rfl,rfl⟩ L hL;have D:=AN (o:=.lst [V.ref x,V.ref y,V.ref B,V.ref C]) hL;have p:upd H L (.lst [V.ref x,V.ref y,V.ref B,V.ref C]) L=some (.lst [V.ref x,V.ref y,V.ref B,V.ref C]):=Ag;rw[show(List.take [V.int (c 0:Int),V.int (c 1:Int),V.int (c 2:Int),V.int (c 3:Int)].length [V.ref x,V.ref y,V.ref B,V.ref C])=[V.ref x,V.ref y,V.ref B,V.ref C]from rfl];generalize upd H L (.lst [V.ref x,V.ref y,V.ref B,V.ref C])=H1 at D p⊢;have O:=M.same D;refine xwn rfl rfl O.hp (BK g) rfl (xq4 rfl rfl (SqL.of p) (Ai (j:=0) rfl) (xq4 rfl rfl (SqT.of (D _ _ p0)) (Ai (j:=3) rfl) (xwi rfl rfl rfl (SqL.of p) (Ai (j:=1) rfl) (xq4 rfl rfl (SqT.of (D _ _ p1)) (Ai (j:=2) rfl) ?_))));refine xwi rfl rfl rfl (SqL.of p) (Ai (j:=2) rfl) (xq4 rfl rfl (SqT.of (D _ _ p2)) (Ai (j:=1) rfl) (xwi rfl rfl rfl (SqL.of p) (Ai (j:=3) rfl) (xq4 rfl rfl (SqT.of (D _ _ p3)) (Ai (j:=0) rfl) ⟨S_4,λt4 Y=>?_⟩)));have s2:=AN (o:=.tup [.int (l 0 3),.int (l 1 2),.int (l 2 1),.int (l 3 0)]) Y;obtain⟨_,n0⟩:=I.sub 0 A4;obtain⟨_,n1⟩:=I.sub 1 A4;obtain⟨_,n2⟩:=I.sub 2 A4;obtain⟨_,n3⟩:=I.sub 3 A4;exact⟨g,G,t4,l 0 3,l 1 2,l 2 1,l 3 0,(n:Int),rfl,O.same s2,ok,Ag,⟨n0.hw,n1.hz,n2.hy,n3.hx⟩,by lia,by lia,λm G' H' fr W go e=>k m G' H' ((AC.fr D).trans ((AC.fr s2).trans fr)) W go e⟩
inductive SpBA(a:Ad)(vs:List V)(H:Hp)(Q:VK):Prop
|mk (g:GA) (G:Gv) (i n:Nat) (qs:L_) (ps:Nat->Nat->Nat) (_:vs=[.ref g.p,.int i]) (_:AY a H g G) (_:Oe G n i qs ps) (_:n<47) (_:(BA n ps->∀H',AC H H'->Q (.bl true) H')) (_:(¬BA n ps->∀H',AC H H'->Q (.bl false) H')):SpBA a vs H Q
def spBA(a:Ad):Sp:=λvs H Q _=>SpBA a vs H Q
theorem ok_ba(F:Fun K "is_bare_around" "is_bare_around" Ex f fd)(T:Top K mg a):AK P w K mg base CX0 1 f fd Lj (spBA a):=by
 refine F.ok BP D_9 λad A ac s H vs Q E hr h=>?_
 obtain⟨g,G,i,n,u,l,rfl,r,dp,ae,k1,k2⟩:=h;obtain⟨q,nd⟩:=dp.node;have lq:=nd.lev;obtain⟨ts,t,h3,et,ht⟩:=IK r.at' nd;refine⟨_,(Ac (Ao (i:=2) BP.nd rfl O_9 (Aj Ax (AF (pv 0) rfl) (AA BJ (Aj Ax (AF (pv 0) rfl) (pv 1) R_9) Ae) R_9)) (Ac (BU X5 rfl (Mr true rfl T.b_enumerate (Aa (Aj Ax (AF (pv 0) rfl) (pv 1) R_9) Ab)) (Nj rfl (CS (AZ (i:=3) BP.nd rfl O_9) (CS (AZ (i:=4) BP.nd rfl O_9) Li))) (Af (BU X5 rfl (Mr true rfl T.b_enumerate (Aa (Aj Ax (AF (pv 0) rfl) (pv 4) R_9) Ab)) (Nj rfl (CS (AZ (i:=5) BP.nd rfl O_9) (CS (AZ (i:=6) BP.nd rfl O_9) Li))) (Af (AM (PW.pt (JC (Ay Dk (pv 6) (pv 2) (AE _)) (Gw (Ay Dk (pv 5) (AA BJ Ae (pv 3)) (AE _))))) (Af (Au LB)) AB))))) (Af (Au LB)))),?_⟩
 try dsimp only[cxK]
 refine xwf rfl rfl r.at'.hp T.cl_Grove T.na_Grove_bares (Lb g) (xwf rfl rfl r.at'.hp T.cl_Grove T.na_Grove_levels (Eo g) (xwi rfl rfl rfl (SqL.of r.at'.lv) (Ai (by rw[C0,nd.g];rfl)) (xq2 rfl rfl (xq4 rfl rfl (SqL.of r.br) (by rw[show q.lev-2=(n:Int) by lia];exact Ai (bareL_at' A0)) ?_))));refine xwf rfl rfl r.at'.hp T.cl_Grove T.na_Grove_parts (CB g) (xwi rfl rfl rfl (SqL.of h3) (Ai et) ⟨t,rfl,⟨_,SqT.of ht⟩,?_⟩);refine La (b:=true) (xs:=[.int (u 0:Int),.int (u 1:Int),.int (u 2:Int),.int (u 3:Int)]) (λj σ I=>AC H I/\(∃u3 u4 C D:Option V,σ=[some (.ref g.p),some (.int i),some (.int (bareN n:Int)),u3,u4,C,D])/\∀m d,m<j->m<4->d<4->d+m≠3->l m d=bareN n) ⟨AC.refl H,⟨none,none,none,none,rfl⟩,λm d h=>absurd h (N3 _)⟩ (λj σ I _ z=>SqT.of (z.1 _ _ ht)) ?_ ?_
 .rintro j v σ I T' c ⟨sm,⟨u3,u4,C,D,rfl⟩,W⟩ nT;have Z:j<4:=(B9.mp c).1;have y:v=.int (u j:Int):=by
   match j,Z,c with
   |0,_,c=>cases c;rfl
   |1,_,c=>cases c;rfl
   |2,_,c=>cases c;rfl
   |3,_,c=>cases c;rfl
  subst y;obtain⟨qk,ab⟩:=dp.sub j Z;have U:=sm.trans (AN (o:=.tup [.int j,.int (u j)]) nT);refine QD Ag ?_;generalize upd I T' (.tup [.int j,.int (u j)])=H3 at U⊢;obtain⟨af,t3,Y,X,S⟩:=IK (r.at'.same U) ab;refine xwf rfl rfl ((r.at'.same U).hp) T.cl_Grove T.na_Grove_parts (CB g) (xwi rfl rfl rfl (SqL.of Y) (Ai X) ⟨t3,rfl,⟨_,SqT.of S⟩,?_⟩);refine La (b:=true) (xs:=[.int (l j 0:Int),.int (l j 1:Int),.int (l j 2:Int),.int (l j 3:Int)]) (λk σ M=>AC H3 M/\(∃C D:Option V,σ=[some (.ref g.p),some (.int i),some (.int (bareN n:Int)),some (.int j),some (.int (u j)),C,D])/\∀d,d<k->d<4->d+j≠3->l j d=bareN n) ⟨AC.refl H3,⟨_,_,rfl⟩,λd h=>absurd h (N3 _)⟩ (λk σ M _ z=>SqT.of (z.1 _ _ S)) ?_ ?_
  .rintro k v σ M T2 c ⟨B,⟨C,D,rfl⟩,x⟩ aa;have R:k<4:=(B9.mp c).1;have y:v=.int (l j k:Int):=by
    match k,R,c with
    |0,_,c=>cases c;rfl
    |1,_,c=>cases c;rfl
    |2,_,c=>cases c;rfl
    |3,_,c=>cases c;rfl
   subst y;have s4:=B.trans (AN (o:=.tup [.int k,.int (l j k)]) aa);refine QD Ag ?_;generalize upd M T2 (.tup [.int k,.int (l j k)])=H5 at s4⊢;refine xw2 rfl rfl ⟨rfl,(xq1 rfl ?_)⟩;refine Yw (b2:=!decide (V.int (k:Int)=V.int (3-(j:Int)))) (λ_ Q' q=>(xw2 rfl rfl (xq2 rfl rfl ⟨rfl,(xq1 rfl q)⟩))) ?_;refine Er (λO=>?_) (λO=>?_)
   .refine k2 (λba=>?_) H5 (U.trans s4);rw[P9]at O;have c2:¬k+j=3:=λz=>by
     have:=O.2;rw[Z7 (show V.int (k:Int)=V.int (3-(j:Int)) by congr 1;lia)]at this;cases this
    have c1:=O.1;rw[ba j k Z R c2,Z7 rfl]at c1;cases c1
   .refine⟨s4,⟨_,_,rfl⟩,λd L N e=>?_⟩;rcases O7.mp L with h|h
    .exact x d h N e
    .subst h;refine K2 λz=>O ?_;rw[Z8 (show ¬V.int (l j d:Int)=V.int (bareN n:Int) by intro q;injection q with q;exact z (K1 q)),Z8 (show ¬V.int (d:Int)=V.int (3-(j:Int)) by intro q;injection q with q;lia)];rfl
  .rintro σ M ⟨B,⟨C,D,rfl⟩,x⟩;refine⟨U.trans B,⟨_,_,_,_,rfl⟩,λm d L N e h4=>?_⟩;rcases O7.mp L with h|h
   .exact W m d h N e h4
   .subst h;exact x d e e h4
 .rintro σ I ⟨sm,⟨u3,u4,C,D,rfl⟩,W⟩;exact k1 (λm d L N e=>W m d L L N e) I sm
end
theorem Ft.lev{G:Gv}:∀{l f r:Nat},Al G f (l:Int)->Ft G l f r->∃n,n+1<=l/\Al G r ((n+1:Nat):Int)
|0,_,_,_,h=>h.elim
|1,f,r,hl,h=>by
 have h:r=f:=h;subst h;exact⟨0,C1 _,hl⟩
|n+2,f,r,hl,h=>by
 apply AL;intro b a;obtain⟨j,i,d,h⟩:=h;apply a;clear a b;rcases h with ⟨_,rfl⟩|⟨_,m,e,h⟩
 .exact⟨n+1,C1 _,hl⟩
 .obtain⟨k,g,c⟩:=Ft.lev (l:=n+1) ⟨_,e,by show(n:Int)+1=_;lia⟩ h;exact⟨k,by lia,c⟩
section
variable{P:N_}{w:Q_}{K:O_}{mg:C_}{base:T_}{a:Ad}
inductive SpTrim(a:Ad)(vs:List V)(H:Hp)(Q:VK):Prop
|mk (g:GA) (G:Gv) (f n:Nat) (_:vs=[.ref g.p,.int f]) (_:AY a H g G) (_:Al G f ((n+1:Nat):Int)) (_:G.length<8800000) (_:∀(r:Nat)(G':Gv)(H':Hp),Fr g H H'->AY a H' g G'->AH G G' 48->Ft G' (n+1) f r->Q (.int r) H'):SpTrim a vs H Q
def MT(a:Ad):Sp:=λvs H Q _=>SpTrim a vs H Q
theorem ok_trim(F:Fun K "trimmed" "trimmed" Na f fd)(T:Top K mg a)(aA:BD P w K mg base CX0 3 a.c_Grove "level_of" JU (Jv a))(bF:Cal P w K mg base CX0 1 "is_bare_around" Lj (spBA a))(cL:Cal P w K mg base CX0 3 "middle_of" Lj (YK a)):AK P w K mg base CX0 4 f fd Lj (MT a):=by
 refine F.ok LI (λvs H Q E h=>?_) (λaa A W s H vs Q E U h=>?_)
 .apply AL;intro y e;obtain⟨g,G,o,n,rfl,_⟩:=h;apply e;clear e y;rfl
 .apply AL;intro y e;obtain⟨g,G,o,n,rfl,C,hl,few,k⟩:=h;obtain⟨q,eq,lq⟩:=id hl;apply e;clear e y;have ac:n+1<=48:=by have:=(C.ok.lev eq).2;lia
  refine⟨_,(Ac (AM (Ay Ih (AD (pv 0) aA (rm U) Am (Aa (pv 1) Ab)) (BV rfl T.k_LEAST_LEVEL) (AE _)) (Af Bh) AB) (Ac (Ao (i:=2) LI.nd rfl O_9 (pv 1)) (Ac (EW X5 (PW.pt (JC (Ay Pc (Aj Ax (AF (pv 0) rfl) (pv 2) R_9) (BV rfl T.k_LEAST_LEVEL) (AE _)) (Gw (Ch (Ar bF (rm U) rfl Am (Aa (pv 0) (Aa (pv 2) Ab))))))) (Af (Ao (i:=2) LI.nd rfl O_9 (Ar cL (rm U) rfl Am (Aa (pv 0) (Aa (pv 2) Ab)))))) (Af (Au (pv 2)))))),?_⟩
  try dsimp only[cxK]
  refine xq1 rfl ⟨g.p,g.dx,(xq1 rfl ⟨C.at'.hp,Cc g,(xq1 rfl ⟨g,G,o,q,rfl,C.at',eq,(xq2 rfl rfl (xq1 rfl ?_))⟩)⟩)⟩;rw[Z8 (by lia:¬q.lev<1)];refine Bf (xq1 rfl ?_);refine⟨λm σ D=>∃(j:Gv)(c:Nat),σ=[some (.ref g.p),some (.int o),some (.int c)]/\Fr g H D/\AY a D g j/\AH G j (n-m)/\m<=n/\Al j c ((m+1:Nat):Int)/\∀(r:Nat)(d:Gv)(k:Nat),AH j d k->Ft d (m+1) c r->Ft d (n+1) o r,⟨n,G,o,rfl,Fr.refl g H,C,(AH.refl C.ok).mono A0,C1 _,hl,λ_ _ _ _ h=>h⟩,?_⟩;rintro m σ D Y;apply AL;intro y e;obtain⟨j,c,rfl,fr,b,L,mn,lc,X⟩:=Y;apply e;clear e y;have gf:=L.few;obtain⟨qc,ec,ab⟩:=id lc;refine xwf rfl rfl b.at'.hp T.cl_Grove T.na_Grove_levels (Eo g) (xwi rfl rfl rfl (SqL.of b.at'.lv) (Ai (by rw[C0,ec];rfl)) (xq2 rfl rfl (xq1 rfl ?_)));cases m with
  |zero =>
   rw[Z8 (by lia:¬(1:Int)<qc.lev)];exact Bf (Bf (xq1 rfl (k c j D fr b (L.mono A0) (X c j 0 (AH.refl b.ok) rfl))))
  |succ m =>
   rw[Z7 (by lia:(1:Int)<qc.lev)];obtain⟨N,M,I⟩:=deep_of b.ok lc;refine Cz (xw2 rfl rfl ⟨g,j,c,m,N,M,rfl,b,I,by lia,λba Z x=>⟨true,rfl,Cz ?_⟩,λV Z x=>⟨false,rfl,Bf ?_⟩⟩)
   .refine⟨fun σ' O=>∃(u:Gv)(v:Nat),σ'=[some (.ref g.p),some (.int o),some (.int v)]/\Fr g H O/\AY a O g u/\AH G u (n-m)/\m<=n/\Al u v ((m+1:Nat):Int)/\∀(r:Nat)(d:Gv)(k:Nat),AH u d k->Ft d (m+1) v r->Ft d (n+1) o r,fun σ' O z=>⟨m,by lia,z⟩,?_⟩;refine xw2 rfl rfl ⟨g,j,c,m,N,M,rfl,b.at'.same x,b.ok,I,by lia,by lia,λv u H4 B S l e4=>?_⟩;have R:=(b.same x).fr B S l;refine⟨u,v,rfl,fr.trans ((AC.fr x).trans B),R,(L.trans l).mono A0,by lia,⟨_,e4,by show(m:Int)+1=_;lia⟩,λr d k' t t5=>?_⟩;exact X r d _ (l.trans t) ⟨N,M,I.app (l.trans t),.inr ⟨ba,v,t.get e4,t5⟩⟩
   .exact xq1 rfl (k c j Z (fr.trans (AC.fr x)) (b.same x) (L.mono A0) (X c j 0 (AH.refl b.ok) ⟨N,M,I,.inl ⟨V,rfl⟩⟩))
def Gn(G:Gv)(n f:Nat):Nat->Nat->Prop
|0,w=>w=f
|k+1,w=>∃u,Gn G n f k u/\Wid G (n+k) u w
theorem Gn.app{G b:Gv}{m n f:Nat}(c:AH G b m):∀{k w:Nat},Gn G n f k w->Gn b n f k w
|0,_,h=>h
|k+1,w,h=>by
 obtain⟨u,d,e⟩:=h;exact⟨u,Gn.app c d,e.app c⟩
inductive SpWO(a:Ad)(vs:List V)(H:Hp)(Q:VK):Prop
|mk (g:GA) (G:Gv) (f n:Nat) (t:R_) (x y wd ht:Int) (_:vs=[.ref g.p,.int f,.ref t]) (_:AY a H g G) (_:Al G f ((n+1:Nat):Int)) (_:n<=40) (_:H t=some (.tup [.int x,.int y,.int wd,.int ht])) (_:Ji x y wd ht (2^40)) (_:G.length<8700000) (_:∀(k w:Nat)(G':Gv)(H':Hp),Fr g H H'->AY a H' g G'->AH G G' (5*k)->n+k<=40->Gn G' n f k w->Al G' w ((n+k+1:Nat):Int)->Ji x y wd ht (2^(n+k))->(∀j,j<k->¬Ji x y wd ht (2^(n+j)))->Q (.int w) H'):SpWO a vs H Q
def spWO(a:Ad):Sp:=λvs H Q _=>SpWO a vs H Q
theorem ok_wo(F:Fun K "widened_over" "widened_over" FI f fd)(T:Top K mg a)(aM:Cal P w K mg base CX0 1 "lies_within" Qd SQ)(aN:Cal P w K mg base CX0 4 "reach_of" UD (Lf a))(bI:Cal P w K mg base CX0 4 "widened" Lj (Vp a)):AK P w K mg base CX0 5 f fd FS (spWO a):=by
 refine F.ok Fc (λvs H Q E h=>?_) (λaa A X s H vs Q E U h=>?_)
 .apply AL;intro u b;obtain⟨g,G,q,n,t,x,y,D,Z,rfl,_⟩:=h;apply b;clear b u;rfl
 .apply AL;intro u b;obtain⟨g,G,q,n,t,x,y,D,L,rfl,N,hl,ac,Z,li,few,k⟩:=h;apply b;clear b u;refine⟨_,(Ac (Ao (i:=3) Fc.nd rfl O_9 (pv 1)) (Ac (EW X5 (CZ (Ch (Ar aM (rm U) rfl Am (Aa (pv 2) (Aa (Ar aN (rm U) rfl Am (Aa (pv 0) (Aa (pv 3) Ab))) Ab))))) (Af (Ao (i:=3) Fc.nd rfl O_9 (Ar bI (rm U) rfl Am (Aa (pv 0) (Aa (pv 3) Ab)))))) (Af (Au (pv 3))))),?_⟩
  try dsimp only[cxK]
  refine xq1 rfl ?_;refine⟨λm σ I=>∃(e:Gv)(c j:Nat),σ=[some (.ref g.p),some (.int q),some (.ref t),some (.int c)]/\Fr g H I/\AY a I g e/\AH G e (5*j)/\n+j+m=40/\Al e c ((n+j+1:Nat):Int)/\Gn e n q j c/\∀i,i<j->¬Ji x y D L (2^(n+i)),⟨40-n,G,q,0,rfl,Fr.refl g H,N,AH.refl N.ok,by lia,hl,rfl,λi S=>absurd S (N3 _)⟩,?_⟩;rintro m σ I Y;apply AL;intro u b;obtain⟨e,c,j,rfl,fr,d,O,ab,W,wn,no⟩:=Y;apply b;clear b u;have gf:=O.few;have V:=fr.tup N.at' Z;refine xq1 rfl (xq1 rfl (xq1 rfl ⟨g,e,c,n+j,rfl,d.at',W,by lia,t,x,y,D,L,_,rfl,V,_,rfl,?_⟩));by_cases r:Ji x y D L (2^(n+j))
  .rw[Z7 r];exact Bf (xq1 rfl (k j c e I fr d O A0 wn W r no))
  .rw[Z8 r];have m0:m≠0:=λz=>by
    subst z;have:n+j=40:=by lia
    rw[this]at r;exact r li
   refine Cz ⟨fun σ' M=>∃(o:Gv)(v C:Nat),σ'=[some (.ref g.p),some (.int q),some (.ref t),some (.int v)]/\Fr g H M/\AY a M g o/\AH G o (5*C)/\n+C+(m-1)=40/\Al o v ((n+C+1:Nat):Int)/\Gn o n q C v/\∀i,i<C->¬Ji x y D L (2^(n+i)),fun σ' M z=>⟨m-1,by lia,z⟩,?_⟩;refine xw2 rfl rfl ⟨g,e,c,n+j,rfl,d,W,by lia,by lia,λv o H3 B R l wi=>?_⟩;refine⟨o,v,j+1,rfl,fr.trans B,d.fr B R l,(O.trans l).mono A0,by lia,?_,⟨c,wn.app l,wi⟩,λi S=>?_⟩
   .have:=wi.lev;rw[show n+(j+1)+1=n+j+2 by lia];exact this
   .rcases O7.mp S with h|h
    .exact no i h
    .rw[h];exact r
end
def st4(x y z w k j:Nat)(i:Nat):Nat:=if i=k then j else f4 x y z w i
def quad(l x y:Nat):Nat:=x/2^l+2*(y/2^l)
theorem GB{l x:Nat}(h:x<2^(l+1)):x/2^l<2:=by
 rw[W9 (V4 A4),U6,<-F4];exact h
theorem DD{l x y:Nat}(a:x<2^(l+1))(b:y<2^(l+1)):quad l x y<4:=by
 have c:=GB a;have d:=GB b;unfold quad;lia
theorem Ig(l:Nat):((2^l:Nat):Int)=(2:Int)^l:=L8 2 l
theorem quad_c(l x y:Nat):(x:Int)/2^l+2*((y:Int)/2^l)=((quad l x y:Nat):Int):=by
 unfold quad;rw[<-Ig,N4,O3,Int.natCast_ediv,Int.natCast_ediv];rfl
theorem mod_c(l x:Nat):(x:Int)%2^l=((x%2^l:Nat):Int):=by rw[<-Ig,Int.natCast_emod]
theorem set4(x y z w j:Nat){k:Nat}(a:k<4):([V.int (x:Int),V.int (y:Int),V.int (z:Int),V.int (w:Int)].set k (.int j))=[V.int (st4 x y z w k j 0:Int),V.int (st4 x y z w k j 1:Int),V.int (st4 x y z w k j 2:Int),V.int (st4 x y z w k j 3:Int)]:=by
 match k,a with
 |0,_=>rfl
 |1,_=>rfl
 |2,_=>rfl
 |3,_=>rfl
def Rep(G:Gv)(s:Nat):Nat->Nat->Nat->Nat->Nat->Prop
|0,_,_,_,r=>r=s
|l+1,i,x,y,r=>∃(q:Sq)(a b c d j:Nat),Jh G l i q a b c d/\Rep G s l (f4 a b c d (quad l x y)) (x%2^l) (y%2^l) j/\G[r]?=some ⟨[(st4 a b c d (quad l x y) j 0:Int),(st4 a b c d (quad l x y) j 1:Int),(st4 a b c d (quad l x y) j 2:Int),(st4 a b c d (quad l x y) j 3:Int)],(l:Int)+1⟩
theorem Rep.app{G g:Gv}{m s:Nat}(f:AH G g m):∀{l i x y r:Nat},Rep G s l i x y r->Rep g s l i x y r
|0,_,_,_,_,h=>h
|l+1,i,x,y,r,h=>by
 obtain⟨q,a,b,c,d,j,nd,k,e⟩:=h;exact⟨q,a,b,c,d,j,nd.app f,Rep.app f k,f.get e⟩
theorem Rep.lev{G:Gv}(ok:GOk G){s:Nat}(f:s<8):∀{l i x y r:Nat},Rep G s l i x y r->Al G r (l:Int)
|0,_,_,_,r,h=>by
 have h:r=s:=h;subst h;exact⟨_,ok.leaf r f,rfl⟩
|l+1,_,_,_,_,h=>by
 obtain⟨q,a,b,c,d,j,nd,g,e⟩:=h;exact⟨_,e,by show(l:Int)+1=_;lia⟩
section
variable{P:N_}{w:Q_}{K:O_}{mg:C_}{base:T_}{a:Ad}
inductive SpRep(a:Ad)(n:Nat)(vs:List V)(H:Hp)(Q:VK):Prop
|mk (g:GA) (G:Gv) (i l x y s:Nat) (_:vs=[.ref g.p,.int i,.int x,.int y,.int s]) (_:AJ a H g G) (_:GOk G) (_:Al G i (l:Int)) (_:l<n) (_:x<2^l) (_:y<2^l) (_:s<8) (_:G.length+l<8900000) (_:∀(r:Nat)(G':Gv)(H':Hp),Fr g H H'->AJ a H' g G'->AH G G' l->Rep G' s l i x y r->Q (.int r) H'):SpRep a n vs H Q
def Vq(a:Ad)(n:Nat):Sp:=λvs H Q _=>SpRep a n vs H Q
theorem Zp(F:Fun K "replaced" "replaced" LJ f fd)(T:Top K mg a)(hm:mg "replaced" = some (.ref f))(Bi:Df K fd FT [])(aJ:BD P w K mg base CX0 3 a.c_Grove "leaf" RN (OE a))(a9:BD P w K mg base CX0 2 a.c_Grove "linked" AU (DS a)):∀n,AK P w K mg base CX0 (n+4) f fd FT (Vq a n)
|0=>by
 refine F.ok DN (λvs H Q E h=>?_) (λab A N s H vs Q E W h=>?_)
 .obtain⟨g,G,i,l,x,y,s,rfl,_,_,_,h0,_⟩:=h;exact absurd h0 (N3 _)
 .obtain⟨g,G,i,l,x,y,s,rfl,_,_,_,h0,_⟩:=h;exact absurd h0 (N3 _)
|n+1=>by
 have bM:Cal P w K mg base CX0 (n+4) "replaced" FT (Vq a n):=⟨f,fd,Zp F T hm Bi aJ a9 n,hm,F.kp,Bi⟩
 refine F.ok DN (λvs H Q E h=>?_) (λab A N s H vs Q E W h=>?_)
 .obtain⟨g,G,i,l,x,y,s,rfl,_⟩:=h;rfl
 .obtain⟨g,G,i,l,x,y,st,rfl,B,ok,hl,ln,hx,hy,s8,few,k⟩:=h;obtain⟨q0,e0,l0⟩:=id hl;refine⟨_,(Ac (Ao (i:=5) DN.nd rfl O_9 (Aj Ax (AF (pv 0) rfl) (pv 1) R_9)) (Ac (AM (Ay CG (pv 5) Ae (AE _)) (Af (Au (AD (pv 0) aJ (rm W) Am (Aa (pv 4) Ab)))) AB) (Ac (Ao (i:=6) DN.nd rfl O_9 (AA IZ Ae (AA BJ (pv 5) Ae))) (Ac (Ao (i:=7) DN.nd rfl O_9 (Bo Sk rfl T.b_list PyProof.Rows.boot_list (Aa (Aj Ax (AF (pv 0) rfl) (pv 1) R_9) Ab))) (Ac (Ao (i:=8) DN.nd rfl O_9 (AA AQ (AA Tg (pv 2) (pv 6)) (AA Fo Ae (AA Tg (pv 3) (pv 6))))) (Ac (ps_asg (Ar bM (rm W) rfl Am (Aa (pv 0) (Aa (Aj Ax (pv 7) (pv 8) R_9) (Bl Bb (pv 2) (pv 6) (Bl Bb (pv 3) (pv 6) (Aa (pv 4) Ab)))))) (pg_sub (pv 7) (pv 8) YV)) (Af (Au (AD (pv 0) a9 (rm W) Am (Aa (Bo Cp rfl T.b_tuple A0b (Aa (pv 7) Ab)) Ab)))))))))),?_⟩
  try dsimp only[cxK]
  refine⟨_,rfl,g.p,_,g.dx,_,_,rfl,B.hp,T.cl_Grove,T.na_Grove_levels,Eo g,_,rfl,g.lv,_,(i:Int),.int q0.lev,rfl,rfl,SqL.of B.lv,Ai (by rw[C0,e0];rfl),?_⟩;cases l with
  |zero =>
   rw[l0];exact xq1 rfl ⟨rfl,(xq1 rfl (Cz (xwn rfl rfl B.hp (Ry g) rfl ⟨g.p,(st:Int),rfl,by lia,by lia,k st G H (Fr.refl g H) B (AH.refl ok) rfl⟩)))⟩
  |succ l =>
   have ah:q0.lev=(l:Int)+1:=by rw[l0];lia
   have ak:=(ok.lev e0).2;have C:=pow2_lt (l:=l) A0;have v:=Rs l;obtain⟨q,c,d,m,u,nd⟩:=BX ok hl;obtain⟨ts,t,h3,et,ht⟩:=IK B nd;refine xq1 rfl ⟨rfl,(xq1 rfl ?_)⟩;rw[Z8 (by intro z;injection z with z;lia)];refine Bf (xwb rfl rfl rfl (xq2 rfl rfl ⟨⟨by lia,by lia,by decide⟩,?_⟩));rw[show(λ(i j:Int)=>V.int (i*2^j.toNat)) 1 (q0.lev-1)=V.int (2^l)from K5 V.int (Ra l ah)];refine xwf rfl rfl B.hp T.cl_Grove T.na_Grove_parts (CB g) (xwi rfl rfl rfl (SqL.of h3) (Ai et) ⟨t,(xq1 rfl ⟨.inr (SqT.of ht),λL hL=>?_⟩)⟩);have Z:Ap g L:=Ap.new B hL;have s1:=AN (o:=.lst [.int c,.int d,.int m,.int u]) hL;have I:upd H L (.lst [.int c,.int d,.int m,.int u]) L=some (.lst [.int c,.int d,.int m,.int u]):=Ag;generalize upd H L (.lst [.int c,.int d,.int m,.int u])=H1 at s1 I⊢;have ad:=B.same s1;have X:=DD hx hy;refine xw2 rfl rfl (xq2 rfl rfl ⟨⟨v,C⟩,(xw2 rfl rfl (xq2 rfl rfl ⟨⟨v,C⟩,(xq2 rfl rfl ⟨.inl ⟨by decide,by decide⟩,(xq2 rfl rfl ?_)⟩)⟩))⟩);rw[show(λ(i j:Int)=>V.int (i+j)) ((x:Int)/2^l) (2*((y:Int)/2^l))=V.int ((quad l x y:Nat):Int)from K5 V.int (quad_c l x y)];have aa:[V.int (c:Int),V.int (d:Int),V.int (m:Int),V.int (u:Int)][quad l x y]?=some (.int (f4 c d m u (quad l x y):Int)):=by
    generalize quad l x y=kk at X⊢
    match kk,X with
    |0,_=>rfl
    |1,_=>rfl
    |2,_=>rfl
    |3,_=>rfl
   have ai:Al G (f4 c d m u (quad l x y)) (l:Int):=(nd.nat X).2;refine xw3 rfl rfl rfl (xq4 rfl rfl (SqL.of I) (Ai aa) (xw2 rfl rfl (xq2 rfl rfl ⟨v,(xw2 rfl rfl (xq2 rfl rfl ⟨v,(xq1 rfl ?_)⟩))⟩)));refine⟨g,G,f4 c d m u (quad l x y),l,x%2^l,y%2^l,st,by rw[<-mod_c,<-mod_c];rfl,ad,ok,ai,by lia,M9 _ (V4 A4),M9 _ (V4 A4),s8,by lia,λj G1 Y fr ae O rp=>?_⟩;have gf:=O.few;have S:=fr.get Z I;refine xw2 rfl rfl ⟨L,_,((quad l x y:Nat):Int),quad l x y,rfl,rfl,S,by unfold ixN;rw[Z9 A0,Z9 (by show((quad l x y:Nat):Int)<((4:Nat):Int);lia),J3],?_⟩;rw[set4 c d m u j X];have M:=ae.put (o:=.lst [V.int (st4 c d m u (quad l x y) j 0:Int),V.int (st4 c d m u (quad l x y) j 1:Int),V.int (st4 c d m u (quad l x y) j 2:Int),V.int (st4 c d m u (quad l x y) j 3:Int)]) S Z.1 Z.2.1;have U:upd Y L (.lst [V.int (st4 c d m u (quad l x y) j 0:Int),V.int (st4 c d m u (quad l x y) j 1:Int),V.int (st4 c d m u (quad l x y) j 2:Int),V.int (st4 c d m u (quad l x y) j 3:Int)]) L=some (.lst [V.int (st4 c d m u (quad l x y) j 0:Int),V.int (st4 c d m u (quad l x y) j 1:Int),V.int (st4 c d m u (quad l x y) j 2:Int),V.int (st4 c d m u (quad l x y) j 3:Int)]):=Ag;have R:Fr g H (upd Y L (.lst [V.int (st4 c d m u (quad l x y) j 0:Int),V.int (st4 c d m u (quad l x y) j 1:Int),V.int (st4 c d m u (quad l x y) j 2:Int),V.int (st4 c d m u (quad l x y) j 3:Int)])):=λb o e m1 m2 m3=>by
    rw[Av (Aw e hL)];exact fr _ _ (s1 _ _ e) m1 m2 m3
   generalize upd Y L (.lst [V.int (st4 c d m u (quad l x y) j 0:Int),V.int (st4 c d m u (quad l x y) j 1:Int),V.int (st4 c d m u (quad l x y) j 2:Int),V.int (st4 c d m u (quad l x y) j 3:Int)])=H3 at M U R⊢;refine xwn rfl rfl M.hp (BK g) rfl ⟨L,(xq1 rfl (.inl ⟨SqL.of U,λt4 ag=>?_⟩))⟩;have s4:=AN (o:=.tup [V.int (st4 c d m u (quad l x y) j 0:Int),V.int (st4 c d m u (quad l x y) j 1:Int),V.int (st4 c d m u (quad l x y) j 2:Int),V.int (st4 c d m u (quad l x y) j 3:Int)]) ag;have aj:=nd.app O;have lj:=rp.lev O.ok s8;have lst:∀ii,ii<4->Al G1 (st4 c d m u (quad l x y) j ii) (l:Int):=λii hi=>by
    unfold st4;split
    .exact lj
    .exact(aj.nat hi).2
   refine⟨g,G1,t4,_,_,_,_,(l:Int),rfl,M.same s4,O.ok,Ag,⟨lst 0 A4,lst 1 A4,lst 2 A4,lst 3 A4⟩,by lia,by lia,λr G2 H4 ac af D e4=>?_⟩;exact k r G2 H4 (R.trans ((AC.fr s4).trans ac)) af (O.trans D) ⟨q,c,d,m,u,j,nd.app (O.trans D),rp.app D,e4⟩
structure Lu(G:Gv)(n f:Nat)(x y:Int)(s r:Nat)(k w i:Nat):Prop where
le:n+k<=40
wid:Gn G n f k w
lw:Al G w ((n+k+1:Nat):Int)
li:Ji x y 1 1 (2^(n+k))
no:∀j,j<k->¬Ji x y 1 1 (2^(n+j))
rep:Rep G s (n+k+1) w (x+2^(n+k)).toNat (y+2^(n+k)).toNat i
tr:Ft G (n+k+1) i r
theorem VS{x y:Int}{m:Nat}(h:Ji x y 1 1 (2^m)):(x+2^m).toNat<2^(m+1)/\(y+2^m).toNat<2^(m+1)/\0<=x+2^m/\0<=y+2^m:=by
 obtain⟨b,c,d,f⟩:=h;have e:=Ig (m+1);rw[CU]at e;have p:=Rs m;refine⟨?_,?_,by lia,by lia⟩<;>lia
inductive Wm(a:Ad)(vs:List V)(H:Hp)(Q:VK):Prop
|mk (g:GA) (G:Gv) (f n:Nat) (x y:Int) (s:Nat) (_:vs=[.ref g.p,.int f,.int x,.int y,.int s]) (_:AY a H g G) (_:Al G f ((n+1:Nat):Int)) (_:n<=40) (_:Ji x y 1 1 (2^40)) (_:s<8) (_:G.length<8000000) (_:∀(r k w i:Nat)(G':Gv)(H':Hp),Fr g H H'->AY a H' g G'->AH G G' 400->Lu G' n f x y s r k w i->Q (.int r) H'):Wm a vs H Q
def Rf(a:Ad):Sp:=λvs H Q _=>Wm a vs H Q
theorem Zs(F:Fun K "planted" "planted" Nb f fd)(T:Top K mg a)(aM:Cal P w K mg base CX0 1 "lies_within" Qd SQ)(bE:Cal P w K mg base CX0 2 "is_state" UE spIS)(aN:Cal P w K mg base CX0 4 "reach_of" UD (Lf a))(bL:Cal P w K mg base CX0 5 "widened_over" FS (spWO a))
 (bM:Cal P w K mg base CX0 54 "replaced" FT (Vq a 50)) (aS:Cal P w K mg base CX0 4 "trimmed" Lj (MT a)):AK P w K mg base CX0 55 f fd Nk (Rf a):=by
 refine F.ok Io D_9 λaa A L s H vs Q E j h=>?_
 obtain⟨g,G,f',n,x,y,X,rfl,fu,hl,I,U,W,few,k⟩:=h;refine⟨_,(Ac (Ao (i:=5) Io.nd rfl O_9 (Eg (Aa (pv 2) (Aa (pv 3) (AI (AI Ab)))))) (Ac (AM (CZ (Ch (Ar aM (rm j) rfl Am (Aa (pv 5) (Aa (BV rfl T.k_LIMIT) Ab))))) (Af Bh) AB) (Ac (AM (CZ (Ch (Ar bE (rm j) rfl Am (Aa (pv 4) Ab)))) (Af Bh) AB) (Ac (Ao (i:=6) Io.nd rfl O_9 (Ar bL (rm j) rfl Am (Aa (pv 0) (Aa (pv 1) (Aa (pv 5) Ab))))) (Ac (Ao (i:=7) Io.nd rfl O_9 (Ar aN (rm j) rfl Am (Aa (pv 0) (Aa (pv 6) Ab)))) (Af (Au (Ar aS (rm j) rfl Am (Aa (pv 0) (Aa (Ar bM (rm j) rfl Am (Aa (pv 0) (Aa (pv 6) (Bl AQ (pv 2) (pv 7) (Bl AQ (pv 3) (pv 7) (Aa (pv 4) Ab)))))) Ab)))))))))),?_⟩
 try dsimp only[cxK]
 refine xw2 rfl rfl ⟨S_4,λt ht=>?_⟩;have M:=AN (o:=.tup [.int x,.int y,.int 1,.int 1]) ht;have e:upd H t (.tup [.int x,.int y,.int 1,.int 1]) t=some (.tup [.int x,.int y,.int 1,.int 1]):=Ag;generalize upd H t (.tup [.int x,.int y,.int 1,.int 1])=H1 at M e⊢;have u:=fu.same M;refine xq1 rfl ⟨t,x,y,1,1,_,rfl,e,_,rfl,?_⟩;rw[Z7 (show Ji x y 1 1 1099511627776 from U)];refine Bf (xq1 rfl ⟨(X:Int),rfl,by lia,by lia,true,rfl,Bf ?_⟩);refine xw3 rfl rfl rfl ⟨g,G,f',n,t,x,y,1,1,rfl,u,hl,I,e,U,by lia,λkk N O H2 fr2 c m le wn D S no=>?_⟩;have ab:=m.few;refine xw2 rfl rfl ⟨g,O,N,n+kk,rfl,c.at',D,by lia,?_⟩;obtain⟨b1,b2,b3,b4⟩:=VS S;refine xw3 rfl rfl rfl (xw2 rfl rfl (xq2 rfl rfl (xw2 rfl rfl (xq2 rfl rfl (xq1 rfl ?_)))));refine⟨g,O,N,n+kk+1,(x+2^(n+kk)).toNat,(y+2^(n+kk)).toNat,X,by rw[R0 b3,R0 b4];rfl,c.at',c.ok,D,by lia,b1,b2,W,by lia,λR Y H3 l B d V=>?_⟩;have ac:=d.few;have v:=c.fr l B d;have C:=V.lev d.ok W;refine⟨g,Y,R,n+kk,rfl,v,C,by lia,λr Z H4 q z p tr=>?_⟩;have b:=d.trans p;exact k r kk N R Z H4 ((AC.fr M).trans (fr2.trans (l.trans q))) z ((m.trans b).mono A0) ⟨le,wn.app b,b.lev D,S,no,V.app p,tr⟩
end
structure Cl where
x:Int
y:Int
s:Nat
def Sw(H:Hp)(t:R_)(c:Cl):Prop:=H t=some (.tup [.int c.x,.int c.y,.int c.s])
structure ClOk(c:Cl):Prop where
li:Ji c.x c.y 1 1 (2^40)
s:c.s<8
theorem Lu.app{G b:Gv}{m n f:Nat}{x y:Int}{s r k w i:Nat}(a:AH G b m)(h:Lu G n f x y s r k w i):Lu b n f x y s r k w i:=⟨h.le,h.wid.app a,a.lev h.lw,h.li,h.no,h.rep.app a,h.tr.app a⟩
inductive Su(G:Gv):List Cl->Nat->Nat->Prop
|nil:Su G [] 0 (bareN 1)
|cons {cs:List Cl} {c:Cl} {n f r k w i m:Nat} (h:Su G cs n f) (l:Al G f ((n+1:Nat):Int)) (p:Lu G n f c.x c.y c.s r k w i) (l':Al G r ((m+1:Nat):Int)):Su G (c::cs) m r
theorem Su.app{G b:Gv}{m:Nat}(a:AH G b m){cs:List Cl}{n f:Nat}(h:Su G cs n f):Su b cs n f:=by
 induction h with
 |nil=>exact .nil
 |cons _ l p d c=>exact .cons c (a.lev l) (p.app a) (a.lev d)
section
variable{P:N_}{w:Q_}{K:O_}{mg:C_}{base:T_}{a:Ad}
inductive SpFld(a:Ad)(vs:List V)(H:Hp)(Q:VK):Prop
|mk (g:GA) (G:Gv) (L:R_) (ts:H_) (cs:List Cl) (_:vs=[.ref g.p,.ref L]) (_:AY a H g G) (_:H L=some (.lst (ts.map V.ref))) (_:L≠g.lv) (_:L≠g.pt) (_:Paired (Sw H) ts cs) (_:(∀c∈cs,ClOk c)) (_:G.length+400*cs.length<8000000) (_:∀(f n:Nat)(G':Gv)(H':Hp),Fr g H H'->AY a H' g G'->AH G G' (400*cs.length)->n<=40->Al G' f ((n+1:Nat):Int)->Su G' cs.reverse n f->Q (.int f) H'):SpFld a vs H Q
def YR(a:Ad):Sp:=λvs H Q _=>SpFld a vs H Q
theorem ok_fld(F:Fun K "field_of" "field_of" LO f fd)(T:Top K mg a)(b6:Cal P w K mg base CX0 1 "bare_field" RG (Ol a))(cV:Cal P w K mg base CX0 55 "planted" Nk (Rf a)):AK P w K mg base CX0 56 f fd LU (YR a):=by
 refine F.ok Gq D_9 λaa A X s H vs Q E hr h=>?_
 obtain⟨g,G,L,ts,cs,rfl,z,R,n1,n2,pr,W,few,k⟩:=h;obtain⟨r0,e0⟩:=z.g0;have U:=K4 pr;refine⟨_,(Ac (Ao (i:=2) Gq.nd rfl O_9 (Ar b6 (rm hr) rfl Am (Aa (pv 0) Ab))) (Ac (BU X5 rfl (Cg (pv 1)) (AZ (i:=3) Gq.nd rfl O_9) (Af (Ao (i:=2) Gq.nd rfl O_9 (Ar cV (rm hr) rfl Am (Aa (pv 0) (Aa (pv 2) (Aa (Aj An (pv 3) Ae R_9) (Aa (Aj An (pv 3) Ae R_9) (Aa (Aj An (pv 3) Ae R_9) Ab))))))))) (Af (Au (pv 2))))),?_⟩
 try dsimp only[cxK]
 refine xq1 rfl ⟨g,G,rfl,z,?_⟩;refine xq1 rfl ⟨L,rfl,⟨_,SqL.of R⟩,?_⟩;refine MJ (xs:=ts.map V.ref) (λj σ u=>∃(b:Gv)(f n:Nat)(Y:Option V),σ=[some (.ref g.p),some (.ref L),some (.int f),Y]/\Fr g H u/\AY a u g b/\AH G b (400*j)/\n<=40/\Al b f ((n+1:Nat):Int)/\Su b (cs.take j).reverse n f) ⟨G,bareN 1,0,none,rfl,Fr.refl g H,z,AH.refl z.ok,by lia,Il e0 A0,.nil⟩ (λj σ u _ ⟨_,_,_,_,_,fr,_⟩=>SqL.of (fr _ _ R n1 n2 (AG R z.at'.nm A3))) ?_ ?_
 .rintro j v σ u Z ⟨b,N,n,Y,rfl,fr,e,D,q,I,B⟩;rw[C0]at Z;obtain⟨t,et,rfl⟩:=D6.mp Z;obtain⟨c,M,hc⟩:=PairedM.getL pr et;have d:=W c (D0 M);have hj:j<cs.length:=(B9.mp M).1;have o:=fr.tup z.at' hc;have gf:=D.few;refine xw3 rfl rfl rfl (xq4 rfl rfl (SqT.of o) (Ai (j:=0) rfl) (xwi rfl rfl rfl (SqT.of o) (Ai (j:=1) rfl) (xwi rfl rfl rfl (SqT.of o) (Ai (j:=2) rfl) ?_)));refine⟨g,b,N,n,c.x,c.y,c.s,rfl,e,I,q,d.li,d.s,by lia,λr kk w' i' G2 H3 O C l pl=>?_⟩;have S:=pl.rep.lev C.ok d.s;obtain⟨m,lm,lr⟩:=Ft.lev S pl.tr;have le:=pl.le;refine⟨G2,r,m,(xq1 rfl ⟨fr.trans O,C,(D.trans l).mono A0,by lia,lr,?_⟩)⟩;rw[F9,M,R5,List.reverse_append];exact .cons (B.app l) (l.lev I) pl lr
 .rintro σ u ⟨b,N,n,Y,rfl,fr,e,D,q,I,B⟩;rw[B8,U]at D B;rw[J9]at B;exact xq1 rfl (k N n b u fr e D q I B)
end
def Jr(G:Gv)(n f:Nat):Prop:=n=0\/∃m qs ps,n=m+1/\Oe G m f qs ps/\¬BA m ps
theorem Jr.app{G a:Gv}{k n f:Nat}(c:AH G a k)(h:Jr G n f):Jr a n f:=by
 rcases h with h|⟨m,i,g,e,d,b⟩
 .exact .inl h
 .exact .inr ⟨m,i,g,e,d.app c,b⟩
end J
namespace J
open PySem L2
def Du(G:Gv):Nat->Nat->Nat->Nat->Nat
|0,i,_,_=>i
|n+1,i,x,y=>match G[i]? with
 |some q=>Du G n (q.parts.getD (quad n x y) 0).toNat (x%2^n) (y%2^n)
 |none=>0
theorem Bp(n:Nat):0<2^n:=V4 A4
theorem BQ{G:Gv}{n i:Nat}{q:Sq}{a b c d:Nat}(h:Jh G n i q a b c d){x y:Nat}(e:x<2^(n+1))(f:y<2^(n+1)):Du G (n+1) i x y=Du G n (f4 a b c d (quad n x y)) (x%2^n) (y%2^n):=by
 rw[show Du G (n+1) i x y=(match G[i]? with|some q=>Du G n (q.parts.getD (quad n x y) 0).toNat (x%2^n) (y%2^n)|none=>0)from rfl,h.g];show Du G n (q.parts.getD (quad n x y) 0).toNat _ _=_;have:=(h.nat (DD e f)).1;rw[D2,this];rfl
theorem TN{G e:Gv}{k:Nat}(ok:GOk G)(f:AH G e k):∀{n i x y:Nat},Al G i (n:Int)->x<2^n->y<2^n->Du e n i x y=Du G n i x y
|0,_,_,_,_,_,_=>rfl
|n+1,i,x,y,h,hx,hy=>by
 obtain⟨q,a,b,c,d,nd⟩:=BX ok h;rw[BQ nd hx hy,BQ (nd.app f) hx hy];exact TN ok f (nd.nat (DD hx hy)).2 (M9 _ (Bp n)) (M9 _ (Bp n))
theorem Ij{G r:Gv}(e:G=G0++r)(ok:GOk G):∀{n x y:Nat},n<=48->x<2^n->y<2^n->Du G n (bareN n) x y=0
|0,_,_,_,_,_=>rfl
|n+1,x,y,hn,hx,hy=>by
 obtain⟨q,a,b,c,d,nd⟩:=BX ok (Il e (n:=n+1) hn);have f:a=bareN n/\b=bareN n/\c=bareN n/\d=bareN n:=by
  have g:=nd.g;rw[show bareN (n+1)=8+n from rfl,UU e n A0]at g;cases g;have s:[(bareN n:Int),(bareN n:Int),(bareN n:Int),(bareN n:Int)]=[(a:Int),(b:Int),(c:Int),(d:Int)]:=nd.ps;injection s with s0 s
  injection s with s1 s
  injection s with s2 s
  injection s with s3 s
  exact⟨(K1 s0).symm,(K1 s1).symm,(K1 s2).symm,(K1 s3).symm⟩
 obtain⟨rfl,rfl,rfl,rfl⟩:=f;rw[BQ nd hx hy];have:f4 (bareN n) (bareN n) (bareN n) (bareN n) (quad n x y)=bareN n:=by unfold f4;split<;>rfl
 rw[this];exact Ij e ok A0 (M9 _ (Bp n)) (M9 _ (Bp n))
theorem Jd{n k x y:Nat}(c:k<4)(a:x<2^n)(b:y<2^n):(x+2^n*(k%2))<2^(n+1)/\(y+2^n*(k/2))<2^(n+1)/\quad n (x+2^n*(k%2)) (y+2^n*(k/2))=k/\(x+2^n*(k%2))%2^n=x/\(y+2^n*(k/2))%2^n=y:=by
 have p:=Bp n;have e:2^(n+1)=2*2^n:=by rw[F4];lia
 unfold quad;rw[N9 _ _ p,N9 _ _ p,O4,O4,N7 a,N7 b,O5 a,O5 b,e];generalize 2^n=h at *
 match k,c with
 |0,_=>exact⟨by lia,by lia,rfl,rfl,rfl⟩
 |1,_=>exact⟨by lia,by lia,rfl,rfl,rfl⟩
 |2,_=>exact⟨by lia,by lia,rfl,rfl,rfl⟩
 |3,_=>exact⟨by lia,by lia,rfl,rfl,rfl⟩
theorem NG{G:Gv}(ok:GOk G):∀{n i j:Nat},Al G i (n:Int)->Al G j (n:Int)->(∀x y,x<2^n->y<2^n->Du G n i x y=Du G n j x y)->i=j
|0,i,j,_,_,h=>h 0 0 A4 A4
|n+1,i,j,hi,hj,h=>by
 obtain⟨q,a,b,c,d,nd⟩:=BX ok hi;obtain⟨E,p,r,s,d',f⟩:=BX ok hj;have e:∀k,k<4->f4 a b c d k=f4 p r s d' k:=λk o=>by
  refine NG ok (nd.nat o).2 (f.nat o).2 λx y w z=>?_;obtain⟨l,m,t,u,v⟩:=Jd o w z;have:=h _ _ l m;rw[BQ nd l m,BQ f l m,t,u,v]at this;exact this
 have A:a=p:=e 0 A4;have B:b=r:=e 1 A4;have C:c=s:=e 2 A4;have D:d=d':=e 3 A4;subst A B C D;exact ok.one nd.g f.g (nd.ps.trans f.ps.symm)
theorem SO{n x X:Nat}(a:x/2^n=X/2^n)(b:x%2^n=X%2^n):x=X:=by
 rw[<-O2 x (2^n),<-O2 X (2^n),a,b]
theorem SZ{G:Gv}(ok:GOk G){s:Nat}(p:s<8):∀{n i X Y r x y:Nat},X<2^n->Y<2^n->x<2^n->y<2^n->Rep G s n i X Y r->Du G n r x y=if x=X/\y=Y then s else Du G n i x y
|0,i,X,Y,r,x,y,hX,hY,hx,hy,h=>by
 have h:r=s:=h;have t:X=0:=Y6.mp hX;have u:Y=0:=Y6.mp hY;have v:x=0:=Y6.mp hx;have w:y=0:=Y6.mp hy;subst t u v w h;rfl
|n+1,i,X,Y,r,x,y,hX,hY,hx,hy,h=>by
 obtain⟨q,a,b,c,d,j,nd,o,e⟩:=h;have I:=o.lev ok p;have lst:∀l,l<4->Al G (st4 a b c d (quad n X Y) j l) (n:Int):=λl H=>by
  unfold st4;split
  .exact I
  .exact(nd.nat H).2
 have K:Jh G n r _ (st4 a b c d (quad n X Y) j 0) (st4 a b c d (quad n X Y) j 1) (st4 a b c d (quad n X Y) j 2) (st4 a b c d (quad n X Y) j 3):=⟨e,rfl,rfl,lst 0 A4,lst 1 A4,lst 2 A4,lst 3 A4⟩
 have L:=DD hx hy;rw[BQ K hx hy,BQ nd hx hy,PB (st4 a b c d (quad n X Y) j) L];have m:=Bp n;have O:=GB hx;have P:=GB hy;have M:=GB hX;have N:=GB hY;unfold st4;by_cases g:quad n x y=quad n X Y
 .rw[Z9 g,SZ ok p (M9 _ m) (M9 _ m) (M9 _ m) (M9 _ m) o,g];have k:x/2^n=X/2^n/\y/2^n=Y/2^n:=by
   unfold quad at g;generalize x/2^n=A at *
   generalize X/2^n=B at *
   generalize y/2^n=C at *
   generalize Y/2^n=D at *
   lia
  obtain⟨E,F⟩:=k;by_cases f:x=X/\y=Y
  .rw[Z9 f,Z9 ⟨by rw[f.1],by rw[f.2]⟩]
  .rw[Z6 f,Z6 λz=>f ⟨SO E z.1,SO F z.2⟩]
 .rw[Z6 g,Z6 λz=>g (by rw[z.1,z.2])]
def fieldF(G:Gv)(n f:Nat)(x y:Int):Nat:=if -(2^n)<=x/\x<2^n/\-(2^n)<=y/\y<2^n then Du G (n+1) f (x+2^n).toNat (y+2^n).toNat else 0
theorem Jj{n:Nat}{x:Int}(a:-(2^n)<=x)(b:x<2^n):(x+2^n).toNat<2^(n+1):=by
 have e:=Ig (n+1);rw[CU]at e;lia
theorem CW{G a:Gv}{k n f:Nat}(ok:GOk G)(b:AH G a k)(h:Al G f ((n+1:Nat):Int))(x y:Int):fieldF a n f x y=fieldF G n f x y:=by
 unfold fieldF;split
 .rename_i z;exact TN ok b h (Jj z.1 z.2.1) (Jj z.2.2.1 z.2.2.2)
 .rfl
theorem RS{h X:Nat}(u:Nat)(a:h*u<=X)(b:X<h*(u+1)):X/h=u/\X%h=X-h*u:=by
 have e:X/h=u:=Nat.div_eq_of_lt_le (by rw[U6];exact a) (by rw[U6];exact b);exact⟨e,by have:=O2 X h;rw[e]at this;lia⟩
theorem MC(x n:Nat):x%2^(n+1)%2^n=x%2^n:=Nat.mod_mod_of_dvd x ⟨2,by rw[F4]⟩
theorem NF{G:Gv}{n i:Nat}{g:L_}{c:Nat->Nat->Nat}(h:Oe G n i g c){x y:Nat}(d:x<2^(n+2))(e:y<2^(n+2)):Du G (n+2) i x y=Du G n (c (quad (n+1) x y) (quad n (x%2^(n+1)) (y%2^(n+1)))) (x%2^n) (y%2^n):=by
 obtain⟨q,nd⟩:=h.node;have f:=DD (l:=n+1) d e;have a:x%2^(n+1)<2^(n+1):=M9 _ (Bp _);have b:y%2^(n+1)<2^(n+1):=M9 _ (Bp _);obtain⟨j,nk⟩:=h.sub _ f;rw[BQ nd d e,PB g f,BQ nk a b,PB (c _) (DD a b),MC,MC]
theorem bits{h u:Nat}(e:u<2*h):(u+h)/(2*h)=u/h/\(u+h)%(2*h)/h=1-u/h/\(u+h)%h=u%h/\u/h<2:=by
 have p:0<h:=by lia
 rcases Nat.lt_or_ge u h with z|z
 .have a:u/h=0:=N7 z;have b:(u+h)/(2*h)=0:=N7 A0;have c:(u+h)%(2*h)=u+h:=O5 A0;have d:(u+h)/h=1:=(RS (X:=u+h) 1 A0 A0).1;exact⟨by rw[a,b],by rw[c,d,a],Nat.add_mod_right u h,by lia⟩
 .have a:u/h=1:=(RS 1 A0 A0).1;have b:=RS (h:=2*h) (X:=u+h) 1 A0 A0;have c:(u+h-2*h*1)/h=0:=N7 A0;exact⟨by rw[a,b.1],by rw[b.2,c,a],Nat.add_mod_right u h,by lia⟩
theorem Te(n:Nat):2^(n+1)=2*2^n:=by rw[F4];lia
theorem ZK{G:Gv}(ok:GOk G){n i m:Nat}{H:L_}{a:Nat->Nat->Nat}(h:Oe G n i H a)(E:G[m]?=some ⟨[(a 0 3:Int),(a 1 2:Int),(a 2 1:Int),(a 3 0:Int)],(n:Int)+1⟩){u v:Nat}(d:u<2^(n+1))(f:v<2^(n+1)):Du G (n+2) i (u+2^n) (v+2^n)=Du G (n+1) m u v:=by
 have c:∀k j,k<4->j<4->Al G (a k j) (n:Int):=λk j F o=>by
  obtain⟨q,nk⟩:=h.sub k F;have:=(nk.nat o).2;rw[PB (a k) o]at this;exact this
 have nm:Jh G n m _ (a 0 3) (a 1 2) (a 2 1) (a 3 0):=⟨E,rfl,rfl,c 0 3 A4 A4,c 1 2 A4 A4,c 2 1 A4 A4,c 3 0 A4 A4⟩
 have l:=Te n;have I:2^(n+2)=2*2^(n+1):=Te (n+1);have p:=Bp n;rw[NF h A0 A0,BQ nm d f];unfold quad;rw[l];rw[l]at d f;apply AL;intro s b;obtain⟨t,w,x,y⟩:=bits d;obtain⟨B,b2,C,D⟩:=bits f;apply b;clear b s;rw[t,w,x,B,b2,C];have two:∀{A:Nat},A<2->A=0\/A=1:=λ{A} h=>by lia
 have e:=two y;have g:=two D;rcases e with z|z<;>rcases g with r|r<;>rw[z,r]<;>rfl
theorem mid_iff'{m X Y:Nat}{x y:Int}(j:(X:Int)=x+2^(m+1))(k:(Y:Int)=y+2^(m+1))(o:X<2^(m+2))(q:Y<2^(m+2)):quad m (X%2^(m+1)) (Y%2^(m+1))+quad (m+1) X Y=3↔(-(2^m)<=x/\x<2^m/\-(2^m)<=y/\y<2^m):=by
 have p:=Bp m;have c:=Te m;have H:2^(m+2)=2*2^(m+1):=Te (m+1);have E:=Ig m;have i:=Ig (m+1);rw[c]at i;unfold quad;rw[c];rw[H,c]at o q;rw[<-i]at j k;rw[<-E];generalize 2^m=h at *
 have a:∀{X:Nat}{x:Int},(X:Int)=x+((2*h:Nat):Int)->X<2*(2*h)->(X%(2*h)/h+X/(2*h)=1 ↔ -(h:Int)<=x/\x<(h:Int))/\X%(2*h)/h<2/\X/(2*h)<2:=by
  intro X x e l;have n:0<2*h:=by lia
  have M:X/(2*h)<2:=by rw[W9 n];exact l
  have N:X%(2*h)<2*h:=M9 _ n;have L:X%(2*h)/h<2:=by rw[W9 p];exact N
  have G:=O2 X (2*h);have F:=O2 (X%(2*h)) h;have S:=M9 (X%(2*h)) p;refine⟨?_,L,M⟩;generalize X/(2*h)=u at *
  generalize X%(2*h)/h=v at *
  generalize X%(2*h)%h=t at *
  generalize X%(2*h)=T at *
  have I:u=0\/u=1:=by lia
  have K:v=0\/v=1:=by lia
  rcases I with rfl|rfl<;>rcases K with rfl|rfl<;>simp only[W3,Nat.mul_one,N1]at F G<;>lia
 obtain⟨r,U,V⟩:=a j o;obtain⟨s,W,Z⟩:=a k q;clear a;generalize X%(2*h)/h=A at *
 generalize X/(2*h)=B at *
 generalize Y%(2*h)/h=C at *
 generalize Y/(2*h)=D at *
 constructor
 .intro z;have f:=r.mp A0;have g:=s.mp A0;exact⟨f.1,f.2,g.1,g.2⟩
 .rintro d;apply AL;intro w b;obtain⟨O,P,Q,R⟩:=d;apply b;clear b w;have f:=r.mpr ⟨O,P⟩;have g:=s.mpr ⟨Q,R⟩;lia
theorem Qy{G r:Gv}(t:G=G0++r)(ok:GOk G){n i m:Nat}(K:n<=46){D:L_}{d:Nat->Nat->Nat}(h:Oe G n i D d)(s:BA n d)(u:G[m]?=some ⟨[(d 0 3:Int),(d 1 2:Int),(d 2 1:Int),(d 3 0:Int)],(n:Int)+1⟩)(x y:Int):fieldF G (n+1) i x y=fieldF G n m x y:=by
 have L:=CU n;have p:=Rs n;unfold fieldF;by_cases b:-(2^n)<=x/\x<2^n/\-(2^n)<=y/\y<2^n
 .apply AL;intro e a;obtain⟨j,k,l,o⟩:=b;apply a;clear a e;rw[Z9 ⟨by lia,by lia,by lia,by lia⟩,Z9 ⟨j,k,l,o⟩];have A:=Jj j k;have B:=Jj l o;have c:=Ig n;have v:(x+2^(n+1)).toNat=(x+2^n).toNat+2^n:=by lia
  have w:(y+2^(n+1)).toNat=(y+2^n).toNat+2^n:=by lia
  rw[v,w];exact ZK ok h u A B
 .rw[Z6 b];split
  .rename_i z;apply AL;intro e a;obtain⟨E,F,H,I⟩:=z;apply a;clear a e;have f:=Jj E F;have g:=Jj H I;rw[NF h f g];have C:¬quad n ((x+2^(n+1)).toNat%2^(n+1)) ((y+2^(n+1)).toNat%2^(n+1))+quad (n+1) (x+2^(n+1)).toNat (y+2^(n+1)).toNat=3:=λq=>b ((mid_iff' (R0 A0) (R0 A0) f g).mp q);rw[s _ _ (DD f g) (DD (M9 _ (Bp _)) (M9 _ (Bp _))) C];exact Ij t ok A0 (M9 _ (Bp _)) (M9 _ (Bp _))
  .rfl
theorem FF{G q:Gv}(b:G=G0++q)(ok:GOk G):∀{n f r:Nat},n<=47->Al G f ((n+1:Nat):Int)->Ft G (n+1) f r->∃m,m<=n/\Al G r ((m+1:Nat):Int)/\Jr G m r/\∀x y,fieldF G m r x y=fieldF G n f x y
|0,f,r,_,hl,h=>by
 have h:r=f:=h;subst h;exact⟨0,C1 _,hl,.inl rfl,λ_ _=>rfl⟩
|n+1,f,r,hn,hl,h=>by
 apply AL;intro e a;obtain⟨p,o,d,h⟩:=h;apply a;clear a e;rcases h with ⟨l,rfl⟩|⟨g,m,c,h⟩
 .exact⟨n+1,C1 _,hl,.inr ⟨n,p,o,rfl,d,l⟩,λ_ _=>rfl⟩
 .obtain⟨k,s,j,tk,i⟩:=FF b ok A0 ⟨_,c,by show(n:Int)+1=_;lia⟩ h;refine⟨k,by lia,j,tk,λx y=>?_⟩;rw[i x y,Qy b ok A0 d g c x y]
theorem Wv{G r:Gv}(s:G=G0++r)(ok:GOk G){n f w:Nat}(F:n<=46)(h:Wid G n f w)(x y:Int):fieldF G (n+1) w x y=fieldF G n f x y:=by
 apply AL;intro B m;obtain⟨q,a,b,c,d,I,K,L,M,nd,t,u,v,z,D⟩:=h.ex;apply m;clear m B;have i:=Il s (n:=n) A0;have o:∀{p:Nat}{l:I_},G[p]?=some ⟨l,(n:Int)+1⟩->Al G p ((n+1:Nat):Int):=λ{p l} e=>⟨_,e,by show(n:Int)+1=_;lia⟩
 have C:Oe G n w (f4 I K L M) (λk j=>if j+k=3 then f4 a b c d k else bareN n):=by
  refine⟨⟨_,D,rfl,by show(n:Int)+2=_;lia,o t,o u,o v,o z⟩,λk E=>?_⟩
  match k,E with
  |0,_=>exact⟨_,t,rfl,rfl,i,i,i,nd.hx⟩
  |1,_=>exact⟨_,u,rfl,rfl,i,i,nd.hy,i⟩
  |2,_=>exact⟨_,v,rfl,rfl,i,nd.hz,i,i⟩
  |3,_=>exact⟨_,z,rfl,rfl,nd.hw,i,i,i⟩
 have g:=nd.g;have l:=nd.lev;have A:=nd.ps;refine Qy s ok F C (λk j _ _ H=>Z6 H) ?_ x y;rw[g];cases q with
 |mk O N=>cases A;cases l;rfl
theorem LH{G r:Gv}(a:G=G0++r)(ok:GOk G){n f:Nat}:∀{k w:Nat},n+k<=46->Gn G n f k w->∀x y,fieldF G (n+k) w x y=fieldF G n f x y
|0,w,_,h,x,y=>by
 have h:w=f:=h;subst h;rfl
|k+1,w,hk,h,x,y=>by
 obtain⟨u,b,c⟩:=h;rw[show n+(k+1)=n+k+1 by lia,Wv a ok A0 c x y];exact LH a ok A0 b x y
theorem Tf{G p:Gv}(e:G=G0++p)(ok:GOk G){n f s r k w i:Nat}{X Y:Int}(g:s<8)(h:Lu G n f X Y s r k w i):∃m,m<=40/\Al G r ((m+1:Nat):Int)/\Jr G m r/\∀x y,fieldF G m r x y=if x=X/\y=Y then s else fieldF G n f x y:=by
 have le:=h.le;have d:=h.rep.lev ok g;obtain⟨m,E,o,t,l⟩:=FF e ok A0 d h.tr;refine⟨m,by lia,o,t,λx y=>?_⟩;rw[l x y,<-LH e ok A0 h.wid x y];apply AL;intro c a;obtain⟨j,b2,C,D⟩:=VS h.li;obtain⟨F,H,I,K⟩:=h.li;apply a;clear a c;unfold fieldF;split
 .rename_i z;apply AL;intro c a;obtain⟨u,v,A,B⟩:=z;apply a;clear a c;rw[SZ ok g j b2 (Jj u v) (Jj A B) h.rep];by_cases b:x=X/\y=Y
  .rw[Z9 b,Z9 ⟨by rw[b.1],by rw[b.2]⟩]
  .rw[Z6 b,Z6 λq=>b ⟨by lia,by lia⟩]
 .rename_i z;rw[Z6 λq=>z ⟨by lia,by lia,by lia,by lia⟩]
theorem ZP{G r:Gv}(a:G=G0++r)(ok:GOk G){n i:Nat}(b:n<=48)(h:Al G i (n:Int))(e:i≠bareN n):∃x y,x<2^n/\y<2^n/\Du G n i x y≠0:=by
 refine K2 λz=>e (NG ok h (Il a b) λx y c d=>?_);rw[Ij a ok b c d];exact K2 λq=>z ⟨x,y,c,d,q⟩
theorem SB{G r:Gv}(L:G=G0++r)(ok:GOk G){m f:Nat}(V:m<=46)(h:Jr G (m+1) f):∃x y:Int,¬(-(2^m)<=x/\x<2^m/\-(2^m)<=y/\y<2^m)/\fieldF G (m+1) f x y≠0:=by
 rcases h with h|⟨a,Z,s,e,B,Q⟩
 .lia
 .have:a=m:=by lia
  subst this;have:∃k j,k<4/\j<4/\j+k≠3/\s k j≠bareN a:=by
   refine K2 λz=>Q λk j g d p=>K2 λq=>z ⟨k,j,g,d,p,q⟩
  apply AL;intro i b;obtain⟨k,j,g,d,p,c⟩:=this;obtain⟨W,nk⟩:=B.sub k g;apply b;clear b i;have P:Al G (s k j) (a:Int):=by
   have:=(nk.nat d).2;rw[PB (s k) d]at this;exact this
  obtain⟨u,v,N,O,M⟩:=ZP L ok A0 P c;apply AL;intro i b;obtain⟨C,D,t,E,F⟩:=Jd d N O;obtain⟨w,b2,A,l,o⟩:=Jd (n:=a+1) g C D;apply b;clear b i;generalize T:u+2^a*(j%2)+2^(a+1)*(k%2)=X at *
  generalize U:v+2^a*(j/2)+2^(a+1)*(k/2)=Y at *
  have S:=Ig (a+1);have H:=Ig (a+2);have R:=CU (a+1);rw[R]at H;refine⟨(X:Int)-2^(a+1),(Y:Int)-2^(a+1),λz=>p ?_,?_⟩
  .have:=(mid_iff' (X:=X) (Y:=Y) A0 A0 w b2).mpr z;rw[A,l,o,t]at this;exact this
  .unfold fieldF;rw[Z9 ⟨by lia,by lia,by lia,by lia⟩,show((X:Int)-2^(a+1)+2^(a+1)).toNat=X by lia,show((Y:Int)-2^(a+1)+2^(a+1)).toNat=Y by lia,NF B w b2,A,l,o,t];have I:X%2^a=u:=by rw[<-MC,l,E]
   have K:Y%2^a=v:=by rw[<-MC,o,F]
   rw[I,K];exact M
theorem LX{G r:Gv}(j:G=G0++r)(ok:GOk G){n m f a:Nat}(l:n<=47)(g:m<=47)(o:Al G f ((n+1:Nat):Int))(c:Al G a ((m+1:Nat):Int))(t:Jr G n f)(t':Jr G m a)(h:∀x y,fieldF G n f x y=fieldF G m a x y):n=m/\f=a:=by
 have le:∀{n m f a:Nat},m<=47->Jr G m a->(∀x y,fieldF G n f x y=fieldF G m a x y)->m<=n:=by
  intro n m f a g t' h;refine P7 λz=>?_;obtain⟨k,rfl⟩:∃k,m=k+1:=⟨m-1,by lia⟩
  obtain⟨x,y,d,b⟩:=SB j ok A0 t';rw[<-h x y]at b;unfold fieldF at b;split at b
  .rename_i q;have:(2:Int)^n<=2^k:=by
    have:=L9 (show 0<2 by decide) (show n<=k by lia)
    exact_mod_cast this
   exact d ⟨by lia,by lia,by lia,by lia⟩
  .exact b rfl
 have u:=le g t' h;have v:=le l t λx y=>(h x y).symm;have e:n=m:=by lia
 subst e;refine⟨rfl,NG ok o c λx y w A=>?_⟩;have s:=Ig n;have i:=Ig (n+1);have p:=CU n;rw[p]at i;have:=h ((x:Int)-2^n) ((y:Int)-2^n);unfold fieldF at this;rw[Z9 ⟨by lia,by lia,by lia,by lia⟩,Z9 ⟨by lia,by lia,by lia,by lia⟩,show((x:Int)-2^n+2^n).toNat=x by lia,show((y:Int)-2^n+2^n).toNat=y by lia]at this;exact this
def Fix:HO->Prop
|.tup _=>True
|.ins _ _ _=>True
|_=>False
def Fx(l:H_)(H H':Hp):Prop:=∀b o,H b=some o->(b∈l->Fix o)->H' b=some o
theorem Fx.get{l:H_}{a c:Hp}(h:Fx l a c){b:R_}{o:HO}(n:b∉l)(e:a b=some o):c b=some o:=h b o e λz=>absurd z n
theorem Fx.tup{l:H_}{a c:Hp}(h:Fx l a c){b:R_}{xs:List V}(e:a b=some (.tup xs)):c b=some (.tup xs):=h b _ e λ_=>True.intro
def Do(g:GA):List Addr:=[g.lv,g.pt,g.nm,g.br,g.am,g.bx]
theorem AY.fx{a:Ad}{g:GA}{G:Gv}{H c:Hp}{l:H_}(h:AY a H g G)(f:Fx l H c)(n:∀x∈Do g,x∉l):AY a c g G:=by
 obtain⟨at',ok,w,k,⟨ks,y,A⟩,⟨d,B,j⟩,D,E,F⟩:=h;obtain⟨I,K,⟨P,L,M⟩,N,O⟩:=at';have m:∀x∈Do g,∀o,H x=some o->c x=some o:=λx C o e=>f.get (n x C) e;refine⟨⟨f _ _ I λ_=>True.intro,m _ (by simp[Do]) _ K,⟨P,m _ (by simp[Do]) _ L,PairedM.imp (λt q z=>f.tup z) M⟩,m _ (by simp[Do]) _ N,O⟩,ok,w,m _ (by simp[Do]) _ k,⟨ks,m _ (by simp[Do]) _ y,A⟩,⟨d,m _ (by simp[Do]) _ B,j.keys,λi v e=>?_⟩,D,E,F⟩;obtain⟨l,b,t,p,r,s,u⟩:=j.val i v e;exact⟨l,b,t,p,r,s,f.tup u⟩
structure Nw(H:Hp)(l:H_):Prop where
nd:l.Nodup
s:∀x∈l,∃o,H x=some o
theorem AY.nw{a:Ad}{H:Hp}{g:GA}{G:Gv}(h:AY a H g G):Nw H (Do g):=by
 obtain⟨⟨_,f,⟨v,i,_⟩,b,p⟩,_,_,j,⟨ks,c,_⟩,⟨q,d,_⟩,r,s,u⟩:=h;have t:∀{x y:R_}{o k:HO},H x=some o->H y=some k->o≠k->x≠y:=λ{x y o k} e m n=>AG e m n;refine⟨?_,λx l=>?_⟩
 .simp only[Do,N6,C2,D3,K6,A4b,A3d,Q0,and_true];exact⟨⟨p,t f b A3,X6 r,t f c A3,t f d A3⟩,⟨t i b A3,X6 s,t i c A3,t i d A3⟩,⟨t b j A3,t b c A3,t b d A3⟩,⟨t j c A3,t j d A3⟩,u⟩
 .simp only[Do,C2,D3,K6]at l;rcases l with rfl|rfl|rfl|rfl|rfl|rfl
  .exact⟨_,f⟩
  .exact⟨_,i⟩
  .exact⟨_,b⟩
  .exact⟨_,j⟩
  .exact⟨_,c⟩
  .exact⟨_,d⟩
theorem DG{H:Hp}{x y:R_}{o:HO}(h:upd H x o y=none):H y=none:=by
 by_cases e:y=x
 .subst e;rw[Ag]at h;cases h
 .rw[Av e]at h;exact h
theorem Ua.none{a:Ad}{H c:Hp}{x e:R_}{o l:HO}{g:GA}{G:Gv}{B:I_}{d:List (Key×V)}(N:Ua a (upd (upd H e o) x l) c g G B d):∀y∈Do g,H y=none:=λy b=>by
 obtain⟨f,h,i,f4,j,k⟩:=N.fresh;simp only[Do,C2,D3,K6]at b;rcases b with rfl|rfl|rfl|rfl|rfl|rfl
 .exact DG (DG f)
 .exact DG (DG h)
 .exact DG (DG i)
 .exact DG (DG f4)
 .exact DG (DG j)
 .exact DG (DG k)
theorem AC.fxn{H a c:Hp}{m:H_}(s:AC H a)(f:Fx m a c)(n:∀y∈m,H y=none):AC H c:=λb o e=>f.get (λz=>by rw[n b z]at e;cases e) (s _ _ e)
structure PM(L:Int->Int->Prop)(b:Bx):Prop where
inn:∀u v,L u v->b.l<=u/\u<b.l+b.w/\b.t<=v/\v<b.t+b.h
le:∃v,L b.l v
to:∃u,L u b.t
ri:∃v,L (b.l+b.w-1) v
bo:∃u,L u (b.t+b.h-1)
theorem Ts{l:I_}(h:l≠[]):mnL l∈l/\∀x∈l,mnL l<=x:=by
 unfold mnL;cases e:l.min? with
 |none=>exact absurd (List.min?_eq_none_iff.mp e) h
 |some m=>exact List.min?_eq_some_iff.mp e
theorem Tq{l:I_}(h:l≠[]):mxL l∈l/\∀x∈l,x<=mxL l:=by
 unfold mxL;cases e:l.max? with
 |none=>exact absurd (List.max?_eq_none_iff.mp e) h
 |some m=>exact List.max?_eq_some_iff.mp e
theorem WA{L:Int->Int->Prop}{bs:List Bx}(d:bs≠[])(a:∀b∈bs,∃M:Int->Int->Prop,PM M b/\∀u v,M u v->L u v)(H:∀u v,L u v->∃b∈bs,b.l<=u/\u<b.l+b.w/\b.t<=v/\v<b.t+b.h):PM L (Pt bs):=by
 have P:bs.map (·.l)≠[]:=λz=>d (S9.mp z);have Q:bs.map (·.t)≠[]:=λz=>d (S9.mp z);have R:(bs.map λb=>b.l+b.w)≠[]:=λz=>d (S9.mp z);have S:(bs.map λb=>b.t+b.h)≠[]:=λz=>d (S9.mp z);obtain⟨I,m⟩:=Ts P;obtain⟨K,n⟩:=Ts Q;obtain⟨N,o⟩:=Tq R;obtain⟨O,p⟩:=Tq S;obtain⟨r,e,F⟩:=F0.mp I;obtain⟨b2,f,G⟩:=F0.mp K;obtain⟨y,g,j⟩:=F0.mp N;obtain⟨A,i,k⟩:=F0.mp O;unfold Pt;refine⟨λu v q=>?_,?_,?_,?_,?_⟩
 .obtain⟨b,c,T,U,V,W⟩:=H u v q;have B:=m _ (F0.mpr ⟨b,c,rfl⟩);have C:=n _ (F0.mpr ⟨b,c,rfl⟩);have D:=o _ (F0.mpr ⟨b,c,rfl⟩);have E:=p _ (F0.mpr ⟨b,c,rfl⟩);dsimp only at B C D E⊢;lia
 .obtain⟨M,t,s⟩:=a r e;obtain⟨v,x⟩:=t.le;exact⟨v,by rw[F]at x;exact s _ _ x⟩
 .obtain⟨M,t,s⟩:=a b2 f;obtain⟨v,x⟩:=t.to;exact⟨v,by rw[G]at x;exact s _ _ x⟩
 .obtain⟨M,t,s⟩:=a y g;obtain⟨v,x⟩:=t.ri;refine⟨v,?_⟩;dsimp only at j⊢;rw[j]at x;have:=s _ _ x;rw[show mnL (bs.map (·.l))+(mxL (bs.map λb=>b.l+b.w)-mnL (bs.map (·.l)))-1=mxL (bs.map λb=>b.l+b.w)-1 by lia];exact this
 .obtain⟨M,t,s⟩:=a A i;obtain⟨v,x⟩:=t.bo;refine⟨v,?_⟩;dsimp only at k⊢;rw[k]at x;have:=s _ _ x;rw[show mnL (bs.map (·.t))+(mxL (bs.map λb=>b.t+b.h)-mnL (bs.map (·.t)))-1=mxL (bs.map λb=>b.t+b.h)-1 by lia];exact this
theorem Pq{half:Int}{b:Bx}:∀{a:List (Option Bx)}{k:Nat},b∈DR half k a ↔ ∃(j:Nat)(c:Bx),a[j]?=some (some c)/\b=shB half (k+j) c
|[],k=>⟨(λh=>by cases h),(λh=>by obtain⟨j,c,h,_⟩:=h;simp at h)⟩
|none::r,k=>by
 rw[show DR half k (none::r)=DR half (k+1) r from rfl,Pq];constructor
 .rintro⟨j,c,h,e⟩;exact⟨j+1,c,by simpa using h,by rw[e,show k+1+j=k+(j+1) by lia]⟩
 .rintro⟨j,c,h,e⟩;cases j with
  |zero=>simp at h
  |succ j=>exact⟨j,c,by simpa using h,by rw[e,show k+1+j=k+(j+1) by lia]⟩
|some d::r,k=>by
 rw[show DR half k (some d::r)=shB half k d::DR half (k+1) r from rfl,C2,Pq];constructor
 .rintro(h|⟨j,c,h,e⟩)
  .exact⟨0,d,rfl,h⟩
  .exact⟨j+1,c,by simpa using h,by rw[e,show k+1+j=k+(j+1) by lia]⟩
 .rintro⟨j,c,h,e⟩;cases j with
  |zero =>
   have h:d=c:=by simpa using h
   subst h;exact .inl e
  |succ j=>exact .inr ⟨j,c,by simpa using h,by rw[e,show k+1+j=k+(j+1) by lia]⟩
def Lv(G:Gv)(n i:Nat)(u v:Int):Prop:=∃a b:Nat,u=a/\v=b/\a<2^n/\b<2^n/\Du G n i a b≠0
theorem VP{G:Gv}{n i:Nat}{q:Sq}{a b c d:Nat}(nd:Jh G n i q a b c d)(u v:Int):Lv G (n+1) i u v ↔ ∃k,k<4/\Lv G n (f4 a b c d k) (u-2^n*((k:Int)%2)) (v-2^n*((k:Int)/2)):=by
 have h:=Ig n;constructor
 .rintro⟨x,y,rfl,rfl,f,g,j⟩;rw[BQ nd f g]at j;have C:=GB f;have D:=GB g;refine⟨quad n x y,DD f g,x%2^n,y%2^n,?_,?_,M9 _ (Bp n),M9 _ (Bp n),j⟩
  .have e:=O2 x (2^n);have l:((quad n x y:Nat):Int)%2=((x/2^n:Nat):Int):=by
    unfold quad;generalize x/2^n=A at *
    generalize y/2^n=B at *
    lia
   rw[l,<-h,<-O3];lia
  .have e:=O2 y (2^n);have l:((quad n x y:Nat):Int)/2=((y/2^n:Nat):Int):=by
    unfold quad;generalize x/2^n=A at *
    generalize y/2^n=B at *
    lia
   rw[l,<-h,<-O3];lia
 .rintro⟨k,t,x,y,w,z,f,g,j⟩;obtain⟨m,o,p,r,s⟩:=Jd t f g;refine⟨x+2^n*(k%2),y+2^n*(k/2),?_,?_,m,o,?_⟩
  .rw[N4,O3,h,show((k%2:Nat):Int)=(k:Int)%2 from rfl];lia
  .rw[N4,O3,h,show((k/2:Nat):Int)=(k:Int)/2 from rfl];lia
  .rw[BQ nd m o,p,r,s];exact j
theorem Qt{L:Int->Int->Prop}{b:Bx}{half:Int}{k:Nat}(h:PM L b):PM (λu v=>L (u-half*((k:Int)%2)) (v-half*((k:Int)/2))) (shB half k b):=by
 obtain⟨a,f⟩:=h.le;obtain⟨c,g⟩:=h.to;obtain⟨d,i⟩:=h.ri;obtain⟨e,j⟩:=h.bo;unfold shB;generalize half*((k:Int)%2)=p;generalize half*((k:Int)/2)=q;refine⟨λu v m=>?_,⟨a+q,?_⟩,⟨c+p,?_⟩,⟨d+q,?_⟩,⟨e+p,?_⟩⟩
 .have:=h.inn _ _ m;dsimp only;lia
 .show L (b.l+p-p) (a+q-q);rw[R6,R6];exact f
 .show L (c+p-p) (b.t+q-q);rw[R6,R6];exact g
 .show L (b.l+p+b.w-1-p) (d+q-q);rw[R6,show b.l+p+b.w-1-p=b.l+b.w-1 by lia];exact i
 .show L (e+p-p) (b.t+q+b.h-1-q);rw[R6,show b.t+q+b.h-1-q=b.t+b.h-1 by lia];exact j
theorem NH{G:Gv}(ok:GOk G):∀{n i:Nat}{b:Bx},Al G i (n:Int)->Cd G n i=some b->PM (Lv G n i) b
|0,i,b,_,h=>by
 have h:(if i=0 then none else some (⟨0,0,1,1⟩:Bx))=some b:=h;by_cases z:i=0
 .rw[Z9 z]at h;cases h
 .rw[Z6 z]at h;cases h;have A:Lv G 0 i 0 0:=⟨0,0,rfl,rfl,by decide,by decide,z⟩
  refine⟨λu v m=>?_,⟨0,A⟩,⟨0,A⟩,⟨0,A⟩,⟨0,A⟩⟩;obtain⟨x,y,rfl,rfl,o,p,_⟩:=m;have o:x<1:=o;have p:y<1:=p;dsimp only;lia
|n+1,i,b,l,h=>by
 obtain⟨q,a,s,c,d,nd⟩:=BX ok l;rw[FE nd]at h;have w:∀k,k<4->[Cd G n a,Cd G n s,Cd G n c,Cd G n d][k]?=some (Cd G n (f4 a s c d k)):=λk f=>by
  match k,f with
  |0,_=>rfl
  |1,_=>rfl
  |2,_=>rfl
  |3,_=>rfl
 have r:∀e,e∈DR (2^n) 0 [Cd G n a,Cd G n s,Cd G n c,Cd G n d] ↔ ∃k g,k<4/\Cd G n (f4 a s c d k)=some g/\e=shB (2^n) k g:=λe=>by
  rw[Pq];constructor
  .rintro⟨j,I,E,rfl⟩;have H:j<4:=(B9.mp E).1;rw[w j H]at E;exact⟨j,I,H,K0 E,by rw[N1]⟩
  .rintro⟨k,g,f,B,rfl⟩;exact⟨k,g,by rw[w k f,B],by rw[N1]⟩
 unfold Qa at h;cases D:DR (2^n) 0 [Cd G n a,Cd G n s,Cd G n c,Cd G n d]with
 |nil=>rw[D]at h;cases h
 |cons N S =>
  rw[D]at h;have h:=K0 h;rw[D]at r;subst h;refine WA A6 (λe L=>?_) λu v m=>?_
  .obtain⟨k,g,f,B,rfl⟩:=(r e).mp L;refine⟨_,Qt (NH ok (nd.nat f).2 B),λu v m=>(VP nd u v).mpr ⟨k,f,m⟩⟩
  .obtain⟨k,f,m⟩:=(VP nd u v).mp m;cases C:Cd G n (f4 a s c d k)with
   |none =>
    have K:=(MP ok n _ (nd.nat f).2).mp C;obtain⟨x,y,_,_,o,p,M⟩:=m;exact absurd (cell_none ok (nd.nat f).2 K o p) M
   |some g =>
    have t:=Qt (half:=2^n) (k:=k) (NH ok (nd.nat f).2 C);exact⟨_,(r _).mpr ⟨k,g,f,C,rfl⟩,t.inn u v m⟩
where cell_none {G:Gv} (ok:GOk G):∀{n i x y:Nat},Al G i (n:Int)->DM G n i=0->x<2^n->y<2^n->Du G n i x y=0
|0,i,x,y,_,h,_,_=>by
 have h:(if i=0 then(0:Int)else 1)=0:=h;show i=0;by_cases z:i=0
 .exact z
 .rw[Z6 z]at h;lia
|n+1,i,x,y,l,h,o,p=>by
 obtain⟨q,a,b,c,d,nd⟩:=BX ok l;have e:=Lq nd;have e:DM G (n+1) i=DM G n a+(DM G n b+(DM G n c+(DM G n d+0))):=e;have O:=FA G n a;have P:=FA G n b;have Q:=FA G n c;have R:=FA G n d;have F:=DD o p;rw[BQ nd o p];refine cell_none ok (nd.nat F).2 ?_ (M9 _ (Bp n)) (M9 _ (Bp n));generalize quad n x y=k at F
 match k,F with
 |0,_=>show DM G n a=0;lia
 |1,_=>show DM G n b=0;lia
 |2,_=>show DM G n c=0;lia
 |3,_=>show DM G n d=0;lia
seal L2.PA L2.PE L2.PS L2.PSs L2.PT L2.PW
theorem Tv{G:Gv}{n f:Nat}(x y:Int):Lv G (n+1) f (x+2^n) (y+2^n)↔fieldF G n f x y≠0:=by
 have c:=Ig n;have e:=Te n;constructor
 .rintro⟨u,v,i,j,k,l,a⟩;unfold fieldF;rw[Z9 ⟨by lia,by lia,by lia,by lia⟩,show(x+2^n).toNat=u by lia,show(y+2^n).toNat=v by lia];exact a
 .intro a;unfold fieldF at a;split at a
  .rename_i z;obtain⟨b,d,g,h⟩:=z;exact⟨(x+2^n).toNat,(y+2^n).toNat,by lia,by lia,Jj b d,Jj g h,a⟩
  .exact absurd rfl a
def mvB(r:Int)(b:Bx):Bx:=⟨b.l+-r,b.t+-r,b.w,b.h⟩
theorem SD{G:Gv}(ok:GOk G){n f:Nat}(l:Al G f ((n+1:Nat):Int)){b:Bx}(h:Cd G (n+1) f=some b):PM (λx y=>fieldF G n f x y≠0) (mvB (2^n) b):=by
 have t:=NH ok l h;obtain⟨k,c⟩:=t.le;obtain⟨o,d⟩:=t.to;obtain⟨i,e⟩:=t.ri;obtain⟨j,g⟩:=t.bo;have a:∀{u v:Int},Lv G (n+1) f u v->fieldF G n f (u+-(2^n)) (v+-(2^n))≠0:=λ{u v} m=>(Tv _ _).mp (by rw[show u+-(2^n)+2^n=u by lia,show v+-(2^n)+2^n=v by lia];exact m);unfold mvB;refine⟨λx y m=>?_,⟨_,a c⟩,⟨_,a d⟩,⟨i+-(2^n),?_⟩,⟨j+-(2^n),?_⟩⟩
 .have:=t.inn _ _ ((Tv x y).mpr m);dsimp only;lia
 .have:=a e;rw[show b.l+b.w-1+-(2^n)=b.l+-(2^n)+b.w-1 by lia]at this;exact this
 .have:=a g;rw[show b.t+b.h-1+-(2^n)=b.t+-(2^n)+b.h-1 by lia]at this;exact this
section
variable{P:N_}{w:Q_}{K:O_}{mg:C_}{base:T_}{a:Ad}
inductive Wr(a:Ad)(vs:List V)(H:Hp)(Q:VK):Prop
|mk (g:GA) (G:Gv) (f n:Nat) (_:vs=[.ref g.p,.int f]) (_:AY a H g G) (_:Al G f ((n+1:Nat):Int)) (_:n<48) (_:G.length<8000000) (_:(Cd G (n+1) f=none->∀H',FrQ g H H'->AY a H' g G->Q .non H')) (_:∀b,Cd G (n+1) f=some b->∀t H',FrQ g H H'->AY a H' g G->NK H' t (mvB (2^n) b)->Q (.ref t) H'):Wr a vs H Q
def Rl(a:Ad):Sp:=λvs H Q _=>Wr a vs H Q
theorem Zy(F:Fun K "box_of" "box_of" OS f fd)(T:Top K mg a)(B:BD P w K mg base CX0 101 a.c_Grove "span" JU (Uf a))(z:Cal P w K mg base CX0 4 "reach_of" UD (Lf a))(y:Cal P w K mg base CX0 1 "shifted_box" Qb Mc):AK P w K mg base CX0 102 f fd UD (Rl a):=by
 refine F.ok MW D_9 λC A m s H vs Q E e h=>?_
 obtain⟨g,G,r,n,rfl,u,v,k,few,M,N⟩:=h;refine⟨_,(Ac (Ao (i:=2) MW.nd rfl O_9 (AD (pv 0) B (rm e) Am (Aa (pv 1) Ab))) (Ac (AM (Ay Ja (pv 2) Cy (AE _)) (Af (Au Cy)) AB) (Ac (Ao (i:=3) MW.nd rfl O_9 (Ar z (rm e) rfl Am (Aa (pv 0) (Aa (pv 1) Ab)))) (Af (Au (Ar y (rm e) rfl Am (Aa (pv 2) (Aa (LA GC (pv 3)) (Aa (LA GC (pv 3)) Ab))))))))),?_⟩
 try dsimp only[cxK]
 refine xq1 rfl ⟨g.p,g.dx,(xq1 rfl ⟨u.at'.hp,no_span g,(xq1 rfl ⟨g,G,r,n+1,rfl,u,v,by lia,λI q d c=>?_,λb D t q d c L=>?_⟩)⟩)⟩
 .exact xq1 rfl ⟨rfl,(xq1 rfl (Cz (M I q d c)))⟩
 .refine xq1 rfl ⟨rfl,(xq1 rfl (Bf ?_))⟩;refine xw2 rfl rfl ⟨g,G,r,n,rfl,c.at',v,k,?_⟩;refine xw3 rfl rfl rfl (xw2 rfl rfl ⟨t,b,_,_,rfl,L,λt' j=>?_⟩);have x:=AN (o:=.tup [.int (b.l+-(2^n)),.int (b.t+-(2^n)),.int b.w,.int b.h]) j;exact N b D t' _ (d.trans (AC.frq x)) (c.same x) Ag
end
end J
namespace J
open PySem L2
theorem cel_F{G:Gv}(ok:GOk G):∀{n i x y:Nat},Al G i (n:Int)->x<2^n->y<2^n->cel G n i x y=Du G n i x y
|0,_,_,_,_,_,_=>rfl
|n+1,i,x,y,h,hx,hy=>by
 obtain⟨q,a,b,c,d,nd⟩:=BX ok h;rw[BQ nd hx hy];have p:=Bp n;have f:x/2^n<2:=Nat.div_lt_of_lt_mul (by rw[F4]at hx;lia);have j:y/2^n<2:=Nat.div_lt_of_lt_mul (by rw[F4]at hy;lia);have e:qO G i ((x/2^n)%2+2*((y/2^n)%2))=f4 a b c d (quad n x y):=by
  have:=(nd.nat (DD hx hy)).1;unfold qO;rw[nd.g,O5 f,O5 j];show(q.parts.getD (quad n x y) 0).toNat=_;rw[D2,this];rfl
 show cel G n (qO G i ((x/2^n)%2+2*((y/2^n)%2))) x y=_;rw[e,<-cel_F ok (nd.nat (DD hx hy)).2 (M9 _ p) (M9 _ p)];have:=Si G n (f4 a b c d (quad n x y)) (x%2^n) (y%2^n) (x/2^n) (y/2^n);rw[Nat.mod_add_div,Nat.mod_add_div]at this;exact this
theorem Lo{α β:Type}(f:α->List β)(m:Nat):∀l:List α,(∀x∈l,(f x).length<=m)->(l.flatMap f).length<=l.length*m
|[],_=>by simp
|a::l,h=>by
 have:=Lo f m l λx b=>h x (C7 _ b);have:=h a C8;rw[List.flatMap_cons,C5,D7,W2];lia
structure ZS(a:Ad)(H:Hp)(g:GA)(G:Gv)(Κ:KTy)(N b:Nat)(p dx mem pr:R_)(r:Az)(m:MA):Prop where
jz:JZ a H g G Κ N b p dx mem pr r m
fu:AY a H g G
na:g.am∉m.ds
nb:g.bx∉m.ds
def FrZ(g:GA)(m:MA)(H H':Hp):Prop:=∀b o,H b=some o->b∉[g.lv,g.pt,g.nm,g.am,g.bx,m.kc]->b∉m.ds->H' b=some o
section
variable{a:Ad}{H H' H1 H2 H3:Hp}{g:GA}{G G':Gv}{Κ:KTy}{N b i:Nat}{p dx mem pr:R_}{r:Az}{m:MA}
theorem FrZ.trans(h:FrZ g m H1 H2)(k:FrZ g m H2 H3):FrZ g m H1 H3:=λb o e c d=>k b o (h b o e c d) c d
theorem AC.z(s:AC H H'):FrZ g m H H':=λb o e _ _=>s b o e
theorem Fr.z(f:Fr g H H'):FrZ g m H H':=λb o e c _=>f b o e (λz=>c (by simp[z])) (λz=>c (by simp[z])) (λz=>c (by simp[z]))
theorem FrQ.z(f:FrQ g H H'):FrZ g m H H':=λb o e c _=>f b o e (λz=>c (by simp[z])) (λz=>c (by simp[z]))
theorem FrJ.z(f:FrJ g m H H'):FrZ g m H H':=λb o e c d=>f b o e (λz=>c (by simp[z])) (λz=>c (by simp[z])) (λz=>c (by simp[z])) (λz=>c (by simp[z])) d
theorem ZS.same(h:ZS a H g G Κ N b p dx mem pr r m)(s:AC H H'):ZS a H' g G Κ N b p dx mem pr r m:=⟨h.jz.same s,h.fu.same s,h.na,h.nb⟩
theorem ZS.mono{c:Nat}(h:ZS a H g G Κ N b p dx mem pr r m)(e:b<=c):ZS a H g G Κ N c p dx mem pr r m:=⟨h.jz.mono e,h.fu,h.na,h.nb⟩
theorem ZS.fr(h:ZS a H g G Κ N b p dx mem pr r m)(f:Fr g H H')(c:AY a H' g G')(d:AH G G' i):ZS a H' g G' Κ N (b+i) p dx mem pr r m:=⟨h.jz.fr f c.at' d,c,h.na,h.nb⟩
theorem ZS.frQ(h:ZS a H g G Κ N b p dx mem pr r m)(f:FrQ g H H')(j:AY a H' g G):ZS a H' g G Κ N b p dx mem pr r m:=by
 have c:=h.jz.jw;have nd:∀{x:R_}{o:HO},H x=some o->(∀ks,o≠.dK ks)->H' x=some o:=λ{x o} e n=>f _ _ e (h.fu.ne_am e n).1 (h.fu.ne_am e n).2;have u:∀d∈m.ds,∀o,H d=some o->H' d=some o:=λd t o e=>f _ _ e (λz=>h.na (z▸t)) (λz=>h.nb (z▸t));obtain⟨A,v,_⟩:=c.me.ce;have k:Ib H' g G N (b+10*N) r m:=c.me.kp c.ok (AH.refl c.ok) λx o e w=>by
  rcases w with z|z|z|z
  .subst z;exact nd e (by rw[c.me.tp]at e;cases e;intro ks z;cases z)
  .subst z;exact nd e (by rw[c.me.l]at e;cases e;intro ks z;cases z)
  .exact u x z o e
  .subst z;exact nd e (by rw[v]at e;cases e;intro ks z;cases z)
 obtain⟨y,s⟩:=h.jz.cn;refine⟨⟨⟨j.at',c.ok,c.bs,j.br,c.nbr,nd c.hp (by intro ks z;cases z),c.ru.kp λx o e n=>nd e (by intro ks z;rw[z]at n;cases n),c.rok,c.rest,k⟩,y,s.kp (i:=0) c.ok (AH.refl c.ok) u λq e=>⟨q,nd e (by intro ks z;cases z),C1 _⟩⟩,j,h.na,h.nb⟩
theorem ZS.aft(h:ZS a H g G Κ N b p dx mem pr r m)(f:FrJ g m H H')(q:JZ a H' g G' Κ N b p dx mem pr r m)(d:AH G G' i):ZS a H' g G' Κ N b p dx mem pr r m:=by
 have C:=h.jz.jw;refine⟨q,?_,h.na,h.nb⟩;obtain⟨at',ok,⟨T,L⟩,F,⟨ks,M,O⟩,⟨u,P,B⟩,Q,R,S⟩:=h.fu;obtain⟨us,D,_⟩:=at'.pt;obtain⟨U,y,_⟩:=C.me.ce;have w:∀{x:R_}{o:HO},H x=some o->(∀ks,o≠.dK ks)->x∉m.ds:=λ{x o} e n z=>by
  obtain⟨j,s⟩:=F6 z;obtain⟨W,k,_⟩:=C.me.sq j x s;rw[e]at k;cases k;exact n _ rfl
 obtain⟨t,K⟩:=d.pre;have dk:∀{x:R_}{ks:List (Key×V)},H x=some (.dK ks)->x∉m.ds->H' x=some (.dK ks):=λ{x ks} e n=>f _ _ e (AG e at'.lv A3) (AG e D A3) (AG e at'.nm A3) (AG e y A3) n;refine⟨q.jw.gr,d.ok,⟨T++t,by rw[K,L,S1]⟩,q.jw.br,⟨ks,dk M h.na,O.app ok d⟩,⟨u,dk P h.nb,B.keys.app d.le,λi v e=>?_⟩,Q,R,S⟩;obtain⟨l,E,t,A,k,I,c⟩:=B.val i v e;exact⟨l,E,t,d.lev A,by rw[Ik ok d l i A];exact k,I,f _ _ c (AG c at'.lv A3) (AG c D A3) (AG c at'.nm A3) (AG c y A3) (w c (by intro ks z;cases z))⟩
theorem ZS.keep(h:ZS a H g G Κ N b p dx mem pr r m)(f:FrZ g m H H'){x:R_}{o:HO}(e:H x=some o)(k:∀xs,o≠.lst xs)(l:∀ks,o≠.dK ks)(n:∀ks,o≠.dT ks):H' x=some o:=by
 have d:=h.jz.jw;obtain⟨us,u,_⟩:=h.fu.at'.pt;obtain⟨v,s,_⟩:=d.me.ce;have q:=h.fu.ne_am e l;refine f _ _ e (λz=>?_) (λz=>?_)
 .simp only[C2,D3,K6]at z;rcases z with z|z|z|z|z|z
  .exact AG e h.fu.at'.lv (k _) z
  .exact AG e u (k _) z
  .exact AG e h.fu.at'.nm (n _) z
  .exact q.1 z
  .exact q.2 z
  .exact AG e s (n _) z
 .obtain⟨j,c⟩:=F6 z;obtain⟨w,t,_⟩:=d.me.sq j x c;exact AG e t (l _) rfl
theorem ZS.new(h:ZS a H g G Κ N b p dx mem pr r m){x:R_}(n:H x=none):x∉[g.lv,g.pt,g.nm,g.am,g.bx,m.kc]/\x∉m.ds:=by
 have d:=h.jz.jw;obtain⟨us,o,_⟩:=h.fu.at'.pt;obtain⟨q,e,_⟩:=d.me.ce;obtain⟨ks,k,_⟩:=h.fu.am;obtain⟨s,l,_⟩:=h.fu.bx;refine⟨λz=>?_,λz=>?_⟩
 .simp only[C2,D3,K6]at z;rcases z with rfl|rfl|rfl|rfl|rfl|rfl
  .rw[h.fu.at'.lv]at n;cases n
  .rw[o]at n;cases n
  .rw[h.fu.at'.nm]at n;cases n
  .rw[k]at n;cases n
  .rw[l]at n;cases n
  .rw[e]at n;cases n
 .obtain⟨j,c⟩:=F6 z;obtain⟨t,f,_⟩:=d.me.sq j x c;rw[f]at n;cases n
end
theorem JW.putL{a:Ad}{H:Hp}{g:GA}{G:Gv}{N M:Nat}{p f mem k x:R_}{r:Az}{m:MA}{xs:List V}{o:HO}(h:JW a H g G N M p f mem k r m)(i:H x=some (.lst xs))(s:x≠g.lv)(t:x≠g.pt)(u:x≠g.br)(y:x≠m.l):JW a (upd H x o) g G N M p f mem k r m:=by
 have c:∀{b v},H b=some v->(∀l,v≠.lst l)->upd H x o b=some v:=λ{b v} e n=>by rw[Av (AG e i (n _))];exact e
 refine⟨h.gr.put i s t,h.ok,h.bs,by rw[Av (X6 u)];exact h.br,h.nbr,c h.hp B0,h.ru.kp λb o e n=>c e λl z=>(by rw[z]at n;cases n),h.rok,h.rest,h.me.kp h.ok (AH.refl h.ok) λb o e w=>?_⟩;rcases w with z|z|z|z
 .have d:=h.me.tp;rw[<-z,e]at d;cases d;exact c e B0
 .rw[z]at e⊢;rw[Av (X6 y)];exact e
 .obtain⟨j,q⟩:=F6 z;obtain⟨B,d,_⟩:=h.me.sq j b q;rw[e]at d;cases d;exact c e B0
 .obtain⟨A,d,_⟩:=h.me.ce;rw[z]at e⊢;rw[e]at d;cases d;exact c e B0
structure ApZ(g:GA)(m:MA)(x:R_):Prop where
n0:x∉[g.lv,g.pt,g.nm,g.am,g.bx,m.kc]
n1:x∉m.ds
n2:x≠g.br
n3:x≠m.l
section
variable{a:Ad}{H H':Hp}{g:GA}{G G':Gv}{Κ:KTy}{N b i:Nat}{p dx mem pr:R_}{r:Az}{m:MA}
theorem ZS.ap(h:ZS a H g G Κ N b p dx mem pr r m){x:R_}(n:H x=none):ApZ g m x:=by
 obtain⟨c,d⟩:=h.new n;refine⟨c,d,λz=>?_,λz=>?_⟩
 .rw[z,h.fu.br]at n;cases n
 .rw[z,h.jz.jw.me.l]at n;cases n
theorem ZS.putL{x:R_}{xs:List V}{o:HO}(h:ZS a H g G Κ N b p dx mem pr r m)(j:H x=some (.lst xs))(ap:ApZ g m x):ZS a (upd H x o) g G Κ N b p dx mem pr r m:=by
 have k:x≠g.lv:=λz=>ap.n0 (by simp[z]);have pt:x≠g.pt:=λz=>ap.n0 (by simp[z]);obtain⟨f,c⟩:=h.jz.cn;refine⟨⟨h.jz.jw.putL j k pt ap.n2 ap.n3,f,c.kp (i:=0) h.jz.jw.ok (AH.refl h.jz.jw.ok) (λd l q e=>?_) λn e=>⟨n,?_,C1 _⟩⟩,h.fu.put j k pt ap.n2,h.na,h.nb⟩
 .rw[Av (λz:d=x=>ap.n1 (z▸l))];exact e
 .rw[Av (AG e j A3)];exact e
end
theorem MK{G:Gv}(ok:GOk G){n f:Nat}(c:Al G f ((n+1:Nat):Int)){x y:Nat}(a:x<2^(n+1))(b:y<2^(n+1)):CC G (n+1) f x y=(fieldF G n f ((x:Int)-2^n) ((y:Int)-2^n):Nat):=by
 unfold CC fieldF;have p:((2^(n+1):Nat):Int)=2^n+2^n:=by rw[L8];exact CU n
 rw[Z9 A0,cel_F ok c a b];congr 2<;>lia
seal L2.PA L2.PE L2.PS L2.PSs L2.PT L2.PW
section
variable{P:N_}{w:Q_}{K:O_}{mg:C_}{base:T_}{a:Ad}
inductive SpLvF(a:Ad)(vs:List V)(H:Hp)(Q:VK):Prop
|mk (g:GA) (G:Gv) (f n e:Nat) (_:vs=[.ref g.p,.int f,.int e]) (_:AJ a H g G) (_:Al G f ((n+1:Nat):Int)) (_:n<=40) (_:e<=40) (_:∀l:Nat,l<=41->n<=l->e<=l->2^n+2^e<=2^l->(∀l',2^n+2^e<=2^l'->l<=l')->Q (.int ((l+2:Nat):Int)) H):SpLvF a vs H Q
def YL(a:Ad):Sp:=λvs H Q _=>SpLvF a vs H Q
theorem ok_lvf(F:Fun K "level_for" "level_for" Jy f fd)(T:Top K mg a)(L:Cal P w K mg base CX0 4 "reach_of" UD (Lf a)):AK P w K mg base CX0 5 f fd JG (YL a):=by
 refine F.ok Fu (λvs H Q E h=>?_) (λM A y s H vs Q E W h=>?_)
 .apply AL;intro l b;obtain⟨g,G,o,n,e,rfl,_⟩:=h;apply b;clear b l;rfl
 .apply AL;intro l b;obtain⟨g,G,o,n,e,rfl,U,X,x,r,k⟩:=h;apply b;clear b l;refine⟨_,(Ac (Ao (i:=3) Fu.nd rfl O_9 (AA AQ (Ar L (rm W) rfl Am (Aa (pv 0) (Aa (pv 1) Ab))) (AA IZ Ae (pv 2)))) (Ac (Ao (i:=4) Fu.nd rfl O_9 Ae) (Ac (EW X5 (Ay Ih (AA IZ Ae (AA BJ (pv 4) Ae)) (pv 3) (AE _)) (Af (Ao (i:=4) Fu.nd rfl O_9 (AA AQ (pv 4) Ae)))) (Af (Au (pv 4)))))),?_⟩
  try dsimp only[cxK]
  refine AW ?_;intro r1 s1 k1 t E1;refine xw2 rfl rfl ⟨g,G,o,n,rfl,U,X,by lia,?_⟩;refine xwb rfl rfl rfl ⟨⟨by lia,by lia,by decide⟩,(xq2 rfl rfl ?_)⟩;have N:(2:Int)^n+1*2^(e:Int).toNat=((2^n+2^e:Nat):Int):=by
   rw[J3,V6,N4,L8,L8];rfl
  have pn:2^n<=2^40:=L9 A4 x;have pe:2^e<=2^40:=L9 A4 r;have aa:=Bp n;have Z:=Bp e;rw[show(λi j:Int=>V.int (i+j)) (2^n) ((λi j:Int=>i*2^j.toNat) 1 (e:Int))=V.int ((2^n+2^e:Nat):Int)from K5 V.int N];generalize S:2^n+2^e=R at k;have I:R<=2^41:=by rw[<-S];lia
  refine t ?_;refine AW ?_;intro r2 s2 k2 u E2;refine u ?_;refine⟨λm σ q=>∃j:Nat,σ=[some (.ref g.p),some (.int o),some (.int (e:Int)),some (.int (R:Int)),some (.int ((j+2:Nat):Int))]/\q=H/\j+m=41/\∀d,R<=2^d->j<=d,⟨41,0,rfl,rfl,rfl,λ_ _=>J0 _⟩,?_⟩;rintro m σ q B;apply AL;intro l b;obtain⟨j,rfl,rfl,jm,Y⟩:=B;apply b;clear b l;refine xwb rfl rfl rfl (xq2 rfl rfl ⟨⟨by lia,by lia,by decide⟩,(xwb rfl rfl rfl (xq1 rfl ?_))⟩);have D:(1:Int)*2^(((j+2:Nat):Int)-2).toNat=((2^j:Nat):Int):=by
   rw[show(((j+2:Nat):Int)-2).toNat=j by lia,V6,L8];rfl
  refine Er (λc=>?_) (λc=>?_)
  .have c:=K3 c;have c:(1:Int)*2^(((j+2:Nat):Int)-2).toNat<(R:Int):=c;rw[D]at c;have m0:m≠0:=λz=>by
    subst z;have:j=41:=by lia
    subst this;lia
   refine⟨fun σ' C=>∃v:Nat,σ'=[some (.ref g.p),some (.int o),some (.int (e:Int)),some (.int (R:Int)),some (.int ((v+2:Nat):Int))]/\C=q/\v+(m-1)=41/\∀d,R<=2^d->v<=d,fun σ' C z=>⟨m-1,by lia,z⟩,?_⟩;have O:((j+2:Nat):Int)+1=((j+1+2:Nat):Int):=by lia
   exact xwb rfl rfl rfl ⟨j+1,K5 (λz:Int=>[some (V.ref g.p),some (V.int o),some (V.int (e:Int)),some (V.int (R:Int)),some (V.int z)]) O,rfl,by lia,λd h=>P6 λz=>by have:=L9 (show 0<2 by decide) z;lia⟩
  .have c:¬(1:Int)*2^(((j+2:Nat):Int)-2).toNat<(R:Int):=λz=>c (Z7 z);rw[D]at c;have le:R<=2^j:=by lia
   refine xq1 rfl (k j A0 ?_ ?_ le Y)
   .refine P7 λz=>?_;have:2^j<2^n:=Y5 A4 z;lia
   .refine P7 λz=>?_;have:2^j<2^e:=Y5 A4 z;lia
inductive SpWT(a:Ad)(vs:List V)(H:Hp)(Q:VK):Prop
|mk (g:GA) (G:Gv) (f n k:Nat) (_:vs=[.ref g.p,.int f,.int ((n+k+1:Nat):Int)]) (_:AY a H g G) (_:Al G f ((n+1:Nat):Int)) (_:n+k<=46) (_:G.length<8000000) (_:∀(v:Nat)(G':Gv)(H':Hp),Fr g H H'->AY a H' g G'->AH G G' (5*k)->Gn G' n f k v->Al G' v ((n+k+1:Nat):Int)->Q (.int v) H'):SpWT a vs H Q
def spWT(a:Ad):Sp:=λvs H Q _=>SpWT a vs H Q
theorem ok_wt(F:Fun K "widened_to" "widened_to" Ip f fd)(T:Top K mg a)(V:BD P w K mg base CX0 3 a.c_Grove "level_of" JU (Jv a))(W:Cal P w K mg base CX0 4 "widened" Lj (Vp a)):AK P w K mg base CX0 5 f fd IL (spWT a):=by
 refine F.ok GE (λvs H Q E h=>?_) (λX A M s H vs Q E R h=>?_)
 .apply AL;intro t b;obtain⟨g,G,r,n,kk,rfl,_⟩:=h;apply b;clear b t;rfl
 .apply AL;intro t b;obtain⟨g,G,r,n,kk,rfl,O,hl,aa,few,k⟩:=h;apply b;clear b t;refine⟨_,(Ac (Ao (i:=3) GE.nd rfl O_9 (pv 1)) (Ac (EW X5 (Ay Ih (AD (pv 0) V (rm R) Am (Aa (pv 3) Ab)) (pv 2) (AE _)) (Af (Ao (i:=3) GE.nd rfl O_9 (Ar W (rm R) rfl Am (Aa (pv 0) (Aa (pv 3) Ab)))))) (Af (Au (pv 3))))),?_⟩
  try dsimp only[cxK]
  refine xq1 rfl ?_;refine⟨λm σ y=>∃(e:Gv)(c j:Nat),σ=[some (.ref g.p),some (.int r),some (.int ((n+kk+1:Nat):Int)),some (.int c)]/\Fr g H y/\AY a y g e/\AH G e (5*j)/\j+m=kk/\Al e c ((n+j+1:Nat):Int)/\Gn e n r j c,⟨kk,G,r,0,rfl,Fr.refl g H,O,AH.refl O.ok,by lia,hl,rfl⟩,?_⟩;rintro m σ y N;apply AL;intro t b;obtain⟨e,c,j,rfl,fr,d,D,Y,L,U⟩:=N;apply b;clear b t;have gf:=D.few;obtain⟨q,eq,Z⟩:=id L;refine xq1 rfl ⟨g.p,g.dx,(xq1 rfl ⟨d.at'.hp,Cc g,(xq1 rfl ⟨g,e,c,q,rfl,d.at',eq,?_⟩)⟩)⟩;rw[Z];refine xwb rfl rfl rfl (xq1 rfl (Er (λx=>?_) (λx=>?_)))
  .have x:((n+j+1:Nat):Int)<((n+kk+1:Nat):Int):=K3 x;refine⟨fun σ' C=>∃(o:Gv)(u B:Nat),σ'=[some (.ref g.p),some (.int r),some (.int ((n+kk+1:Nat):Int)),some (.int u)]/\Fr g H C/\AY a C g o/\AH G o (5*B)/\B+(m-1)=kk/\Al o u ((n+B+1:Nat):Int)/\Gn o n r B u,fun σ' C z=>⟨m-1,by lia,z⟩,?_⟩;refine xw2 rfl rfl ⟨g,e,c,n+j,rfl,d,L,by lia,by lia,λu o H3 v I l S=>?_⟩;refine⟨o,u,j+1,rfl,fr.trans v,d.fr v I l,(D.trans l).mono A0,by lia,?_,⟨c,U.app l,S⟩⟩;have:=S.lev;rw[show n+(j+1)+1=n+j+2 by lia];exact this
  .have x:¬((n+j+1:Nat):Int)<((n+kk+1:Nat):Int):=λz=>x (Z7 z);have:j=kk:=by lia
   subst this;exact xq1 rfl (k c e y fr d D U L)
end
end J
namespace J
open PySem L2
def sF(r:Az)(φ:D_):Int->Int->Nat:=λx y=>(Cm r (φ x y:Nat) [((φ (x-1) (y-1):Nat):Int),((φ x (y-1):Nat):Int),((φ (x+1) (y-1):Nat):Int),((φ (x-1) y:Nat):Int),((φ (x+1) y:Nat):Int),((φ (x-1) (y+1):Nat):Int),((φ x (y+1):Nat):Int),((φ (x+1) (y+1):Nat):Int)]).toNat
def sFN(r:Az):Nat->(Int->Int->Nat)->Int->Int->Nat
|0,φ=>φ
|n+1,φ=>sF r (sFN r n φ)
theorem Lh(r:Az)(φ:D_)(n:Nat):∀m,sFN r (m+n) φ=sFN r m (sFN r n φ)
|0=>by rw[N1];rfl
|m+1=>by
 rw[show m+1+n=(m+n)+1 by lia];show sF r (sFN r (m+n) φ)=sF r (sFN r m (sFN r n φ));rw[Lh r φ n m]
theorem VA(r:Az){φ ψ:D_}{X Y:Int}:∀(k:Nat)(x y:Int),(∀u v,x-k<=u->u<=x+k->y-k<=v->v<=y+k->φ u v=ψ (u+X) (v+Y))->sFN r k φ x y=sFN r k ψ (x+X) (y+Y)
|0,x,y,h=>h x y A0 A0 A0 A0
|k+1,x,y,h=>by
 have c:∀u v,x-1<=u->u<=x+1->y-1<=v->v<=y+1->sFN r k φ u v=sFN r k ψ (u+X) (v+Y):=λu v d e f g=>VA r k u v λa b i j l m=>h a b A0 A0 A0 A0;show sF r (sFN r k φ) x y=sF r (sFN r k ψ) (x+X) (y+Y);unfold sF;rw[c x y A0 A0 A0 A0,c (x-1) (y-1) A0 A0 A0 A0,c x (y-1) A0 A0 A0 A0,c (x+1) (y-1) A0 A0 A0 A0,c (x-1) y A0 A0 A0 A0,c (x+1) y A0 A0 A0 A0,c (x-1) (y+1) A0 A0 A0 A0,c x (y+1) A0 A0 A0 A0,c (x+1) (y+1) A0 A0 A0 A0];rw[show x-1+X=x+X-1 by lia,show y-1+Y=y+Y-1 by lia,show x+1+X=x+X+1 by lia,show y+1+Y=y+Y+1 by lia]
theorem JB{r:Az}(h:Cm r 0 BF=0):∀k,sFN r k (λ_ _=>0)=λ_ _=>0
|0=>rfl
|k+1=>by
 show sF r (sFN r k λ_ _=>0)=_;rw[JB h k]
 funext x y
 show(Cm r ((0:Nat):Int) BF).toNat=0;rw[show((0:Nat):Int)=0 from rfl,h];rfl
theorem Mm{r:Az}(h:Cm r 0 BF=0){φ:D_}{k:Nat}{x y:Int}(z:sFN r k φ x y≠0):∃u v,x-k<=u/\u<=x+k/\y-k<=v/\v<=y+k/\φ u v≠0:=by
 refine K2 λno=>z ?_;have:=VA r (φ:=φ) (ψ:=λ_ _=>0) (X:=0) (Y:=0) k x y λu v a b c d=>K2 λq=>no ⟨u,v,a,b,c,d,q⟩;rw[this,JB h]
theorem bec_nn{r:Az}(h:Fb r){cell:Int}(f:0<=cell)(a:I_):0<=Cm r cell a:=by
 cases e:Jq r cell a with
 |none=>rw[MR e];exact f
 |some i =>
  obtain⟨c,b,d⟩:=MQ e;rw[d];exact(h.ok c (D0 b)).makes.1
theorem Lg{r:Az}(e:Fb r){c:Nat->Nat->Int}{φ:D_}{X Y:Int}:∀(k x y:Nat),k<=x->k<=y->(∀u v:Nat,x-k<=u->u<=x+k->y-k<=v->v<=y+k->c u v=(φ ((u:Int)+X) ((v:Int)+Y):Nat))->Bq r k c x y=(sFN r k φ ((x:Int)+X) ((y:Int)+Y):Nat)
|0,x,y,_,_,h=>h x y A0 A0 A0 A0
|k+1,x,y,hx,hy,h=>by
 have d:∀u v:Nat,x-1<=u->u<=x+1->y-1<=v->v<=y+1->Bq r k c u v=(sFN r k φ ((u:Int)+X) ((v:Int)+Y):Nat):=λu v f g i j=>Lg e k u v A0 A0 λa b l m n o=>h a b A0 A0 A0 A0;show Cm r (Bq r k c x y) [Bq r k c (x-1) (y-1),Bq r k c x (y-1),Bq r k c (x+1) (y-1),Bq r k c (x-1) y,Bq r k c (x+1) y,Bq r k c (x-1) (y+1),Bq r k c x (y+1),Bq r k c (x+1) (y+1)]=((sF r (sFN r k φ) ((x:Int)+X) ((y:Int)+Y):Nat):Int)
 unfold sF;rw[R0 (bec_nn e (Int.natCast_nonneg _) _)];rw[d x y A0 A0 A0 A0,d (x-1) (y-1) A0 A0 A0 A0,d x (y-1) A0 A0 A0 A0,d (x+1) (y-1) A0 A0 A0 A0,d (x-1) y A0 A0 A0 A0,d (x+1) y A0 A0 A0 A0,d (x-1) (y+1) A0 A0 A0 A0,d x (y+1) A0 A0 A0 A0,d (x+1) (y+1) A0 A0 A0 A0];rw[show((x-1:Nat):Int)+X=x+X-1 by lia,show((y-1:Nat):Int)+Y=y+Y-1 by lia,show((x+1:Nat):Int)+X=x+X+1 by lia,show((y+1:Nat):Int)+Y=y+Y+1 by lia]
theorem fld_jg{G:Gv}(ok:GOk G){r:Az}(H:Fb r)(F:Cm r 0 BF=0){l e f k:Nat}(g:Al G f ((l+1+1:Nat):Int))(jr:JR r G e f k){φ:D_}(h:∀x y,fieldF G (l+1) f x y=φ x y)(b:∀x y,φ x y≠0->-(2^l)+2^e<=x/\x+2^e<2^l/\-(2^l)+2^e<=y/\y+2^e<2^l):Al G k ((l+1:Nat):Int)/\∀x y,fieldF G l k x y=sFN r (2^e) φ x y:=by
 obtain⟨a,n,o,d,s⟩:=jr;have m:a=l:=by
  have:=n.one g;lia
 subst m;have p:((2^(a+1):Nat):Int)=2^a+2^a:=by rw[L8];exact CU a
 have t:((2^a:Nat):Int)=2^a:=L8 2 a;have M:((2^e:Nat):Int)=2^e:=L8 2 e;have L:((2^(a+2):Nat):Int)=2^a+2^a+(2^a+2^a):=by
  rw[L8];show(2:Int)^(a+2)=_;rw[show(2:Int)^(a+2)=2^(a+1)+2^(a+1)from CU (a+1),CU]
 have le:2^e<=2^a:=L9 A4 o;refine⟨d,λx y=>?_⟩;by_cases z:-(2^a)<=x/\x<2^a/\-(2^a)<=y/\y<2^a
 .obtain⟨i,I,j,b2⟩:=z;have at':(fieldF G a k x y:Int)=Bq r (2^e) (CC G (a+2) f) ((x+2^a).toNat+2^a) ((y+2^a).toNat+2^a):=by
   rw[<-s _ _ A0 A0,MK ok d A0 A0];congr 2<;>lia
  have c:∀u:Int,-(2^a)<=u->((((u+2^a).toNat+2^a:Nat):Int)+-(2^(a+1)))=u:=λu K=>by
   rw[CU,N4,t];lia
  rw[Lg H (φ:=φ) (X:=-(2^(a+1))) (Y:=-(2^(a+1))) _ _ _ A0 A0 (λu v A B C D=>?_),c x i,c y j]at at'
  .exact K1 at'
  .rw[MK ok g A0 A0,h];rfl
 .unfold fieldF;rw[Z6 z];refine(K2 λq=>?_);obtain⟨u,v,A,B,C,D,E⟩:=Mm F (λw=>q w.symm);have:=b u v E;lia
def Kg(r:Az)(F:List (Int->Int->Nat))(T:Nat):KTy:=λl e ψ=>l<47/\((∀x y,x<2^(l+2)->y<2^(l+2)->ψ x y=0)\/∃φ∈F,∃(t:Nat)(i j:Int),t+2^e<=T/\∀x y,x<2^(l+2)->y<2^(l+2)->ψ x y=(sFN r t φ ((x:Int)+2^l*i) ((y:Int)+2^l*j):Nat))
theorem kg_cl{r:Az}(s:Fb r)(M:Cm r 0 BF=0)(F:List (Int->Int->Nat))(T:Nat):ClK r (Kg r F T):=by
 have n:∀l,2^(l+1)=2^l*2:=λl=>F4 ..;have q:∀l:Nat,(2:Int)^(l+1)=2^l*2:=λl=>S7 ..;have o:∀l,2^(l+2)=2^l*2*2:=λl=>by rw[F4,F4]
 have p:∀l,2^(l+1+2)=2^l*2*2*2:=λl=>by rw[F4,F4,F4]
 have nine:∀{l e g ψ},Kg r F T (l+1) e ψ->2^g<=2^e->∀i j,i<3->j<3->Kg r F T l g λx y=>ψ (x+2^(l+1)*i) (y+2^(l+1)*j):=λ{l e g ψ} h N i j I K=>by
  have C:2^(l+1)*i<=2^(l+1)*2:=M0 _ A0;have b2:2^(l+1)*j<=2^(l+1)*2:=M0 _ A0;have w:=n l;have A:=o l;have B:=p l;refine⟨by have:=h.1;lia,?_⟩;rcases h.2 with z|⟨φ,b,t,a,f,L,z⟩
  .exact .inl λx y k m=>z _ _ A0 A0
  .refine .inr ⟨φ,b,t,2*a+2*(i:Int),2*f+2*(j:Int),by lia,λx y k m=>?_⟩;show ψ _ _=_;rw[z _ _ A0 A0];have d:∀(x i:Nat)(a:Int),((x+2^(l+1)*i:Nat):Int)+2^(l+1)*a=(x:Int)+2^l*(2*a+2*(i:Int)):=λx i a=>by
    rw[N4,O3,L8];show(x:Int)+2^(l+1)*(i:Int)+2^(l+1)*a=_;rw[q,S4,R7,R7];lia
   rw[d,d]
 refine⟨λh _=>nine h (C1 _),λ{l φ} h=>nine h (by rw[n];lia),λ{l ψ} h i j I K=>?_⟩;have C:2^(l+1)*i<=2^(l+1)*1:=M0 _ A0;have b2:2^(l+1)*j<=2^(l+1)*1:=M0 _ A0;have w:=n l;have A:=o l;have B:=p l;refine⟨by have:=h.1;lia,?_⟩;rcases h.2 with z|⟨φ,b,t,a,f,L,z⟩
 .refine .inl λx y k m=>?_;have:=Lg s (c:=ψ) (φ:=λ_ _=>0) (X:=0) (Y:=0) (2^l) (x+(2^(l+1)*i+2^l)) (y+(2^(l+1)*j+2^l)) A0 A0 λu v D E G H=>z u v A0 A0;rw[JB M]at this;exact this
 .refine .inr ⟨φ,b,t+2^l,2*a+(2*(i:Int)+1),2*f+(2*(j:Int)+1),by lia,λx y k m=>?_⟩;have:=Lg s (c:=ψ) (φ:=sFN r t φ) (X:=2^(l+1)*a) (Y:=2^(l+1)*f) (2^l) (x+(2^(l+1)*i+2^l)) (y+(2^(l+1)*j+2^l)) A0 A0 λu v D E G H=>z u v A0 A0;show Bq r (2^l) ψ _ _=_;rw[this,<-Lh,Z2];have d:∀(x i:Nat)(a:Int),((x+(2^(l+1)*i+2^l):Nat):Int)+2^(l+1)*a=(x:Int)+2^l*(2*a+(2*(i:Int)+1)):=λx i a=>by
   rw[N4,N4,O3,L8,L8];show(x:Int)+(2^(l+1)*(i:Int)+2^l)+2^(l+1)*a=_;rw[q,S4,S4,R7,R7,Int.mul_one];lia
  rw[d,d]
def wl(W T l:Nat):Nat:=(W+2*T)/2^l+5
def sg(k T W D l:Nat):Nat:=1+k*(T*(wl W T l*wl D T l))
def mg(k T W D e:Nat):Nat:=if 2^e<=T then((List.range 47).map (sg k T W D)).sum else 47
def ng(k T W D:Nat):Nat:=s47 (mg k T W D)
def winF(ψ:D_)(l:Nat)(i j:Int):Sht:=λx y=>(ψ ((x:Int)+2^l*i) ((y:Int)+2^l*j):Nat)
abbrev Fbx:=(Int->Int->Nat)×Int×Int
def Yt(r:Az)(T W D l:Nat)(q:Fbx):List (Nat×Sht):=(List.range T).flatMap λt=>(List.range (wl W T l*wl D T l)).map λd=>(l,winF (sFN r t q.1) l ((q.2.1-T)/2^l-3+((d%wl W T l:Nat):Int)) ((q.2.2-T)/2^l-3+((d/wl W T l:Nat):Int)))
def VQ(r:Az)(T W D:Nat)(qs:List Fbx)(e:Nat):List (Nat×Sht):=(List.range 47).flatMap λl=>(l,λ_ _=>0)::if 2^e<=T then qs.flatMap (Yt r T W D l)else []
theorem Pz{α β:Type}(f:α->List β)(m:α->Nat):∀l:List α,(∀x∈l,(f x).length<=m x)->(l.flatMap f).length<=(l.map m).sum
|[],_=>by simp
|a::l,h=>by
 have:=Pz f m l λx b=>h x (C7 _ b);have:=h a C8;rw[List.flatMap_cons,C5,F7,P3];lia
theorem WU(r:Az)(T W D:Nat)(a:List Fbx)(e:Nat):(VQ r T W D a e).length<=mg a.length T W D e:=by
 unfold VQ mg;by_cases h:2^e<=T
 .rw[Z9 h];simp only[Z9 h];refine Pz _ _ _ λl _=>?_;rw[D7];have:=Lo (Yt r T W D l) (T*(wl W T l*wl D T l)) a λq _=>by
   unfold Yt;have:=Lo (λt=>(List.range (wl W T l*wl D T l)).map λd=>(l,winF (sFN r t q.1) l ((q.2.1-T)/2^l-3+((d%wl W T l:Nat):Int)) ((q.2.2-T)/2^l-3+((d/wl W T l:Nat):Int)))) (wl W T l*wl D T l) (List.range T) λt _=>by rw[B8,M4];exact C1 _
   rw[M4]at this;exact this
  unfold sg;lia
 .rw[Z6 h];simp only[Z6 h];have:=Lo (λl=>[((l,λ_ _=>0):Nat×Sht)]) 1 (List.range 47) λl _=>C1 _;rw[M4]at this;exact this
theorem kg_ext{r:Az}{F:List (Int->Int->Nat)}{T l e:Nat}{φ ψ:Sht}(h:Kg r F T l e φ)(q:Vd l φ ψ):Kg r F T l e ψ:=by
 refine⟨h.1,?_⟩;rcases h.2 with c|⟨d,m,t,i,j,f,c⟩
 .exact .inl λx y a b=>(q x y a b).symm.trans (c x y a b)
 .exact .inr ⟨d,m,t,i,j,f,λx y a b=>(q x y a b).symm.trans (c x y a b)⟩
theorem QY{l T W t:Nat}{x:Nat}{i X u:Int}(y:x<2^(l+2))(w:t<=T)(p:(x:Int)+2^l*i-t<=u)(r:u<=(x:Int)+2^l*i+t)(s:X<=u)(v:u<X+W):∃d,d<wl W T l/\i=(X-T)/2^l-3+((d:Nat):Int):=by
 have a:(0:Int)<2^l:=by have:=Bp l;have e:((2^l:Nat):Int)=2^l:=L8 2 l;lia
 have z:((2^(l+2):Nat):Int)=2^l*4:=by rw[L8];show(2:Int)^(l+2)=_;rw[S7,S7];lia
 have m:(((W+2*T)/2^l:Nat):Int)=((W:Int)+2*T)/2^l:=by rw[Int.natCast_ediv,L8];rfl
 generalize j:(2:Int)^l=P at *
 generalize eq:(X-T)/P=q;have f:=Int.emod_add_mul_ediv (X-T) P;have g:=Q6 (X-T) (Int.ne_of_gt a);have h:=N8 (X-T) a;rw[eq]at f;have n:=Int.emod_add_mul_ediv ((W:Int)+2*T) P;have o:=N8 ((W:Int)+2*T) a;generalize k:((W:Int)+2*T)/P=b at *
 have lo:P*(q-4)<P*i:=by rw[Int.mul_sub];lia
 have c:P*i<P*(q+b+2):=by rw[S4,S4];lia
 have lo:=Int.lt_of_mul_lt_mul_left lo (Int.le_of_lt a);have c:=Int.lt_of_mul_lt_mul_left c (Int.le_of_lt a);refine⟨(i-q+3).toNat,?_,by lia⟩;unfold wl;lia
def InBx(F:List (Int->Int->Nat))(W D:Nat)(qs:List Fbx):Prop:=∀φ∈F,∀u v,φ u v≠0->∃X Y,(φ,X,Y)∈qs/\X<=u/\u<X+W/\Y<=v/\v<Y+D
theorem kg_fin{r:Az}(Q:Cm r 0 BF=0){F:List (Int->Int->Nat)}{T W D:Nat}{f:List Fbx}(N:InBx F W D f):Gj (Kg r F T) (ng f.length T W D):=by
 refine⟨⟨mg f.length T W D,C1 _,λe=>⟨VQ r T W D f e,WU r T W D f e,λl ψ h=>?_⟩⟩,kg_ext⟩;obtain⟨p,d⟩:=h;have zero:(∀x y,x<2^(l+2)->y<2^(l+2)->ψ x y=0)->∃g,(l,g)∈VQ r T W D f e/\Vd l ψ g:=λz=>⟨λ_ _=>0,O0.mpr ⟨l,F5.mpr p,C8⟩,z⟩
 rcases d with d|⟨φ,o,t,i,j,R,d⟩
 .exact zero d
 .by_cases z:∀x y,x<2^(l+2)->y<2^(l+2)->ψ x y=0
  .exact zero z
  .obtain⟨x,z⟩:=Classical.not_forall.mp z;obtain⟨y,z⟩:=Classical.not_forall.mp z;obtain⟨k,z⟩:=Classical.not_imp.mp z;obtain⟨n,z⟩:=Classical.not_imp.mp z;rw[d x y k n]at z;have z:sFN r t φ ((x:Int)+2^l*i) ((y:Int)+2^l*j)≠0:=λq=>z (by rw[q];rfl);obtain⟨u,v,w,A,B,b2,c⟩:=Mm Q z;obtain⟨X,Y,m,I,K,L,M⟩:=N φ o u v c;have S:=Bp e;obtain⟨b,s,G⟩:=QY (T:=T) (W:=W) k A0 w A I K;obtain⟨a,P,H⟩:=QY (T:=T) (W:=D) n A0 B b2 L M;have O:0<wl W T l:=by unfold wl;lia
   have E:(b+wl W T l*a)%wl W T l=b:=by rw[O4,O5 s]
   have C:(b+wl W T l*a)/wl W T l=a:=by rw[N9 _ _ O,N7 s,N1]
   have lt:b+wl W T l*a<wl W T l*wl D T l:=by
    have:wl W T l*(a+1)<=wl W T l*wl D T l:=M0 _ P;rw[Nat.mul_add]at this;lia
   refine⟨winF (sFN r t φ) l i j,O0.mpr ⟨l,F5.mpr p,C7 _ ?_⟩,λx y k n=>d x y k n⟩;rw[Z9 A0];refine O0.mpr ⟨_,m,O0.mpr ⟨t,F5.mpr A0,F0.mpr ⟨b+wl W T l*a,F5.mpr lt,?_⟩⟩⟩;rw[E,C];show(l,winF (sFN r t φ) l ((X-T)/2^l-3+((b:Nat):Int)) ((Y-T)/2^l-3+((a:Nat):Int)))=_;rw[<-G,<-H]
theorem fld_kg{G:Gv}(ok:GOk G){r:Az}{F:List (Int->Int->Nat)}{T l f e t:Nat}(d:l<47)(g:Al G f ((l+1+1:Nat):Int)){φ:D_}(m:φ∈F)(a:t+2^e<=T)(h:∀x y,fieldF G (l+1) f x y=sFN r t φ x y):Kg r F T l e (CC G (l+2) f):=by
 refine⟨by lia,.inr ⟨φ,m,t,-2,-2,a,λx y b c=>?_⟩⟩;rw[MK ok g b c,h];have e:(2:Int)^(l+1)=2^l*2:=S7 ..;rw[e];congr 2<;>lia
seal L2.PA L2.PE L2.PS L2.PSs L2.PT L2.PW
def Ub(φ:D_)(k:Nat):Prop:=∀x y,φ x y≠0->-(2^40)+(k:Int)<=x/\x+k<2^40/\-(2^40)+(k:Int)<=y/\y+k<2^40
theorem ZF {φ:D_} {b:Bx} (t:PM (λx y=>φ x y≠0) b) (k:Nat):Ji (b.l-k) (b.t-k) (b.w+2*k) (b.h+2*k) (2^40)↔Ub φ k:=by
 unfold Ji;constructor
 .rintro⟨a,c,d,e⟩ x y h;have:=t.inn x y h;lia
 .intro h;obtain⟨m,a⟩:=t.le;obtain⟨n,c⟩:=t.to;obtain⟨o,d⟩:=t.ri;obtain⟨p,e⟩:=t.bo;have f:=h _ _ a;have g:=h _ _ c;have i:=h _ _ d;have j:=h _ _ e;lia
section
variable{P:N_}{w:Q_}{K:O_}{mg:C_}{base:T_}{a:Ad}
inductive SpChG(a:Ad)(vs:List V)(H:Hp)(Q:VK):Prop
|mk (g:GA) (G:Gv) (f n k:Nat) (_:vs=[.ref g.p,.int f,.int (k:Int)]) (_:AY a H g G) (_:Al G f ((n+1:Nat):Int)) (_:n<48) (_:G.length<8000000) (_:Ub (fieldF G n f) k) (_:∀H',FrQ g H H'->AY a H' g G->Q .non H'):SpChG a vs H Q
def YU(a:Ad):Sp:=λvs H Q _=>SpChG a vs H Q
theorem ok_chg'(F:Fun K "check_leap" "check_leap" Iv f fd)(T:Top K mg a)(M:Cal P w K mg base CX0 1 "is_whole" UE Ul)(R:Cal P w K mg base CX0 102 "box_of" UD (Rl a))(N:Cal P w K mg base CX0 1 "lies_within" Qd SQ):AK P w K mg base CX0 103 f fd IO (YU a):=by
 refine F.ok Ly D_9 λS A v s H vs Q E q h=>?_
 obtain⟨g,G,U,n,k,rfl,C,I,r,few,X,D⟩:=h;refine⟨_,(Ac (AM (PW.pt (Jo (CZ (Ch (Ar M (rm q) rfl Am (Aa (pv 2) Ab)))) (Fl (Ay Ih (pv 2) Ae (AE _))))) (Af Bh) AB) (Ac (Ao (i:=3) Ly.nd rfl O_9 (Ar R (rm q) rfl Am (Aa (pv 0) (Aa (pv 1) Ab)))) (Af (AM (PW.pt (JC (Ay VJ (pv 3) Cy (AE _)) (Gw (CZ (Ch (Ar N (rm q) rfl Am (Br (Bl BJ (Aj An (pv 3) Ae R_9) (pv 2) (Bl BJ (Aj An (pv 3) Ae R_9) (pv 2) (Bl AQ (Aj An (pv 3) Ae R_9) (AA Fo Ae (pv 2)) (Bl AQ (Aj An (pv 3) Ae R_9) (AA Fo Ae (pv 2)) Ab)))) (Aa (BV rfl T.k_LIMIT) Ab)))))))) (Af Bh) AB)))),?_⟩
 try dsimp only[cxK]
 refine AW ?_;intro r1 s1 k1 p Y;refine xq1 rfl ⟨(k:Int),rfl,true,rfl,Bf ?_⟩;refine xwb rfl rfl rfl (xq1 rfl ?_);rw[Z8 A0];refine Bf ?_;refine p ?_;refine AW ?_;intro r2 s2 k2 e Z;refine xw2 rfl rfl ⟨g,G,U,n,rfl,C,I,r,few,λz d o b=>?_,λO z t d o b c=>?_⟩
 .refine e ?_;refine xq1 rfl ⟨rfl,false,rfl,Bf ?_⟩;exact D d o b
 .refine e ?_;have L:=SD C.ok I z;generalize mvB (2^n) O=B at c L;have c:d t=some (.tup [.int B.l,.int B.t,.int B.w,.int B.h]):=c;have W:=ZF L k;refine xq1 rfl ⟨rfl,true,rfl,Cz ?_⟩;refine xwi rfl rfl rfl (SqT.of c) (Ai (j:=0) rfl) (xwb rfl rfl rfl ?_);refine xwi rfl rfl rfl (SqT.of c) (Ai (j:=1) rfl) (xwb rfl rfl rfl ?_);refine xwi rfl rfl rfl (SqT.of c) (Ai (j:=2) rfl) (xwb rfl rfl rfl ⟨.inl ⟨by decide,by decide⟩,(xq2 rfl rfl ?_)⟩);refine xwi rfl rfl rfl (SqT.of c) (Ai (j:=3) rfl) (xwb rfl rfl rfl ⟨.inl ⟨by decide,by decide⟩,(xq2 rfl rfl ?_)⟩);refine⟨by show 4<=sizeLine;decide,λu V=>?_⟩;refine⟨u,B.l-k,B.t-k,B.w+2*k,B.h+2*k,2^40,rfl,Ag,?_⟩;generalize y:upd d u _=x;have m:AC d x:=y▸AN V;clear y;rw[Z7 (W.mpr X)];exact⟨true,rfl,Bf (D x (o.trans (AC.frq m)) (b.same m))⟩
end
theorem Wf{G r:Gv}(e:G=G0++r)(ok:GOk G):Al G (bareN 1) ((0+1:Nat):Int)/\Jr G 0 (bareN 1)/\∀x y,fieldF G 0 (bareN 1) x y=0:=by
 refine⟨Il e (n:=1) A4,.inl rfl,λx y=>?_⟩;unfold fieldF;by_cases z:-(2^0)<=x/\x<2^0/\-(2^0)<=y/\y<2^0
 .rw[Z9 z];exact Ij e ok (n:=1) A4 (by show _<2;have:(2:Int)^0=1:=rfl;lia) (by show _<2;have:(2:Int)^0=1:=rfl;lia)
 .rw[Z6 z]
theorem nar{x a b c:Int}(h:-a<=x)(h':x<a)(e:a+c<=b):-b+c<=x/\x+c<b:=by lia
theorem near_lt{φ:D_}{k:Nat}(h:Ub φ k){x y:Int}(a:φ x y≠0):k<2^40:=by
 have:=h x y a;lia
theorem nr1{x u:Int}{t k:Nat}(tk:t<=k)(c:x-t<=u)(d:u<=x+t)(a:-(2^40)+(k:Int)<=u)(b:u+k<2^40):-(2^40)<=x/\x<2^40:=by lia
theorem RA{r:Az}(o:Cm r 0 BF=0){φ:D_}{k t:Nat}(h:Ub φ k)(tk:t<=k){x y:Int}(n:sFN r t φ x y≠0):-(2^40)<=x/\x<2^40/\-(2^40)<=y/\y<2^40:=by
 apply AL;intro b a;obtain⟨u,v,g,i,j,l,m⟩:=Mm o n;obtain⟨c,d,e,f⟩:=h u v m;apply a;clear a b;have q:=nr1 tk g i c d;exact⟨q.1,q.2,nr1 tk j l e f⟩
theorem Rb{G r:Gv}(e:G=G0++r)(ok:GOk G){n f:Nat}(c:n<=47)(t:Jr G n f)(h:∀x y,fieldF G n f x y≠0->-(2^40)<=x/\x<2^40/\-(2^40)<=y/\y<2^40):n<=40:=by
 refine P7 λz=>?_;obtain⟨m,rfl⟩:∃m,n=m+1:=⟨n-1,by lia⟩
 obtain⟨x,y,b,a⟩:=SB e ok A0 t;have:=h x y a;have p:2^40<=2^m:=L9 A4 A0;have d:((2^m:Nat):Int)=2^m:=L8 2 m;lia
def PN(Κ:KTy)(r:Az)(φ:D_)(k:Nat):Prop:=∀(j l:Nat)(G:Gv)(f:Nat),k/2^j%2=1->j<=l->l<=41->GOk G->Al G f ((l+1+1:Nat):Int)->(∀x y,fieldF G (l+1) f x y=sFN r (k%2^j) φ x y)->Κ l j (CC G (l+2) f)
theorem kg_ask{r:Az}{F:List (Int->Int->Nat)}{T k t:Nat}{φ:D_}(m:φ∈F)(h:k+t<=T):PN (Kg r F T) r (sFN r t φ) k:=λj l G f e g b ok c a=>by
 refine fld_kg (t:=k%2^j+t) ok A0 c m ?_ λx y=>by rw[a,<-Lh]
 have d:=O2 k (2^j);have p:2^j*1<=2^j*(k/2^j):=M0 _ A0;lia
structure Ent(H:Hp)(G:Gv)(r:Az)(φ:D_)(k j:Nat)(t:R_)(v res l h nh:Nat):Prop where
ht:H t=some (.tup [.int v,.int j,.int res])
n40:nh<=40
l41:l<=41
nl:nh<=l
jl:j<=l
le:2^nh+2^j<=2^l
mn:∀l',2^nh+2^j<=2^l'->l<=l'
lh:Al G h ((nh+1:Nat):Int)
th:Jr G nh h
fh:∀x y,fieldF G nh h x y=sFN r (k%2^j) φ x y
wn:Gn G nh h (l+1-nh) v
lv:Al G v ((l+1+1:Nat):Int)
wf:∀x y,fieldF G (l+1) v x y=sFN r (k%2^j) φ x y
jr:JR r G j v res
lr:Al G res ((l+1:Nat):Int)
rs:∀x y,fieldF G l res x y=sFN r (k%2^(j+1)) φ x y
theorem Ent.app{H d:Hp}{G c:Gv}{r:Az}{φ:D_}{k j i:Nat}{t:R_}{v b l h f:Nat}(e:Ent H G r φ k j t v b l h f)(ok:GOk G)(a:AH G c i)(kp:∀t xs,H t=some (.tup xs)->d t=some (.tup xs)):Ent d c r φ k j t v b l h f :=
 ⟨kp _ _ e.ht,e.n40,e.l41,e.nl,e.jl,e.le,e.mn,a.lev e.lh,e.th.app a,λx y=>by rw[CW ok a e.lh];exact e.fh x y,e.wn.app a,a.lev e.lv,λx y=>by rw[CW ok a e.lv];exact e.wf x y,e.jr.goes ok a,a.lev e.lr,λx y=>by rw[CW ok a e.lr];exact e.rs x y⟩
def RdT(H:Hp)(G:Gv)(r:Az)(φ:D_)(k:Nat):Nat->List Addr->Prop
|0,ts=>ts=[]
|j+1,ts=>k/2^j≠0/\(∃x y,sFN r (k%2^j) φ x y≠0)/\((k/2^j%2=0/\RdT H G r φ k j ts)\/(k/2^j%2=1/\∃(ts':H_)(t:R_)(v res l h nh:Nat),ts=ts'++[t]/\RdT H G r φ k j ts'/\Ent H G r φ k j t v res l h nh))
theorem RdT.app{H m:Hp}{G g:Gv}{r:Az}{φ:D_}{k i:Nat}(ok:GOk G)(a:AH G g i)(kp:∀t xs,H t=some (.tup xs)->m t=some (.tup xs)):∀{j:Nat}{d:H_},RdT H G r φ k j d->RdT m g r φ k j d
|0,_,h=>h
|j+1,d,⟨h1,h2,b⟩=>⟨h1,h2,by
 rcases b with ⟨e,b⟩|⟨e,f,t,v,c,l,h,p,rfl,n,o⟩
 .exact .inl ⟨e,RdT.app ok a kp b⟩
 .exact .inr ⟨e,f,t,v,c,l,h,p,rfl,RdT.app ok a kp n,o.app ok a kp⟩⟩
theorem RdT.len{H:Hp}{G:Gv}{r:Az}{φ:D_}{k:Nat}:∀{j:Nat}{b:H_},RdT H G r φ k j b->b.length<=j
|0,_,h=>by rw[(h:_=[])];exact C1 _
|j+1,b,⟨_,_,a⟩=>by
 rcases a with ⟨e,a⟩|⟨e,f,t,v,d,l,h,i,rfl,c,g⟩
 .exact Nat.le_succ_of_le a.len
 .rw[C5];exact P4 c.len
structure Rd5(H:Hp)(G:Gv)(r:Az)(φ:D_)(k j:Nat)(ts:H_):Prop where
rd:RdT H G r φ k j ts
st:k/2^j=0\/∀x y,sFN r (k%2^j) φ x y=0
j40:j<=41
def LastG(H:Hp)(G:Gv)(ψ:D_)(ts:H_):Prop:=∃(t:R_)(sq e res l:Nat),ts.getLast?=some t/\H t=some (.tup [.int sq,.int e,.int res])/\l<=41/\Al G res ((l+1:Nat):Int)/\∀x y,fieldF G l res x y=ψ x y
theorem RdT.last{H:Hp}{G:Gv}{r:Az}{φ:D_}{k:Nat}:∀{j:Nat}{b:H_},RdT H G r φ k j b->(b=[]/\∀x y,sFN r (k%2^j) φ x y=φ x y)\/LastG H G (sFN r (k%2^j) φ) b
|0,_,h=>.inl ⟨h,λx y=>by rw[T4,Nat.mod_one];rfl⟩
|j+1,b,⟨_,_,c⟩=>by
 have md:k%2^(j+1)=k%2^j+2^j*(k/2^j%2):=Nat.mod_pow_succ;rcases c with ⟨e,c⟩|⟨e,f,t,v,d,l,h,i,rfl,g,a⟩
 .rw[md,e,W3,Nat.add_zero];exact c.last
 .exact .inr ⟨t,v,j,d,l,by rw[List.getLast?_append];rfl,a.ht,a.l41,a.lr,a.rs⟩
theorem st_eq{r:Az}(a:Cm r 0 BF=0){φ:D_}{k j:Nat}(b:k/2^j=0\/∀x y,sFN r (k%2^j) φ x y=0):sFN r k φ=sFN r (k%2^j) φ:=by
 have d:=O2 k (2^j);rcases b with e|z
 .rw[e,W3,N1]at d;rw[d]
 .have z:sFN r (k%2^j) φ=λ_ _=>0:=funext λx=>funext λy=>z x y;have:=Lh r φ (k%2^j) (2^j*(k/2^j));rw[d]at this;rw[this,z,JB a]
theorem ZS.tup{a:Ad}{H c:Hp}{g:GA}{G:Gv}{Κ:KTy}{N b:Nat}{p d mem e:R_}{r:Az}{m:MA}{t:R_}{xs:List V}(zs:ZS a H g G Κ N b p d mem e r m)(f:FrZ g m H c)(h:H t=some (.tup xs)):c t=some (.tup xs):=zs.keep f h (by intro xs z;cases z) (by intro xs z;cases z) (by intro xs z;cases z)
section
variable{P:N_}{w:Q_}{K:O_}{mg:C_}{base:T_}{a:Ad}
inductive SpRdG(a:Ad)(vs:List V)(H:Hp)(Q:VK):Prop
|mk (p dx mem pr:R_) (g:GA) (G:Gv) (Κ:KTy) (φ:D_) (N b:Nat) (r:Az) (m:MA) (f n k:Nat) (_:vs=[.ref p,.int f,.int (k:Int)]) (_:ZS a H g G Κ N b p dx mem pr r m) (_:Gj Κ N) (_:ClK r Κ) (_:PN Κ r φ k) (_:Al G f ((n+1:Nat):Int)) (_:n<=40) (_:Jr G n f) (_:∀x y,fieldF G n f x y=φ x y) (_:Ub φ k) (_:b+12000+10*N<7900000) (_:∀(L:R_)(ts:H_)(G':Gv)(H':Hp)(i:Nat),FrZ g m H H'->ZS a H' g G' Κ N (b+12000) p dx mem pr r m->AH G G' i->H L=none->H' L=some (.lst (ts.map V.ref))->(∃j,Rd5 H' G' r φ k j ts)->Q (.ref L) H'):SpRdG a vs H Q
def Vr(a:Ad):Sp:=λvs H Q _=>SpRdG a vs H Q
theorem ok_rdg(F:Fun K "road" "road" Uu f fd)(T:Top K mg a)(cD:Cal P w K mg base CX0 103 "check_leap" IO (YU a))(b6:Cal P w K mg base CX0 1 "bare_field" RG (Ol a))(cM:Cal P w K mg base CX0 5 "level_for" JG (YL a))(cB:Cal P w K mg base CX0 5 "widened_to" IL (spWT a))(aV:BD P w K mg base CX0 149 a.c_Jumps "after" Qh (FG a 46))(aS:Cal P w K mg base CX0 4 "trimmed" Lj (MT a)):AK P w K mg base CX0 150 f fd Uy (Vr a):=by
 refine F.ok DT (λvs H Q E h=>?_) (λcq A cc s H vs Q E hr h=>?_)
 .apply AL;intro G_ I;obtain⟨p,dx,mem,pr,g,G,Κ,φ,N,b,r,m,f',n,k,rfl,_⟩:=h;apply I;clear I G_;rfl
 .apply AL;intro G_ I;obtain⟨p,dx,mem,pr,g,G,Κ,φ,N,b,r,m,f',n,k,rfl,zs,fin,cl,bb,lf,ca,tr,hf,nr,few,kn⟩:=h;apply I;clear I G_;refine⟨_,(Ac (Ao (i:=3) DT.nd rfl O_9 (AF (pv 0) rfl)) (Ac (Bm (Ar cD (rm hr) rfl Am (Aa (pv 3) (Aa (pv 1) (Aa (pv 2) Ab))))) (Ac (Ao (i:=4) DT.nd rfl O_9 (Cb Ab)) (Ac (Ao (i:=5) DT.nd rfl O_9 (pv 1)) (Ac (Ao (i:=6) DT.nd rfl O_9 (pv 2)) (Ac (Ao (i:=7) DT.nd rfl O_9 Ae) (Ac (EW X5 (PW.pt (JC (Ay Pc (pv 6) Ae (AE _)) (Gw (Ay Dk (pv 5) (Ar b6 (rm hr) rfl Am (Aa (pv 3) Ab)) (AE _))))) (Ac (AM (Ay CG (AA Bb (pv 6) Ae) Ae (AE _)) (Ac (Ao (i:=8) DT.nd rfl O_9 (Ar cB (rm hr) rfl Am (Aa (pv 3) (Aa (pv 5) (Aa (Ar cM (rm hr) rfl Am (Aa (pv 3) (Aa (pv 5) (Aa (pv 7) Ab)))) Ab))))) (Ac (Ao (i:=9) DT.nd rfl O_9 (AD (pv 0) aV (rm hr) Am (Aa (pv 8) (Aa (pv 7) Ab)))) (Ac (Bm (CF X7 X8 X9 Bw (pv 4) (Br (Aa (pv 8) (Aa (pv 7) (Aa (pv 9) Ab))) Ab))) (Af (Ao (i:=5) DT.nd rfl O_9 (Ar aS (rm hr) rfl Am (Aa (pv 3) (Aa (pv 9) Ab)))))))) AB) (Ac (Ao (i:=6) DT.nd rfl O_9 (AA DF (pv 6) Ae)) (Af (Ao (i:=7) DT.nd rfl O_9 (AA AQ (pv 7) Ae)))))) (Af (Au (pv 4)))))))))),?_⟩
  try dsimp only[cxK]
  have sz:=zs.jz.sz fin;have re:=zs.jz.jw.rest;have ro:=zs.jz.jw.rok;refine AW ?_;intro r1 s1 k1 bo E1;refine xwf rfl rfl zs.jz.jw.hp T.cl_Jumps T.na_Jumps_grove (En _ _ _ _ _) ?_;refine bo ?_;refine AW ?_;intro r2 s2 k2 bp E2;refine xw3 rfl rfl rfl ⟨g,G,f',n,k,rfl,zs.fu,lf,by lia,by lia,(λx y h=>nr x y (by rw[<-hf];exact h)),λH1 fq bd=>?_⟩;have au:=zs.frQ fq bd;have be:FrZ g m H H1:=FrQ.z fq;refine bp ?_;refine AW ?_;intro r3 s3 k3 bq E3;refine⟨by show 0<=sizeLine;decide,λL nL=>?_⟩;generalize eH:upd H1 L _=H2;have a8:AC H1 H2:=eH▸AN nL;have bj:H2 L=some (.lst (([]:H_).map V.ref)):=eH▸Ag;clear eH;have ck:=au.same a8;obtain⟨a7,cu⟩:=au.new nL;have O:=au.ap nL;refine bq ?_;refine AW ?_;intro r4 s4 k4 br E4;refine xq1 rfl (br ?_);refine AW ?_;intro r5 s5 k5 bt E5;refine xq1 rfl (bt ?_);refine AW ?_;intro r6 s6 k6 bu E6;refine bu ?_;refine AW ?_;intro r7 s7 k7 bv E7;have ax:H L=none:=by
   cases e:H L with
   |none=>rfl
   |some o =>
    have h1:=fq L o e (λz=>a7 (by simp[z])) (λz=>a7 (by simp[z]));rw[nL]at h1;cases h1
  have bf:FrZ g m H H2:=be.trans (AC.z a8);have bn:k/2^0=k:=by rw[T4,Nat.div_one]
  have bx:k%2^0=0:=by rw[T4,Nat.mod_one]
  refine⟨fun μ σ H3=>∃(j:Nat)(D:Gv)(C:H_)(h c:Nat)(u8 u9:Option V)(i:Nat),σ=[some (.ref p),some (.int f'),some (.int (k:Int)),some (.ref g.p),some (.ref L),some (.int h),some (.int ((k/2^j:Nat):Int)),some (.int (j:Int)),u8,u9]/\j+μ=41/\FrZ g m H H3/\ZS a H3 g D Κ N (b+270*C.length) p dx mem pr r m/\AH G D i/\H3 L=some (.lst (C.map V.ref))/\C.length<=j/\(c<=40/\Al D h ((c+1:Nat):Int)/\Jr D c h/\∀x y,fieldF D c h x y=sFN r (k%2^j) φ x y)/\RdT H3 D r φ k j C,⟨41,0,G,[],f',n,none,none,0,(by rw[bn];rfl),rfl,bf,ck,AH.refl zs.fu.ok,bj,C1 _,⟨ca,lf,tr,by rw[bx];exact hf⟩,rfl⟩,?_⟩;rintro μ σ H3 cj;apply AL;intro G_ I;obtain⟨j,D,C,h,c,u8,u9,i,rfl,jm,an,B,ao,aq,tl,⟨ac,lh,th,fh⟩,la⟩:=cj;apply I;clear I G_;have c0:=B.jz.sz fin;obtain⟨cx,e3⟩:=B.fu.g0;have am:(k/2^j=0\/h=bareN 1)->k7 [some (.ref p),some (.int f'),some (.int (k:Int)),some (.ref g.p),some (.ref L),some (.int h),some (.int ((k/2^j:Nat):Int)),some (.int (j:Int)),u8,u9] H3:=λex=>by
   have st:k/2^j=0\/∀x y,sFN r (k%2^j) φ x y=0:=ex.imp id λe=>by
    subst e;obtain⟨b1,b2,b3⟩:=Wf e3 B.fu.ok;have n0:c=0:=by
     have:=lh.one b1;lia
    subst n0;exact λx y=>by rw[<-fh,b3]
   refine bv ?_;exact xq1 rfl (kn L C D H3 i an (B.mono A0) ao ax aq ⟨j,la,st,by lia⟩)
  refine xwb rfl rfl rfl (xq1 rfl (Er (λhc=>?_) (λhc=>?_)))
  .have hc:((k/2^j:Nat):Int) > 0:=K3 hc;have kj:k/2^j≠0:=by lia
   refine xw2 rfl rfl ⟨g,D,rfl,B.fu,rfl,(xq1 rfl ?_)⟩;by_cases hb:h=bareN 1
   .subst hb;rw[Z7 rfl];exact Bf (am (.inr rfl))
   .rw[Z8 (λz=>hb (by injection z with z;exact K1 z))];refine Cz ?_;have S:∃x y,sFN r (k%2^j) φ x y≠0:=by
     refine K2 λno=>hb ?_;obtain⟨b1,b2,b3⟩:=Wf e3 B.fu.ok;refine(LX e3 B.fu.ok A0 A4 lh b1 th b2 λx y=>?_).2;rw[b3,fh];exact K2 λz=>no ⟨x,y,z⟩
    have b4:k<2^40:=by
     obtain⟨x0,y0,h0⟩:=S;obtain⟨u,v,_,_,_,_,h5⟩:=Mm re h0;exact near_lt nr h5
    have j40:j<40:=by
     refine P6 λz=>kj (N7 (F2 b4 (L9 A4 z)))
    refine⟨fun σ' Z=>∃(j:Nat)(D:Gv)(C:H_)(h c:Nat)(u8 u9:Option V)(i:Nat),σ'=[some (.ref p),some (.int f'),some (.int (k:Int)),some (.ref g.p),some (.ref L),some (.int h),some (.int ((k/2^j:Nat):Int)),some (.int (j:Int)),u8,u9]/\j+(μ-1)=41/\FrZ g m H Z/\ZS a Z g D Κ N (b+270*C.length) p dx mem pr r m/\AH G D i/\Z L=some (.lst (C.map V.ref))/\C.length<=j/\(c<=40/\Al D h ((c+1:Nat):Int)/\Jr D c h/\∀x y,fieldF D c h x y=sFN r (k%2^j) φ x y)/\RdT Z D r φ k j C,fun σ' Z z=>⟨μ-1,by lia,z⟩,?_⟩;have dv:k/2^(j+1)=k/2^j/2:=by rw[F4,W4]
    have md:k%2^(j+1)=k%2^j+2^j*(k/2^j%2):=Nat.mod_pow_succ;refine AW ?_;intro r8 s8 k8 bw E8;apply MD (T:=k8) (fun σ' Z=>∃(D:Gv)(C:H_)(h c:Nat)(u8 u9:Option V)(i:Nat),σ'=[some (.ref p),some (.int f'),some (.int (k:Int)),some (.ref g.p),some (.ref L),some (.int h),some (.int ((k/2^j:Nat):Int)),some (.int (j:Int)),u8,u9]/\FrZ g m H Z/\ZS a Z g D Κ N (b+270*C.length) p dx mem pr r m/\AH G D i/\Z L=some (.lst (C.map V.ref))/\C.length<=j+1/\(c<=40/\Al D h ((c+1:Nat):Int)/\Jr D c h/\∀x y,fieldF D c h x y=sFN r (k%2^(j+1)) φ x y)/\RdT Z D r φ k (j+1) C)
    .intro ad;refine xwb rfl rfl rfl ⟨B7,rfl,(xq1 rfl (Er (λhc=>?_) (λhc=>?_)))⟩
     .have hc:((k/2^j:Nat):Int)%2=1:=by
       have:=K3 hc;injection this
      have od:k/2^j%2=1:=by lia
      have tk:2^j+k%2^j<=k:=by
       have d:=O2 k (2^j);have p:2^j*1<=2^j*(k/2^j):=M0 _ A0;lia
      refine AW ?_;intro r9 s9 k9 ar E9;refine xw3 rfl rfl rfl (xw2 rfl rfl ⟨g,D,h,c,j,rfl,B.fu.at',lh,ac,by lia,λl a5 nl jl le mn=>?_⟩);have el:c+(l+1-c)+1=l+2:=by lia
      refine⟨g,D,h,c,l+1-c,by rw[el];rfl,B.fu,lh,by lia,by lia,λv G2 Z ah W X wn lv=>?_⟩;have U:=B.fr ah W X;have c1:=U.jz.sz fin;obtain⟨r4,e4⟩:=W.g0;have wf:∀x y,fieldF G2 (l+1) v x y=sFN r (k%2^j) φ x y:=λx y=>by
       have:=LH e4 W.ok (k:=l+1-c) (w:=v) A0 wn x y;rw[show c+(l+1-c)=l+1 by lia]at this;rw[this,CW B.fu.ok X lh,fh]
      have Y:Al G2 v ((l+1+1:Nat):Int):=by rw[show l+1+1=c+(l+1-c)+1 by lia];exact lv
      have aw:=ao.trans X;refine ar ?_;refine AW ?_;intro cv cy cr a0 co;refine xwn rfl rfl U.jz.jw.hp (Qw _ _ _ _ _) rfl (xq1 rfl ⟨p,dx,mem,pr,g,G2,Κ,N,_,r,m,v,l,j,rfl,U.jz,fin,cl,Y,by lia,jl,bb j l G2 v od jl a5 W.ok Y wf,by lia,λM G3 H5 i5 fj b0 ab jr up=>?_⟩);have af:=U.aft fj b0 ab;have c2:=af.jz.sz fin;have bh:FrZ g m H H5:=(an.trans (Fr.z ah)).trans (FrJ.z fj);have ch:∀x y,fieldF G3 (l+1) v x y=sFN r (k%2^j) φ x y:=λx y=>by rw[CW W.ok ab Y];exact wf x y
      obtain⟨lr,rs⟩:=fld_jg af.fu.ok ro re (ab.lev Y) jr ch (λx y al=>by
       rw[<-fh]at al;have a6:(2:Int)^c+2^j<=2^l:=by exact_mod_cast le
       obtain⟨h1,h2,h3,h4⟩:=K2 λz:¬(-(2^c)<=x/\x<2^c/\-(2^c)<=y/\y<2^c)=>al (by unfold fieldF;rw[Z6 z]);have q:=nar h1 h2 a6;exact⟨q.1,q.2,nar h3 h4 a6⟩)
      have rs:∀x y,fieldF G3 l M x y=sFN r (k%2^(j+1)) φ x y:=λx y=>by rw[rs,<-Lh,md,od,Nat.mul_one,Z2]
      have ay:H5 L=some (.lst (C.map V.ref)):=FrJ.z fj _ _ (Fr.z (m:=m) ah _ _ aq O.n0 O.n1) O.n0 O.n1;refine a0 ?_;refine AW ?_;intro cw cz cs a3 cp;refine xq1 rfl ⟨.inl ⟨rfl,_,SqL.of ay⟩,(xw3 rfl rfl rfl ⟨by show 3<=sizeLine;decide,λt nt=>?_⟩)⟩;have ae:=AN (o:=.tup [.int (v:Int),.int (j:Int),.int (M:Int)]) nt;have as:upd H5 t (.tup [.int (v:Int),.int (j:Int),.int (M:Int)]) t=some (.tup [.int (v:Int),.int (j:Int),.int (M:Int)]):=Ag;generalize upd H5 t (.tup [.int (v:Int),.int (j:Int),.int (M:Int)])=H6 at ae as⊢;have cm:=af.same ae;have ak:=ae _ _ ay;refine⟨L,(xq2 rfl rfl ⟨ak,by rw[B8];exact Eu A0,?_⟩)⟩;have ag:=cm.putL (o:=.lst (C.map V.ref++[.ref t])) ak O;have a4:upd H6 L (.lst (C.map V.ref++[.ref t])) t=some (.tup [.int (v:Int),.int (j:Int),.int (M:Int)]):=by rw[Av (AG as ak A3)];exact as
      have ba:∀{t' xs},H6 t'=some (.tup xs)->upd H6 L (.lst (C.map V.ref++[.ref t])) t'=some (.tup xs):=λ{t' xs} e=>by rw[Av (AG e ak A3)];exact e
      have av:FrZ g m H (upd H6 L (.lst (C.map V.ref++[.ref t]))):=λb' o e n1 n2=>by
       rw[Av (Aw e ax)];exact ae _ _ (bh _ _ e n1 n2)
      have az:upd H6 L (.lst (C.map V.ref++[.ref t])) L=some (.lst ((C++[t]).map V.ref)):=by rw[Ag,C4];rfl
      generalize upd H6 L (.lst (C.map V.ref++[.ref t]))=H7 at ag a4 ba av az⊢;refine a3 ?_;refine xw2 rfl rfl ⟨g,G3,M,l,rfl,ag.fu,lr,by lia,λnw G8 H8 aa ai R cf=>?_⟩;have cn:=ag.fr aa ai R;obtain⟨r8,e8⟩:=ai.g0;obtain⟨m8,ct,b7,a9,bc⟩:=FF e8 ai.ok A0 (R.lev lr) cf;have fa:∀x y,fieldF G8 l M x y=sFN r (k%2^(j+1)) φ x y:=λx y=>by rw[CW af.fu.ok R lr];exact rs x y
      have fe:∀x y,fieldF G8 m8 nw x y=sFN r (k%2^(j+1)) φ x y:=λx y=>by rw[bc,fa]
      have cd:k%2^(j+1)<=k:=Nat.mod_le _ _;have b8:=Rb e8 ai.ok A0 a9 (λx y al=>RA re nr cd (by rw[<-fe];exact al));have bz:=ag.keep (Fr.z aa) a4 (by intro xs z;cases z) (by intro xs z;cases z) (by intro xs z;cases z);have bm:H8 L=some (.lst ((C++[t]).map V.ref)):=Fr.z (m:=m) aa _ _ az O.n0 O.n1;have bi:=(aw.trans ab).trans R;have tp:∀{t' xs},H3 t'=some (.tup xs)->H8 t'=some (.tup xs):=λ{t' xs} h=>by
       have a1:=ae _ _ (U.tup (FrJ.z fj) (B.tup (Fr.z ah) h));have a2:H7 t'=some (.tup xs):=ba a1;exact ag.tup (Fr.z aa) a2
      have g8:=ab.trans R;have aj:=X.trans g8;refine ad _ _ ⟨G8,C++[t],nw,m8,_,_,_,rfl,av.trans (Fr.z aa),cn.mono ?_,bi,bm,by rw[C5];show C.length+1<=_;lia,⟨b8,b7,a9,fe⟩,kj,S,.inr ⟨od,C,t,v,M,l,h,c,rfl,la.app B.fu.ok aj (λ_ _=>tp),⟨bz,ac,a5,nl,jl,le,mn,aj.lev lh,th.app aj,λx y=>by rw[CW B.fu.ok aj lh];exact fh x y,wn.app g8,g8.lev Y,λx y=>by rw[CW W.ok g8 Y];exact wf x y,JR.goes af.fu.ok R jr,R.lev lr,fa⟩⟩⟩;rw[C5];show _<=b+270*(C.length+1)
      lia
     .have hc:¬((k/2^j:Nat):Int)%2=1:=λz=>hc (Z7 (K5 V.int z));have ev:k/2^j%2=0:=by lia
      have md:k%2^(j+1)=k%2^j:=by rw[md,ev,W3,Nat.add_zero]
      exact ad _ _ ⟨D,C,h,c,u8,u9,i,rfl,an,B,ao,aq,by lia,by rw[md];exact⟨ac,lh,th,fh⟩,kj,S,.inl ⟨ev,la⟩⟩
    .rintro σ' Z ci;apply AL;intro G_ I;obtain⟨G2,cg,h2,cb,v8,v9,i2,rfl,bg,U,X,bl,ce,b9,b5⟩:=ci;apply I;clear I G_;refine bw ?_;refine AW ?_;intro r9 s9 k9 ar E9;refine xwb rfl rfl rfl ⟨⟨by decide,by decide⟩,?_⟩;refine ar ?_;have ed:((k/2^j:Nat):Int)/2=((k/2^(j+1):Nat):Int):=by rw[dv];lia
     have ej:(j:Int)+1=((j+1:Nat):Int):=by lia
     refine xwb rfl rfl rfl ⟨j+1,G2,cg,h2,cb,v8,v9,i2,?_,by lia,bg,U,X,bl,ce,b9,b5⟩;exact(K5 (λu:Int=>[some (V.ref p),some (V.int f'),some (V.int (k:Int)),some (V.ref g.p),some (V.ref L),some (V.int h2),some (V.int u),some (V.int ((j:Int)+1)),v8,v9]) ed).trans (K5 (λv:Int=>[some (V.ref p),some (V.int f'),some (V.int (k:Int)),some (V.ref g.p),some (V.ref L),some (V.int h2),some (V.int ((k/2^(j+1):Nat):Int)),some (V.int v),v8,v9]) ej)
  .have hc:¬((k/2^j:Nat):Int) > 0:=λz=>hc (Z7 z);exact Bf (am (.inl A0))
end
theorem ifT{b:Bool}{A B:Prop}(h:b=true)(x:A):if b=true then A else B:=by rw[h];exact Cz x
theorem ifF{b:Bool}{A B:Prop}(h:b=false)(x:B):if b=true then A else B:=by rw[h];exact Bf x
structure Fv(G:Gv)(f:Nat)(φ:D_):Prop where
ex:∃n:Nat,n<=40/\Al G f ((n+1:Nat):Int)/\Jr G n f/\∀x y,fieldF G n f x y=φ x y
theorem Fv.app{G c:Gv}{k f:Nat}{φ:D_}(ok:GOk G)(b:AH G c k)(h:Fv G f φ):Fv c f φ:=by
 apply AL;intro e a;obtain⟨n,g,d,i,j⟩:=h.ex;apply a;clear a e;exact⟨n,g,b.lev d,i.app b,λx y=>by rw[CW ok b d];exact j x y⟩
theorem Fv.eq{G r:Gv}(d:G=G0++r)(ok:GOk G){f b:Nat}{φ ψ:D_}(h:Fv G f φ)(h':Fv G b ψ)(e:∀x y,φ x y=ψ x y):f=b:=by
 apply AL;intro c a;obtain⟨n,q,k,l,o⟩:=h.ex;obtain⟨m,p,g,i,j⟩:=h'.ex;apply a;clear a c;exact(LX d ok A0 A0 k g l i λx y=>by rw[o,j,e]).2
theorem Fv.to{G:Gv}{f:Nat}{φ ψ:D_}(h:Fv G f φ)(e:∀x y,φ x y=ψ x y):Fv G f ψ:=by
 apply AL;intro b a;obtain⟨n,c,d,g,i⟩:=h.ex;apply a;clear a b;exact⟨n,c,d,g,λx y=>by rw[i,e]⟩
section
variable{P:N_}{w:Q_}{K:O_}{mg:C_}{base:T_}{a:Ad}
inductive SpJpG(a:Ad)(vs:List V)(H:Hp)(Q:VK):Prop
|mk (p dx mem pr:R_) (g:GA) (G:Gv) (Κ:KTy) (φ:D_) (N b:Nat) (r:Az) (m:MA) (f k:Nat) (_:vs=[.ref p,.int f,.int (k:Int)]) (_:ZS a H g G Κ N b p dx mem pr r m) (_:Gj Κ N) (_:ClK r Κ) (_:PN Κ r φ k) (_:Fv G f φ) (_:Ub φ k) (_:b+12000+10*N<7900000) (_:∀(d:Nat)(G':Gv)(H':Hp)(i:Nat),FrZ g m H H'->ZS a H' g G' Κ N (b+12048) p dx mem pr r m->AH G G' i->Fv G' d (sFN r k φ)->Q (.int d) H'):SpJpG a vs H Q
def YO(a:Ad):Sp:=λvs H Q _=>SpJpG a vs H Q
theorem ok_jpg(F:Fun K "jump" "jump" Uv f fd)(T:Top K mg a)(cK:Cal P w K mg base CX0 150 "road" Uy (Vr a))(aS:Cal P w K mg base CX0 4 "trimmed" Lj (MT a)):AK P w K mg base CX0 151 f fd Uy (YO a):=by
 refine F.ok Vz (λvs H Q E h=>?_) (λah A ad s H vs Q E hr h=>?_)
 .apply AL;intro M d;obtain⟨p,dx,mem,pr,g,G,Κ,φ,N,b,r,m,S,k,rfl,_⟩:=h;apply d;clear d M;rfl
 .apply AL;intro M d;obtain⟨p,dx,mem,pr,g,G,Κ,φ,N,b,r,m,S,k,rfl,zs,fin,cl,O,fv,nr,few,kn⟩:=h;obtain⟨n,ac,lf,tr,hf⟩:=id fv.ex;apply d;clear d M;have re:=zs.jz.jw.rest;refine⟨_,(Ac (Ao (i:=3) Vz.nd rfl O_9 (Ar cK (rm hr) rfl Am (Aa (pv 0) (Aa (pv 1) (Aa (pv 2) Ab))))) (Ac (AM (Ay CG (AO BC rfl T.b_len K9 (Aa (pv 3) Ab)) Ae (AE _)) (Af (Au (pv 1))) AB) (Af (Au (Ar aS (rm hr) rfl Am (Aa (AF (pv 0) rfl) (Aa (Aj An (Aj Ax (pv 3) (LA GC Ae) R_9) Ae R_9) Ab))))))),?_⟩
  try dsimp only[cxK]
  refine AW ?_;intro r1 s1 k1 X E1;refine xw3 rfl rfl rfl (.mk p dx mem pr g G Κ φ N b r m S n k rfl zs fin cl O lf ac tr hf nr few (λL u I H1 i1 C c v nL hL cb=>?_));have R:(u=[]/\∀x y,sFN r k φ x y=φ x y)\/LastG H1 I (sFN r k φ) u:=by
   obtain⟨j,rd⟩:=cb;rw[st_eq re rd.st];exact rd.rd.last
  clear cb;refine X ?_;refine AW ?_;intro r2 s2 k2 Y E2;refine xq1 rfl ⟨L,(xq1 rfl ⟨.inl (SqL.of hL),rfl,(xq1 rfl ?_)⟩)⟩;rcases R with ⟨rfl,R⟩|⟨t,sq,e,ae,l,la,ht,ai,lr,rs⟩
  .exact ifT rfl (xq1 rfl (kn S I H1 i1 C (c.mono A0) v ((fv.app zs.fu.ok v).to λx y=>(R x y).symm)))
  .have ne:u≠[]:=λz=>by rw[z]at la;cases la
   have tl:1<=u.length:=U2.mpr ne;refine ifF (Z8 (λz=>by injection z with z;rw[B8]at z;lia)) ?_;refine Y ?_;have li:atI (u.map V.ref) (-1)=some (.ref t):=by
    unfold atI;have:ixN (u.map V.ref).length (-1)=some (u.length-1):=by
     unfold ixN;rw[B8,Z6 A4,Z9 A0];congr 1;lia
    rw[this];show(u.map V.ref)[u.length-1]?=_;rw[C0,<-List.getLast?_eq_getElem?,la];rfl
   refine xwf rfl rfl c.jz.jw.hp T.cl_Jumps T.na_Jumps_grove (En _ _ _ _ _) ?_;refine xq1 rfl ⟨1,rfl,(xq4 rfl rfl (SqL.of hL) li (xq4 rfl rfl (SqT.of ht) (Ai (j:=2) rfl) ?_))⟩;have ak:=c.jz.sz fin;refine⟨g,I,ae,l,rfl,c.fu,lr,by lia,λnh G8 H8 B o q af=>?_⟩;have ag:=c.fr B o q;obtain⟨r8,e8⟩:=o.g0;obtain⟨m8,aj,aa,D,U⟩:=FF e8 o.ok A0 (q.lev lr) af;have W:=v.trans q;have fe:∀x y,fieldF G8 m8 nh x y=sFN r k φ x y:=λx y=>by rw[U,CW c.fu.ok q lr];exact rs x y
   have ab:=Rb e8 o.ok A0 D (λx y Z=>RA re nr (C1 k) (by rw[<-fe];exact Z));exact kn nh G8 H8 _ (C.trans (Fr.z B)) (ag.mono A0) W ⟨m8,ab,aa,D,fe⟩
end
end J
namespace J
open PySem L2
def stC:List Cl->Int->Int->Nat
|[],_,_=>0
|c::cs,x,y=>if x=c.x/\y=c.y then c.s else stC cs x y
theorem Ye{G v:Gv}(a:G=G0++v)(ok:GOk G){cs:List Cl}{n f:Nat}(h:Su G cs n f):(∀c∈cs,c.s<8)->Jr G n f/\∀x y,fieldF G n f x y=stC cs x y:=by
 induction h with
 |nil =>
  intro _;refine⟨.inl rfl,λx y=>?_⟩;unfold fieldF;split
  .rename_i z;exact Ij a ok A4 (Jj z.1 z.2.1) (Jj z.2.2.1 z.2.2.2)
  .rfl
 |@cons cs c n f r k w i m h l p o j =>
  intro b;obtain⟨t,e⟩:=j λc g=>b c (C7 _ g);obtain⟨u,_,q,A,d⟩:=Tf a ok (b c (C8 ..)) p;have:u=m:=by
   have:=K1 (q.uniq o);lia
  subst this;refine⟨A,λx y=>?_⟩;rw[d x y,e x y];rfl
def kvC(ds:List Cl):List (List Key×V):=ds.map λc=>(kOf [c.x,c.y],V.int (c.s:Int))
theorem Ot:∀{ds:List Cl},(ds.map λc=>(c.x,c.y)).Nodup->∀{c:Cl},c∈ds->BR (kvC ds) (kOf [c.x,c.y])=some (.int (c.s:Int))
|d::ds,nd,c,a=>by
 rw[F7,N6]at nd;show BR ((kOf [d.x,d.y],V.int (d.s:Int))::kvC ds) (kOf [c.x,c.y])=_;rcases C2.mp a with rfl|a
 .exact BT rfl
 .rw[BH λz=>?_]
  .exact Ot nd.2 a
  .have z:=MF z;injection z with z1 z
   injection z with z2 z
   exact nd.1 (F0.mpr ⟨c,a,by rw[z1,z2]⟩)
def Nf(ds:List Cl)(c:Cl):List Cl:=if ds.any (λd=>decide (d.x=c.x/\d.y=c.y))=true then ds.map (λd=>if d.x=c.x/\d.y=c.y then c else d)else ds++[c]
theorem ZM{ds:List Cl}{c d:Cl}:d∈Nf ds c↔d=c\/(d∈ds/\¬(d.x=c.x/\d.y=c.y)):=by
 unfold Nf;by_cases h:ds.any (λd=>decide (d.x=c.x/\d.y=c.y))=true
 .rw[Z9 h,F0];obtain⟨z,g,b⟩:=S6.mp h;have b:=K3 b;constructor
  .rintro⟨e,f,rfl⟩;by_cases q:e.x=c.x/\e.y=c.y
   .rw[Z9 q];exact .inl rfl
   .rw[Z6 q];exact .inr ⟨f,q⟩
  .rintro(rfl|⟨a,q⟩)
   .exact⟨z,g,Z9 b⟩
   .exact⟨d,a,Z6 q⟩
 .rw[Z6 h,F1,C9];have no:∀e∈ds,¬(e.x=c.x/\e.y=c.y):=λe f q=>h (S6.mpr ⟨e,f,Z7 q⟩);constructor
  .rintro(a|rfl)
   .exact .inr ⟨a,no d a⟩
   .exact .inl rfl
  .rintro(rfl|⟨a,_⟩)
   .exact .inr rfl
   .exact .inl a
theorem ZR(ds:List Cl)(c:Cl):(Nf ds c).length<=ds.length+1:=by
 unfold Nf;split
 .rw[B8];lia
 .rw[C5];exact C1 _
theorem nd_putC {ds:List Cl} {c:Cl} (h:(ds.map λc=>(c.x,c.y)).Nodup):((Nf ds c).map λc=>(c.x,c.y)).Nodup:=by
 unfold Nf;by_cases q:ds.any (λd=>decide (d.x=c.x/\d.y=c.y))=true
 .rw[Z9 q,M7];have:((λc:Cl=>(c.x,c.y)) ∘ λd=>if d.x=c.x/\d.y=c.y then c else d)=λd=>(d.x,d.y):=by
   funext d
   show((if d.x=c.x/\d.y=c.y then c else d).x,(if d.x=c.x/\d.y=c.y then c else d).y)=(d.x,d.y)
   split
   .rename_i z;rw[z.1,z.2]
   .rfl
  rw[this];exact h
 .rw[Z6 q,C4,Q8];refine⟨h,by simp,λa g b f e=>q ?_⟩;obtain⟨d,i,rfl⟩:=F0.mp g;rw[F7,Z3,C9]at f;rw[f]at e;injection e with e1 e2
  exact S6.mpr ⟨d,i,Z7 ⟨e1,e2⟩⟩
theorem kv_putC(ds:List Cl)(c:Cl):EV (kvC ds) (kOf [c.x,c.y]) (.int (c.s:Int))=kvC (Nf ds c):=by
 have a:∀d:Cl,(kOf [d.x,d.y]=kOf [c.x,c.y])↔(d.x=c.x/\d.y=c.y):=λd=>⟨λz=>by
  have z:=MF z;injection z with z1 z
  injection z with z2 z
  exact⟨z1,z2⟩,λz=>by rw[z.1,z.2]⟩
 unfold EV Nf kvC;rw[List.any_map];have:((λb:List Key×V=>decide (b.1=kOf [c.x,c.y])) ∘ λc:Cl=>(kOf [c.x,c.y],V.int (c.s:Int)))=λd=>decide (d.x=c.x/\d.y=c.y):=by
  funext d
  exact decide_eq_decide.mpr (a d)
 rw[this];split
 .rw[M7,M7];congr 1
  funext d
  show(if kOf [d.x,d.y]=kOf [c.x,c.y]then(kOf [d.x,d.y],V.int (c.s:Int))else(kOf [d.x,d.y],V.int (d.s:Int)))=(kOf [(if d.x=c.x/\d.y=c.y then c else d).x,(if d.x=c.x/\d.y=c.y then c else d).y],V.int ((if d.x=c.x/\d.y=c.y then c else d).s:Int))
  by_cases q:d.x=c.x/\d.y=c.y
  .rw[Z9 ((a d).mpr q),Z9 q,q.1,q.2]
  .rw[Z6 λz=>q ((a d).mp z),Z6 q]
 .rw[C4];rfl
theorem dput{H:Hp}{D t:R_}{ds:List Cl}{c:Cl}(e:H D=some (.dT (kvC ds)))(a:H t=some (.tup [.int c.x,.int c.y]))(b:ds.length<1000):MS H D (.ref t) (.int (c.s:Int)) (upd H D (.dT (kvC (Nf ds c)))):=by
 rw[<-kv_putC];exact MS.t (k:=kOf [c.x,c.y]) e a (Eu (by rw[show(kvC ds).length=ds.length from B8 _];lia))
structure Yo(ds:List Cl)(φ:D_):Prop where
nd:(ds.map λc=>(c.x,c.y)).Nodup
mem:∀c:Cl,c∈ds↔(1<=c.s/\φ c.x c.y=c.s)
theorem stC_ds{ds:List Cl}{φ:D_}(h:Yo ds φ)(x y:Int):stC ds.reverse x y=φ x y:=by
 have g:∀{a:List Cl},(∀c∈a,1<=c.s/\φ c.x c.y=c.s)->(∃c∈a,c.x=x/\c.y=y)->stC a x y=φ x y:=by
  intro a;induction a with
  |nil=>rintro _ ⟨c,b,_⟩;cases b
  |cons d a f =>
   intro e ⟨c,b,j,k⟩;show(if x=d.x/\y=d.y then d.s else stC a x y)=_;by_cases q:x=d.x/\y=d.y
   .rw[Z9 q,q.1,q.2];exact(e d (C8 ..)).2.symm
   .rw[Z6 q];refine f (λc b=>e c (C7 _ b)) ?_;rcases C2.mp b with rfl|b
    .exact absurd ⟨j.symm,k.symm⟩ q
    .exact⟨c,b,j,k⟩
 have i:∀{a:List Cl},(∀c∈a,¬(c.x=x/\c.y=y))->stC a x y=0:=by
  intro a;induction a with
  |nil=>intro _;rfl
  |cons d a f =>
   intro e;show(if x=d.x/\y=d.y then d.s else stC a x y)=_;rw[Z6 λq=>e d (C8 ..) ⟨q.1.symm,q.2.symm⟩];exact f λc b=>e c (C7 _ b)
 by_cases z:φ x y=0
 .rw[z];refine i λc b q=>?_;obtain⟨m,l⟩:=(h.mem c).mp (V8.mp b);rw[q.1,q.2,z]at l;lia
 .refine g (λc b=>(h.mem c).mp (V8.mp b)) ⟨⟨x,y,φ x y⟩,V8.mpr ((h.mem _).mpr ⟨by show 1<=φ x y;lia,rfl⟩),rfl,rfl⟩
seal L2.PA L2.PE L2.PS L2.PSs L2.PT L2.PW
def FrO(d:R_)(H H':Hp):Prop:=∀b o,H b=some o->b≠d->H' b=some o
theorem FrO.fx{c:R_}{H d:Hp}{kvs:List (List Key×V)}(a:Rd H c (.dT kvs))(f:FrO c H d):Fx [c] H d:=λb o e z=>by
 refine f b o e λy=>?_;subst y;have z:=z (C9.mpr rfl);rcases a with a|⟨g,a⟩<;>rw[e]at a<;>cases a<;>exact z
theorem Mb:∀(cs:List Cl)(x y:Int),(∃c∈cs,c.x=x/\c.y=y/\stC cs x y=c.s)\/((∀c∈cs,¬(c.x=x/\c.y=y))/\stC cs x y=0)
|[],_,_=>.inr ⟨(λc g=>nomatch g),rfl⟩
|c::cs,x,y=>by
 by_cases z:x=c.x/\y=c.y
 .exact .inl ⟨c,C8,z.1.symm,z.2.symm,Z9 z⟩
 .have e:stC (c::cs) x y=stC cs x y:=Z6 z;rw[e];rcases Mb cs x y with ⟨d,a,h⟩|⟨b,f⟩
  .exact .inl ⟨d,C7 _ a,h⟩
  .refine .inr ⟨λd a=>?_,f⟩;rcases C2.mp a with rfl|a
   .exact λq=>z ⟨q.1.symm,q.2.symm⟩
   .exact b d a
def clI(q:It3):Cl:=⟨q.x,q.y,(q.r.headD 0).toNat⟩
theorem VD{H:Hp}:∀{f:H_}{ds:List Cl},Paired (Sw H) f ds->∃b:List It3,(b.map λq=>V.ref q.a)=f.map V.ref/\b.map clI=ds/\∀q∈b,Sw H q.a (clI q)/\H q.a=some (.tup (q.ns.map V.int))
|_,_,.nil=>⟨[],rfl,rfl,λq d=>by cases d⟩
|t::f,c::ds,.cons h pr=>by
 obtain⟨b,i,j,e⟩:=VD pr;have g:clI ⟨t,c.x,c.y,[(c.s:Int)]⟩=c:=rfl;refine⟨⟨t,c.x,c.y,[(c.s:Int)]⟩::b,by rw[F7,i];rfl,by rw[F7,j,g],λq d=>?_⟩;rcases C2.mp d with rfl|d
 .exact⟨by rw[g];exact h,h⟩
 .exact e q d
theorem Pa{H:Hp}:∀{b:List It3},(∀q∈b,Sw H q.a (clI q))->Paired (Sw H) (b.map (·.a)) (b.map clI)
|[],_=>.nil
|q::b,h=>.cons (h q (C8 ..)) (Pa λq c=>h q (C7 _ c))
theorem Yo.perm{ds a:List Cl}{φ:D_}(h:Yo ds φ)(p:a.Perm ds):Yo a φ:=⟨(p.map _).nodup_iff.mpr h.nd,λc=>by rw[p.mem_iff];exact h.mem c⟩
structure Dd(ds:List Cl)(n:Nat)(x y:Int):Prop where
nd:(ds.map λc=>(c.x,c.y)).Nodup
ok:∀c∈ds,(ClOk c/\1<=c.s)/\x<=c.x/\c.x<x+6/\y<=c.y/\c.y<y+3
len:ds.length<=n
theorem Dd.nil(x y:Int):Dd [] 0 x y:=⟨by simp,(λc a=>by cases a),C1 _⟩
theorem Dd.put{ds:List Cl}{n:Nat}{x y:Int}{c:Cl}(h:Dd ds n x y)(f:ClOk c)(b:1<=c.s)(e:x<=c.x/\c.x<x+6/\y<=c.y/\c.y<y+3):Dd (Nf ds c) (n+1) x y:=by
 refine⟨nd_putC h.nd,λd a=>?_,D1 (ZR ds c) (P4 h.len)⟩;rcases ZM.mp a with rfl|⟨a,_⟩
 .exact⟨⟨f,b⟩,e⟩
 .exact h.ok d a
theorem same_s {ds:List Cl} (nd:(ds.map λc=>(c.x,c.y)).Nodup) {c d:Cl} (g:c∈ds) (h:d∈ds) (b:d.x=c.x) (e:d.y=c.y):d.s=c.s:=by
 have f:=Ot nd g;have a:=Ot nd h;rw[b,e,f]at a;injection a with a
 injection a with a
 lia
theorem Dd.dk{ds:List Cl}{n:Nat}{x y:Int}(h:Dd ds n x y):Yo ds (stC ds):=by
 refine⟨h.nd,λc=>⟨λf=>⟨(h.ok c f).1.2,?_⟩,λ⟨j,i⟩=>?_⟩⟩
 .rcases Mb ds c.x c.y with ⟨d,g,a,b,e⟩|⟨no,_⟩
  .rw[e];exact same_s h.nd f g a b
  .exact absurd ⟨rfl,rfl⟩ (no c f)
 .rcases Mb ds c.x c.y with ⟨d,g,a,b,e⟩|⟨_,e⟩
  .rw[e]at i;have:d=c:=by
    cases d;cases c;cases a;cases b;cases i;rfl
   exact this▸g
  .lia
section
variable{P:N_}{w:Q_}{K:O_}{mg:C_}{base:T_}{a:Ad}
theorem ok_row(F:Fun K "_law_by_rows" "_law_by_rows" FN f fd)(T:Top K mg a):AK P w K mg base CX0 1 f fd Pm OB:=by
 refine F.ok NW (λvs H Q E h=>?_) (λd A b s H vs Q E e h=>?_)
 .obtain⟨t,x,y,r,rfl,_⟩:=h;rfl
 .obtain⟨t,x,y,r,rfl,c,k⟩:=h;exact⟨_,(Af (Au (Eg (Aa (Aj An (pv 0) Ae R_9) (Aa (Aj An (pv 0) Ae R_9) Ab))))),(xwi rfl rfl rfl (SqT.of c) (Ai (j:=1) rfl) (xwi rfl rfl rfl (SqT.of c) (Ai (j:=0) rfl) ⟨S_2,k⟩))⟩
inductive SpLsd(vs:List V)(H:Hp)(Q:VK):Prop
|mk (D:R_) (ds:List Cl) (_:vs=[.ref D]) (_:Rd H D (.dT (kvC ds))) (_:(ds.map λc=>(c.x,c.y)).Nodup) (_:ds.length<=40) (_:∀(o:Obj)(L:R_)(ts:H_)(cs:List Cl)(H':Hp),FrO D H H'->H' D=some (.frz o (.dT (kvC ds)))->H L=none->H' L=some (.lst (ts.map V.ref))->Paired (Sw H') ts cs->cs.Perm ds->Q (.ref L) H'):SpLsd vs H Q
def YN:Sp:=λvs H Q _=>SpLsd vs H Q
theorem ok_lsd(F:Fun K "_law_listed" "_law_listed" GL f fd)(T:Top K mg a)(bR:Cal P w K mg base CX0 1 "_law_by_rows" Pm OB):AK P w K mg base CX0 5 f fd GU YN:=by
 refine F.ok FH D_9 λae A ac s H vs Q E hr h=>?_
 obtain⟨D,ds,rfl,rd,nd,af,k⟩:=h;refine⟨_,(Ac (Ao (i:=1) FH.nd rfl O_9 (Cb Ab)) (Ac (BU X5 rfl (Ze (pv 0)) (AZ (i:=2) FH.nd rfl O_9) (Af (Bm (CF X7 X8 X9 Bw (pv 1) (Br (Aa (Aj An (pv 2) Ae R_9) (Aa (Aj An (pv 2) Ae R_9) (Aa (Ru (Gg hr) (pv 0) (pv 2) R_9) Ab))) Ab))))) (Af (Au (Ux bR (rm hr) rfl T.b_sorted rfl (Aa (pv 1) Ab)))))),?_⟩
 try dsimp only[cxK]
 have X:∀{x:R_},H x=none->x≠D:=λ{x} n z=>by
  rw[z]at n;rcases rd with y|⟨o,y⟩
  .rw[y]at n;cases n
  .rw[y]at n;cases n
 refine⟨S_0,λS r=>?_⟩;have Y:=AN (o:=.lst []) r;have h1:upd H S (.lst []) S=some (.lst []):=Ag;generalize upd H S (.lst [])=H1 at Y h1⊢;have ad:Rd H1 D (.dT (kvC ds)):=by
  rcases rd with y|⟨o,y⟩
  .exact .inl (Y _ _ y)
  .exact .inr ⟨o,Y _ _ y⟩
 refine xq1 rfl ⟨D,kvC ds,rfl,ad,λo H2 p fr2=>?_⟩;have h2:=fr2 _ _ h1 (X r);have m:FrO D H H2:=λb u e n=>fr2 _ _ (Y _ _ e) n;have ab:(kvC ds).length=ds.length:=B8 _;refine for_dT (kvs:=kvC ds) (λj σ l=>∃(C:H_)(u2:Option V),σ=[some (.ref D),some (.ref S),u2]/\(∀b u,H2 b=some u->b≠S->l b=some u)/\l S=some (.lst (C.map V.ref))/\Paired (Sw l) C (ds.take j)) ⟨[],none,rfl,λb u e _=>e,h2,.nil⟩ (λj σ l _ z=>by obtain⟨_,_,_,z,_⟩:=z;exact z _ _ p (X6 (X r))) ?_ ?_
 .rintro j kb kv v σ l ev hb ⟨C,u2,rfl,B,W,U⟩;obtain⟨c,G,ee⟩:∃c,ds[j]?=some c/\(kOf [c.x,c.y],V.int (c.s:Int))=(kv,v):=by
   unfold kvC at ev;rw[C0]at ev;obtain⟨c,G,e⟩:=D6.mp ev;exact⟨c,G,e⟩
  cases ee;have jl:j<ds.length:=(B9.mp G).1;have M:l kb=some (.tup [.int c.x,.int c.y]):=hb;have aa:=B _ _ p (X6 (X r));have lt:=K4 U;rw[M5]at lt;refine xq1 rfl ⟨.inl ⟨rfl,_,SqL.of W⟩,(xwi rfl rfl rfl (SqT.of M) (Ai (j:=0) rfl) (xwi rfl rfl rfl (SqT.of M) (Ai (j:=1) rfl) (xw2 rfl rfl ⟨D,.int (c.s:Int),rfl,?_,?_⟩)))⟩
  .exact .inr ⟨kvC ds,kOf [c.x,c.y],kb,.inr ⟨o,aa⟩,rfl,hb,(Ot nd (D0 G)).symm⟩
  refine⟨S_3,λt ht=>?_⟩;have s6:=AN (o:=.tup [.int c.x,.int c.y,.int (c.s:Int)]) ht;have O:Sw (upd l t (.tup [.int c.x,.int c.y,.int (c.s:Int)])) t c:=Ag;generalize upd l t (.tup [.int c.x,.int c.y,.int (c.s:Int)])=H6 at s6 O⊢;have h6:=s6 _ _ W;refine⟨S,(xq2 rfl rfl ⟨h6,by rw[B8];exact Eu A0,?_⟩)⟩;have tp:∀{b:R_}{ys:List V},H6 b=some (.tup ys)->upd H6 S (.lst (C.map V.ref++[.ref t])) b=some (.tup ys):=λ{b ys} e=>by rw[Av (AG e h6 A3)];exact e
  refine⟨C++[t],(xq1 rfl ⟨λb u e n=>?_,by rw[Ag,C4];rfl,?_⟩)⟩
  .rw[Av n];exact s6 _ _ (B _ _ e n)
  .rw[F9,G,R5];exact A1c (PairedM.imp (λb c z=>tp (s6 _ _ z)) U) (tp O)
 .rintro σ l ⟨C,u2,rfl,B,W,U⟩;rw[ab,J9]at U;obtain⟨g,e1,e2,N⟩:=VD U;have li:g.length=ds.length:=by rw[<-e2,B8]
  refine xq1 rfl ⟨S,g,rfl,by rw[e1];exact SqL.of W,by lia,λq hq=>(N q hq).2,λL d H4 kp R pm=>?_⟩;have I:=kp _ _ (B _ _ p (X6 (X r)));have Z:=AN (o:=.lst (d.map λq=>V.ref q.a)) R;have h5:upd H4 L (.lst (d.map λq=>V.ref q.a)) L=some (.lst ((d.map (·.a)).map V.ref)):=by rw[Ag,M7];rfl
  generalize upd H4 L (.lst (d.map λq=>V.ref q.a))=H5 at Z h5⊢;refine k o L (d.map (·.a)) (d.map clI) H5 (λb u e n=>Z _ _ (kp _ _ (B _ _ (m _ _ e n) (Aw e r)))) (Z _ _ I) ?_ h5 (Pa λq hq=>Z _ _ (kp _ _ (N q (pm.mem_iff.mp hq)).1)) (by rw[<-e2];exact pm.map _);cases e:H L with
  |none=>rfl
  |some u =>
   by_cases z:L=D
   .rw[z,I]at R;cases R
   .rw[kp _ _ (B _ _ (m _ _ e z) (Aw e r))]at R;cases R
theorem cpow2{n:Int}(h:0<=n)(l:n<=100):CPow 2 n:=⟨h,by lia,by decide⟩
inductive SpBase(vs:List V)(H:Hp)(Q:VK):Prop
|mk (c:Int) (_:vs=[.int c]) (_:∀v:Int,-(2^38)<=v->v<2^38->Q (.int v) H):SpBase vs H Q
def Ur:Sp:=λvs H Q _=>SpBase vs H Q
theorem ok_base(F:Fun K "_law_base" "_law_base" JA f fd)(T:Top K mg a):AK P w K mg base CX0 1 f fd Pm Ur:=by
 refine F.ok Rp D_9 λd A b s H vs Q E e h=>?_
 obtain⟨c,rfl,k⟩:=h;refine⟨_,(Ac (AM (Ay CG (AA Bb (pv 0) Ae) Ae (AE _)) (Af (Au (AA BJ (AA Bb (AA DF (pv 0) Ae) (AA Zl Ae Ae)) (AA Zl Ae Ae)))) AB) (Af (Au (AA BJ (AA Bb (AA DF (pv 0) Ae) Ae) Ae)))),?_⟩
 try dsimp only[cxK]
 refine xwb rfl rfl rfl ⟨B3,rfl,(xq1 rfl (Er (λ_=>?_) (λ_=>?_)))⟩
 .refine xwb rfl rfl rfl ⟨⟨by decide,by decide⟩,(xq2 rfl rfl ⟨cpow2 A4 A4,(xq2 rfl rfl ⟨(by show(0:Int)<2^39;decide),(xq2 rfl rfl ⟨cpow2 A4 A4,(xq2 rfl rfl (k _ ?_ ?_))⟩)⟩)⟩)⟩
  .show -(2^38)<=c/4%2^39-2^38;lia
  .show c/4%2^39-2^38<2^38;lia
 .refine xwb rfl rfl rfl ⟨⟨by decide,by decide⟩,(xq2 rfl rfl ⟨(by show(0:Int)<12;decide),(xq2 rfl rfl (k _ ?_ ?_))⟩)⟩
  .show -(2^38)<=c/4%12-8;lia
  .show c/4%12-8<2^38;lia
inductive SpHeap(K:O_)(vs:List V)(H:Hp)(Q:VK):Prop
|mk (l:R_) (ns:I_) (fi x y:Int) (m:Nat) (_:vs=[.ref l,.int fi,.int (m:Int),.int x,.int y]) (_:SqL K H l (ns.map V.int)) (_:0<=fi) (_:m<=100) (_:-(2^39)<=x) (_:x<2^39) (_:-(2^39)<=y) (_:y<2^39) (_:∀(D:R_)(ds:List Cl)(H':Hp),AC H H'->H D=none->H' D=some (.dT (kvC ds))->Dd ds m x y->Q (.ref D) H'):SpHeap K vs H Q
def Um(K:O_):Sp:=λvs H Q _=>SpHeap K vs H Q
theorem ok_heap(F:Fun K "_law_heap" "_law_heap" Jz f fd)(T:Top K mg a)(W:Cal P w K mg base CX0 1 "_law_at" WR (WB K)):AK P w K mg base CX0 2 f fd JJ (Um K):=by
 refine F.ok DW D_9 λX A L s H vs Q E R h=>?_
 obtain⟨l,ns,B,x,y,m,rfl,hS,f0,m1,x1,x2,y1,y2,k⟩:=h;refine⟨_,(Ac (Ao (i:=5) DW.nd rfl O_9 OY) (Ac (BU X5 rfl (Cw rfl T.b_range (Aa (pv 2) Ab)) (AZ (i:=6) DW.nd rfl O_9) (Ac (Ao (i:=7) DW.nd rfl O_9 (Ar W (rm R) rfl Am (Aa (pv 0) (Bl AQ (pv 1) (pv 6) Ab)))) (Ac (Ao (i:=8) DW.nd rfl O_9 (AA AQ (pv 7) (AA Fo Ae (pv 6)))) (Af (II (Gg R) (pv 5) (Eg (Bl AQ (pv 3) (AA Bb (pv 8) Ae) (Bl AQ (pv 4) (AA Bb (AA DF (pv 8) Ae) Ae) Ab))) (AA AQ Ae (AA Bb (AA AQ (AA DF (pv 7) Ae) (pv 6)) Ae)) rfl))))) (Af (Au (pv 5))))),?_⟩
 try dsimp only[cxK]
 refine λD C=>?_;have S:=AN (o:=.dT []) C;have p:upd H D (.dT []) D=some (.dT (kvC [])):=Ag;generalize upd H D (.dT [])=H1 at S p⊢;refine xw2 rfl rfl ⟨by lia,by lia,?_⟩;rw[J3];refine CA (n:=m) (λj σ g=>∃(ds:List Cl)(M N O:Option V),σ=[some (.ref l),some (.int B),some (.int (m:Int)),some (.int x),some (.int y),some (.ref D),M,N,O]/\AC H g/\g D=some (.dT (kvC ds))/\Dd ds j x y) ⟨[],none,none,none,rfl,S,p,Dd.nil x y⟩ ?_ ?_
 .rintro j σ g hj ⟨ds,M,N,O,rfl,u,d,r⟩;refine xq1 rfl (xq1 rfl (xq1 rfl (xq2 rfl rfl ⟨l,ns,_,rfl,u.seq hS,by show 0<=B+(0+(j:Int));lia,?_⟩)));generalize atN ns (B+(0+(j:Int)))=v;refine xw2 rfl rfl (xq2 rfl rfl ⟨.inl ⟨by decide,by decide⟩,(xq2 rfl rfl ?_)⟩);refine xwb rfl rfl rfl ⟨⟨by decide,by decide⟩,(xwb rfl rfl rfl (xq2 rfl rfl ⟨(by show(0:Int)<7;decide),(xq2 rfl rfl (xq1 rfl ?_))⟩))⟩;obtain⟨q,I⟩:=F8 (show 0<=1+(v/18+(0+(j:Int)))%7 by lia);refine xw2 rfl rfl (xq2 rfl rfl ⟨(by show(0:Int)<6;decide),(xq2 rfl rfl (xw2 rfl rfl (xq2 rfl rfl ⟨⟨by decide,by decide⟩,(xq2 rfl rfl ⟨B2,(xq2 rfl rfl ⟨S_2,λt ht=>?_⟩)⟩)⟩)))⟩);have Y:(λ(i j:Int)=>V.int (i+j)) 1 ((v/18+(0+(j:Int)))%7)=V.int (q:Int):=K5 V.int I;rw[Y];have U:=AN (o:=.tup [.int (x+(v+3*(0+(j:Int)))%6),.int (y+(v+3*(0+(j:Int)))/6%3)]) ht;have Z:upd g t (.tup [.int (x+(v+3*(0+(j:Int)))%6),.int (y+(v+3*(0+(j:Int)))/6%3)]) t=some (.tup [.int (x+(v+3*(0+(j:Int)))%6),.int (y+(v+3*(0+(j:Int)))/6%3)]):=Ag;have G:=U _ _ d;have dl:=r.len;refine⟨D,(xq1 rfl ⟨dput (c:=⟨x+(v+3*(0+(j:Int)))%6,y+(v+3*(0+(j:Int)))/6%3,q⟩) G Z A0,?_⟩)⟩;refine⟨Nf ds ⟨x+(v+3*(0+(j:Int)))%6,y+(v+3*(0+(j:Int)))/6%3,q⟩,_,_,_,rfl,λb o e=>?_,Ag,r.put ⟨?_,?_⟩ ?_ ?_⟩
  .rw[Av (Aw e C)];exact U _ _ (u _ _ e)
  .unfold Ji;dsimp only;generalize v+3*(0+(j:Int))=z;refine⟨by lia,by lia,by lia,by lia⟩
  .show q<8;lia
  .show 1<=q;lia
  .dsimp only;generalize v+3*(0+(j:Int))=z;refine⟨by lia,by lia,by lia,by lia⟩
 .rintro σ g ⟨ds,M,N,O,rfl,u,d,r⟩;exact xq1 rfl (k D ds g u C d r)
theorem fld_fv{g:GA}{G:Gv}{H:Hp}{Q:VK}{L:R_}{B:H_}{cs ds:List Cl}{φ:D_}(D:AY a H g G)(E:H L=some (.lst (B.map V.ref)))(ap:Ap g L)(I:Paired (Sw H) B cs)(A:cs.Perm ds)(dk:Yo ds φ)(ok:∀c∈ds,ClOk c)(l:ds.length<=40)(few:G.length<6000000)(k:∀(r:Nat)(o:Gv)(t:Hp),Fr g H t->AY a t g o->AH G o 16000->Fv o r φ->Q (.int r) t):SpFld a [.ref g.p,.ref L] H Q:=by
 have N:=A.length_eq;have m:∀c∈cs,ClOk c:=λc z=>ok c (A.mem_iff.mp z);refine⟨g,G,L,B,cs,rfl,D,E,ap.1,ap.2.1,I,m,by lia,λC F q x f b h j i e=>?_⟩;obtain⟨M,y⟩:=b.g0;obtain⟨n,d⟩:=Ye y b.ok e (λc z=>(m c (V8.mp z)).s);exact k C q x f b (h.mono A0) ⟨F,j,i,n,λu v=>by rw[d,stC_ds (dk.perm A)]⟩
end
end J
namespace J
open PySem L2
theorem Ib.new{a:Ad}{H b:Hp}{g:GA}{G:Gv}{N M:Nat}{r:Az}{m:MA}(c:AJ a H g G)(nl:H m.l=none)(nk:H m.kc=none)(j:b m.tp=some (.tup [.ref m.l,.ref m.kc]))(k:b m.l=some (.lst (m.ds.map V.ref)))(o:b m.kc=some (.dT []))(q:∀d∈m.ds,b d=some (.dK []))(s:m.ds.length=47)(t:m.ds.Nodup):Ib b g G N M r m:=by
 obtain⟨w,i,_⟩:=c.pt;exact⟨j,k,⟨X6 (Aw c.lv nl),X6 (Aw i nl),X6 (Aw c.nm nk)⟩,s,t,λe d h=>⟨[],q d (D0 h),J0 _,λp u=>(nomatch u),λn v f=>by cases f⟩,⟨[],o,J0 _,λks v f=>by cases f⟩⟩
def zL(g:GA)(m:MA):List Addr:=[g.lv,g.pt,g.nm,g.am,g.bx,m.kc]++m.ds
section
variable{a:Ad}{H H':Hp}{g:GA}{G G':Gv}{Κ:KTy}{N b i:Nat}{p dx mem pr:R_}{r:Az}{m:MA}
theorem FrZ.fx(h:ZS a H g G Κ N b p dx mem pr r m)(f:FrZ g m H H'):Fx (zL g m) H H':=λx o e z=>by
 obtain⟨A,q,_⟩:=h.fu.at'.pt;obtain⟨t,d,_⟩:=h.fu.am;obtain⟨u,k,_⟩:=h.fu.bx;obtain⟨v,l,_⟩:=h.jz.jw.me.ce;refine f x o e (λy=>?_) (λy=>?_)
 .have c:=z (F1.mpr (.inl y));clear z;simp only[C2,D3,K6]at y;rcases y with y|y|y|y|y|y<;>subst y
  .rw[h.fu.at'.lv]at e;cases e;exact c
  .rw[q]at e;cases e;exact c
  .rw[h.fu.at'.nm]at e;cases e;exact c
  .rw[d]at e;cases e;exact c
  .rw[k]at e;cases e;exact c
  .rw[l]at e;cases e;exact c
 .have c:=z (F1.mpr (.inr y));obtain⟨j,s⟩:=F6 y;obtain⟨w,n,_⟩:=h.jz.jw.me.sq j x s;rw[n]at e;cases e;exact c
theorem ZS.fx{l:H_}(h:ZS a H g G Κ N b p dx mem pr r m)(f:Fx l H H')(n:∀x∈[g.br,m.l]++zL g m,x∉l):ZS a H' g G Κ N b p dx mem pr r m:=by
 have k:∀x∈zL g m,x∉l:=λx v=>n x (F1.mpr (.inr v));have j:g.br∉l:=n _ A6;have A:m.l∉l:=n _ A6;have q:=h.fu.fx f λx v=>by
  simp only[Do,C2,D3,K6]at v;rcases v with z|z|z|z|z|z<;>subst z
  .exact k _ (by simp[zL])
  .exact k _ (by simp[zL])
  .exact k _ (by simp[zL])
  .exact j
  .exact k _ (by simp[zL])
  .exact k _ (by simp[zL])
 have c:=h.jz.jw;obtain⟨y,E,_⟩:=c.me.ce;have s:∀d∈m.ds,∀o,H d=some o->H' d=some o:=λd D o e=>f.get (k d (F1.mpr (.inr D))) e;have t:∀o,H m.kc=some o->H' m.kc=some o:=λo e=>f.get (k _ (by simp[zL])) e;have u:Ib H' g G N (b+10*N) r m:=c.me.kp c.ok (AH.refl c.ok) λx o e w=>by
  rcases w with rfl|rfl|w|rfl
  .rw[c.me.tp]at e;cases e;exact f.tup c.me.tp
  .exact f.get A e
  .exact s x w o e
  .exact t o e
 obtain⟨C,B⟩:=h.jz.cn;refine⟨⟨⟨q.at',c.ok,c.bs,f.get j c.br,c.nbr,f _ _ c.hp λ_=>True.intro,c.ru.kp λx o e nv=>f _ _ e λ_=>?_,c.rok,c.rest,u⟩,C,B.kp (i:=0) c.ok (AH.refl c.ok) s λy e=>⟨y,t _ e,C1 _⟩⟩,q,h.na,h.nb⟩;cases nv<;>exact True.intro
theorem jnew{Q:VK}{c:Hp}(A:AY a c g G)(ro:Fb r)(rz:Cm r 0 BF=0)(W:Ce a c pr (Bc r) r)(X:c p=none)(R:c dx=none)(T:dx≠p)(few:G.length<=b)(k:∀(q:Hp)(mem:R_)(m:MA),AC c q->ZS a q g G Κ N b p dx mem pr r m->(∀y∈m.l::m.kc::m.ds,c y=none)->q mem=some (.dK (mK [(Bc r,m)]))->c mem=none->mem∉m.ds->(q m.kc=some (.dT [])/\∀d∈m.ds,q d=some (.dK []))->Q .non q):Ss a [.ref p,.ref g.p,.ref pr] (upd (upd c dx (.own p)) p (.ins a.c_Jumps dx [])) Q:=by
 have nq:upd c dx (.own p) p=none:=by rw[Av (X6 T)];exact X
 have V:AC c (upd (upd c dx (.own p)) p (.ins a.c_Jumps dx [])):=(show AC c _ from Aq R).trans (Aq nq);refine⟨p,dx,g.p,pr,Bc r,r,rfl,Ag,W.same V,λq mem m I E L u h O hl t s P S U=>?_⟩;have v:AC c q:=λb o e=>I b o (V b o e) (Aw e X);have w:∀{y:R_},upd (upd c dx (.own p)) p (.ins a.c_Jumps dx []) y=none->c y=none:=λ{y} e=>AC.noneN V e;have f:=A.same v;have hw:Ib q g G N (b+10*N) r m:=(Ib.new (N:=0) (M:=0) A.at' (w h.2.1) (w h.2.2.1) O hl t s P S).mono (J0 _) (J0 _);have n:∀x∈m.ds,c x=none:=λx K=>w (h.2.2.2 x K);obtain⟨aa,Y⟩:=A.g0;have F:Bs G:=λj hj=>by
  have:=MI j hj;rw[Y];exact Lm this
 obtain⟨ka,B,_⟩:=A.am;obtain⟨kb,C,_⟩:=A.bx;refine k q mem m v ⟨⟨⟨f.at',f.ok,F,f.br,⟨f.n1,f.n2⟩,L,W.same v,ro,rz,hw⟩,λ_=>0,λe x Z=>⟨[],s x (D0 Z),rfl,Q0,λk hk=>nomatch hk⟩,D1 few (S5 _ _),[],t,J0 _⟩,f,λz=>?_,λz=>?_⟩ (λy D=>?_) u (w E) (λz=>U mem z rfl) ⟨t,s⟩
 .rw[n _ z]at B;cases B
 .rw[n _ z]at C;cases C
 .rcases C2.mp D with rfl|D
  .exact w h.2.1
  .rcases C2.mp D with rfl|D
   .exact w h.2.2.1
   .exact n y D
end
def it(f:L_):Nat->Nat->Nat
|0,s=>s
|k+1,s=>f (it f k s)
structure Mp(f:L_):Prop where
z:f 0=0
le:∀s,s<=7->f s<=7
section
variable{f:L_}
theorem Dm(n s:Nat):∀m,it f (m+n) s=it f m (it f n s)
|0=>by rw[N1];rfl
|m+1=>by
 rw[show m+1+n=(m+n)+1 by lia];show f (it f (m+n) s)=f (it f m (it f n s));rw[Dm n s m]
theorem Mp.it0(h:Mp f):∀k,it f k 0=0
|0=>rfl
|k+1=>by show f (it f k 0)=0;rw[h.it0 k,h.z]
theorem Mp.itl(h:Mp f){s:Nat}(a:s<=7):∀k,it f k s<=7
|0=>a
|k+1=>h.le _ (h.itl a k)
def Per(f:L_)(c u:Nat):Prop:=it f c u=u
theorem Per.mul{c u:Nat}(h:Per f c u):∀m,Per f (m*c) u
|0=>by rw[Nat.zero_mul];rfl
|m+1=>by
 show it f ((m+1)*c) u=u;rw[W2,Dm,(h:it f c u=u)];exact h.mul m
theorem Per.at'{c u:Nat}(h:Per f c u)(i:Nat):Per f c (it f i u):=by
 show it f c (it f i u)=it f i u;rw[<-Dm,Z2,Dm,(h:it f c u=u)]
def Mn(f:L_)(c u:Nat):Prop:=1<=c/\Per f c u/\∀d,1<=d->d<c->¬Per f d u
theorem mn_ex{u:Nat}:∀{c:Nat},1<=c->Per f c u->∃d,d<=c/\Mn f d u:=by
 intro c;induction c using Nat.strongRecOn with
 |ind c j =>
  intro h i;by_cases z:∃d,1<=d/\d<c/\Per f d u
  .obtain⟨d,a,b,g⟩:=z;obtain⟨e,k,b2⟩:=j d b a g;exact⟨e,by lia,b2⟩
  .exact⟨c,C1 _,h,i,λd a b g=>z ⟨d,a,b,g⟩⟩
def cyc(f:L_)(c u:Nat):List Nat:=(List.range c).map λi=>it f i u
theorem RT{c u s:Nat}:s∈cyc f c u ↔ ∃i,i<c/\it f i u=s:=by
 unfold cyc;rw[F0];exact⟨λ⟨i,a,b⟩=>⟨i,F5.mp a,b⟩,λ⟨i,a,b⟩=>⟨i,F5.mpr a,b⟩⟩
theorem Mn.apart{c u i j:Nat}(h:Mn f c u)(d:i<j)(g:j<c):it f i u≠it f j u:=λe=>by
 have a:it f (c-i) (it f i u)=u:=by
  rw[<-Dm,V0 A0];exact h.2.1
 have b:it f (c-i) (it f j u)=it f (j-i) u:=by
  rw[<-Dm,show c-i+j=(j-i)+c by lia,Dm,(h.2.1:it f c u=u)]
 rw[e,b]at a;exact h.2.2 (j-i) A0 A0 a
theorem Mn.nodup{c u:Nat}(h:Mn f c u):(cyc f c u).Nodup:=by
 unfold cyc;rw[S3,V5];refine A4c (λ{i j} b a lt=>h.apart lt (F5.mp a)) W5
theorem Wd(c u:Nat):(cyc f c u).length=c:=by unfold cyc;rw[B8,M4]
theorem seven{l:J_}(nd:l.Nodup)(h:∀s∈l,1<=s/\s<=7):l.length<=7:=by
 have:=RX (λ(x y:Nat)=>x=y) (λx c y e a=>e.trans a.symm) [1,2,3,4,5,6,7] l nd λs b=>⟨s,by have:=h s b;simp;lia,rfl⟩
 exact this
theorem Mp.pos(h:Mp f){c u:Nat}(j:2<=c)(b:Mn f c u)(g:u<=7):∀s∈cyc f c u,1<=s/\s<=7:=λs d=>by
 obtain⟨i,k,rfl⟩:=RT.mp d;refine⟨Z0 λz=>?_,h.itl g i⟩;have e:u=0:=by
  have a:it f (c-i) (it f i u)=u:=by
   rw[<-Dm,V0 A0];exact b.2.1
  rw[z,h.it0]at a;exact a.symm
 subst e;exact b.2.2 1 A4 A0 (h.it0 1)
theorem Mp.round(h:Mp f){s:Nat}(n:s<=7):∃c,c<=7/\Mn f c (it f 7 s):=by
 have b:∃c,1<=c/\c<=7/\Per f c (it f 7 s):=by
  by_cases z:it f 7 s=0
  .exact⟨1,by decide,by decide,by rw[z];exact h.it0 1⟩
  .refine K2 λno=>?_;have ap:((List.range 8).map λi=>it f i s).Nodup:=by
    rw[S3,V5];refine A4c (λ{i j} a g lt e=>?_) W5;have g:=F5.mp g;refine no ⟨j-i,by lia,by lia,?_⟩;show it f (j-i) (it f 7 s)=it f 7 s;rw[<-Dm,show j-i+7=(7-i)+j by lia,Dm,<-e,<-Dm,V0 A0]
   have:=seven ap λt o=>by
    obtain⟨i,a,rfl⟩:=F0.mp o;refine⟨Z0 λq=>z ?_,h.itl n i⟩;have a:=F5.mp a;rw[show(7:Nat)=(7-i)+i by lia,Dm,q,h.it0]
   rw[B8,M4]at this;lia
 obtain⟨c,k,p,l⟩:=b;obtain⟨d,r,m⟩:=mn_ex k l;exact⟨d,by lia,m⟩
theorem Mn.mem{c u s:Nat}(h:Mn f c u)(m:s∈cyc f c u):Per f c s:=by
 obtain⟨i,_,rfl⟩:=RT.mp m;exact h.2.1.at' i
theorem Mn.meet{c u d v s:Nat}(h:Mn f c u)(k:Mn f d v)(m:s∈cyc f c u)(n:s∈cyc f d v):Per f c v:=by
 obtain⟨j,b,e⟩:=RT.mp n;have a:=h.mem m;have:v=it f (d-j) s:=by
  rw[<-e,<-Dm,V0 A0];exact k.2.1.symm
 rw[this];exact a.at' _
theorem Mp.two(h:Mp f){c u d v:Nat}(g:Mn f c u)(i:Mn f d v)(q:u<=7)(r:v<=7)(j:2<=c)(t:8<=c+d)(k:2<=d):Per f c v:=by
 refine K2 λno=>?_;have:=seven (l:=cyc f c u++cyc f d v) (by
  rw[Q8];exact⟨g.nodup,i.nodup,λa n b o e=>no (g.meet i n (e▸o))⟩) λs p=>by
  rcases F1.mp p with m|m
  .exact h.pos j g q s m
  .exact h.pos k i r s m
 rw[C5,Wd,Wd]at this;lia
theorem Mp.period(h:Mp f):∃p,1<=p/\p<=12/\∀s,s<=7->Per f p (it f 7 s):=by
 by_cases z:∃s,s<=7/\∃c,(c=5\/c=7)/\Mn f c (it f 7 s)
 .obtain⟨s,m,c,l,b⟩:=z;have g:=h.itl m 7;refine⟨if c=5 then 10 else 7,by split<;>decide,by split<;>decide,λt a=>?_⟩;obtain⟨d,k,md⟩:=h.round a;have i:=h.itl a 7;have j:=md.1;rcases l with rfl|rfl
  .rw[Z9 rfl];rcases(show d=1\/d=2\/3<=d by lia)with rfl|rfl|d3
   .exact md.2.1.mul 10
   .exact md.2.1.mul 5
   .exact(h.two b md g i A4 A0 A0).mul 2
  .rw[Z6 A4];rcases(show d=1\/2<=d by lia)with rfl|d2
   .exact md.2.1.mul 7
   .exact h.two b md g i A4 A0 d2
 .refine⟨12,by decide,by decide,λt a=>?_⟩;obtain⟨d,k,md⟩:=h.round a;have j:=md.1;rcases(show d=1\/d=2\/d=3\/d=4\/d=6\/(d=5\/d=7) by lia)with rfl|rfl|rfl|rfl|rfl|e
  .exact md.2.1.mul 12
  .exact md.2.1.mul 6
  .exact md.2.1.mul 4
  .exact md.2.1.mul 3
  .exact md.2.1.mul 2
  .exact absurd ⟨t,a,d,e,md⟩ z
theorem Mp.few(h:Mp f)(k:Nat):∃a,a<19/\∀s,s<=7->it f k s=it f a s:=by
 by_cases z:k<7
 .exact⟨k,by lia,λ_ _=>rfl⟩
 .obtain⟨p,d,g,b⟩:=h.period;have:=M9 (k-7) (show 0<p by lia);refine⟨(k-7)%p+7,by lia,λs c=>?_⟩;have e:k=(k-7)%p+(((k-7)/p)*p+7):=by
   have:=Nat.mod_add_div (k-7) p;rw[U6]at this;lia
  conv=>lhs;rw[e]
  rw[Dm,Dm,((b s c).mul _:it f _ _=_),Dm]
end
def Gl(r:Az)(f:L_)(dx dy:Int):Prop:=∀φ:Int->Int->Nat,(∀x y,φ x y<=7)->∀x y,sF r φ x y=f (φ (x+dx) (y+dy))
theorem gl_le{r:Az}{f:L_}{a b:Int}(g:Mp f)(c:Gl r f a b){φ:D_}(h:∀x y,φ x y<=7):∀(k:Nat)(x y:Int),sFN r k φ x y=it f k (φ (x+k*a) (y+k*b))
|0,x,y=>by
 show φ x y=φ (x+(0:Nat)*a) (y+(0:Nat)*b);rw[show((0:Nat):Int)=0 from rfl,Int.zero_mul,Int.zero_mul,P2,P2]
|k+1,x,y=>by
 have d:=gl_le g c h k;show sF r (sFN r k φ) x y=f (it f k _);rw[c _ (λu v=>by rw[d];exact g.itl (h _ _) k),d];have e:∀x a:Int,x+a+(k:Int)*a=x+((k+1:Nat):Int)*a:=λx a=>by
  rw[N4,Int.add_mul];lia
 rw[e,e]
def Kd(f:L_)(φ:D_)(dx dy:Int)(S:J_):KTy:=λl e ψ=>l<47/\((∀x y,x<2^(l+2)->y<2^(l+2)->ψ x y=0)\/(e<=l/\∃t∈S,∃(k:Nat)(i j:Int),(e<l->k=t)/\∀x y,x<2^(l+2)->y<2^(l+2)->ψ x y=(it f k (φ ((x:Int)+2^l*i+t*dx) ((y:Int)+2^l*j+t*dy)):Nat)))
theorem kd_cl{r:Az}(G:Fb r)(W:Cm r 0 BF=0){f:L_}{φ:D_}{b d:Int}(B:Mp f)(M:Gl r f b d)(R:∀x y,φ x y<=7)(S:J_):ClK r (Kd f φ b d S):=by
 have C:∀l,2^(l+1)=2^l*2:=λl=>F4 ..;have F:∀l:Nat,(2:Int)^(l+1)=2^l*2:=λl=>S7 ..;have D:∀l,2^(l+2)=2^l*2*2:=λl=>by rw[F4,F4]
 have E:∀l,2^(l+1+2)=2^l*2*2*2:=λl=>by rw[F4,F4,F4]
 have nine:∀{l e n ψ},Kd f φ b d S (l+1) e ψ->n<=l->(n<l->e<l+1)->∀i j,i<3->j<3->Kd f φ b d S l n λx y=>ψ (x+2^(l+1)*i) (y+2^(l+1)*j):=λ{l e n ψ} h p V i j T U=>by
  have L:2^(l+1)*i<=2^(l+1)*2:=M0 _ A0;have b2:2^(l+1)*j<=2^(l+1)*2:=M0 _ A0;have H:=C l;have I:=D l;have K:=E l;refine⟨by have:=h.1;lia,?_⟩;rcases h.2 with z|⟨_,t,s,k,a,o,m,z⟩
  .exact .inl λx y w A=>z _ _ A0 A0
  .refine .inr ⟨p,t,s,k,2*a+2*(i:Int),2*o+2*(j:Int),λq=>m (V q),λx y w A=>?_⟩;show ψ _ _=_;rw[z _ _ A0 A0];have g:∀(x i:Nat)(a:Int),((x+2^(l+1)*i:Nat):Int)+2^(l+1)*a=(x:Int)+2^l*(2*a+2*(i:Int)):=λx i a=>by
    rw[N4,O3,L8];show(x:Int)+2^(l+1)*(i:Int)+2^(l+1)*a=_;rw[F,S4,R7,R7];lia
   rw[g,g]
 refine⟨λ{l e φ} h p=>nine h p (λq=>by lia),λ{l φ} h=>nine h (C1 _) (λq=>by lia),λ{l ψ} h i j T U=>?_⟩;have L:2^(l+1)*i<=2^(l+1)*1:=M0 _ A0;have b2:2^(l+1)*j<=2^(l+1)*1:=M0 _ A0;have H:=C l;have I:=D l;have K:=E l;refine⟨by have:=h.1;lia,?_⟩;rcases h.2 with z|⟨_,t,s,k,a,o,m,z⟩
 .refine .inl λx y w A=>?_;have:=Lg G (c:=ψ) (φ:=λ_ _=>0) (X:=0) (Y:=0) (2^l) (x+(2^(l+1)*i+2^l)) (y+(2^(l+1)*j+2^l)) A0 A0 λu v N O P Q=>z u v A0 A0;rw[JB W]at this;exact this
 .refine .inr ⟨C1 _,t,s,2^l+k,2*a+(2*(i:Int)+1)+b,2*o+(2*(j:Int)+1)+d,λq=>absurd q (O8 _),λx y w A=>?_⟩;have:=Lg G (c:=ψ) (φ:=λu v=>it f k (φ (u+t*b) (v+t*d))) (X:=2^(l+1)*a) (Y:=2^(l+1)*o) (2^l) (x+(2^(l+1)*i+2^l)) (y+(2^(l+1)*j+2^l)) A0 A0 λu v N O P Q=>z u v A0 A0;show Bq r (2^l) ψ _ _=_;rw[this,gl_le B M (λu v=>B.itl (R _ _) k),<-Dm];have g:∀(x i:Nat)(a b:Int),((x+(2^(l+1)*i+2^l):Nat):Int)+2^(l+1)*a+((2^l:Nat):Int)*b=(x:Int)+2^l*(2*a+(2*(i:Int)+1)+b):=λx i a b=>by
   rw[N4,N4,O3,L8,L8];show(x:Int)+(2^(l+1)*(i:Int)+2^l)+2^(l+1)*a+2^l*b=_;rw[F,S4,S4,S4,R7,R7,Int.mul_one];lia
  rw[g,g]
def kw(W D l:Nat):Nat:=wl W 0 l*wl D 0 l
def md(k W D e l:Nat):Nat:=1+k*((if e=l then 19 else if e<l then 1 else 0)*kw W D l)
def nd(k W D:Nat):Nat:=s47 λe=>((List.range 47).map (md k W D e)).sum
def NL(f:L_)(φ:D_)(dx dy X Y:Int)(W D l t k:Nat):List (Nat×Sht):=(List.range (kw W D l)).map λd=>(l,λ(x y:Nat)=>((it f k (φ ((x:Int)+2^l*((X-t*dx-(0:Nat))/2^l-3+((d%wl W 0 l:Nat):Int))+t*dx) ((y:Int)+2^l*((Y-t*dy-(0:Nat))/2^l-3+((d/wl W 0 l:Nat):Int))+t*dy)):Nat):Int))
def VR(f:L_)(φ:D_)(dx dy X Y:Int)(W D:Nat)(S:J_)(e:Nat):List (Nat×Sht):=(List.range 47).flatMap λl=>(l,λ_ _=>0)::S.flatMap λt=>if e=l then(List.range 19).flatMap (NL f φ dx dy X Y W D l t)else if e<l then NL f φ dx dy X Y W D l t t else []
theorem Qo(f:L_)(φ:D_)(a b X Y:Int)(W D l t k:Nat):(NL f φ a b X Y W D l t k).length=kw W D l:=by unfold NL;rw[B8,M4]
theorem WV(f:L_)(φ:D_)(a b X Y:Int)(W D:Nat)(S:J_)(e:Nat):(VR f φ a b X Y W D S e).length<=((List.range 47).map (md S.length W D e)).sum:=by
 unfold VR;refine Pz _ _ _ λl _=>?_;rw[D7];have:=Lo (λt=>if e=l then(List.range 19).flatMap (NL f φ a b X Y W D l t)else if e<l then NL f φ a b X Y W D l t t else []) ((if e=l then 19 else if e<l then 1 else 0)*kw W D l) S λt _=>by
  by_cases z:e=l
  .simp only[Z9 z];have:=Lo (NL f φ a b X Y W D l t) (kw W D l) (List.range 19) λk _=>U9 (Qo ..);rw[M4]at this;exact this
  .simp only[Z6 z];by_cases y:e<l
   .simp only[Z9 y];rw[Qo];lia
   .simp only[Z6 y];exact J0 _
 unfold md;lia
theorem ZX{f:L_}{φ:D_}{d g X Y:Int}{W D:Nat}(o:Mp f)(M:∀x y,φ x y<=7)(N:∀u v,φ u v≠0->X<=u/\u<X+W/\Y<=v/\v<Y+D)(S:J_):Gj (Kd f φ d g S) (nd S.length W D):=by
 refine⟨⟨_,C1 _,λe=>⟨VR f φ d g X Y W D S e,WV f φ d g X Y W D S e,λl ψ h=>?_⟩⟩,λ{l e Q ψ} h q=>⟨h.1,?_⟩⟩
 .obtain⟨A,c⟩:=h;have zero:(∀x y,x<2^(l+2)->y<2^(l+2)->ψ x y=0)->∃s,(l,s)∈VR f φ d g X Y W D S e/\Vd l ψ s:=λz=>⟨λ_ _=>0,O0.mpr ⟨l,F5.mpr A,C8⟩,z⟩
  rcases c with c|⟨E,t,w,k,i,j,B,c⟩
  .exact zero c
  .by_cases z:∀x y,x<2^(l+2)->y<2^(l+2)->ψ x y=0
   .exact zero z
   .obtain⟨x,z⟩:=Classical.not_forall.mp z;obtain⟨y,z⟩:=Classical.not_forall.mp z;obtain⟨a,z⟩:=Classical.not_imp.mp z;obtain⟨b,z⟩:=Classical.not_imp.mp z;rw[c x y a b]at z;have z:φ ((x:Int)+2^l*i+t*d) ((y:Int)+2^l*j+t*g)≠0:=λq=>z (by rw[q,o.it0];rfl);obtain⟨R,U,V,Z⟩:=N _ _ z;obtain⟨p,F,I⟩:=QY (T:=0) (t:=0) (W:=W) (i:=i) (X:=X-t*d) (u:=(x:Int)+2^l*i) a (C1 _) A0 A0 A0 A0;obtain⟨n,P,K⟩:=QY (T:=0) (t:=0) (W:=D) (i:=j) (X:=Y-t*g) (u:=(y:Int)+2^l*j) b (C1 _) A0 A0 A0 A0;have O:0<wl W 0 l:=by unfold wl;lia
    have H:(p+wl W 0 l*n)%wl W 0 l=p:=by rw[O4,O5 F]
    have G:(p+wl W 0 l*n)/wl W 0 l=n:=by rw[N9 _ _ O,N7 F,N1]
    have lt:p+wl W 0 l*n<kw W D l:=by
     have:wl W 0 l*(n+1)<=wl W 0 l*wl D 0 l:=M0 _ P;rw[Nat.mul_add]at this;unfold kw;lia
    have r:∀m,(l,λ(x y:Nat)=>((it f m (φ ((x:Int)+2^l*i+t*d) ((y:Int)+2^l*j+t*g)):Nat):Int))∈NL f φ d g X Y W D l t m:=λm=>by
     refine F0.mpr ⟨p+wl W 0 l*n,F5.mpr lt,?_⟩;rw[H,G,<-I,<-K]
    by_cases q:e=l
    .obtain⟨m,C,L⟩:=o.few k;refine⟨λ(x y:Nat)=>((it f m (φ ((x:Int)+2^l*i+t*d) ((y:Int)+2^l*j+t*g)):Nat):Int),O0.mpr ⟨l,F5.mpr A,C7 _ (O0.mpr ⟨t,w,?_⟩)⟩,λx y a b=>?_⟩
     .rw[Z9 q];exact O0.mpr ⟨m,F5.mpr C,r m⟩
     .rw[c x y a b,L _ (M _ _)]
    .have lt:e<l:=by lia
     have:=B lt;subst this;refine⟨λ(x y:Nat)=>((it f k (φ ((x:Int)+2^l*i+k*d) ((y:Int)+2^l*j+k*g)):Nat):Int),O0.mpr ⟨l,F5.mpr A,C7 _ (O0.mpr ⟨k,w,?_⟩)⟩,λx y a b=>?_⟩
     .rw[Z6 q,Z9 lt];exact r k
     .rw[c x y a b]
 .rcases h.2 with c|⟨E,t,w,k,i,j,B,c⟩
  .exact .inl λx y a b=>(q x y a b).symm.trans (c x y a b)
  .exact .inr ⟨E,t,w,k,i,j,B,λx y a b=>(q x y a b).symm.trans (c x y a b)⟩
def sts(t k:Nat):List Nat:=((List.range 40).filter λj=>k/2^j%2==1).map λj=>k%2^j+t
theorem kd_ask{r:Az}{f:L_}{φ:D_}{c d:Int}(w:Mp f)(h:Gl r f c d)(i:∀x y,φ x y<=7){S:J_}{t k:Nat}(b:k<2^40)(o:∀s∈sts t k,s∈S):PN (Kd f φ c d S) r (sFN r t φ) k:=λj l G A a n u ok v m=>by
 have j40:j<40:=P6 λz=>by
  have:k/2^j=0:=N7 (F2 b (L9 A4 z));rw[this]at a;cases a
 refine⟨by lia,.inr ⟨n,k%2^j+t,o _ (F0.mpr ⟨j,U0.mpr ⟨F5.mpr j40,by rw[a];rfl⟩,rfl⟩),k%2^j+t,-2,-2,λ_=>rfl,λx y p q=>?_⟩⟩;rw[MK ok v p q,m,<-Lh,gl_le w h i];have e:(2:Int)^(l+1)=2^l*2:=S7 ..;rw[e];have g:∀x:Nat,(x:Int)-2^l*2=(x:Int)+2^l * -2:=λx=>by lia
 rw[g,g]
seal L2.PA L2.PE L2.PS L2.PSs L2.PT L2.PW
def plW(w:Nat)(k:Int):List (Option Int):=List.replicate w none++some k::List.replicate (7-w) none
def glC(M:L_)(w k:Nat):AS:=if w=8 then⟨some (k:Int),[],(M k:Int)⟩else⟨none,[.pl (plW w (k:Int))],(M k:Int)⟩
def glR(M:L_)(w:Nat):Az:=((List.range 7).map λi=>glC M w (i+1))++if w=8 then []else [⟨none,[],0⟩]
theorem Zc{w:Nat}(i:w<8)(k a b c d e f g h:Int):(AX.pl (plW w k)).holds [a,b,c,d,e,f,g,h]=decide (k=[a,b,c,d,e,f,g,h].getD w 0):=by
 match w,i with
 |0,_=>simp[AX.holds,plW,BS]
 |1,_=>simp[AX.holds,plW,BS]
 |2,_=>simp[AX.holds,plW,BS]
 |3,_=>simp[AX.holds,plW,BS]
 |4,_=>simp[AX.holds,plW,BS]
 |5,_=>simp[AX.holds,plW,BS]
 |6,_=>simp[AX.holds,plW,BS]
 |7,_=>simp[AX.holds,plW,BS]
theorem VX(M:L_)(p:AS->Bool)(C:Nat->AS)(d:∀k,(C k).makes=(M k:Int))(v:Nat)(b:∀k,1<=k->p (C k)=decide ((k:Int)=(v:Int)))(c:v<=7)(L:List AS):(v=0->(((List.range 7).map λi=>C (i+1))++L).find? p=L.find? p)/\(v≠0->(((List.range 7).map λi=>C (i+1))++L).find? p=some (C v)):=by
 have e:(((List.range 7).map λi=>C (i+1))++L)=C 1::C 2::C 3::C 4::C 5::C 6::C 7::L:=rfl;rw[e];have q:∀(k:Nat)(K:List AS),1<=k->(C k::K).find? p=if k=v then some (C k)else K.find? p:=λk K a=>by
  rw[Q5,b k a];by_cases z:k=v
  .rw[Z9 z,Z7 (by rw[z])]
  .rw[Z6 z,Z8 (λy:(k:Int)=(v:Int)=>z (K1 y))]
 rw[q 1 _ A4,q 2 _ A4,q 3 _ A4,q 4 _ A4,q 5 _ A4,q 6 _ A4,q 7 _ A4]
 match v,c with
 |0,_=>exact⟨λ_=>rfl,λz=>absurd rfl z⟩
 |1,_=>exact⟨λz=>(nomatch z),λ_=>rfl⟩
 |2,_=>exact⟨λz=>(nomatch z),λ_=>rfl⟩
 |3,_=>exact⟨λz=>(nomatch z),λ_=>rfl⟩
 |4,_=>exact⟨λz=>(nomatch z),λ_=>rfl⟩
 |5,_=>exact⟨λz=>(nomatch z),λ_=>rfl⟩
 |6,_=>exact⟨λz=>(nomatch z),λ_=>rfl⟩
 |7,_=>exact⟨λz=>(nomatch z),λ_=>rfl⟩
theorem gl_bec{M:L_}(q:M 0=0){w:Nat}(p:w<8)(c a b d f g h i j:Int){v:Nat}(o:v<=7)(e:[a,b,d,f,g,h,i,j].getD w 0=(v:Int)):Cm (glR M w) c [a,b,d,f,g,h,i,j]=(M v:Int):=by
 have l:w≠8:=by lia
 obtain⟨m,n⟩:=VX M (AS.fits c [a,b,d,f,g,h,i,j]) (glC M w) (λk=>by unfold glC;rw[Z6 l]) v (λk _=>by
  unfold glC;rw[Z6 l];show(true && ((AX.pl (plW w (k:Int))).holds [a,b,d,f,g,h,i,j] && true))=_;rw[Zc p,e,Bool.true_and,Y9]) o [⟨none,[],0⟩]
 unfold Cm glR;rw[Z6 l];by_cases z:v=0
 .rw[m z,z,q];rfl
 .rw[n z];unfold glC;rw[Z6 l]
theorem VY{M:L_}(f:M 0=0){c:Nat}(e:c<=7)(a:I_):Cm (glR M 8) (c:Int) a=(M c:Int):=by
 obtain⟨b,d⟩:=VX M (AS.fits (c:Int) a) (glC M 8) (λk=>rfl) c (λk _=>by
  show(decide ((k:Int)=(c:Int)) && true)=_;rw[Y9]) e []
 unfold Cm glR;rw[Z9 rfl];by_cases z:c=0
 .rw[b z,z,f];rfl
 .rw[d z];rfl
def ofX:Nat->Int
|0=>-1|1=>0|2=>1|3=>-1|4=>1|5=>-1|6=>0|7=>1|_=>0
def ofY:Nat->Int
|0=>-1|1=>-1|2=>-1|3=>0|4=>0|5=>1|6=>1|7=>1|_=>0
theorem gl_gl{M:L_}(c:M 0=0){w:Nat}(d:w<=8):Gl (glR M w) M (ofX w) (ofY w):=fun φ a x y=>by
 unfold sF;by_cases z:w=8
 .subst z;rw[VY c (a x y),J3];show M (φ x y)=M (φ (x+0) (y+0));rw[P2,P2]
 .have b:w<8:=by lia
  rw[gl_bec c b _ _ _ _ _ _ _ _ _ (v:=φ (x+ofX w) (y+ofY w)) (a _ _) ?_,J3]
  match w,b with
  |0,_=>rfl
  |1,_=>show((φ x (y-1):Nat):Int)=(φ (x+0) (y-1):Nat);rw[P2]
  |2,_=>rfl
  |3,_=>show((φ (x-1) y:Nat):Int)=(φ (x-1) (y+0):Nat);rw[P2]
  |4,_=>show((φ (x+1) y:Nat):Int)=(φ (x+1) (y+0):Nat);rw[P2]
  |5,_=>rfl
  |6,_=>show((φ x (y+1):Nat):Int)=(φ (x+0) (y+1):Nat);rw[P2]
  |7,_=>rfl
theorem gl_rest{M:L_}(a:M 0=0){w:Nat}(d:w<=8):Cm (glR M w) 0 BF=0:=by
 by_cases z:w=8
 .subst z;have:=VY a (c:=0) A4 BF;rw[a]at this;exact this
 .have b:w<8:=by lia
  have:=gl_bec a b 0 0 0 0 0 0 0 0 0 (v:=0) A4 (by
   match w,b with
   |0,_=>rfl
   |1,_=>rfl
   |2,_=>rfl
   |3,_=>rfl
   |4,_=>rfl
   |5,_=>rfl
   |6,_=>rfl
   |7,_=>rfl)
  rw[a]at this;exact this
theorem glC_ok{M:L_}(f:∀s,M s<=7){w k:Nat}(h:w<=8)(g:k<=7):(glC M w k).ok:=by
 have c:Ie (k:Int):=⟨by lia,by lia⟩
 have e:Ie (M k:Int):=⟨by lia,by have:=f k;lia⟩
 unfold glC;split
 .exact⟨c,e,J0 _,λd a=>nomatch a⟩
 .refine⟨True.intro,e,by show 1<=50;decide,λd a=>?_⟩;rw[C9.mp a];refine⟨by unfold plW;rw[C5,D7,N5,N5];lia,λv b=>?_⟩;unfold plW at b;rcases F1.mp b with q|q
  .rw[(List.mem_replicate.mp q).2];exact True.intro
  .rcases C2.mp q with q|q
   .rw[q];exact c
   .rw[(List.mem_replicate.mp q).2];exact True.intro
theorem glR_ok{M:L_}(g:∀s,M s<=7){w:Nat}(f:w<=8):Fb (glR M w):=by
 refine⟨?_,λc a=>?_⟩
 .unfold glR;rw[C5,B8,M4];split<;>decide
 .unfold glR at a;rcases F1.mp a with q|q
  .obtain⟨i,e,rfl⟩:=F0.mp q;exact glC_ok g f (by have:=F5.mp e;lia)
  .split at q
   .cases q
   .rw[C9.mp q];exact⟨True.intro,⟨R4 _,by show(0:Int)<8;decide⟩,J0 _,λd b=>nomatch b⟩
theorem Se{d:Int}(a:0<=d)(b:d<=9):(Str.ofString (toString d)).length=1:=by rw[Tx.Ep a b];rfl
theorem gt_8:∀k:Nat,k<8->∀m:Nat,m<8->(sgD (k:Int)++Str.ofString " ")++sgD (m:Int)=Bg ⟨some (k:Int),[],(m:Int)⟩:=by decide +kernel
theorem gt_w:∀w:Nat,w<8->∀k:Nat,k<8->∀m:Nat,m<8->(((Str.ofString "* " ++ ((Uw (Str.ofString "*") w++sgD (k:Int))++Uw (Str.ofString "*") (7-w)))++Str.ofString " ")++sgD (m:Int))=Bg ⟨none,[.pl (plW w (k:Int))],(m:Int)⟩:=by decide +kernel
theorem gt_0:Str.ofString "* 0" = Bg ⟨none,[],0⟩:=by decide +kernel
section
variable{P:N_}{w:Q_}{K:O_}{mg:C_}{base:T_}{a:Ad}
inductive SpMapB(K:O_)(vs:List V)(H:Hp)(Q:VK):Prop
|mk (l:R_) (ns:I_) (fi:Int) (_:vs=[.ref l,.int fi]) (_:SqL K H l (ns.map V.int)) (_:0<=fi) (_:∀(L:R_)(M:L_)(H':Hp),AC H H'->M 0=0->(∀s,M s<=7)->H' L=some (.lst ((List.range 8).map λi=>V.int (M i:Int)))->Q (.ref L) H'):SpMapB K vs H Q
def Uh(K:O_):Sp:=λvs H Q _=>SpMapB K vs H Q
theorem ok_mapb(F:Fun K "_law_map_by" "_law_map_by" EL f fd)(T:Top K mg a)(v:Cal P w K mg base CX0 1 "_law_at" WR (WB K)):AK P w K mg base CX0 2 f fd LE (Uh K):=by
 refine F.ok ON D_9 λx A g s H vs Q E D h=>?_
 obtain⟨l,ns,d,rfl,B,O,k⟩:=h;refine⟨_,(Af (Au (AA Rx (Cb (AI Ab)) (BW rfl (Bz.of (So:=Ah EL) (No:=LE) (N:=["_law_state","_law_script","_law_first"]) (k:=1) (cs:=[0,1]) rfl rfl A1) (Ni rfl T.b_range (AI (AI Ab))) (λ_ _ _=>(Bd (i:=0) A1 rfl rfl)) (λ_ _ _=>BG) (λ_ _ _=>(AA Bb (AA AQ (pv 0) (Ar v (rm D) rfl Am (Aa (pv 1) (Bl BJ (AA AQ (pv 2) (pv 0)) Ae Ab)))) Ae)))))),?_⟩
 try dsimp only[cxK]
 refine⟨S_1,λz G=>?_⟩;have m:=AN (o:=.lst [.int 0]) G;have r:upd H z (.lst [.int 0]) z=some (.lst [.int 0]):=Ag;generalize upd H z (.lst [.int 0])=u at m r⊢;generalize e:(λs:Nat=>if s=0 then 0 else(((s:Int)+atN ns (d+(s:Int)-1))%8).toNat)=M;refine⟨1,8,rfl,⟨by decide,by decide,by decide,by decide⟩,?_⟩;refine NI (n:=7) (λi b c=>c=u/\b=(List.range i).map λj=>V.int (M (j+1):Int)) ⟨rfl,rfl⟩ ?_ ?_
 .rintro i b c R ⟨rfl,rfl⟩;refine⟨⟨[some (.int (1+(i:Int)))],rfl,rfl⟩,by rw[B8,M4];exact Eu A0,Gm (xq1 rfl (xq1 rfl (xq1 rfl (xq1 rfl (xq2 rfl rfl (xq2 rfl rfl ⟨l,ns,_,rfl,m.seq B,by show 0<=d+(1+(i:Int))-1;lia,_,_,rfl,rfl,_,_,rfl,rfl,B5,rfl,?_⟩))))))⟩;rw[P0,C4,<-e];congr 1;show [V.int ((1+(i:Int)+atN ns (d+(1+(i:Int))-1))%8)]=[V.int (((((i+1:Nat):Int)+atN ns (d+((i+1:Nat):Int)-1))%8).toNat:Int)]
  rw[show((i+1:Nat):Int)=1+(i:Int) by lia,R0 (Q6 _ A4)]
 .rintro b c ⟨rfl,rfl⟩ L y;have p:=AN (o:=.lst ((List.range 7).map λj=>V.int (M (j+1):Int))) y;have t:upd c L (.lst ((List.range 7).map λj=>V.int (M (j+1):Int))) L=some (.lst ((List.range 7).map λj=>V.int (M (j+1):Int))):=Ag;generalize upd c L (.lst ((List.range 7).map λj=>V.int (M (j+1):Int)))=I at p t⊢;refine⟨z,L,(xq2 rfl rfl ⟨p _ _ r,t,by show 1+7<=sizeLine;decide,λq C=>?_⟩)⟩;refine k q M _ ((m.trans p).trans (AN C)) (by rw[<-e];rfl) (λs=>?_) ?_
  .rw[<-e];dsimp only;split
   .decide
   .have:=N8 ((s:Int)+atN ns (d+(s:Int)-1)) (by decide:(0:Int)<8);lia
  .rw[Ag,<-e];rfl
inductive SpGtx(vs:List V)(H:Hp)(Q:VK):Prop
|mk (L:R_) (M:L_) (w:Nat) (_:vs=[.ref L,.int (w:Int)]) (_:w<=8) (_:∀s,M s<=7) (_:H L=some (.lst ((List.range 8).map λi=>V.int (M i:Int)))) (_:∀H':Hp,AC H H'->Q (.str (Bc (glR M w))) H'):SpGtx vs H Q
def YQ:Sp:=λvs H Q _=>SpGtx vs H Q
theorem ok_gtx(F:Fun K "_law_glide_text" "_law_glide_text" Eb f fd)(T:Top K mg a):AK P w K mg base CX0 1 f fd Ej YQ:=by
 refine F.ok CI D_9 λaa A X s H vs Q E hr h=>?_
 obtain⟨L,M,w,rfl,Y,U,hL,k⟩:=h;refine⟨_,(Ac (Ao (i:=2) CI.nd rfl O_9 (Cb Ab)) (Ac (BU X5 rfl (Ni rfl T.b_range (AI (AI Ab))) (AZ (i:=3) CI.nd rfl O_9) (Af (AM (Ay CG (pv 1) Ae (AE _)) (Af (Bm (CF X7 X8 X9 Bw (pv 2) (Bl CL (AA CL (Bo CN rfl T.b_str A0a (Aa (pv 3) Ab)) Da) (Bo CN rfl T.b_str A0a (Aa (Aj Ax (pv 0) (pv 3) R_9) Ab)) Ab)))) (Ac (Ao (i:=4) CI.nd rfl O_9 (AA CL (AA CL (AA VL Da (pv 1)) (Bo CN rfl T.b_str A0a (Aa (pv 3) Ab))) (AA VL Da (AA BJ Ae (pv 1))))) (Af (Bm (CF X7 X8 X9 Bw (pv 2) (Bl CL (AA CL (AA CL Da (pv 4)) Da) (Bo CN rfl T.b_str A0a (Aa (Aj Ax (pv 0) (pv 3) R_9) Ab)) Ab)))))))) (Ac (AM (Ay Ih (pv 1) Ae (AE _)) (Af (Bm (CF X7 X8 X9 Bw (pv 2) (LT Ab)))) AB) (Af (Au (CF A0e A1g A1h MB Da (Aa (pv 2) Ab))))))),?_⟩
 try dsimp only[cxK]
 refine⟨S_0,λS B=>?_⟩;have s1:=AN (o:=.lst []) B;have h1:upd H S (.lst []) S=some (.lst []):=Ag;generalize upd H S (.lst [])=H1 at s1 h1⊢;refine⟨1,8,rfl,⟨by decide,by decide,by decide,by decide⟩,?_⟩;refine CA (n:=7) (λi σ x=>∃C D:Option V,σ=[some (.ref L),some (.int (w:Int)),some (.ref S),C,D]/\AC H x/\x S=some (.lst ((List.range i).map λj=>V.str (Bg (glC M w (j+1)))))) ⟨none,none,rfl,s1,h1⟩ ?_ ?_
 .rintro i σ x hi ⟨C,D,rfl,r,l⟩;refine xq1 rfl ⟨rfl,(xq1 rfl (Er (λd=>?_) (λd=>?_)))⟩
  .have Y:w=8:=by
    have:=K3 d;injection this with this
    lia
   subst Y;have mi:=U (i+1);have m:(Str.ofString (toString (1+(i:Int)))).length=1:=Se A0 A0;have O:(Str.ofString (toString (M (i+1):Int))).length=1:=Se A0 A0;have v:(Str.ofString " ").length=1:=by decide
   have N:atI ((List.range 8).map λi=>V.int (M i:Int)) (1+(i:Int))=some (.int (M (i+1):Int)):=by
    rw[show 1+(i:Int)=((i+1:Nat):Int) by lia];exact Ai (by rw[C0,O1 A0];rfl)
   refine xq1 rfl ⟨.inl ⟨rfl,_,SqL.of l⟩,(xq1 rfl ⟨1+(i:Int),rfl,Ev A0 A0,(xq2 rfl rfl ⟨De (by rw[m,v];decide),(xwj rfl rfl rfl rfl (SqL.of (r _ _ hL)) N ⟨(M (i+1):Int),rfl,Ev A0 A0,(xq2 rfl rfl ⟨De (by rw[A0f,m,O,v];decide),S,(xq2 rfl rfl ⟨l,by rw[B8,M4];exact Eu A0,?_⟩)⟩)⟩)⟩)⟩)⟩;refine⟨_,_,rfl,λb o e=>?_,?_⟩
   .rw[Av (Aw e B)];exact r _ _ e
   .rw[Ag,P0,C4];congr 3;have e:=gt_8 (i+1) A0 (M (i+1)) A0;rw[show((i+1:Nat):Int)=1+(i:Int) by lia]at e;have G:glC M 8 (i+1)=⟨some (1+(i:Int)),[],(M (i+1):Int)⟩:=by
     unfold glC;rw[Z9 rfl,show((i+1:Nat):Int)=1+(i:Int) by lia]
    show [V.str _]=[V.str (Bg (glC M 8 (i+1)))]
    rw[G,Tx.Ep (show 0<=1+(i:Int) by lia) A0,Tx.Ep (show 0<=(M (i+1):Int) by lia) A0];exact K5 (λz=>[V.str z]) e
  .have W:w≠8:=λz=>d (Z7 (by rw[z];rfl));have h8:w<8:=by lia
   have mi:=U (i+1);have m:(Str.ofString (toString (1+(i:Int)))).length=1:=Se A0 A0;have O:(Str.ofString (toString (M (i+1):Int))).length=1:=Se A0 A0;have v:(Str.ofString " ").length=1:=by decide
   have R:(Str.ofString "*").length=1:=by decide
   have q:(Str.ofString "* ").length=2:=by decide
   have g:=λk=>Ta R k;have N:atI ((List.range 8).map λi=>V.int (M i:Int)) (1+(i:Int))=some (.int (M (i+1):Int)):=by
    rw[show 1+(i:Int)=((i+1:Nat):Int) by lia];exact Ai (by rw[C0,O1 A0];rfl)
   refine xq1 rfl ⟨_,w,rfl,rfl,R,by lia,(xq1 rfl ⟨1+(i:Int),rfl,Ev A0 A0,(xq2 rfl rfl ⟨De (by rw[m,g];lia),(xwb rfl rfl rfl ⟨_,7-w,rfl,K5 V.int A0,R,by lia,(xq2 rfl rfl ⟨De (by rw[A0f,m,g,g];lia),?_⟩)⟩)⟩)⟩)⟩;refine xq1 rfl ⟨.inl ⟨rfl,_,SqL.of l⟩,(xwb rfl rfl rfl ⟨De (by rw[A0f,A0f,m,g,g,q];lia),(xq2 rfl rfl ⟨De (by rw[A0f,A0f,A0f,m,g,g,q,v];lia),(xwj rfl rfl rfl rfl (SqL.of (r _ _ hL)) N ⟨(M (i+1):Int),rfl,Ev A0 A0,(xq2 rfl rfl ⟨De (by rw[A0f,A0f,A0f,A0f,m,O,g,g,q,v];lia),S,(xq2 rfl rfl ⟨l,by rw[B8,M4];exact Eu A0,?_⟩)⟩)⟩)⟩)⟩)⟩;refine⟨_,_,rfl,λb o e=>?_,?_⟩
   .rw[Av (Aw e B)];exact r _ _ e
   .rw[Ag,P0,C4];congr 3;have e:=gt_w w h8 (i+1) A0 (M (i+1)) A0;rw[show((i+1:Nat):Int)=1+(i:Int) by lia]at e;have G:glC M w (i+1)=⟨none,[.pl (plW w (1+(i:Int)))],(M (i+1):Int)⟩:=by
     unfold glC;rw[Z6 W,show((i+1:Nat):Int)=1+(i:Int) by lia]
    show [V.str _]=[V.str (Bg (glC M w (i+1)))]
    rw[G,Tx.Ep (show 0<=1+(i:Int) by lia) A0,Tx.Ep (show 0<=(M (i+1):Int) by lia) A0];exact K5 (λz=>[V.str z]) e
 .rintro σ x ⟨C,D,rfl,r,l⟩;have ok:=glR_ok U Y;dsimp only;refine AW ?_;intro r9 s9 k9 I E9;apply MD (T:=k9) (fun σ y=>σ=[some (.ref L),some (.int (w:Int)),some (.ref S),C,D]/\AC H y/\y S=some (.lst (((glR M w).map Bg).map V.str)))
  .intro p;refine xwb rfl rfl rfl (xq1 rfl (Er (λd=>?_) (λd=>?_)))
   .have W:w≠8:=by
     have:=K3 d;lia
    refine xq1 rfl ⟨.inl ⟨rfl,_,SqL.of l⟩,S,(xq2 rfl rfl ⟨l,by rw[B8,M4];decide,?_⟩)⟩;refine p _ _ ⟨rfl,λb o e=>?_,?_⟩
    .rw[Av (Aw e B)];exact r _ _ e
    .rw[Ag];unfold glR;rw[Z6 W,C4,C4,M7,M7,gt_0];rfl
   .have e8:w=8:=by
     have:¬(w:Int)<8:=λz=>d (Z7 z);lia
    refine p _ _ ⟨rfl,r,?_⟩;rw[l];unfold glR;rw[Z9 e8,U1,M7,M7];rfl
  .rintro σ y ⟨rfl,s4,h4⟩;refine I ?_;have Z:Str.ofString "; " = NT:=by decide +kernel
   have u:JoinOk (Str.ofString "; ") ((glR M w).map Bg)=true:=by
    refine Tx.MG 1000 (λt ht=>?_) ?_
    .obtain⟨c,d,rfl⟩:=F0.mp ht;exact Jf (ok.ok c d)
    .rw[B8,Z,show NT.length=2 from rfl];have:=ok.few;lia
   refine⟨rfl,(xq1 rfl ⟨_,S,(xq1 rfl ⟨rfl,SqL.of h4,u,?_⟩)⟩)⟩;rw[Z];exact k y s4
end
end J
namespace J
open PySem L2
def Dj(m m':MA):Prop:=m.kc≠m'.kc/\∀d∈m.ds,d∉m'.ds
theorem AH.len{G a:Gv}{i n:Nat}(h:AH G a i)(l:a.length<=G.length+n):AH G a n:=⟨h.ok,h.pre,l⟩
structure Pk(H:Hp)(g:GA)(G:Gv)(Κ:KTy)(N b:Nat)(r:Az)(m:MA):Prop where
me:Ib H g G N (b+10*N) r m
cn:∃f,Cn H G m Κ b f
na:g.am∉m.ds
nb:g.bx∉m.ds
section
variable{a:Ad}{H H':Hp}{g:GA}{G G':Gv}{Κ Κ2:KTy}{N b i N2 b2 b3:Nat}{p dx mem pr p2 dx2 mem2 pr2:R_}{r r2:Az}{m m2:MA}
theorem Pk.oth(h:Pk H g G Κ N b r m)(s:ZS a H g G Κ2 N2 b2 p2 dx2 mem2 pr2 r2 m2)(f:FrZ g m2 H H')(Z:ZS a H' g G' Κ2 N2 b3 p2 dx2 mem2 pr2 r2 m2)(I:AH G G' i)(dj:Dj m m2):Pk H' g G' Κ N (b+i) r m:=by
 have c:=h.me;have q:=s.fu;obtain⟨A,n,U,_⟩:=c.ce;have T:∀{x:R_}{o:HO},H x=some o->(∀xs,o≠.lst xs)->(∀ks,o≠.dK ks)->(∀ks,o≠.dT ks)->H' x=some o:=λ{x o} e O P Q=>s.keep f e O P Q;obtain⟨Y,K,_⟩:=q.at'.pt;obtain⟨W,C,_⟩:=q.am;obtain⟨X,D,_⟩:=q.bx;obtain⟨R,F,_⟩:=s.jz.jw.me.ce;have u:∀d∈m.ds,∀o,H d=some o->H' d=some o:=λd y o e=>by
  obtain⟨j,t⟩:=F6 y;obtain⟨L,k,_⟩:=c.sq j d t;rw[k]at e;cases e;refine f d _ k (λz=>?_) (dj.2 d y);simp only[C2,D3,K6]at z;rcases z with z|z|z|z|z|z
  .rw[z,q.at'.lv]at k;cases k
  .rw[z,K]at k;cases k
  .rw[z,q.at'.nm]at k;cases k
  .exact h.na (z▸y)
  .exact h.nb (z▸y)
  .rw[z,F]at k;cases k
 have v:∀o,H m.kc=some o->H' m.kc=some o:=λo e=>by
  rw[n]at e;cases e;refine f _ _ n (λz=>?_) (λz=>?_)
  .simp only[C2,D3,K6]at z;rcases z with z|z|z|z|z|z
   .rw[z,q.at'.lv]at n;cases n
   .rw[z,K]at n;cases n
   .exact c.ap.2.2 z
   .rw[z,C]at n;cases n
   .rw[z,D]at n;cases n
   .exact dj.1 z
  .obtain⟨j,t⟩:=F6 z;obtain⟨L,k,_⟩:=s.jz.jw.me.sq j _ t;rw[n]at k;cases k
 have S:H' m.l=some (.lst (m.ds.map V.ref)):=by
  refine f _ _ c.l (λz=>?_) (λz=>?_)
  .have e:=c.l;simp only[C2,D3,K6]at z;rcases z with z|z|z|z|z|z
   .exact c.ap.1 z
   .exact c.ap.2.1 z
   .rw[z,q.at'.nm]at e;cases e
   .rw[z,C]at e;cases e
   .rw[z,D]at e;cases e
   .rw[z,F]at e;cases e
  .obtain⟨j,t⟩:=F6 z;obtain⟨L,k,_⟩:=s.jz.jw.me.sq j _ t;have e:=c.l;rw[k]at e;cases e
 have B:Ib H' g G' N (b+i+10*N) r m:=(c.kp q.ok I λx o e w=>by
  rcases w with rfl|rfl|w|rfl
  .rw[c.tp]at e;cases e;exact T c.tp B0 B0 B0
  .rw[c.l]at e;cases e;exact S
  .exact u x w o e
  .exact v o e).mono (C1 _) A0
 obtain⟨M,E⟩:=h.cn;exact⟨B,⟨M,E.kp q.ok I u λA e=>⟨A,v _ e,by lia⟩⟩,h.na,h.nb⟩
theorem ZS.pk(h:ZS a H g G Κ N b p dx mem pr r m):Pk H g G Κ N b r m:=⟨h.jz.jw.me,h.jz.cn,h.na,h.nb⟩
theorem Pk.zs(h:Pk H g G Κ N b r m)(c:AY a H g G)(f:H p=some (.ins a.c_Jumps dx (jf5 g.p mem pr m.l m.kc)))(o:Ce a H pr (Bc r) r)(rok:Fb r)(k:Cm r 0 BF=0):ZS a H g G Κ N b p dx mem pr r m:=by
 obtain⟨n,d⟩:=c.g0;exact⟨⟨⟨c.at',c.ok,λj e=>by rw[d];exact Lm (MI j e),c.br,⟨c.n1,c.n2⟩,f,o,rok,k,h.me⟩,h.cn⟩,c,h.na,h.nb⟩
theorem Pk.mono{d:Nat}(h:Pk H g G Κ N b r m)(e:b<=d):Pk H g G Κ N d r m:=by
 obtain⟨f,c⟩:=h.cn;refine⟨h.me.mono (C1 _) A0,⟨f,c.sq,D1 c.gl A0,?_⟩,h.na,h.nb⟩;obtain⟨k,j,l⟩:=c.ce;exact⟨k,j,by lia⟩
theorem Pk.fr2{x y:R_}{E F:HO}(h:Pk H g G Κ N b r m)(u:AY a H g G)(K:H x=some E)(A:H y=some F)(L:∃c d fs,E=.ins c d fs)(Q:y∉m.ds)(fr:∀b o,H b=some o->b≠x->b≠y->H' b=some o)(M:∃ks,F=.dK ks):Pk H' g G Κ N b r m:=by
 obtain⟨c,d,fs,rfl⟩:=L;obtain⟨ks,rfl⟩:=M;have k:=h.me;have kp:∀z o,H z=some o->(∀c d fs,o≠.ins c d fs)->z≠y->H' z=some o:=λz o e O P=>fr z o e (λq=>by rw[q,K]at e;cases e;exact O _ _ _ rfl) P;have n:∀d∈m.ds,∀o,H d=some o->H' d=some o:=λd D o e=>by
  obtain⟨j,I⟩:=F6 D;obtain⟨R,C,_⟩:=k.sq j d I;rw[C]at e;cases e;exact kp _ _ C B1 λz=>Q (z▸D)
 obtain⟨v,t,_⟩:=k.ce;have s:∀o,H m.kc=some o->H' m.kc=some o:=λo e=>by
  rw[t]at e;cases e;exact kp _ _ t B1 λz=>by rw[z,A]at t;cases t
 obtain⟨f,B⟩:=h.cn;refine⟨k.kp u.ok (AH.refl u.ok) λz o e w=>?_,⟨f,B.kp (i:=0) u.ok (AH.refl u.ok) n λv e=>⟨v,s _ e,C1 _⟩⟩,h.na,h.nb⟩;rcases w with rfl|rfl|w|rfl
 .rw[k.tp]at e;cases e;exact kp _ _ k.tp B1 λz=>by have:=k.tp;rw[z,A]at this;cases this
 .rw[k.l]at e;cases e;exact kp _ _ k.l B1 λz=>by have:=k.l;rw[z,A]at this;cases this
 .exact n z w o e
 .exact s o e
theorem ZS.oth(h:ZS a H g G Κ N b p dx mem pr r m)(d:ZS a H g G Κ2 N2 b2 p2 dx2 mem2 pr2 r2 m2)(f:FrZ g m2 H H')(k:ZS a H' g G' Κ2 N2 b3 p2 dx2 mem2 pr2 r2 m2)(l:AH G G' i)(dj:Dj m m2):ZS a H' g G' Κ N (b+i) p dx mem pr r m:=by
 have j:∀{x:R_}{o:HO},H x=some o->(∀xs,o≠.lst xs)->(∀ks,o≠.dK ks)->(∀ks,o≠.dT ks)->H' x=some o:=λ{x o} e n q s=>d.keep f e n q s;have c:=h.jz.jw;exact(h.pk.oth d f k l dj).zs k.fu (j c.hp B0 B0 B0) (c.ru.kp λx o e nv=>j e (by intro _ z;rw[z]at nv;cases nv) (by intro _ z;rw[z]at nv;cases nv) (by intro _ z;rw[z]at nv;cases nv)) c.rok c.rest
end
theorem Gj.mono{Κ:KTy}{N a:Nat}(h:Gj Κ N)(e:N<=a):Gj Κ a:=by
 obtain⟨M,b,c⟩:=h.ls;exact⟨⟨M,D1 b e,c⟩,h.ext⟩
theorem stC_in{ds:List Cl}{n:Nat}{x y:Int}(h:Dd ds n x y){u v:Int}(z:stC ds u v≠0):x<=u/\u<x+6/\y<=v/\v<y+3:=by
 rcases Mb ds u v with ⟨c,d,a,b,_⟩|⟨_,e⟩
 .subst a;subst b;exact(h.ok c d).2
 .exact absurd e z
theorem stC_7{ds:List Cl}{n:Nat}{x y:Int}(h:Dd ds n x y)(u v:Int):stC ds u v<=7:=by
 rcases Mb ds u v with ⟨c,a,_,_,e⟩|⟨_,e⟩
 .have:=(h.ok c a).1.1.s;lia
 .lia
theorem nd_mono{k a W D:Nat}(h:k<=a):nd k W D<=nd a W D:=by
 unfold nd s47;refine Ma (f:=λe=>((List.range 47).map (md k W D e)).sum) (g:=λe=>((List.range 47).map (md a W D e)).sum) λe _=>?_;refine Ma (f:=md k W D e) (g:=md a W D e) λl _=>?_;unfold md;have:=Nat.mul_le_mul_right ((if e=l then 19 else if e<l then 1 else 0)*kw W D l) h;lia
def pc(n:Nat):Nat:=if h:n=0 then 0 else n%2+pc (n/2)
termination_by n
decreasing_by exact Nat.div_lt_self (Z0 h) A4
theorem Zk(n:Nat):pc n=n%2+pc (n/2):=by
 by_cases h:n=0
 .subst h;rw[pc];simp
 .conv=>lhs;rw[pc,dif_neg h]
theorem pc_sh(a:Nat):∀b,pc (a*2^b)=pc a
|0=>by rw[T4,Nat.mul_one]
|b+1=>by
 rw[Zk,F4,<-Nat.mul_assoc,show a*2^b*2%2=0 by lia,show a*2^b*2/2=a*2^b by lia,pc_sh a b];lia
theorem We:∀(n k:Nat),((List.range n).filter λj=>k/2^j%2==1).length<=pc k
|0,k=>J0 _
|n+1,k=>by
 rw[List.range_succ_eq_map,List.filter_cons,List.filter_map,Zk];have:=We n (k/2);have e:((λj=>k/2^j%2==1) ∘ Nat.succ)=λj=>k/2/2^j%2==1:=by
  funext j
  show(k/2^(j+1)%2==1)=_;rw[F4,U6,W4]
 rw[e];rw[T4,Nat.div_one];by_cases z:k%2=1
 .rw[z];rw[Z9 (by rfl),D7,B8];lia
 .rw[Z6 (by simp;lia),B8];lia
theorem sts_len(t k:Nat):(sts t k).length<=pc k:=by
 unfold sts;rw[B8];exact We 40 k
seal L2.PA L2.PE L2.PS L2.PSs L2.PT L2.PW
section
variable{P:N_}{w:Q_}{K:O_}{mg:C_}{base:T_}{a:Ad}
inductive SpLst(vs:List V)(H:Hp)(Q:VK):Prop
|mk (n e:Nat) (_:vs=[.int ((n+1:Nat):Int),.int (e:Int)]) (_:n<=40) (_:e<=40) (_:∀l:Nat,2^n+2^e<=2^l->(∀l',2^n+2^e<=2^l'->l<=l')->Q (.int ((l+2:Nat):Int)) H):SpLst vs H Q
def YM:Sp:=λvs H Q _=>SpLst vs H Q
theorem ok_lst(F:Fun K "_law_least" "_law_least" Iy f fd)(T:Top K mg a):AK P w K mg base CX0 1 f fd IR YM:=by
 refine F.ok GF (λvs H Q E h=>?_) (λD A v s H vs Q E O h=>?_)
 .apply AL;intro g b;obtain⟨n,e,rfl,_⟩:=h;apply b;clear b g;rfl
 .apply AL;intro g b;obtain⟨n,e,rfl,u,o,k⟩:=h;apply b;clear b g;refine⟨_,(Ac (Ao (i:=2) GF.nd rfl O_9 (AA AQ (pv 0) Ae)) (Ac (EW X5 (Ay Pc (AA AQ (AA IZ Ae (AA BJ (pv 0) Ae)) (AA IZ Ae (pv 1))) (AA IZ Ae (AA BJ (pv 2) Ae)) (AE _)) (Af (Ao (i:=2) GF.nd rfl O_9 (AA AQ (pv 2) Ae)))) (Af (Au (pv 2))))),?_⟩
  try dsimp only[cxK]
  have p:(1:Int)*2^(((n+1:Nat):Int)-1).toNat+1*2^(e:Int).toNat=((2^n+2^e:Nat):Int):=by
   rw[show(((n+1:Nat):Int)-1).toNat=n by lia,J3,V6,V6,N4,L8,L8];rfl
  have Y:2^n<=2^40:=L9 A4 u;have X:2^e<=2^40:=L9 A4 o;have M:=Bp e;generalize I:2^n+2^e=R at k p;have C:R<=2^41:=by rw[<-I];lia
  have q:((n+1:Nat):Int)+2=((n+1+2:Nat):Int):=by lia
  refine AW ?_;intro Z s1 U r N;refine xwb rfl rfl rfl ?_;rw[show(λi j:Int=>V.int (i+j)) ((n+1:Nat):Int) 2=V.int ((n+1+2:Nat):Int)from K5 V.int q];refine r ?_;refine⟨λm σ l=>∃j:Nat,σ=[some (.int ((n+1:Nat):Int)),some (.int (e:Int)),some (.int ((j+2:Nat):Int))]/\l=H/\j+m=41/\∀d,R<=2^d->j<=d,⟨40-n,n+1,rfl,rfl,by lia,λd h=>P6 λz=>by have:=L9 (show 0<2 by decide) z;lia⟩,?_⟩;rintro m σ l x;apply AL;intro g b;obtain⟨j,rfl,rfl,S,L⟩:=x;apply b;clear b g;have B:(1:Int)*2^(((j+2:Nat):Int)-2).toNat=((2^j:Nat):Int):=by
   rw[show(((j+2:Nat):Int)-2).toNat=j by lia,V6,L8];rfl
  refine xwb rfl rfl rfl (xq2 rfl rfl ⟨⟨by lia,by lia,by decide⟩,?_⟩);refine xwb rfl rfl rfl ⟨⟨by lia,by lia,by decide⟩,?_⟩;refine xq2 rfl rfl (xwb rfl rfl rfl (xq2 rfl rfl ⟨⟨by lia,by lia,by decide⟩,(xq2 rfl rfl (xq1 rfl ?_))⟩));refine Er (λc=>?_) (λc=>?_)
  .have c:(1:Int)*2^(((j+2:Nat):Int)-2).toNat<1*2^(((n+1:Nat):Int)-1).toNat+1*2^(e:Int).toNat:=K3 c;rw[B,p]at c;have W:m≠0:=λz=>by
    subst z;have:j=41:=by lia
    subst this;lia
   refine⟨fun σ' y=>∃t:Nat,σ'=[some (.int ((n+1:Nat):Int)),some (.int (e:Int)),some (.int ((t+2:Nat):Int))]/\y=l/\t+(m-1)=41/\∀d,R<=2^d->t<=d,fun σ' y z=>⟨m-1,by lia,z⟩,?_⟩;have G:((j+2:Nat):Int)+1=((j+1+2:Nat):Int):=by lia
   exact xwb rfl rfl rfl ⟨j+1,K5 (λz:Int=>[some (V.int ((n+1:Nat):Int)),some (V.int (e:Int)),some (V.int z)]) G,rfl,by lia,λd h=>P6 λz=>by have:=L9 (show 0<2 by decide) z;lia⟩
  .have c:¬(1:Int)*2^(((j+2:Nat):Int)-2).toNat<1*2^(((n+1:Nat):Int)-1).toNat+1*2^(e:Int).toNat:=λz=>c (Z7 z);rw[B,p]at c;exact xq1 rfl (k j A0 L)
theorem OH{G r:Gv}(e:G=G0++r)(ok:GOk G):∀{l n:Nat},l<=48->Sol G 0 l n->n=bareN l
|0,n,_,h=>h
|l+1,n,hl,h=>by
 obtain⟨m,b,c⟩:=h;have:=OH e ok A0 b;subst this;exact ok.one c (UU e l A0) rfl
theorem Gn.lev{G:Gv}{n f:Nat}(b:Al G f ((n+1:Nat):Int)):∀{k w:Nat},Gn G n f k w->Al G w ((n+k+1:Nat):Int)
|0,_,h=>by rw[(h:_=f)];exact b
|_+1,_,⟨_,_,h⟩=>h.lev
def qp(x y z w B i j:Nat):Nat:=if i+j=3 then f4 x y z w i else B
inductive SpMst(a:Ad)(vs:List V)(H:Hp)(Q:VK):Prop
|mk (g:GA) (G:Gv) (f n k v:Nat) (_:vs=[.ref g.p,.int v,.int ((n+1:Nat):Int)]) (_:AY a H g G) (_:Al G f ((n+1:Nat):Int)) (_:n+k<=46) (_:Gn G n f k v) (_:G.length<7900000) (_:∀(G':Gv)(H':Hp),Fr g H H'->AY a H' g G'->AH G G' (50*k)->Q (.int f) H'):SpMst a vs H Q
def YJ(a:Ad):Sp:=λvs H Q _=>SpMst a vs H Q
theorem ok_mst(F:Fun K "_law_midst" "_law_midst" Ix f fd)(T:Top K mg a)(aA:BD P w K mg base CX0 3 a.c_Grove "level_of" JU (Jv a))(aW:BD P w K mg base CX0 4 a.c_Grove "solid" ER (Og a))(aZ:BD P w K mg base CX0 4 a.c_Grove "quarters" JU (YI a))(bK:BD P w K mg base CX0 4 a.c_Grove "joined" Gc (Uk a)):AK P w K mg base CX0 5 f fd IQ (YJ a):=by
 refine F.ok BY (λvs H Q E h=>?_) (λa1 A av s H vs Q E hr h=>?_)
 .apply AL;intro M c;obtain⟨g,G,f,n,k,v,rfl,_⟩:=h;apply c;clear c M;rfl
 .apply AL;intro M c;obtain⟨g,G,f,n,k,v,rfl,fu,lf,nk,wn,few,kn⟩:=h;apply c;clear c M;refine⟨_,(Ac (EW X5 (Ay Pc (AD (pv 0) aA (rm hr) Am (Aa (pv 1) Ab)) (pv 2) (AE _)) (Ac (Ao (i:=3) BY.nd rfl O_9 (AD (pv 0) aW (rm hr) Am (Bl BJ (AD (pv 0) aA (rm hr) Am (Aa (pv 1) Ab)) Ae (AI Ab)))) (Ac (Ao (i:=4) BY.nd rfl O_9 (Cb Ab)) (Ac (BU X5 rfl (Mr true rfl T.b_enumerate (Aa (AD (pv 0) aZ (rm hr) Am (Aa (pv 1) Ab)) Ab)) (Nj rfl (CS (AZ (i:=5) BY.nd rfl O_9) (CS (AZ (i:=6) BY.nd rfl O_9) Li))) (Ac (Ao (i:=7) BY.nd rfl O_9 (AD (pv 0) aZ (rm hr) Am (Aa (pv 6) Ab))) (Ac (BU X5 rfl (Cw rfl T.b_range (AI Ab)) (AZ (i:=8) BY.nd rfl O_9) (Af (AM (PW.pt (JC (Ay Dk (pv 8) (AA BJ Ae (pv 5)) (AE _)) (Gw (Ay Dk (Aj An (pv 7) (pv 8) R_9) (pv 3) (AE _))))) (Af (Au Cy)) AB))) (Af (Bm (CF X7 X8 X9 Bw (pv 4) (Aa (Aj An (pv 7) (AA BJ Ae (pv 5)) R_9) Ab))))))) (Af (Ao (i:=1) BY.nd rfl O_9 (AD (pv 0) bK (rm hr) Am (Aa (Aj Ax (pv 4) Ae R_9) (Aa (Aj Ax (pv 4) Ae R_9) (Aa (Aj Ax (pv 4) Ae R_9) (Aa (Aj Ax (pv 4) Ae R_9) Ab))))))))))) (Af (Au (pv 1)))),?_⟩
  try dsimp only[cxK]
  refine⟨λm σ H2=>∃(O:Gv)(U:Nat)(u3 u4 u5 u6 u7 S:Option V),σ=[some (.ref g.p),some (.int (U:Int)),some (.int ((n+1:Nat):Int)),u3,u4,u5,u6,u7,S]/\Fr g H H2/\AY a H2 g O/\AH G O (50*(k-m))/\m<=k/\Gn O n f m U,⟨k,G,v,none,none,none,none,none,none,rfl,Fr.refl g H,fu,(AH.refl fu.ok).mono (J0 _),C1 _,wn⟩,?_⟩;rintro m σ H2 az;apply AL;intro M c;obtain⟨O,U,u3,u4,u5,u6,u7,S,rfl,fr2,r,X,mk,ad⟩:=az;apply c;clear c M;have gf:=X.few;have as:=X.lev lf;have au:Al O U ((n+m+1:Nat):Int):=ad.lev as;obtain⟨q,eq,el⟩:=id au;refine xq1 rfl ⟨g.p,g.dx,(xq1 rfl ⟨r.at'.hp,Cc g,(xq1 rfl ⟨g,O,U,q,rfl,r.at',eq,?_⟩)⟩)⟩;refine xq1 rfl ?_;have ql:q.lev=((n+m+1:Nat):Int):=el;refine xq2 rfl rfl (xq1 rfl (Er (λY=>?_) (λY=>?_)))
  .have Y:((n+1:Nat):Int)<q.lev:=K3 Y;obtain⟨l,rfl⟩:∃l,m=l+1:=⟨m-1,by lia⟩
   obtain⟨u,wu,wd⟩:=ad;apply AL;intro M c;obtain⟨q5,x,y,z,t,a5,b5,c5,d5,nd,ea,eb,ec,ed,ew⟩:=wd.ex;apply c;clear c M;refine⟨fun σ' H4=>∃(G4:Gv)(u3 u4 u5 u6 u7 S:Option V),σ'=[some (.ref g.p),some (.int (u:Int)),some (.int ((n+1:Nat):Int)),u3,u4,u5,u6,u7,S]/\Fr g H H4/\AY a H4 g G4/\AH O G4 50,fun σ' H4 ⟨G4,v3,v4,v5,v6,v7,v8,e,aj,N,ag⟩=>⟨l,T6 _,G4,u,v3,v4,v5,v6,v7,v8,e,aj,N,(X.trans ag).mono A0,by lia,wu.app ag⟩,?_⟩;refine AW ?_;intro r1 s1 k1 am E1;refine xq1 rfl ⟨g.p,g.dx,(xq1 rfl ⟨r.at'.hp,Tj g,?_⟩)⟩;refine xq1 rfl ⟨g.p,g.dx,(xq1 rfl ⟨r.at'.hp,Cc g,(xq1 rfl ⟨g,O,U,q,rfl,r.at',eq,?_⟩)⟩)⟩;refine xq2 rfl rfl ⟨g,O,n+l,0,by rw[show(λi j:Int=>V.int (i-j)) q.lev 2=V.int ((n+l:Nat):Int)from K5 V.int A0];rfl,r.at',r.ok,by lia,by decide,by lia,λnn G3 H3 ae ak d aw=>?_⟩;have C:=r.fr ae ak d;have a2:=d.few;obtain⟨rg,eg⟩:=C.g0;have:=OH eg C.ok A0 aw;subst this;refine am ?_;refine AW ?_;intro r2 s2 k2 an E2;refine⟨S_0,λL nL=>?_⟩;generalize e4:upd H3 L _=H4;obtain⟨s4,ah⟩:=alc nL e4;have N:=C.same s4;refine an ?_;refine AW ?_;intro r3 s3 k3 ao E3;refine xq1 rfl ⟨g.p,g.dx,_,rfl,N.at'.hp,NP g,_,rfl,g,G3,U,_,rfl,N.at',d.get ew,(by show((n+l:Nat):Int)+2≠0;lia),λtq ac=>?_⟩;refine⟨tq,rfl,⟨_,SqT.of ac⟩,?_⟩;have n1:L≠g.lv:=λz=>by rw[z,C.at'.lv]at nL;cases nL
   have n2:L≠g.pt:=λz=>by
    obtain⟨ts,h,_⟩:=C.at'.pt;rw[z,h]at nL;cases nL
   have n3:L≠g.br:=λz=>by rw[z,C.br]at nL;cases nL
   have gq:∀i,i<4->G3[f4 a5 b5 c5 d5 i]?=some ⟨[(qp x y z t (bareN (n+l)) i 0:Int),(qp x y z t (bareN (n+l)) i 1:Int),(qp x y z t (bareN (n+l)) i 2:Int),(qp x y z t (bareN (n+l)) i 3:Int)],((n+l:Nat):Int)+1⟩:=λi hi=>by
    match i,hi with
    |0,_=>exact d.get ea
    |1,_=>exact d.get eb
    |2,_=>exact d.get ec
    |3,_=>exact d.get ed
   refine La (b:=true) (xs:=[.int (a5:Int),.int (b5:Int),.int (c5:Int),.int (d5:Int)]) (λi σ W=>(∀b o,H4 b=some o->b≠L->W b=some o)/\AY a W g G3/\W L=some (.lst ((List.range i).map λj=>V.int (f4 x y z t j:Int)))/\∃u5 u6 u7 S:Option V,σ=[some (.ref g.p),some (.int (U:Int)),some (.int ((n+1:Nat):Int)),some (.int (bareN (n+l):Int)),some (.ref L),u5,u6,u7,S]) ⟨λ_ _ e _=>e,N,ah,_,_,_,_,rfl⟩ (λi σ W _ z=>SqT.of (z.1 _ _ ac (AG ac ah A3))) ?_ ?_
   .rintro i v σ W T' R a0 nT;apply AL;intro M c;obtain⟨kp,D,B,u5,u6,u7,S,rfl⟩:=a0;apply c;clear c M;have hi:i<4:=(B9.mp R).1;have ai:v=.int (f4 a5 b5 c5 d5 i:Int):=by
     match i,hi,R with
     |0,_,R=>cases R;rfl
     |1,_,R=>cases R;rfl
     |2,_,R=>cases R;rfl
     |3,_,R=>cases R;rfl
    subst ai;refine QD Ag ?_;generalize e6:upd W T' _=H6;obtain⟨s6,a3⟩:=alc nT e6;have I:=D.same s6;refine AW ?_;intro r4 a4 k4 aq E4;refine xq1 rfl ⟨g.p,g.dx,(xq1 rfl ⟨I.at'.hp,NP g,(xq1 rfl ⟨g,G3,_,_,rfl,I.at',gq i hi,(by show((n+l:Nat):Int)+1≠0;lia),λt7 Z=>?_⟩)⟩)⟩;have Z:H6 t7=some (.tup [.int (qp x y z t (bareN (n+l)) i 0:Int),.int (qp x y z t (bareN (n+l)) i 1:Int),.int (qp x y z t (bareN (n+l)) i 2:Int),.int (qp x y z t (bareN (n+l)) i 3:Int)]):=Z;have ix:∀j:Nat,j<4->atI [.int (qp x y z t (bareN (n+l)) i 0:Int),.int (qp x y z t (bareN (n+l)) i 1:Int),.int (qp x y z t (bareN (n+l)) i 2:Int),.int (qp x y z t (bareN (n+l)) i 3:Int)] (j:Int)=some (V.int (qp x y z t (bareN (n+l)) i j:Int)):=λj hj=>Ai (by
     match j,hj with
     |0,_=>rfl
     |1,_=>rfl
     |2,_=>rfl
     |3,_=>rfl)
    refine aq ?_;refine AW ?_;intro r5 s5 k5 ar E5;refine xq1 rfl ⟨by decide,by decide,?_⟩;refine CA (n:=4) (λj σ H7=>H6=H7/\∃S:Option V,σ=[some (.ref g.p),some (.int (U:Int)),some (.int ((n+1:Nat):Int)),some (.int (bareN (n+l):Int)),some (.ref L),some (.int (i:Int)),some (.int (f4 a5 b5 c5 d5 i:Int)),some (.ref t7),S]) ⟨rfl,_,rfl⟩ ?_ ?_
    .rintro j σ H7 hj ⟨rfl,ax,rfl⟩;rw[T5];refine xw2 rfl rfl (xq2 rfl rfl ⟨rfl,(xq1 rfl ?_)⟩);refine Er (λY=>?_) (λY=>Bf ⟨rfl,_,rfl⟩);have ne:i+j≠3:=λz=>by
      rw[Z7 (show V.int (j:Int)=V.int (3-(i:Int)) by congr 1;lia)]at Y;cases Y
     refine xwj rfl rfl rfl rfl (SqT.of Z) (ix j hj) (xq1 rfl ⟨rfl,(xq1 rfl ?_)⟩);rw[show qp x y z t (bareN (n+l)) i j=bareN (n+l)from Z6 ne,Z7 rfl];exact Bf ⟨rfl,_,rfl⟩
    .rintro σ H7 ⟨rfl,ax,rfl⟩;refine ar ?_;have ab:=s6 _ _ B;refine xq1 rfl ⟨.inl ⟨rfl,_,SqL.of ab⟩,?_⟩;have i3:(3:Int)-(i:Int)=((3-i:Nat):Int):=by lia
     refine xw2 rfl rfl (xq2 rfl rfl (xq4 rfl rfl (SqT.of Z) (by rw[i3];exact ix (3-i) A0) ⟨L,(xq2 rfl rfl ⟨ab,by rw[B8,M4];exact Eu A0,?_⟩)⟩));refine⟨λb o e ne=>by rw[Av ne];exact s6 _ _ (kp b o e ne),I.put ab n1 n2 n3,?_,_,_,_,_,rfl⟩;rw[Ag,P0,C4,show qp x y z t (bareN (n+l)) i (3-i)=f4 x y z t i from Z9 A0];rfl
   .rintro σ W ay;apply AL;intro M c;obtain⟨kp,D,B,u5,u6,u7,S,rfl⟩:=ay;apply c;clear c M;refine ao ?_;have B:W L=some (.lst [.int (x:Int),.int (y:Int),.int (z:Int),.int (t:Int)]):=B;refine xq1 rfl ⟨g.p,g.dx,(xq1 rfl ⟨D.at'.hp,WK g,?_⟩)⟩;refine xwi rfl rfl rfl (SqL.of B) (Ai (j:=0) rfl) (xwi rfl rfl rfl (SqL.of B) (Ai (j:=1) rfl) (xwi rfl rfl rfl (SqL.of B) (Ai (j:=2) rfl) (xwi rfl rfl rfl (SqL.of B) (Ai (j:=3) rfl) ⟨g,G3,x,y,z,t,((n+l:Nat):Int),rfl,D.at',D.ok,⟨d.lev nd.hx,d.lev nd.hy,d.lev nd.hz,d.lev nd.hw⟩,by lia,by lia,λn' G4 H6 af al aa e6=>?_⟩)));have I:=D.fr af al aa;have en:n'=u:=I.ok.one e6 ((d.trans aa).get nd.g) nd.ps.symm;subst en;have f5:Fr g H3 W:=λb o e _ _ _=>kp b o (s4 _ _ e) (Aw e nL);exact⟨G4,_,_,_,_,_,_,rfl,((fr2.trans ae).trans f5).trans af,I,(d.trans aa).mono A0⟩
  .have Y:¬((n+1:Nat):Int)<q.lev:=λz=>Y (Z7 z);have m0:m=0:=by lia
   subst m0;have e:U=f:=ad;subst e;exact xq1 rfl (kn O H2 fr2 r (X.mono A0))
end
theorem JR.one{r:Az}{G:Gv}{e n k d:Nat}(ok:GOk G)(h:JR r G e n k)(h':JR r G e n d):k=d:=by
 apply AL;intro f a;obtain⟨l,o,_,p,q⟩:=h;obtain⟨s,i,_,j,m⟩:=h';apply a;clear a f;have g:s=l:=by
  have:=i.one o;lia
 subst g;exact Sj ok _ p j λx y b c=>(q x y b c).trans (m x y b c).symm
theorem Ent.j40{H:Hp}{G:Gv}{r:Az}{φ:D_}{k j:Nat}{t:R_}{v a l h b:Nat}(e:Ent H G r φ k j t v a l h b):j<=40:=Nat.le_of_lt_succ (P6 λz=>by
 have c:=L9 (show 0<2 by decide) z;have d:=L9 (show 0<2 by decide) e.l41;have f:=e.le;have g:=Bp b;lia)
def cnB(k:Nat):Nat->Nat
|0=>0
|j+1=>cnB k j+k/2^j%2
theorem RdT.cnt{H:Hp}{G:Gv}{r:Az}{φ:D_}{k:Nat}:∀{j:Nat}{b:H_},RdT H G r φ k j b->b.length=cnB k j
|0,_,h=>by rw[(h:_=[])];rfl
|j+1,b,⟨_,_,a⟩=>by
 rcases a with ⟨e,a⟩|⟨e,f,t,v,d,l,h,i,rfl,c,g⟩
 .rw[a.cnt,cnB,e];rfl
 .rw[C5,c.cnt,cnB,e];rfl
theorem RdT.get{H:Hp}{G:Gv}{r:Az}{φ:D_}{k j:Nat}:∀{J:Nat}{m:H_},RdT H G r φ k J m->j<J->k/2^j≠0/\(∃x y,sFN r (k%2^j) φ x y≠0)/\(k/2^j%2=1->∃(t:R_)(v a l h f:Nat),m[cnB k j]?=some t/\Ent H G r φ k j t v a l h f)
|0,_,_,h=>absurd h (N3 _)
|J+1,m,⟨h1,h2,b⟩,hj=>by
 rcases O7.mp hj with lt|rfl
 .rcases b with ⟨e,b⟩|⟨e,n,t,v,a,l,h,f,rfl,g,q⟩
  .exact b.get lt
  .obtain⟨w,z,A⟩:=g.get lt;refine⟨w,z,λo=>?_⟩;apply AL;intro s c;obtain⟨t',C,d,B,h',i,p,u⟩:=A o;apply c;clear c s;exact⟨t',C,d,B,h',i,by rw[M8 (B9.mp p).1];exact p,u⟩
 .refine⟨h1,h2,λo=>?_⟩;rcases b with ⟨e,b⟩|⟨e,n,t,v,a,l,h,f,rfl,g,q⟩
  .rw[e]at o;cases o
  .exact⟨t,v,a,l,h,f,by rw[<-g.cnt,J6 (C1 _),U4];rfl,q⟩
theorem kit_ll(K:O_):kitOne K (.type "list") (.type "list")=some true:=by kernel_rfl
theorem kit_tt(K:O_):kitOne K (.type "tuple") (.type "tuple")=some true:=by kernel_rfl
section
variable{P:N_}{w:Q_}{K:O_}{mg:C_}{base:T_}{a:Ad}
inductive SpEnt(a:Ad)(vs:List V)(H:Hp)(Q:VK):Prop
|mk (p dx mem pr:R_) (g:GA) (G:Gv) (Κ:KTy) (φ:D_) (N b:Nat) (r:Az) (m:MA) (k j:Nat) (t:R_) (v res l h nh:Nat) (_:vs=[.ref g.p,.ref p,.ref t,.int (h:Int),.int (j:Int)]) (_:ZS a H g G Κ N b p dx mem pr r m) (_:Gj Κ N) (_:ClK r Κ) (_:PN Κ r φ k) (_:k/2^j%2=1) (_:Ent H G r φ k j t v res l h nh) (_:b+3000+10*N<7900000) (_:∀(G':Gv)(H':Hp)(i:Nat),FrZ g m H H'->ZS a H' g G' Κ N (b+2150) p dx mem pr r m->AH G G' i->Q (.bl true) H'):SpEnt a vs H Q
def YS(a:Ad):Sp:=λvs H Q _=>SpEnt a vs H Q
theorem ok_ent(F:Fun K "_law_entry" "_law_entry" IA f fd)(T:Top K mg a)(aA:BD P w K mg base CX0 3 a.c_Grove "level_of" JU (Jv a))(cF:Cal P w K mg base CX0 1 "_law_least" IR YM)(cE:Cal P w K mg base CX0 5 "_law_midst" IQ (YJ a))(aV:BD P w K mg base CX0 149 a.c_Jumps "after" Qh (FG a 46)):AK P w K mg base CX0 150 f fd IT (YS a):=by
 refine F.ok GG (λvs H Q E h=>?_) (λai A ah s H vs Q E L h=>?_)
 .apply AL;intro G_ o;obtain⟨p,X,mem,pr,g,G,Κ,φ,N,b,r,m,k,j,t,v,C,l,h,Z,rfl,_⟩:=h;apply o;clear o G_;rfl
 .apply AL;intro G_ o;obtain⟨p,X,mem,pr,g,G,Κ,φ,N,b,r,m,k,j,t,v,C,l,h,Z,rfl,zs,fin,cl,aa,od,c,few,kn⟩:=h;apply o;clear o G_;refine⟨_,(Ac (AM (PW.pt (Jo (CZ (Ch (AO Fa rfl T.b_isinstance K8 (Aa (pv 2) (Aa (Gx (v:=.ty "tuple") rfl T.b_tuple A0b rfl) Ab))))) (Fl (Ay Dk (AO BC rfl T.b_len K9 (Aa (pv 2) Ab)) Ae (AE _))))) (Af (Au LB)) AB) (Ac (BU X5 rfl (Nh (pv 2)) (AZ (i:=5) GG.nd rfl O_9) (Af (AM (PW.pt (Jo (CZ (Ch (AO Fa rfl T.b_isinstance K8 (Aa (pv 5) (Aa (Gx (v:=.ty "int") rfl T.b_int A1f rfl) Ab))))) (Fl (Ch (AO Fa rfl T.b_isinstance K8 (Aa (pv 5) (Aa (Gx (v:=.ty "bool") rfl T.b_bool PyProof.Rows.boot_bool rfl) Ab))))))) (Af (Au LB)) AB))) (Ac (Ao (i:=6) GG.nd rfl O_9 (AD (pv 0) aA (rm L) Am (Aa (pv 3) Ab))) (Ac (AM (PW.pt (Jo (Ay Dk (Aj An (pv 2) Ae R_9) (pv 4) (AE _)) (Fl (Ay Dk (AD (pv 0) aA (rm L) Am (Aa (Aj An (pv 2) Ae R_9) Ab)) (Ar cF (rm L) rfl Am (Aa (pv 6) (Aa (pv 4) Ab))) (AE _))))) (Af (Au LB)) AB) (Ac (AM (Ay Dk (Ar cE (rm L) rfl Am (Aa (pv 0) (Aa (Aj An (pv 2) Ae R_9) (Aa (pv 6) Ab)))) (pv 3) (AE _)) (Af (Au LB)) AB) (Af (Au (Dc CG (AD (pv 1) aV (rm L) Am (Aa (Aj An (pv 2) Ae R_9) (Aa (pv 4) Ab))) (Aj An (pv 2) Ae R_9) (AE _))))))))),?_⟩
  try dsimp only[cxK]
  have sz:=zs.jz.sz fin;have u:=c.ht;have nl:=c.nl;have O:=c.l41;refine AW ?_;intro r1 s1 k1 ab E1;refine xq1 rfl ⟨_,_,_,.type "tuple",true,rfl,rfl,.of (.tup u),kit_tt K,true,rfl,Bf (xq1 rfl ⟨t,(xq1 rfl ⟨.inr (SqT.of u),rfl,(xq1 rfl (JY rfl ?_))⟩)⟩)⟩;refine ab ?_;refine AW ?_;intro r2 s2 k2 ac E2;refine xq1 rfl ⟨t,rfl,⟨_,SqT.of u⟩,?_⟩;refine VZ (xs:=[.int (v:Int),.int (j:Int),.int (C:Int)]) (λn σ D=>H=D/\∃u5:Option V,σ=[some (.ref g.p),some (.ref p),some (.ref t),some (.int (h:Int)),some (.int (j:Int)),u5,none]) ⟨rfl,none,rfl⟩ (λn σ D _ ⟨e,_⟩=>SqT.of (e▸u)) ?_ ?_
  .rintro n v' σ D ev ⟨rfl,u4,rfl⟩;obtain⟨z,rfl⟩:∃z:Int,v'=.int z:=by
    have:=D0 ev;simp only[C2,D3,K6]at this;rcases this with e|e|e<;>exact⟨_,e⟩
   exact xq1 rfl ⟨_,_,_,.type "int",true,rfl,rfl,.of (.int z),(VU K).1,true,rfl,Bf (xq1 rfl ⟨_,_,_,.type "int",false,rfl,rfl,.of (.int z),(VU K).2,false,rfl,Bf ⟨rfl,_,rfl⟩⟩)⟩
  .rintro σ D ⟨rfl,u5,rfl⟩;refine ac ?_;refine AW ?_;intro r3 s3 k3 ad E3;obtain⟨qh,eh,lh⟩:=id c.lh;refine xq1 rfl ⟨g.p,g.dx,(xq1 rfl ⟨zs.fu.at'.hp,Cc g,(xq1 rfl ⟨g,G,h,qh,rfl,zs.fu.at',eh,?_⟩)⟩)⟩;rw[lh];refine ad ?_;refine AW ?_;intro r4 s4 k4 ae E4;refine xwi rfl rfl rfl (SqT.of u) (Ai (j:=1) rfl) (xq1 rfl ⟨rfl,(xq1 rfl (JY rfl ?_))⟩);obtain⟨qv,ev,Y⟩:=id c.lv;refine xq1 rfl ⟨g.p,g.dx,(xq1 rfl ⟨zs.fu.at'.hp,Cc g,(xwi rfl rfl rfl (SqT.of u) (Ai (j:=0) rfl) ⟨g,G,v,qv,rfl,zs.fu.at',ev,?_⟩)⟩)⟩;rw[Y];refine xw2 rfl rfl ⟨Z,j,rfl,c.n40,c.j40,λM R S=>?_⟩;have el:M=l:=Nat.le_antisymm (S l c.le) (c.mn M R);subst el;refine⟨rfl,(xq1 rfl (JY rfl ?_))⟩;refine ae ?_;clear R S;refine AW ?_;intro r5 s5 k5 af E5;refine xwj rfl rfl rfl rfl (SqT.of u) (Ai (j:=0) rfl) (xq1 rfl ⟨g,G,h,Z,M+1-Z,v,rfl,zs.fu,c.lh,by lia,c.wn,by lia,λG2 D fr2 x y=>?_⟩);refine xq1 rfl ⟨rfl,(xq1 rfl (JY rfl ?_))⟩;have q:=zs.fr fr2 x y;have d:=c.app zs.fu.ok y λ_ _=>zs.tup (Fr.z fr2);have aj:=q.jz.sz fin;refine af ?_;refine xwn rfl rfl q.jz.jw.hp (Qw _ _ _ _ _) rfl (xq4 rfl rfl (SqT.of d.ht) (Ai (j:=0) rfl) (xq1 rfl ⟨p,X,mem,pr,g,G2,Κ,N,_,r,m,v,M,j,rfl,q.jz,fin,cl,d.lv,by lia,c.jl,aa j M G2 v od c.jl c.l41 x.ok d.lv d.wf,by lia,λU G3 H3 i3 fj ag B jr up=>?_⟩));have W:=q.aft fj ag B;have I:=d.app x.ok B λ_ _=>q.tup (FrJ.z fj);have er:U=C:=JR.one W.fu.ok jr I.jr;subst er;refine xwi rfl rfl rfl (SqT.of I.ht) (Ai (j:=2) rfl) ⟨rfl,?_⟩;rw[Z7 rfl];exact kn G3 H3 _ ((Fr.z fr2).trans (FrJ.z fj)) (W.mono A0) (y.trans B)
inductive SpWlk(a:Ad)(vs:List V)(H:Hp)(Q:VK):Prop
|mk (p dx mem pr:R_) (g:GA) (G:Gv) (Κ:KTy) (φ:D_) (N b:Nat) (r:Az) (m:MA) (k J:Nat) (L:R_) (ts:H_) (f:Nat) (_:vs=[.ref g.p,.ref p,.ref L,.int (f:Int),.int (k:Int)]) (_:ZS a H g G Κ N b p dx mem pr r m) (_:Gj Κ N) (_:ClK r Κ) (_:PN Κ r φ k) (_:Ub φ k) (_:Fv G f φ) (_:H L=some (.lst (ts.map V.ref))) (_:ApZ g m L) (_:Rd5 H G r φ k J ts) (_:b+100000+10*N<7900000) (_:∀(d:Nat)(G':Gv)(H':Hp)(i:Nat),FrZ g m H H'->ZS a H' g G' Κ N (b+95000) p dx mem pr r m->AH G G' i->Fv G' d (sFN r k φ)->Q (.int (d:Int)) H'):SpWlk a vs H Q
def YD(a:Ad):Sp:=λvs H Q _=>SpWlk a vs H Q
theorem ok_wlk(F:Fun K "_law_walked" "_law_walked" GK f fd)(T:Top K mg a)(aW:BD P w K mg base CX0 4 a.c_Grove "solid" ER (Og a))(cH:Cal P w K mg base CX0 150 "_law_entry" IT (YS a))(aS:Cal P w K mg base CX0 4 "trimmed" Lj (MT a)):AK P w K mg base CX0 151 f fd GS (YD a):=by
 refine F.ok BZ (λvs H Q E h=>?_) (λbg A ba s H vs Q E hr h=>?_)
 .apply AL;intro M c;obtain⟨p,dx,mem,pr,g,G,Κ,φ,N,b,r,m,k,J,L,ts,f,rfl,_⟩:=h;apply c;clear c M;rfl
 .apply AL;intro M c;obtain⟨p,dx,mem,pr,g,G,Κ,φ,N,b,r,m,k,J,L,ts,f,rfl,zs,fin,cl,as,nr,fv,hL,ap,rd,few,kn⟩:=h;apply c;clear c M;refine⟨_,(Ac (AM (CZ (Ch (AO Fa rfl T.b_isinstance K8 (Aa (pv 2) (Aa (Gx (v:=.ty "list") rfl T.b_list PyProof.Rows.boot_list rfl) Ab))))) (Af (Au Cy)) AB) (Ac (Ao (i:=5) BZ.nd rfl O_9 Ae) (Ac (Ao (i:=6) BZ.nd rfl O_9 Ae) (Ac (EW X5 (PW.pt (JC (Ay Pc (pv 4) Ae (AE _)) (Gw (Ay Dk (pv 3) (AD (pv 0) aW (rm hr) Am (AI (AI Ab))) (AE _))))) (Ac (AM (Ay CG (AA Bb (pv 4) Ae) Ae (AE _)) (Ac (AM (PW.pt (Jo (Ay op_ge (pv 6) (AO BC rfl T.b_len K9 (Aa (pv 2) Ab)) (AE _)) (Fl (CZ (Ch (Ar cH (rm hr) rfl Am (Aa (pv 0) (Aa (pv 1) (Aa (Aj Ax (pv 2) (pv 6) R_9) (Aa (pv 3) (Aa (pv 5) Ab))))))))))) (Af (Au Cy)) AB) (Ac (Ao (i:=3) BZ.nd rfl O_9 (Ar aS (rm hr) rfl Am (Aa (pv 0) (Aa (Aj An (Aj Ax (pv 2) (pv 6) R_9) Ae R_9) Ab)))) (Af (Ao (i:=6) BZ.nd rfl O_9 (AA AQ (pv 6) Ae))))) AB) (Ac (Ao (i:=4) BZ.nd rfl O_9 (AA DF (pv 4) Ae)) (Af (Ao (i:=5) BZ.nd rfl O_9 (AA AQ (pv 5) Ae)))))) (Ac (AM (Ay Dk (pv 6) (AO BC rfl T.b_len K9 (Aa (pv 2) Ab)) (AE _)) (Af (Au Cy)) AB) (Af (Au (pv 3)))))))),?_⟩
  try dsimp only[cxK]
  have re:=zs.jz.jw.rest;refine AW ?_;intro r1 s1 k1 a0 E1;refine xq1 rfl ⟨_,_,_,.type "list",true,rfl,rfl,.of (.lst hL),kit_ll K,true,rfl,Bf ?_⟩;refine a0 ?_;refine AW ?_;intro r2 s2 k2 a1 E2;refine a1 ?_;refine AW ?_;intro r3 s3 k3 a2 E3;refine a2 ?_;refine AW ?_;intro r4 s4 k4 a3 E4;have az:k/2^0=k:=by rw[T4,Nat.div_one]
  have a5:k%2^0=0:=by rw[T4,Nat.mod_one]
  refine⟨fun μ σ H3=>∃(j:Nat)(G':Gv)(h i:Nat),σ=[some (.ref g.p),some (.ref p),some (.ref L),some (.int (h:Int)),some (.int ((k/2^j:Nat):Int)),some (.int (j:Int)),some (.int (cnB k j:Int))]/\j+μ=J/\FrZ g m H H3/\ZS a H3 g G' Κ N (b+2300*j) p dx mem pr r m/\AH G G' i/\Fv G' h (sFN r (k%2^j) φ)/\RdT H3 G' r φ k J ts,⟨J,0,G,f,0,by rw[az];rfl,N1 _,λ_ _ e _ _=>e,zs,AH.refl zs.fu.ok,by rw[a5];exact fv,rd.rd⟩,?_⟩;rintro μ σ H3 bf;apply AL;intro M c;obtain⟨j,G',h,i,rfl,jm,ah,d,ab,fh,rt⟩:=bf;apply c;clear c M;have j40:=rd.j40;have bn:=d.jz.sz fin;have bh:=ah _ _ hL ap.n0 ap.n1;obtain⟨bj,e3⟩:=d.fu.g0;have ae:(k/2^j=0\/∀x y,sFN r (k%2^j) φ x y=0)->∀(G5:Gv)(H5:Hp)(i5:Nat),FrZ g m H H5->ZS a H5 g G5 Κ N (b+2300*j+1) p dx mem pr r m->AH G G5 i5->Fv G5 h (sFN r (k%2^j) φ)->RdT H5 G5 r φ k J ts->k4 [some (.ref g.p),some (.ref p),some (.ref L),some (.int (h:Int)),some (.int ((k/2^j:Nat):Int)),some (.int (j:Int)),some (.int (cnB k j:Int))] H5:=λex G5 H5 i5 C o R av ad=>by
   have jJ:j=J:=by
    refine K2 λz=>?_;obtain⟨g1,⟨x,y,g2⟩,_⟩:=ad.get (j:=j) A0;rcases ex with e|e
    .exact g1 e
    .exact g2 (e x y)
   subst jJ;have ai:=C _ _ hL ap.n0 ap.n1;refine a3 ?_;refine AW ?_;intro r5 s5 k5 aj E5;refine xw2 rfl rfl ⟨L,(xq1 rfl ⟨.inl (SqL.of ai),rfl,(xq1 rfl ?_)⟩)⟩;rw[B8,ad.cnt];refine JY rfl (aj ?_);exact xq1 rfl (kn h G5 H5 i5 C (o.mono A0) R (by rw[st_eq re rd.st];exact av))
  refine xwb rfl rfl rfl (xq1 rfl (Er (λhc=>?_) (λhc=>?_)))
  .have kj:k/2^j≠0:=by
    have:(0:Int)<((k/2^j:Nat):Int):=K3 hc;lia
   refine xw2 rfl rfl ⟨g.p,g.dx,(xq1 rfl ⟨d.fu.at'.hp,Tj g,g,G',1,0,rfl,d.fu.at',d.fu.ok,by decide,by decide,by lia,λnn G4 H4 X ay B bb=>?_⟩)⟩;have n:=d.fu.fr X ay B;have I:=d.fr X n B;have bo:=I.jz.sz fin;obtain⟨bl,e4⟩:=n.g0;have:=OH e4 n.ok A4 bb;subst this;have aa:=ah.trans (Fr.z (m:=m) X);have O:=fh.app d.fu.ok B;have ac:=rt.app d.fu.ok B λ_ _=>d.tup (Fr.z X);have ao:=aa _ _ hL ap.n0 ap.n1;refine⟨rfl,(xq1 rfl ?_)⟩;by_cases hb:h=bareN 1
   .subst hb;rw[Z7 rfl];refine Bf (ae (.inr λx y=>?_) G4 H4 _ aa I (ab.trans B) O ac);obtain⟨b1,b2,b3⟩:=Wf e4 n.ok;apply AL;intro M c;obtain⟨n',_,l',t',f'⟩:=O.ex;apply c;clear c M;have n0:n'=0:=by
     have:=l'.one b1;lia
    subst n0;rw[<-f',b3]
   .rw[Z8 (λz=>hb (by injection z with z;exact K1 z))];refine Cz ?_;have jJ:j<J:=by
     refine Nat.lt_of_le_of_ne A0 λz=>?_;subst z;rcases rd.st with e|e
     .exact kj e
     .refine hb (Fv.eq e4 n.ok O (ψ:=λ_ _=>0) ?_ e);obtain⟨b1,b2,b3⟩:=Wf e4 n.ok;exact⟨0,by decide,b1,b2,b3⟩
    obtain⟨_,bc,get⟩:=ac.get jJ;have dv:k/2^(j+1)=k/2^j/2:=by rw[F4,W4]
    have md:k%2^(j+1)=k%2^j+2^j*(k/2^j%2):=Nat.mod_pow_succ;refine⟨fun σ' W=>∃(q:Gv)(S i6:Nat),σ'=[some (.ref g.p),some (.ref p),some (.ref L),some (.int (S:Int)),some (.int ((k/2^(j+1):Nat):Int)),some (.int ((j+1:Nat):Int)),some (.int (cnB k (j+1):Int))]/\FrZ g m H W/\ZS a W g q Κ N (b+2300*(j+1)) p dx mem pr r m/\AH G q i6/\Fv q S (sFN r (k%2^(j+1)) φ)/\RdT W q r φ k J ts,fun σ' W ⟨q,S,i6,e,z⟩=>⟨μ-1,by lia,j+1,q,S,i6,e,by lia,z⟩,?_⟩;refine AW ?_;intro r5 s5 k5 aj E5;apply MD (T:=k5) (fun σ' W=>∃(q:Gv)(S i6:Nat),σ'=[some (.ref g.p),some (.ref p),some (.ref L),some (.int (S:Int)),some (.int ((k/2^j:Nat):Int)),some (.int (j:Int)),some (.int (cnB k (j+1):Int))]/\FrZ g m H W/\ZS a W g q Κ N (b+2300*(j+1)) p dx mem pr r m/\AH G q i6/\Fv q S (sFN r (k%2^(j+1)) φ)/\RdT W q r φ k J ts)
    .intro U;refine xwb rfl rfl rfl ⟨B7,rfl,(xq1 rfl (Er (λhc=>?_) (λhc=>?_)))⟩
     .have od:k/2^j%2=1:=by
       have:=K3 hc;injection this with this
       lia
      apply AL;intro M c;obtain⟨t,v,aq,l,h',nh,et,en⟩:=get od;apply c;clear c M;have eh:h'=h:=Fv.eq e4 n.ok ⟨nh,en.n40,en.lh,en.th,en.fh⟩ O λ_ _=>rfl;subst eh;have ix:atI (ts.map V.ref) (cnB k j:Int)=some (.ref t):=Ai (by rw[C0,et];rfl);have lt:cnB k j<ts.length:=(B9.mp et).1;refine AW ?_;intro r6 s6 k6 ak E6;refine xw2 rfl rfl ⟨L,(xq1 rfl ⟨.inl (SqL.of ao),(xq2 rfl rfl (xq1 rfl ?_))⟩)⟩;rw[Z8 (show ¬(((ts.map V.ref).length:Nat):Int)<=(cnB k j:Int) by rw[B8];lia)];refine Bf (xw3 rfl rfl rfl (xwi rfl rfl rfl (SqL.of ao) ix (xw2 rfl rfl ⟨p,dx,mem,pr,g,G4,Κ,φ,N,_,r,m,k,j,t,v,aq,l,h',nh,rfl,I,fin,cl,as,od,en,by lia,λG5 H5 i5 C o R=>?_⟩)));refine⟨true,rfl,Bf (ak ?_)⟩;have ag:=en.app n.ok R λ_ _=>I.tup C;have ad:=ac.app n.ok R λ_ _=>I.tup C;have af:=aa.trans C;have ai:=af _ _ hL ap.n0 ap.n1;have bp:=o.jz.sz fin;refine AW ?_;intro r7 s7 k7 a4 E7;refine xw3 rfl rfl rfl (xq4 rfl rfl (SqL.of ai) ix (xq4 rfl rfl (SqT.of ag.ht) (Ai (j:=2) rfl) ⟨g,G5,aq,l,rfl,o.fu,ag.lr,by lia,λnw q W Y Z D bd=>?_⟩));have am:=o.fr Y Z D;obtain⟨bm,e6⟩:=Z.g0;have an:=ag.app o.fu.ok D λ_ _=>o.tup (Fr.z Y);have al:=ad.app o.fu.ok D λ_ _=>o.tup (Fr.z Y);have a7:=en.l41;obtain⟨m8,bi,a8,ar,au⟩:=FF e6 Z.ok A0 an.lr bd;have fe:∀x y,fieldF q m8 nw x y=sFN r (k%2^(j+1)) φ x y:=λx y=>by rw[au,an.rs]
      have a9:=Rb e6 Z.ok A0 ar λx y a6=>RA re nr (Nat.mod_le _ _) (by rw[<-fe];exact a6);refine a4 ?_;refine xwb rfl rfl rfl (U _ _ ⟨q,nw,_,?_,af.trans (Fr.z Y),am.mono A0,((ab.trans B).trans R).trans D,⟨m8,a9,a8,ar,fe⟩,al⟩);rw[cnB,od];rfl
     .have ev:k/2^j%2=0:=by
       have:¬((k/2^j:Nat):Int)%2=1:=λz=>hc (Z7 (K5 V.int z));lia
      refine U _ _ ⟨G4,h,_,?_,aa,I.mono A0,ab.trans B,by rw[md,ev,W3,Nat.add_zero];exact O,ac⟩;rw[cnB,ev];rfl
    .rintro σ' W be;apply AL;intro M c;obtain⟨q,S,i6,rfl,ax,am,D,aw,al⟩:=be;apply c;clear c M;refine aj ?_;refine AW ?_;intro r6 s6 k6 ak E6;refine xwb rfl rfl rfl ⟨⟨by decide,by decide⟩,?_⟩;refine ak ?_;refine xwb rfl rfl rfl ⟨q,S,i6,?_,ax,am,D,aw,al⟩;have ed:((k/2^j:Nat):Int)/2=((k/2^(j+1):Nat):Int):=by rw[dv];lia
     have ej:(j:Int)+1=((j+1:Nat):Int):=by lia
     exact(K5 (λu:Int=>[some (V.ref g.p),some (V.ref p),some (V.ref L),some (V.int (S:Int)),some (V.int u),some (V.int ((j:Int)+1)),some (V.int (cnB k (j+1):Int))]) ed).trans (K5 (λu:Int=>[some (V.ref g.p),some (V.ref p),some (V.ref L),some (V.int (S:Int)),some (V.int ((k/2^(j+1):Nat):Int)),some (V.int u),some (V.int (cnB k (j+1):Int))]) ej)
  .refine Bf (ae (.inl ?_) G' H3 i ah (d.mono A0) ab fh rt);have:¬(0:Int)<((k/2^j:Nat):Int):=λz=>hc (Z7 z);lia
end
end J
namespace J
open PySem L2
theorem four_inj{x y z w b c d a:Nat}(e:[(x:Int),(y:Int),(z:Int),(w:Int)]=[(b:Int),(c:Int),(d:Int),(a:Int)]):x=b/\y=c/\z=d/\w=a:=by
 injection e with e1 e
 injection e with e2 e
 injection e with e3 e
 injection e with e4 e
 exact⟨K1 e1,K1 e2,K1 e3,K1 e4⟩
theorem Wid.one{G:Gv}(ok:GOk G){n f w o:Nat}(h:Wid G n f w)(h':Wid G n f o):w=o:=by
 obtain⟨q,x,y,z,v,a,b,c,d,nd,u,A,B,C,D⟩:=h.ex;obtain⟨E,L,M,N,K,F,H,I,d',e,i,j,k,l,m⟩:=h'.ex;have eq:q=E:=K0 (nd.g.symm.trans e.g);subst eq;obtain⟨rfl,rfl,rfl,rfl⟩:=four_inj (nd.ps.symm.trans e.ps);have p:=ok.one u i rfl;have r:=ok.one A j rfl;have s:=ok.one B k rfl;have t:=ok.one C l rfl;subst p r s t;exact ok.one D m rfl
theorem Gn.one{G:Gv}(ok:GOk G){n f:Nat}:∀{k w a:Nat},Gn G n f k w->Gn G n f k a->w=a
|0,_,_,h,h'=>(h:_=f).trans (h':_=f).symm
|k+1,_,_,⟨u,h1,h2⟩,⟨u',g1,g2⟩=>by
 have:=Gn.one ok h1 g1;subst this;exact h2.one ok g2
theorem Ent.one{H n:Hp}{G z:Gv}(o:G=G0++z)(ok:GOk G){r:Az}{φ:D_}{k j:Nat}{t t':R_}{v d l h w m b f h' g:Nat}(e:Ent H G r φ k j t v d l h w)(a:Ent n G r φ k j t' m b f h' g):v=m/\d=b:=by
 have c:=e.n40;have i:=a.n40;obtain⟨s,p⟩:=LX o ok A0 A0 e.lh a.lh e.th a.th λx y=>by rw[e.fh,a.fh]
 subst s p;have q:l=f:=Nat.le_antisymm (e.mn f a.le) (a.mn l e.le);subst q;have u:=e.wn.one ok a.wn;subst u;exact⟨rfl,e.jr.one ok a.jr⟩
theorem RdT.alike{H p:Hp}{G F:Gv}(i:G=G0++F)(ok:GOk G){r:Az}{φ:D_}{k:Nat}:∀{j:Nat}{o us:H_},RdT H G r φ k j o->RdT p G r φ k j us->∃c d:List (Addr×List Int),c.map (·.1)=o/\d.map (·.1)=us/\c.map (·.2)=d.map (·.2)/\(∀q∈c,H q.1=some (.tup (q.2.map V.int)))/\∀q∈d,p q.1=some (.tup (q.2.map V.int))
|0,_,_,h,h'=>⟨[],[],(h:_=[]).symm,(h':_=[]).symm,rfl,λq a=>(nomatch a),λq a=>(nomatch a)⟩
|j+1,o,us,⟨_,_,n⟩,⟨_,_,g⟩=>by
 rcases n with ⟨e,n⟩|⟨e,I,t,v,f,l,h,M,rfl,D,u⟩
 .rcases g with ⟨_,g⟩|⟨b,_⟩
  .exact n.alike i ok g
  .rw[e]at b;cases b
 .rcases g with ⟨b,_⟩|⟨_,K,t',N,w,L,h',E,rfl,C,s⟩
  .rw[e]at b;cases b
  .obtain⟨c,d,x,y,z,A,B⟩:=D.alike i ok C;obtain⟨rfl,rfl⟩:=u.one i ok s;refine⟨c++[(t,[(v:Int),(j:Int),(f:Int)])],d++[(t',[(v:Int),(j:Int),(f:Int)])],by rw[C4,x];rfl,by rw[C4,y];rfl,by rw[C4,C4,z];rfl,λq a=>?_,λq a=>?_⟩
   .rcases F1.mp a with m|m
    .exact A q m
    .rw[C9.mp m];exact u.ht
   .rcases F1.mp a with m|m
    .exact B q m
    .rw[C9.mp m];exact s.ht
theorem Rd5.same{H c:Hp}{G:Gv}{r:Az}{φ:D_}{k J a:Nat}{d us:H_}(h:Rd5 H G r φ k J d)(h':Rd5 c G r φ k a us):J=a:=by
 have b:∀{H c:Hp}{J a:Nat}{d us:H_},Rd5 H G r φ k J d->Rd5 c G r φ k a us->¬J<a:=λh h' lt=>by
  obtain⟨f,⟨x,y,g⟩,_⟩:=h'.rd.get lt;rcases h.st with e|e
  .exact f e
  .exact g (e x y)
 have i:=b h h';have j:=b h' h;lia
theorem Zj:∀{b a:Nat},a<2^b->pc a<=b
|0,a,h=>by
 have:a=0:=by lia
 subst this;rw[pc];exact C1 _
|b+1,a,h=>by
 rw[Zk];have:=Zj (b:=b) (a:=a/2) (by rw[F4]at h;lia);lia
theorem nd6:nd 6 6 3<=310000:=by decide +kernel
theorem nd1:nd 1 6 3<=54000:=by decide +kernel
theorem ng7:ng 1 7 6 3<=310000:=by decide +kernel
structure Bd4(r:Az)(n:Nat):Prop where
ro:Fb r
re:Cm r 0 BF=0
le:n<2^24
ex:∀(φ:D_)(X Y:Int),(∀x y,φ x y<=7)->(∀u v,φ u v≠0->X<=u/\u<X+6/\Y<=v/\v<Y+3)->∃Κ:KTy,Gj Κ 310000/\ClK r Κ/\PN Κ r φ n
theorem bd4_gen{r:Az}(c:Fb r)(b:Cm r 0 BF=0){n:Nat}(e:n<=7):Bd4 r n:=by
 refine⟨c,b,by lia,fun φ X Y _ d=>?_⟩;have f:InBx [φ] 6 3 [(φ,X,Y)]:=fun ψ a s t z=>by
  rw[C9.mp a]at z⊢;exact⟨X,Y,by simp,d s t z⟩
 exact⟨_,(kg_fin b f).mono ng7,kg_cl c b _ _,kg_ask (t:=0) A6 e⟩
theorem bd4_gl{M:L_}(c:M 0=0)(f:∀s,M s<=7){w:Nat}(b:w<=8){n:Nat}(j:n<2^24)(k:pc n<=6):Bd4 (glR M w) n:=by
 have d:Mp M:=⟨c,λs _=>f s⟩
 have e:=gl_gl c b;have h:=glR_ok f b;have g:=gl_rest c b;exact⟨h,g,j,fun φ X Y a i=>⟨Kd M φ (ofX w) (ofY w) (sts 0 n),(ZX d a i _).mono (D1 (nd_mono (D1 (sts_len 0 n) k)) nd6),kd_cl h g d e a _,kd_ask (t:=0) d e a A0 λs l=>l⟩⟩
theorem still_f(φ:D_):sF [] φ=φ:=rfl
theorem Rc(φ:D_):∀n,sFN [] n φ=φ
|0=>rfl
|n+1=>by
 show sF [] (sFN [] n φ)=φ;rw[Rc φ n];rfl
theorem YA{φ:D_}{X Y:Int}(b:∀x y,φ x y<=7)(i:∀u v,φ u v≠0->X<=u/\u<X+6/\Y<=v/\v<Y+3)(n:Nat):∃Κ:KTy,Gj Κ 54000/\ClK [] Κ/\PN Κ [] φ n:=by
 have d:Mp (λs=>s):=⟨rfl,λ_ h=>h⟩
 have z:Fb []:=⟨by decide,λc m=>nomatch m⟩
 have g:Gl [] (λs=>s) 0 0:=fun ψ _ x y=>by rw[still_f,P2,P2]
 refine⟨Kd (λs=>s) φ 0 0 [0],(ZX d b i _).mono nd1,kd_cl z rfl d g b _,λj l G f k p t ok w o=>⟨by lia,.inr ⟨p,0,by simp,0,-2,-2,λ_=>rfl,λx y q r=>?_⟩⟩⟩;rw[MK ok w q r,o,Rc];have e:(2:Int)^(l+1)=2^l*2:=S7 ..;rw[e];have a:∀x:Nat,(x:Int)-2^l*2=(x:Int)+2^l * -2+(0:Nat)*0:=λx=>by lia
 rw[a,a];rfl
theorem YZ{r:Az}(z:Bc r=Bc []):r=[]:=K2 λn=>of_decide_eq_false (VC n) (K5 V.str (z.trans rfl))
section
variable{a:Ad}{H H':Hp}{g:GA}{G G':Gv}{Κ Κ2:KTy}{N b i:Nat}{p dx mem pr pr':R_}{r r':Az}{m m':MA}{ms ms':List (Str×MA)}{Q:VK}
def FrW(p mem:R_)(H H':Hp):Prop:=∀b o,H b=some o->b≠p->b≠mem->H' b=some o
theorem FrW.kp(c:H p=some (.ins a.c_Jumps dx (jf5 g.p mem pr m.l m.kc)))(fr:FrW p mem H H'){x:R_}{o:HO}(e:H x=some o)(n:∀C d f,o≠.ins C d f)(y:x≠mem):H' x=some o:=fr x o e (λz=>by rw[z,c]at e;cases e;exact n _ _ _ rfl) y
theorem FrW.tup(d:H p=some (.ins a.c_Jumps dx (jf5 g.p mem pr m.l m.kc)))(c:H mem=some (.dK (mK ms)))(fr:FrW p mem H H'){x:R_}{xs:List V}(e:H x=some (.tup xs)):H' x=some (.tup xs):=FrW.kp d fr e B1 λz=>by rw[z,c]at e;cases e
theorem FrW.lst(d:H p=some (.ins a.c_Jumps dx (jf5 g.p mem pr m.l m.kc)))(c:H mem=some (.dK (mK ms)))(fr:FrW p mem H H'){x:R_}{xs:List V}(e:H x=some (.lst xs)):H' x=some (.lst xs):=FrW.kp d fr e B1 λz=>by rw[z,c]at e;cases e
theorem AY.chg(A:AY a H g G)(c:H p=some (.ins a.c_Jumps dx (jf5 g.p mem pr m.l m.kc)))(d:H mem=some (.dK (mK ms)))(I:mem≠g.am)(K:mem≠g.bx)(fr:FrW p mem H H'):AY a H' g G:=by
 obtain⟨at',ok,B,s,⟨ks,D,E⟩,⟨h,F,o⟩,j,k,L⟩:=A;obtain⟨f,M,⟨S,O,P⟩,n,R⟩:=at';have C:H' g.p=some (.ins a.c_Grove g.dx (fl6 g)):=by
  refine fr _ _ f (AG f c λz=>?_) λz=>by rw[z,d]at f;cases f
  injection z with _ _ z
  have:=Eo g;rw[z,Jc _ _ _ _ _ A1 A1 A1 A1 A1]at this;cases this
 refine⟨⟨C,fr.lst c d M,⟨S,fr.lst c d O,PairedM.imp (λt q z=>fr.tup c d z) P⟩,fr.kp c n B1 (λz=>by rw[z,d]at n;cases n),R⟩,ok,B,fr.lst c d s,⟨ks,fr.kp c D B1 (X6 I),E⟩,⟨h,fr.kp c F B1 (X6 K),o.keys,λi v e=>?_⟩,j,k,L⟩;obtain⟨l,b,t,u,w,x,y⟩:=o.val i v e;exact⟨l,b,t,u,w,x,fr.tup c d y⟩
theorem jchg(o:AY a H g G)(j:H p=some (.ins a.c_Jumps dx (jf5 g.p mem pr m.l m.kc)))(h:H mem=some (.dK (mK ms)))(l:ms.length<=10)(s:mem≠g.am)(t:mem≠g.bx)(n:∀e∈ms,H e.2.tp=some (.tup [.ref e.2.l,.ref e.2.kc]))(q:Ce a H pr' (Bc r') r')(k:∀(H':Hp)(m':MA)(ms':List (Str×MA)),FrW p mem H H'->AY a H' g G->H' p=some (.ins a.c_Jumps dx (jf5 g.p mem pr' m'.l m'.kc))->H' mem=some (.dK (mK ms'))->Ve H H' (Bc r') ms ms' m'->Q .non H'):SpChg a [.ref p,.ref pr'] H Q :=
 ⟨p,dx,mem,pr',_,_,r',ms,rfl,j,jf5_mem _ _ _ _ _,by rw[RW];show 5<=10;decide,h,by lia,n,q,λH' m' ms' fr d f c=>k H' m' ms' fr (o.chg j h s t fr) (by rw[jf5_put]at d;exact d) f c⟩
theorem FrW.nv(f:H p=some (.ins a.c_Jumps dx (jf5 g.p mem pr m.l m.kc)))(d:H mem=some (.dK (mK ms)))(fr:FrW p mem H H'):∀b o,H b=some o->Nv o->H' b=some o:=λb o e n=>fr b o e (λz=>by
 rw[z,f]at e;cases e;cases n with
 |ins h c =>
  rw[RW]at c;exact absurd c (by show ¬5<=3;decide)) λz=>by
 rw[z,d]at e;cases e;cases n
theorem Pk.nw(j:AY a H g G)(c:H m'.tp=none/\H m'.l=none/\H m'.kc=none/\∀d∈m'.ds,H d=none)(t:H' m'.tp=some (.tup [.ref m'.l,.ref m'.kc]))(u:H' m'.l=some (.lst (m'.ds.map V.ref)))(n:H' m'.kc=some (.dT []))(o:∀d∈m'.ds,H' d=some (.dK []))(v:m'.ds.length=47)(w:m'.ds.Nodup):Pk H' g G Κ N G.length r' m':=by
 obtain⟨y,f,_⟩:=j.am;obtain⟨A,h,_⟩:=j.bx;refine⟨(Ib.new (N:=0) (M:=0) j.at' c.2.1 c.2.2.1 t u n o v w).mono (J0 _) (J0 _),⟨λ_=>0,λe q s=>⟨[],o q (D0 s),rfl,Q0,λk x=>nomatch x⟩,S5 _ _,[],n,J0 _⟩,λz=>?_,λz=>?_⟩
 .rw[c.2.2.2 _ z]at f;cases f
 .rw[c.2.2.2 _ z]at h;cases h
theorem Pk.dj(h:Pk H g G Κ N b r m)(c:H m'.kc=none/\∀d∈m'.ds,H d=none):Dj m m':=by
 obtain⟨o,f,_⟩:=h.me.ce;refine⟨λz=>?_,λd l e=>?_⟩
 .rw[z,c.1]at f;cases f
 .obtain⟨j,n⟩:=F6 l;obtain⟨q,k,_⟩:=h.me.sq j d n;rw[c.2 d e]at k;cases k
theorem Dj.sym'(h:Dj m m'):Dj m' m:=⟨X6 h.1,λd e c=>h.2 d c e⟩
theorem ApZ.oth{x:R_}{o:HO}(ap:ApZ g m x)(e:H x=some o)(fr:∀y∈m'.l::m'.kc::m'.ds,H y=none):ApZ g m' x:=by
 have c:=ap.n0;have d:∀y∈m'.l::m'.kc::m'.ds,x≠y:=λy f z=>by rw[z,fr y f]at e;cases e
 refine⟨λz=>?_,λz=>d x (by simp[z]) rfl,ap.n2,d _ A6⟩;simp only[C2,D3,K6,A4b]at c z;rcases z with z|z|z|z|z|z
 .exact c.1 z
 .exact c.2.1 z
 .exact c.2.2.1 z
 .exact c.2.2.2.1 z
 .exact c.2.2.2.2.1 z
 .exact d _ A6 z
theorem Yp{d:Hp}(n:∀y∈zL g m,d y=none)(s:AC d H)(fr:∀y∈m'.l::m'.kc::m'.ds,H y=none):∀y∈zL g m',d y=none:=λy c=>by
 simp only[zL,List.cons_append,List.nil_append,C2]at c n;rcases c with rfl|rfl|rfl|rfl|rfl|rfl|c
 .exact n _ A6
 .exact n _ A6
 .exact n _ A6
 .exact n _ A6
 .exact n _ A6
 .exact AC.noneN s (fr _ A6)
 .exact AC.noneN s (fr _ (by simp[c]))
theorem cut_init(xs:List V)(y:V):Sg (xs++[y]) none (some (-1))=xs:=by
 have e:HT.sIx (xs++[y]).length (xs++[y]).length (some (-1))=xs.length:=by
  rw[C5];show HT.sIx (xs.length+1) (xs.length+1) (some (-1))=xs.length;unfold HT.sIx;simp
  try lia
 unfold Sg;rw[e];show List.take (xs.length-0) (xs++[y])=xs;rw[Nat.sub_zero,List.take_left'];rfl
theorem Pk.again(h:Pk H g G Κ N b r m)(j:H m.kc=some (.dT []))(o:∀d∈m.ds,H d=some (.dK [])):Pk H g G Κ N G.length r m :=
 ⟨⟨h.me.tp,h.me.l,h.me.ap,h.me.len,h.me.nd,λe d c=>⟨[],o d (D0 c),J0 _,λp s=>(nomatch s),λn v f=>by cases f⟩,⟨[],j,J0 _,λks v f=>by cases f⟩⟩,⟨λ_=>0,λe d c=>⟨[],o d (D0 c),rfl,Q0,λk q=>nomatch q⟩,S5 _ _,[],j,J0 _⟩,h.na,h.nb⟩
theorem ZS.again(h:ZS a H g G Κ N b p dx mem pr r m)(c:H m.kc=some (.dT []))(e:∀d∈m.ds,H d=some (.dK [])):ZS a H g G Κ N G.length p dx mem pr r m:=(h.pk.again c e).zs h.fu h.jz.jw.hp h.jz.jw.ru h.jz.jw.rok h.jz.jw.rest
theorem Pk.same(h:Pk H g G Κ N b r m)(c:AY a H g G)(s:AC H H'):Pk H' g G Κ N b r m:=by
 obtain⟨f,j⟩:=h.cn;exact⟨h.me.kp c.ok (AH.refl c.ok) λz o e _=>s _ _ e,⟨f,j.kp (i:=0) c.ok (AH.refl c.ok) (λd _ o e=>s _ _ e) λk e=>⟨k,s _ _ e,C1 _⟩⟩,h.na,h.nb⟩
theorem FrZ.emp(h:Pk H g G Κ N b r m){A n B d':R_}{s u:Nat}(zs:ZS a H g G Κ2 s u A n B d' r' m')(f:FrZ g m' H H')(dj:Dj m m')(c:H m.kc=some (.dT []))(o:∀d∈m.ds,H d=some (.dK [])):H' m.kc=some (.dT [])/\∀d∈m.ds,H' d=some (.dK []):=by
 have k:=zs.fu;obtain⟨F,q,_⟩:=k.at'.pt;obtain⟨C,t,_⟩:=k.am;obtain⟨D,v,_⟩:=k.bx;obtain⟨y,w,_⟩:=zs.jz.jw.me.ce;refine⟨f _ _ c (λz=>?_) (λz=>?_),λd l=>f _ _ (o d l) (λz=>?_) (dj.2 d l)⟩
 .simp only[C2,D3,K6]at z;rcases z with z|z|z|z|z|z
  .rw[z,k.at'.lv]at c;cases c
  .rw[z,q]at c;cases c
  .exact h.me.ap.2.2 z
  .rw[z,t]at c;cases c
  .rw[z,v]at c;cases c
  .exact dj.1 z
 .obtain⟨j,x⟩:=F6 z;obtain⟨E,e,_⟩:=zs.jz.jw.me.sq j _ x;rw[c]at e;cases e
 .have e:=o d l;simp only[C2,D3,K6]at z;rcases z with z|z|z|z|z|z
  .rw[z,k.at'.lv]at e;cases e
  .rw[z,q]at e;cases e
  .rw[z,k.at'.nm]at e;cases e
  .exact h.na (z▸l)
  .exact h.nb (z▸l)
  .rw[z,w]at e;cases e
def Wh(Κ:KTy)(B:Nat)(G:Gv)(r:Az)(m:MA)(Κ':KTy)(N' b':Nat)(m':MA)(ms':List (Str×MA)):Prop:=(m'=m/\r=[]/\Κ'=Κ/\N'=310000/\b'=B/\ms'=[(Bc r,m)])\/(Dj m m'/\N'=54000/\b'=G.length/\ms'=[(Bc r,m)]++[(Bc [],m')]/\Bc r≠Bc [])
theorem chg54{C:Hp}{h:KTy}{φ:D_}{M B:Nat}(zs:ZS a H g G Κ 310000 B p dx mem pr r m)(hB:B<=3300000)(fin:Gj Κ 310000)(R:ClK r Κ)(D:PN Κ r φ M)(s:Gj h 54000)(F:ClK [] h)(q:PN h [] φ M)(K:H mem=some (.dK (mK [(Bc r,m)])))(ap:ApZ g m mem)(P:∀y∈zL g m,C y=none)(s0:AC C H)(fr:FrW p mem H H')(t:AY a H' g G)(v:H' p=some (.ins a.c_Jumps dx (jf5 g.p mem pr' m'.l m'.kc)))(hR:Ce a H pr' (Bc []) [])(c:Ve H H' (Bc []) [(Bc r,m)] ms' m'):Pk H' g G Κ 310000 B r m/\(∀y∈zL g m',C y=none)/\ApZ g m' mem/\(∀{x o},ApZ g m x->H x=some o->ApZ g m' x)/\(∀e∈ms',H' e.2.tp=some (.tup [.ref e.2.l,.ref e.2.kc]))/\ms'.length<=10/\∃(f:KTy)(A E:Nat),ZS a H' g G f A E p dx mem pr' [] m'/\Gj f A/\ClK [] f/\PN f [] φ M/\E+10*A<=6990000/\Wh Κ B G r m f A E m' ms':=by
 have L:=zs.jz.jw.hp;have pk:Pk H' g G Κ 310000 B r m:=zs.pk.fr2 zs.fu L K ⟨_,_,_,rfl⟩ ap.n1 fr ⟨_,rfl⟩;have u:Ce a H' pr' (Bc []) []:=hR.kp (fr.nv L K);have z:Fb []:=⟨by decide,λc hc=>nomatch hc⟩
 have sz:=zs.jz.sz fin;cases c with
 |old n I =>
  have n:=C9.mp n;have S:Bc []=Bc r:=K5 (·.1) n;have T:m'=m:=K5 (·.2) n;have U:=YZ S.symm;subst T U I;exact⟨pk,P,ap,λa _=>a,λe k=>by rw[C9.mp k];exact pk.me.tp,by show 1<=10;decide,Κ,310000,B,pk.zs t v u z rfl,fin,R,D,by lia,.inl ⟨rfl,rfl,rfl,rfl,rfl,rfl⟩⟩
 |new n I d O V W X Y Z =>
  have j:∀y∈m'.l::m'.kc::m'.ds,H y=none:=λy w=>by
   rcases C2.mp w with rfl|w
   .exact d.2.1
   .rcases C2.mp w with rfl|w
    .exact d.2.2.1
    .exact d.2.2.2 y w
  have pn:Pk H' g G h 54000 G.length [] m':=Pk.nw zs.fu d O V W X Y Z;subst n;refine⟨pk,Yp P s0 j,ap.oth K j,λa e=>a.oth e j,λe k=>?_,by show 2<=10;decide,h,54000,G.length,pn.zs t v u z rfl,s,F,q,by lia,.inr ⟨zs.pk.dj ⟨d.2.2.1,d.2.2.2⟩,rfl,rfl,rfl,I _ (C9.mpr rfl)⟩⟩;rcases F1.mp k with k|k
  .rw[C9.mp k];exact pk.me.tp
  .rw[C9.mp k];exact O
theorem pk_road{B e h:Nat}{c:KTy}(pk:Pk H g G Κ 310000 B r m)(zs:ZS a H g G c e h p dx mem pr [] m')(f:FrZ g m' H H')(d:ZS a H' g G' c e (h+12000) p dx mem pr [] m')(j:AH G G' i)(fin:Gj c e)(k:Wh Κ B G r m c e h m' ms'):Pk H' g G' Κ 310000 (B+(12000+10*54000)) r m:=by
 rcases k with ⟨rfl,rfl,rfl,rfl,rfl,_⟩|⟨dj,rfl,rfl,_,_⟩
 .exact d.pk.mono (Nat.add_le_add_left A4 _)
 .exact pk.oth zs f d (j.len (D1 (d.jz.sz fin) (U9 (Nat.add_assoc _ _ _)))) dj
theorem ZS.nv(zs:ZS a H g G Κ N b p dx mem pr r m)(f:FrZ g m H H'):∀b o,H b=some o->Nv o->H' b=some o:=λ_ _ e nv=>zs.keep f e (by intro _ z;rw[z]at nv;cases nv) (by intro _ z;rw[z]at nv;cases nv) (by intro _ z;rw[z]at nv;cases nv)
theorem few6{b N:Nat}(c:b+10*N<=6990000):b+12000+10*N<7900000:=by lia
theorem few7{x b N:Nat}(h:x<=b+12000+10*N)(c:b+10*N<=6990000):x+100000+10*54000<7900000:=by lia
theorem back_m{B n o:Nat}{f:KTy}{j:MA}{e:List (Str×MA)}(c:Ve H H' (Bc r) ms' e j)(l:Wh Κ B G r m f n o m' ms'):j=m:=by
 cases c with
 |old d _ =>
  rcases l with ⟨_,_,_,_,_,rfl⟩|⟨_,_,_,rfl,k⟩
  .exact K5 (·.2) (C9.mp d)
  .rcases F1.mp d with d|d
   .exact K5 (·.2) (C9.mp d)
   .exact absurd (K5 (·.1) (C9.mp d)) k
 |new _ h =>
  rcases l with ⟨_,_,_,_,_,rfl⟩|⟨_,_,_,rfl,k⟩
  .exact absurd rfl (h _ (C9.mpr rfl))
  .exact absurd rfl (h (Bc r,m) A6)
end
seal L2.PA L2.PE L2.PS L2.PSs L2.PT L2.PW
def mdn(s:Nat):Nat:=if s<=7 then s-1 else 0
theorem mx54{z:Int}(q:Int)(a:0<=z)(b:z<4):∃d:Nat,z+(if(if q<9 then q else 9) > 0 then(if q<9 then q else 9)else 0)=(d:Int)/\d<=12:=by
 by_cases c:q<9
 .rw[Z9 c];by_cases y:q > 0
  .rw[Z9 y];exact⟨(z+q).toNat,by lia,by lia⟩
  .rw[Z6 y];exact⟨z.toNat,by lia,by lia⟩
 .rw[Z6 c,Z9 A4];exact⟨(9+z).toNat,by lia,by lia⟩
theorem nn_of{H:Hp}{g:GA}{m:MA}(ng:∀y∈Do g,H y=none)(fr:∀y∈m.l::m.kc::m.ds,H y=none):∀y∈[g.br,m.l]++zL g m,H y=none:=λy a=>by
 simp only[zL,List.cons_append,List.nil_append,C2]at a;rcases a with rfl|rfl|rfl|rfl|rfl|rfl|rfl|rfl|a
 .exact ng _ (by simp[Do])
 .exact fr _ A6
 .exact ng _ (by simp[Do])
 .exact ng _ (by simp[Do])
 .exact ng _ (by simp[Do])
 .exact ng _ (by simp[Do])
 .exact ng _ (by simp[Do])
 .exact fr _ A6
 .exact fr _ (by simp[a])
theorem zp54{a:Ad}{H b c:Hp}{g:GA}{h j:Gv}{Κ:KTy}{p d mem t o q k l:R_}{r:Az}{m f:MA}{b2 i:Nat}(fin:Gj Κ 310000)(u:ZS a H g h Κ 310000 (1000+16000+12000) p d mem t r m)(s:AC H b)(y:ZS a b g h Κ 310000 b2 o q k l r f)(v:FrZ g f b c)(e:ZS a c g j Κ 310000 (b2+95000) o q k l r f)(w:AH h j i)(x:(o=p/\q=d/\k=mem/\l=t/\f=m/\b2=29000)\/(b2=h.length/\Dj m f)):ZS a c g j Κ 310000 3230000 p d mem t r m:=by
 rcases x with ⟨rfl,rfl,rfl,rfl,rfl,rfl⟩|⟨rfl,dj⟩
 .exact e.mono A4
 .exact((u.same s).oth y v e (w.len (n:=95000+10*310000) (D1 (e.jz.sz fin) (U9 (Nat.add_assoc _ _ _)))) dj).mono A4
section
variable{P:N_}{w:Q_}{K:O_}{mg:C_}{base:T_}{a:Ad}
theorem ok_law(F:Fun K "law" "law" YX f fd)(T:Top K mg a)(dD:Sx P w K mg base CX0 2 "Grove" a.c_Grove IW (Rk a))(aB:Cal P w K mg base CX0 1 "_law_at" WR (WB K))(bB:Cal P w K mg base CX0 4 "_law_clauses_by" Ek (spCs K))(cO:Cal P w K mg base CX0 2 "_law_text" JI spTx)(bY:Cal P w K mg base CX0 2 "_law_map_by" LE (Uh K))(aY:Cal P w K mg base CX0 1 "_law_glide_text" Ej YQ)(bT:Cal P w K mg base CX0 8 "read_rule" GR (spRR a))(bU:Cal P w K mg base CX0 1 "_law_base" Pm Ur)(cP:Cal P w K mg base CX0 2 "_law_heap" JJ (Um K))(bZ:Cal P w K mg base CX0 5 "_law_listed" GU YN)(cR:Cal P w K mg base CX0 56 "field_of" LU (YR a))(cT:Sx P w K mg base CX0 3 "Jumps" a.c_Jumps RL (Ri a))(cK:Cal P w K mg base CX0 150 "road" Uy (Vr a))(dH:Cal P w K mg base CX0 151 "jump" Uy (YO a))(bH:Cal P w K mg base CX0 151 "_law_walked" GS (YD a))(aR:BD P w K mg base CX0 2 a.c_Jumps "change" El (Vv a)):AK P w K mg base CX0 152 f fd p_law (Vu K):=by
 refine F.ok Cv (λvs H Q E h=>?_) (λi1 A h3 s H vs Q E B h=>?_)
 .apply AL;intro G_ k;obtain⟨l,ns,rfl,_⟩:=h;apply k;clear k G_;rfl
 .apply AL;intro G_ k;obtain⟨l,ns,rfl,hS,ie,kq⟩:=h;apply k;clear k G_;refine⟨_,(Ac (Ao (i:=1) Cv.nd rfl O_9 (Ar cO (rm B) rfl Am (Aa (Ar bB (rm B) rfl Am (Aa (pv 0) (AI (Bl Bb (Ar aB (rm B) rfl Am (Aa (pv 0) (AI Ab))) Ae Ab)))) Ab))) (Ac (Ao (i:=2) Cv.nd rfl O_9 (AA Bb (Ar aB (rm B) rfl Am (Aa (pv 0) (AI Ab))) Ae)) (Ac (AM (Ay CG (AA Bb (Ar aB (rm B) rfl Am (Aa (pv 0) (AI Ab))) Ae) Ae (AE _)) (Ac (Ao (i:=1) Cv.nd rfl O_9 (Ar aY (rm B) rfl Am (Aa (Ar bY (rm B) rfl Am (Aa (pv 0) (AI Ab))) (Bl Bb (Ar aB (rm B) rfl Am (Aa (pv 0) (AI Ab))) Ae Ab)))) (Ac (Ao (i:=2) Cv.nd rfl O_9 (AA IZ (AA Bb (Ar aB (rm B) rfl Am (Aa (pv 0) (AI Ab))) Ae) (AA Bb (Ar aB (rm B) rfl Am (Aa (pv 0) (AI Ab))) Ae))) (Af (AM (Ay CG (AA Bb (AA DF (Ar aB (rm B) rfl Am (Aa (pv 0) (AI Ab))) Ae) Ae) Ae (AE _)) (Ac (Ao (i:=1) Cv.nd rfl O_9 (Ar aY (rm B) rfl Am (Rv (AI (AI (AI (AI (AI (AI (AI (AI Ab)))))))) (Bl Bb (Ar aB (rm B) rfl Am (Aa (pv 0) (AI Ab))) Ae Ab)))) (Af (Ao (i:=2) Cv.nd rfl O_9 (AA Bb (Ar aB (rm B) rfl Am (Aa (pv 0) (AI Ab))) Ae)))) AB)))) AB) (Ac (Ao (i:=3) Cv.nd rfl O_9 (AA AQ (AA Bb (Ar aB (rm B) rfl Am (Aa (pv 0) (AI Ab))) Ae) (AO (Yl rfl) rfl T.b_max A4g (AI (Aa (AO (QO rfl) rfl T.b_min A3g (AI (Bl BJ (AO BC rfl T.b_len K9 (Aa (pv 0) Ab)) Ae Ab))) Ab))))) (Ac (Ao (i:=4) Cv.nd rfl O_9 (Ar bU (rm B) rfl Am (Aa (Ar aB (rm B) rfl Am (Aa (pv 0) (AI Ab))) Ab))) (Ac (Ao (i:=5) Cv.nd rfl O_9 (Ar cP (rm B) rfl Am (Aa (pv 0) (AI (Aa (pv 3) (Aa (pv 4) (Aa (Ar bU (rm B) rfl Am (Aa (Ar aB (rm B) rfl Am (Aa (pv 0) (AI Ab))) Ab)) Ab))))))) (Ac (Ao (i:=6) Cv.nd rfl O_9 (Zi dD (rm B) rfl Am)) (Ac (Ao (i:=7) Cv.nd rfl O_9 (Ar bT (rm B) rfl Am (Aa (pv 1) Ab))) (Ac (Ao (i:=8) Cv.nd rfl O_9 (IJ cT (rm B) rfl Am (Aa (pv 6) (Aa (pv 7) Ab)))) (Ac (Ao (i:=9) Cv.nd rfl O_9 (Ar cR (rm B) rfl Am (Aa (pv 6) (Aa (Ar bZ (rm B) rfl Am (Aa (pv 5) Ab)) Ab)))) (Ac (Ao (i:=10) Cv.nd rfl O_9 (Ar cK (rm B) rfl Am (Aa (pv 8) (Aa (pv 9) (Aa (pv 2) Ab))))) (Ac (Ao (i:=11) Cv.nd rfl O_9 (pv 8)) (Ac (Ao (i:=12) Cv.nd rfl O_9 (JD (Dc Dk (AA Bb (Ar aB (rm B) rfl Am (Aa (pv 0) (AI Ab))) Ae) Ae (AE _)) (LS (Dc Dk (AA Bb (Ar aB (rm B) rfl Am (Aa (pv 0) (AI Ab))) Ae) Ae (AE _))))) (Ac (AM (Ch (pv 12)) (Af (Ao (i:=11) Cv.nd rfl O_9 (IJ cT (rm B) rfl Am (Aa (pv 6) (Aa (pv 7) Ab))))) AB) (Ac (Ao (i:=13) Cv.nd rfl O_9 (Ar bH (rm B) rfl Am (Aa (pv 6) (Aa (pv 11) (Aa (pv 10) (Aa (pv 9) (Aa (pv 2) Ab))))))) (Ac (AM (PW.pt (Jo (Ay Ja (pv 13) Cy (AE _)) (Fl (Ay Dk (Ar dH (rm B) rfl Am (Aa (pv 8) (Aa (pv 9) (Aa (pv 2) Ab)))) (pv 13) (AE _))))) (Af (Au LB)) AB) (Ac (Bm (CF X7 X8 X9 Bw (pv 10) (Br (Aa (pv 9) (AI (Aa (pv 9) Ab))) Ab))) (Ac (AM (Ch (pv 12)) (Ac (Ao (i:=14) Cv.nd rfl O_9 (Ar bT (rm B) rfl Am (LT Ab))) (Ac (Bm (AD (pv 8) aR (rm B) Am (Aa (pv 14) Ab))) (Ac (AM (Ay Dk (Ar bH (rm B) rfl Am (Aa (pv 6) (Aa (IJ cT (rm B) rfl Am (Aa (pv 6) (Aa (pv 14) Ab))) (Aa (Ar cK (rm B) rfl Am (Aa (pv 8) (Aa (pv 9) (Aa (pv 2) Ab)))) (Aa (pv 9) (Aa (pv 2) Ab)))))) (pv 9) (AE _)) (Af (Au LB)) AB) (Af (Bm (AD (pv 8) aR (rm B) Am (Aa (pv 7) Ab))))))) AB) (Af (Au (Dc (Th B.units) (Ar cK (rm B) rfl Am (Aa (pv 8) (Aa (pv 9) (Aa (pv 2) Ab)))) (OX Rn (pv 10) VH (On (LA GC Ae))) (AE _)))))))))))))))))))))),?_⟩
  try dsimp only[cxK]
  refine AW ?_;intro r1 s1 k1 g5 E1;refine xw2 rfl rfl ⟨l,ns,9,rfl,hS,by decide,(xq2 rfl rfl ⟨(by show(0:Int)<7;decide),l,ns,0,atN ns 9%7,rfl,hS,by decide,by lia,by lia,λqc r H1 gc fi rok bz h5 h6=>?_⟩)⟩;refine⟨qc,r,rfl,fi,rok,λH2 gi=>?_⟩;refine g5 ?_;have cg:=gc.trans gi;have b3:=cg.seq hS;clear gc gi fi;refine AW ?_;intro r2 s2 k2 g6 E2;obtain⟨n,hn⟩:=F8 (Q6 (atN ns 10) (by decide:(8:Int)≠0));have n7:n<=7:=by have:=N8 (atN ns 10) (by decide:(0:Int)<8);lia
  refine xq1 rfl ⟨l,ns,10,rfl,b3,by decide,(xq2 rfl rfl ⟨B5,?_⟩)⟩;rw[show(λi j:Int=>V.int (i%j)) _ _=V.int (n:Int)from K5 V.int hn];clear hn;refine g6 ?_;refine AW ?_;intro r3 s3 k3 g7 E3;apply MD (T:=k3) (fun σ' H5=>∃(R:Az)(W:Nat),σ'=[some (.ref l),some (.str (Bc R)),some (.int (W:Int)),none,none,none,none,none,none,none,none,none,none,none,none]/\AC H H5/\Bd4 R W)
  .intro C;refine xq1 rfl ⟨l,ns,8,rfl,b3,by decide,(xq2 rfl rfl ⟨B7,rfl,(xq1 rfl (Er (λ_=>?_) (λ_=>C _ _ ⟨r,n,rfl,cg,bd4_gen rok bz n7⟩)))⟩)⟩;obtain⟨ww,fj⟩:=F8 (Q6 (atN ns 9) (by decide:(9:Int)≠0));have w9:ww<=8:=by have:=N8 (atN ns 9) (by decide:(0:Int)<9);lia
   refine AW ?_;intro r4 s4 k4 dm E4;refine xq1 rfl ⟨l,ns,0,rfl,b3,by decide,λL M H3 gj m0 m7 hL=>?_⟩;refine xq1 rfl ⟨l,ns,9,rfl,gj.seq b3,by decide,(xq2 rfl rfl ⟨(by show(0:Int)<9;decide),L,M,ww,by rw[<-fj];rfl,w9,m7,hL,λH4 h8=>?_⟩)⟩;have du:=(cg.trans gj).trans h8;have cd:=du.seq hS;refine dm ?_;refine AW ?_;intro r5 s5 k5 dn E5;obtain⟨u,hu⟩:=F8 (Q6 (atN ns 10) (by decide:(16:Int)≠0));have h9:u<=15:=by have:=N8 (atN ns 10) (by decide:(0:Int)<16);lia
   obtain⟨v,hv⟩:=F8 (Q6 (atN ns 11) (by decide:(13:Int)≠0));have ia:v<=12:=by have:=N8 (atN ns 11) (by decide:(0:Int)<13);lia
   refine xq1 rfl ⟨l,ns,10,rfl,cd,by decide,(xq2 rfl rfl ⟨(by show(0:Int)<16;decide),(xq1 rfl ⟨l,ns,11,rfl,cd,by decide,(xq2 rfl rfl ⟨(by show(0:Int)<13;decide),(u:Int),(v:Int),K5 V.int hu,K5 V.int hv,⟨by lia,by lia,by lia⟩,?_⟩)⟩)⟩)⟩;rw[show(λi j:Int=>V.int (i*2^j.toNat)) (u:Int) (v:Int)=V.int ((u*2^v:Nat):Int)from K5 V.int (by rw[J3,O3,L8];rfl)];have lt:u*2^v<2^24:=F3 (Nat.mul_le_mul h9 (L9 (show 0<2 by decide) ia)) A4;have pu:pc (u*2^v)<=6:=by rw[pc_sh];exact D1 (Zj (b:=4) A0) A4
   refine dn ?_;refine xq1 rfl ⟨l,ns,9,rfl,cd,by decide,(xq2 rfl rfl ⟨⟨by decide,by decide⟩,(xq2 rfl rfl ⟨B2,rfl,(xq1 rfl (Er (λ_=>?_) (λ_=>C _ _ ⟨glR M ww,u*2^v,rfl,du,bd4_gl m0 m7 w9 lt pu⟩)))⟩)⟩)⟩;refine AW ?_;intro r6 s6 k6 dp E6;refine⟨(by show 8<=sizeLine;decide),λL2 hm=>?_⟩;generalize e5:upd H4 L2 _=H5;obtain⟨au,di⟩:=alc hm e5;refine xq1 rfl ⟨l,ns,9,rfl,au.seq cd,by decide,(xq2 rfl rfl ⟨(by show(0:Int)<9;decide),L2,mdn,ww,by rw[<-fj];rfl,w9,(λs=>by unfold mdn;split<;>lia),di,λH6 bi=>?_⟩)⟩;have gl:=(du.trans au).trans bi;refine dp ?_;obtain⟨u',hg⟩:=F8 (Q6 (atN ns 10) (by decide:(64:Int)≠0));have ke:u'<=63:=by have:=N8 (atN ns 10) (by decide:(0:Int)<64);lia
   refine xq1 rfl ⟨l,ns,10,rfl,gl.seq hS,by decide,(xq2 rfl rfl ⟨(by show(0:Int)<64;decide),?_⟩)⟩;rw[show(λi j:Int=>V.int (i%j)) _ _=V.int (u':Int)from K5 V.int hg];exact C _ _ ⟨glR mdn ww,u',rfl,gl,bd4_gl rfl (λs=>by unfold mdn;split<;>lia) w9 A0 (Zj (b:=6) A0)⟩
  .rintro σ' H5 ca;apply AL;intro G_ k;obtain⟨R,W,rfl,au,bd⟩:=ca;apply k;clear k G_;clear cg b3 rok bz h5 h6 n7;refine g7 ?_;have bf:=au.seq hS;refine AW ?_;intro r4 s4 k4 dm E4;obtain⟨my,ff,ii⟩:∃my:Nat,_=(my:Int)/\my<=12:=mx54 ((ns.map V.int).length-15) (Q6 (atN ns 14) (by decide:(4:Int)≠0)) (N8 (atN ns 14) A4);refine xq1 rfl ⟨l,ns,14,rfl,bf,by decide,(xq2 rfl rfl ⟨B3,(xq1 rfl ⟨l,(xq1 rfl ⟨.inl bf,(xq2 rfl rfl ⟨_,_,rfl,_,_,rfl,(xq2 rfl rfl ?_)⟩)⟩)⟩)⟩)⟩;rw[show(λi j:Int=>V.int (i+j)) _ _=V.int (my:Int)from K5 V.int ff];clear ff;refine dm ?_;refine AW ?_;intro r5 s5 k5 dn E5;refine xq1 rfl ⟨l,ns,12,rfl,bf,by decide,_,rfl,λlx x1 x2=>?_⟩;refine dn ?_;refine AW ?_;intro r6 s6 k6 dp E6;refine xq1 rfl (xq1 rfl (xq1 rfl (xq1 rfl ⟨l,ns,13,rfl,bf,by decide,_,rfl,λly y1 y2=>?_⟩)));refine⟨l,ns,15,lx,ly,my,rfl,bf,by decide,by lia,by lia,by lia,by lia,by lia,λD ds Hd sd nD hD dd=>?_⟩;refine dp ?_;refine AW ?_;intro r7 s7 k7 g8 E7;refine λx gx nx hw jm=>⟨x,gx,rfl,Ag,λg H6 eo N=>⟨rfl,?_⟩⟩
   have bi:AC Hd H6:=λb o e=>N.kp b o (by rw[Av (Aw e nx),Av (Aw e hw)];exact e) (eo▸Aw e nx);subst eo;have db:=AY.new N;have ng:=N.none;clear N;have dv:=au.trans sd;have fn:H D=none:=AC.noneN au nD;refine g8 ?_;refine AW ?_;intro r8 s8 k8 g9 E8;refine xq1 rfl ⟨R,rfl,bd.ro,bd.re,λpr H7 bj hR=>?_⟩;refine g9 ?_;generalize cf:stC ds=φ;have dr:∀u v,φ u v≠0->lx<=u/\u<lx+6/\ly<=v/\v<ly+3:=λu v z=>stC_in dd (by rw[cf];exact z);have h7:∀x y,φ x y<=7:=λx y=>by rw[<-cf];exact stC_7 dd x y
   apply AL;intro G_ k;obtain⟨Κ,fin,cl,br⟩:=bd.ex φ lx ly h7 dr;obtain⟨gs,bu,d9,ck⟩:=YA h7 dr W;apply k;clear k G_;have lb:=bd.le;have nr:Ub φ W:=λx y z=>by have:=dr x y z;lia
   refine AW ?_;intro r9 s9 k9 ha E9;refine xw2 rfl rfl (λp as np ht hz=>jnew (Κ:=Κ) (N:=310000) (b:=1000) (db.same bj) bd.ro bd.re hR np ht hz (by rw[Sa];decide) λH8 mem m gk dz ef fe f0 h0 _=>⟨rfl,?_⟩);have dw:AC Hd H8:=(bi.trans bj).trans gk;have dh:=dw _ _ hD;refine ha ?_;refine AW ?_;intro jn j3 ja ey ij;refine xw2 rfl rfl ⟨D,ds,rfl,.inl dh,dd.nd,by have:=dd.len;lia,λo1 L1 kd i5 d0 fo _ fp ep f7 f5=>?_⟩;have n1:=nn_of ng λy hy=>AC.noneN (bi.trans bj) (ef y hy);have fx:=fo.fx (.inl dh);have fz:∀{x:R_},Hd x=none->x∉[D]:=λ{x} n z=>by
    rw[C9.mp z,hD]at n;cases n
   have ch:=dz.fx fx λx hx=>fz (n1 x hx);have c4:AC H d0:=AC.fxn (dv.trans dw) fx λy hy=>by rw[C9.mp hy];exact fn
   have ei:=db.same bj;have G:∀y∈Do g,mem≠y:=λy hy z=>by
    obtain⟨o,e⟩:=ei.nw.s y hy;rw[<-z,f0]at e;cases e
   have cw:d0 mem=some (.dK (mK [(Bc R,m)])):=fo _ _ fe λz=>by
    have:=(bi.trans bj) _ _ hD;rw[<-z,f0]at this;cases this
   refine fld_fv ch.fu ep (Ap.new dz.fu.at' fp) f7 f5 dd.dk (λc hc=>(dd.ok c hc).1.1) (by have:=dd.len;lia) (by rw[Sa];decide) λf1 G1 gt ay co cr fv=>?_;have av:=ch.fr ay co cr;have bg:∀y∈zL g m,H y=none:=λy hy=>AC.noneN dv (n1 y (F1.mpr (.inr hy)));have b8:AC H gt:=AC.fxn c4 (FrZ.fx ch (Fr.z ay)) bg;have ba:=ay _ _ cw (G _ (by simp[Do])) (G _ (by simp[Do])) (G _ (by simp[Do]));rw[cf]at fv;clear fx fz ch fo ep f7 f5 fp ay cr co dz c4 dw dh ei db cw fe ef n1 dv ng dd cf hD nD fn sd au bi bj gk bf hR;have aj:ApZ g m mem:=by
    obtain⟨kc,c1,_⟩:=av.jz.jw.me.ce;refine⟨λz=>?_,h0,G _ (by simp[Do]),λz=>by have:=av.jz.jw.me.l;rw[<-z,ba]at this;cases this⟩;simp only[C2,D3,K6]at z;rcases z with z|z|z|z|z|z
    .exact G _ (by simp[Do]) z
    .exact G _ (by simp[Do]) z
    .exact G _ (by simp[Do]) z
    .exact G _ (by simp[Do]) z
    .exact G _ (by simp[Do]) z
    .rw[<-z,ba]at c1;cases c1
   refine ey ?_;refine AW ?_;intro jo j4 jb ez ik;apply AL;intro G_ k;obtain⟨nf,bh,lf,tr,hf⟩:=id fv.ex;apply k;clear k G_;refine xw3 rfl rfl rfl ⟨p,as,mem,pr,g,G1,Κ,φ,310000,_,R,m,f1,nf,W,rfl,av,fin,cl,br,lf,bh,tr,hf,nr,by lia,λL ts G2 da i2 bv aa cs nL hL ⟨J,rd⟩=>?_⟩;have ai:=av.ap nL;have dc:=fv.app av.fu.ok cs;have bc:AC H da:=AC.fxn b8 (FrZ.fx av bv) bg;have b4:=bv _ _ ba aj.n0 aj.n1;have g4:H L=none:=AC.noneN b8 nL;clear lf tr hf fv b8 ba bv cs nL av bh;refine ez ?_;refine AW ?_;intro jp j5 jc e0 il;refine xq1 rfl (e0 ?_);refine AW ?_;intro jq j6 hh e1 im;have b1:=bc.seq hS;apply MD (T:=hh) (fun σ' H'=>∃cb:Bool,σ'=[some (.ref l),some (.str (Bc R)),some (.int (W:Int)),some (.int (my:Int)),some (.int lx),some (.ref D),some (.ref g.p),some (.ref pr),some (.ref p),some (.int (f1:Int)),some (.ref L),some (.ref p),some (.bl cb),none,none]/\da=H')
   .intro C;exact xq1 rfl ⟨l,ns,12,rfl,b1,by decide,(xq2 rfl rfl ⟨B3,rfl,(xq1 rfl (Er (λ_=>(xq1 rfl ⟨l,ns,13,rfl,b1,by decide,(xq2 rfl rfl ⟨B3,rfl,C _ _ (xq1 rfl rfl)⟩)⟩)) (λ_=>C _ _ ⟨false,rfl,rfl⟩)))⟩)⟩
   rintro σ' H' ⟨cb,rfl,rfl⟩;refine e1 ?_;have c8:=aa.jz.sz fin;refine AW ?_;intro jt j7 hi e2 io;apply MD (T:=hi) (fun σ' H'=>∃(o' q dq mq:R_)(b2:Nat)(m2:MA),σ'=[some (.ref l),some (.str (Bc R)),some (.int (W:Int)),some (.int (my:Int)),some (.int lx),some (.ref D),some (.ref g.p),some (.ref pr),some (.ref p),some (.int (f1:Int)),some (.ref L),some (.ref o'),some (.bl cb),none,none]/\AC da H'/\ZS a H' g G2 Κ 310000 b2 o' q dq mq R m2/\b2+100000+10*310000<7900000/\ApZ g m2 L/\ApZ g m2 mem/\(∀y∈zL g m2,H y=none)/\((o'=p/\q=as/\dq=mem/\mq=pr/\m2=m/\b2=29000)\/(b2=G2.length/\Dj m m2)))
   .intro C;refine xw2 rfl rfl (Er (λ_=>?_) (λ_=>C _ _ ⟨p,as,mem,pr,29000,m,rfl,AC.refl _,aa.mono A4,by decide,ai,aj,bg,.inl ⟨rfl,rfl,rfl,rfl,rfl,rfl⟩⟩));exact xw2 rfl rfl (λp2 eb h1 fq fw=>jnew (Κ:=Κ) (N:=310000) (b:=G2.length) aa.fu bd.ro bd.re aa.jz.jw.ru h1 fq fw (C1 _) λd1 fk m2 ge gr ak _ _ _ _=>⟨rfl,C _ _ ⟨p2,eb,fk,pr,G2.length,m2,rfl,ge,gr,F3 (Y7 (Y7 c8 _) _) A4,ai.oth hL ak,aj.oth b4 ak,Yp bg bc ak,.inr ⟨rfl,aa.pk.dj ⟨ak _ A6,λd hd=>ak d (by simp[hd])⟩⟩⟩⟩)
   rintro σ' d1 ca;apply AL;intro G_ k;obtain⟨o',q,dq,mq,b2,m2,rfl,X,zo,cm,ax,bq,fm,wh⟩:=ca;apply k;clear k G_;refine e2 ?_;have b6:Rd5 d1 G2 R φ W J ts:=⟨rd.rd.app aa.fu.ok (AH.refl aa.fu.ok) (λt xs e=>X _ _ e),rd.st,rd.j40⟩
   refine AW ?_;intro ju j8 jd e3 ip;refine xw3 rfl rfl rfl (xw2 rfl rfl ⟨o',q,dq,mq,g,G2,Κ,φ,310000,b2,R,m2,W,J,L,ts,f1,rfl,zo,fin,cl,br,nr,dc,X _ _ hL,ax,b6,cm,λd G3 d2 i3 ab gp a6 el=>?_⟩);have zp:=zp54 fin aa X zo ab gp a6 wh;have c5:AC H d2:=AC.fxn (bc.trans X) (FrZ.fx zo ab) fm;have cx:=ab _ _ (X _ _ b4) bq.n0 bq.n1;have ct:=ab _ _ (X _ _ hL) ax.n0 ax.n1;have bb:Rd5 d2 G3 R φ W J ts:=⟨b6.rd.app zo.fu.ok a6 (λ_ _=>zo.tup ab),rd.st,rd.j40⟩
   have de:=dc.app aa.fu.ok a6;clear b6 rd dc aa zo gp wh fm ax bq ab a6 X b4 hL bc b1 c8 cm;refine e3 ?_;refine AW ?_;intro jv gf je e4 iq;have es:gf=[some (.ref l),some (.str (Bc R)),some (.int (W:Int)),some (.int (my:Int)),some (.int lx),some (.ref D),some (.ref g.p),some (.ref pr),some (.ref p),some (.int (f1:Int)),some (.ref L),some (.ref o'),some (.bl cb),some (.int (d:Int)),none]:=rfl
   clear_value gf
   subst es;refine xq1 rfl ⟨rfl,(xq1 rfl ?_)⟩;refine ifF (Z8 A3) ?_;refine xw3 rfl rfl rfl ⟨p,as,mem,pr,g,G3,Κ,φ,310000,3230000,R,m,f1,W,rfl,zp,fin,cl,br,de,nr,by decide,λd' G4 cc i4 am bm a7 cp=>?_⟩;have ed:d'=d:=by
    obtain⟨rg,eg⟩:=bm.fu.g0;exact Fv.eq eg bm.fu.ok cp (el.app zp.fu.ok a7) λ_ _=>rfl
   subst ed;refine xq1 rfl ⟨rfl,(xq1 rfl (JY rfl (e4 ?_)))⟩;have c6:AC H cc:=AC.fxn c5 (FrZ.fx zp am) bg;have b5:=am _ _ cx aj.n0 aj.n1;have bw:=am _ _ ct ai.n0 ai.n1;have af:Rd5 cc G4 R φ W J ts:=⟨bb.rd.app zp.fu.ok a7 (λ_ _=>zp.tup am),bb.st,bb.j40⟩
   have df:=de.app zp.fu.ok a7;clear bb de el cp zp am a7 cx ct c5;refine AW ?_;intro jx gg jf e7 ir;have es:gg=[some (.ref l),some (.str (Bc R)),some (.int (W:Int)),some (.int (my:Int)),some (.int lx),some (.ref D),some (.ref g.p),some (.ref pr),some (.ref p),some (.int (f1:Int)),some (.ref L),some (.ref o'),some (.bl cb),some (.int (d':Int)),none]:=rfl
   clear_value gg
   subst es;refine xq1 rfl ⟨.inl ⟨rfl,_,SqL.of bw⟩,?_⟩;refine xw2 rfl rfl ⟨S_3,λt9 f2=>?_⟩;generalize ee:upd cc t9 _=be;obtain⟨O,hb⟩:=alc f2 ee;have an:=O _ _ bw;have tl:=af.rd.len;have i9:=af.j40;refine⟨L,(xq2 rfl rfl ⟨an,by rw[B8];exact Eu A0,?_⟩)⟩;have b9:=(bm.same O).putL (o:=.lst (ts.map V.ref++[.ref t9])) an ai;have bx:upd be L (.lst (ts.map V.ref++[.ref t9])) L=some (.lst (ts.map V.ref++[.ref t9])):=Ag;have c9:∀t xs,cc t=some (.tup xs)->upd be L (.lst (ts.map V.ref++[.ref t9])) t=some (.tup xs):=λt xs e=>by rw[Av (AG (O _ _ e) an A3)];exact O _ _ e
   have cy:upd be L (.lst (ts.map V.ref++[.ref t9])) mem=some (.dK (mK [(Bc R,m)])):=by rw[Av (AG (O _ _ b5) an A3)];exact O _ _ b5
   have c7:AC H (upd be L (.lst (ts.map V.ref++[.ref t9]))):=λb o e=>by rw[Av (Aw e g4)];exact O _ _ (c6 _ _ e)
   have aq:Rd5 (upd be L (.lst (ts.map V.ref++[.ref t9]))) G4 R φ W J ts:=⟨af.rd.app bm.fu.ok (AH.refl bm.fu.ok) c9,af.st,af.j40⟩
   generalize upd be L (.lst (ts.map V.ref++[.ref t9]))=iy at b9 bx cy c7 aq⊢;clear c9 an bw af b5 c6 bm O hb f2 ee;refine e7 ?_;refine AW ?_;intro jy gh hj e9 iu;have es:gh=[some (.ref l),some (.str (Bc R)),some (.int (W:Int)),some (.int (my:Int)),some (.int lx),some (.ref D),some (.ref g.p),some (.ref pr),some (.ref p),some (.int (f1:Int)),some (.ref L),some (.ref o'),some (.bl cb),some (.int (d':Int)),none]:=rfl
   clear_value gh
   subst es;apply MD (T:=hj) (fun σ' H'=>∃(go:Option V)(G5:Gv),σ'=[some (.ref l),some (.str (Bc R)),some (.int (W:Int)),some (.int (my:Int)),some (.int lx),some (.ref D),some (.ref g.p),some (.ref pr),some (.ref p),some (.int (f1:Int)),some (.ref L),some (.ref o'),some (.bl cb),some (.int (d':Int)),go]/\ZS a H' g G5 Κ 310000 4600000 p as mem pr R m/\H' L=some (.lst (ts.map V.ref++[.ref t9]))/\Rd5 H' G5 R φ W J ts/\Fv G5 f1 φ)
   .intro C;refine xw2 rfl rfl (Er (λ_=>?_) (λ_=>C _ _ ⟨none,G4,rfl,b9.mono A4,bx,aq,df⟩));refine AW ?_;intro j0 j9 jg fa iv;have gb:Fb []:=⟨by decide,λc hc=>nomatch hc⟩
    refine⟨[],rfl,gb,rfl,λf6 iz ag dl=>?_⟩;have bn:=b9.same ag;have ac:=ag _ _ cy;have b0:=ag _ _ bx;refine fa ?_;refine AW ?_;intro j1 ka jh fb iw;have ad:=bn.jz.jw.hp;refine xwn rfl rfl ad (Pe _ _ _ _ _) rfl (jchg bn.fu ad ac (by show 1<=10;decide) (G _ (by simp[Do])) (G _ (by simp[Do])) (λe he=>by rw[C9.mp he];exact bn.jz.jw.me.tp) dl λd3 m' hl al S fg cz c=>?_);obtain⟨c0,_,bp,d6,gm,hk,ic,N',b',dx,bt,gw,d7,ew,wh⟩:=chg54 bn A4 fin cl br bu d9 ck ac aj bg (c7.trans ag) al S fg dl c;have cu:=al.lst ad ac b0;have bo:=d6 ai b0;have ev:=bn.jz.jw.ru.kp (al.nv ad ac);have f8:=aq.rd.app b9.fu.ok (AH.refl b9.fu.ok) λ_ _ e=>al.tup ad ac (ag _ _ e);clear c d6 ac b0 ad al bn ag dl;refine fb ?_;refine AW ?_;intro j2 kb ji fc ix;refine xw3 rfl rfl rfl (λp3 ec h2 ft fy=>jnew (Κ:=gs) (N:=54000) (b:=G4.length) S gb rfl dx.jz.jw.ru h2 ft fy (C1 _) λgu fl m3 Y dy az _ _ _ em=>⟨rfl,?_⟩);have Z:=dx.same Y;apply AL;intro G_ k;obtain⟨nf,bh,lf,tr,hf⟩:=id df.ex;apply k;clear k G_;refine xw3 rfl rfl rfl ⟨p,as,mem,f6,g,G4,ic,φ,N',b',[],m',f1,nf,W,rfl,Z,bt,gw,d7,lf,bh,tr,hf,nr,few6 ew,λL7 ib G7 d5 i7 I aw a8 hs g3 ⟨J7,h4⟩=>?_⟩;have cn:d3 m3.kc=none/\∀d∈m3.ds,d3 d=none:=⟨az _ A6,λd hd=>az d (by simp[hd])⟩
    have ea:=(dx.pk.dj cn).sym';obtain⟨gz,g1⟩:=FrZ.emp dy.pk Z I ea em.1 em.2;have ah:=(dy.oth Z I aw a8 ea).again gz g1;have dg:=df.app S.ok a8;refine xw2 rfl rfl ⟨p3,ec,fl,f6,g,G7,gs,φ,54000,G7.length,[],m3,W,J7,L7,ib,f1,rfl,ah,bu,d9,ck,nr,dg,g3,dy.ap hs,h4,few7 (aw.jz.sz bt) ew,λd8 G8 gv i8 U ar a9 ek=>?_⟩;have e8:d8=f1:=by
     obtain⟨rg,eg⟩:=ar.fu.g0;rw[Rc]at ek;exact Fv.eq eg ar.fu.ok ek (dg.app aw.fu.ok a9) λ_ _=>rfl
    subst e8;refine xq1 rfl ⟨rfl,(xq1 rfl (JY rfl (fc ?_)))⟩;have ae:=ah.keep U aw.jz.jw.hp B0 B0 B0;have cj:=bp.oth cz az;have ao:=U _ _ (I _ _ (Y _ _ cz) bp.n0 bp.n1) cj.n0 cj.n1;have ci:=bo.oth cu az;have eu:=U _ _ (I _ _ (Y _ _ cu) bo.n0 bo.n1) ci.n0 ci.n1;have cv:=((ev.same Y).kp (Z.nv I)).kp (ah.nv U);have gn:∀e∈hl,gv e.2.tp=some (.tup [.ref e.2.l,.ref e.2.kc]):=λe he=>ah.tup U (Z.tup I (Y _ _ (gm e he)));have f9:=((f8.app S.ok (AH.refl S.ok) λ_ _ e=>Y _ _ e).app S.ok a8 λ_ _=>Z.tup I).app aw.fu.ok a9 λ_ _=>ah.tup U;have f3:=(pk_road (c0.same S Y) Z I aw a8 bt wh).oth ah U ar (a9.len (n:=95000+10*54000) (D1 (ar.jz.sz bu) (U9 (Nat.add_assoc _ _ _)))) (c0.dj cn);refine xwn rfl rfl ae (Pe _ _ _ _ _) rfl (jchg ar.fu ae ao hk (G _ (by simp[Do])) (G _ (by simp[Do])) gn cv λi0 jj ih a0 eh fh ig c2=>?_);have em:=back_m c2 wh;subst em;exact C _ _ ⟨_,G8,rfl,((f3.fr2 ar.fu ae ao ⟨_,_,_,rfl⟩ aj.n1 a0 ⟨_,rfl⟩).zs eh fh (cv.kp (a0.nv ae ao)) bd.ro bd.re).mono A4,a0.lst ae ao eu,⟨f9.app ar.fu.ok (AH.refl ar.fu.ok) λ_ _ e=>a0.tup ae ao e,aq.st,aq.j40⟩,(dg.app aw.fu.ok a9)⟩
   rintro σ' gu ca;apply AL;intro G_ k;obtain⟨go,G5,rfl,Z,er,b7,ej⟩:=ca;apply k;clear k G_;refine e9 ?_;apply AL;intro G_ k;obtain⟨nf,bh,lf,tr,hf⟩:=id ej.ex;apply k;clear k G_;refine xw3 rfl rfl rfl ⟨p,as,mem,pr,g,G5,Κ,φ,310000,4600000,R,m,f1,nf,W,rfl,Z,fin,cl,br,lf,bh,tr,hf,nr,by decide,λL5 us G6 d4 i6 cq gq en jk di ⟨J5,ga⟩=>?_⟩;have c3:Rd5 d4 G6 R φ W J ts:=⟨b7.rd.app Z.fu.ok en (λ_ _=>Z.tup cq),b7.st,b7.j40⟩
   have et:=cq _ _ er ai.n0 ai.n1;have eJ:=ga.same c3;subst eJ;refine xw3 rfl rfl rfl ⟨L,(xq1 rfl ⟨SqL.of et,λL6 ho=>?_⟩)⟩;rw[cut_init];generalize gy:upd d4 L6 _=d5;obtain⟨dt,g2⟩:=alc ho gy;obtain⟨rg,eg⟩:=gq.fu.g0;apply AL;intro G_ k;obtain⟨is,js,a1,a2,a3,a4,a5⟩:=ga.rd.alike eg gq.fu.ok c3.rd;apply k;clear k G_;have e5:(is.map λq=>V.ref q.1)=us.map V.ref:=by rw[<-a1,M7];rfl
   have e6:(js.map λq=>V.ref q.1)=ts.map V.ref:=by rw[<-a2,M7];rfl
   exact⟨⟨L5,L6,is,js,rfl,rfl,SqL.of (by rw[e5];exact dt _ _ di),SqL.of (by rw[e6];exact g2),λq hq=>dt _ _ (a4 q hq),λq hq=>dt _ _ (a5 q hq),a3⟩,kq d5⟩
end
end J
namespace J
open PySem L2
theorem ar1{α:Type}:∀us:List α,us.length=1->∃a,us=[a]
|[a],_=>⟨a,rfl⟩
theorem ar2{α:Type}:∀us:List α,us.length=2->∃a b,us=[a,b]
|[a,b],_=>⟨a,b,rfl⟩
theorem ar3{α:Type}:∀us:List α,us.length=3->∃a b c,us=[a,b,c]
|[a,b,c],_=>⟨a,b,c,rfl⟩
theorem ar4{α:Type}:∀us:List α,us.length=4->∃a b c d,us=[a,b,c,d]
|[a,b,c,d],_=>⟨a,b,c,d,rfl⟩
theorem ar5{α:Type}:∀us:List α,us.length=5->∃a b c d e,us=[a,b,c,d,e]
|[a,b,c,d,e],_=>⟨a,b,c,d,e,rfl⟩
structure Fg(K:O_)(x:Str)(st:Stmt)(f:R_)(fd:E_):Prop where
at_:W.nsIn K mainGlobals x=some (some (.ref f))
fn:Fun K x x st f fd
structure Fm(K:O_)(C:R_)(m q:Str)(st:Stmt)(f:R_)(fd:E_):Prop where
me:Qm K C m f
fn:Fun K m q st f fd
structure Fi(K:O_)(C:R_)(q:Str)(st:Stmt)(f:R_)(fd:E_):Prop where
mk_:Mk K C f
fn:Fun K "__init__" q st f fd
theorem bnd{K:O_}{x q:Str}{b:Stmt}{f:R_}{j:E_}{g:K_}(F:Fun K x q b f j)(h:∀(kV e n:S_)(l:Option Addr)(d m:S_)(us:F_),us.length=g.length->bindArgs (W.fnOf x q (MN b) (Lp b) (Ah b) .none kV e n l d m) ⟨us,[]⟩=pure (g.zip us):=by intro _ _ _ _ _ _ us a;first|(obtain⟨c,rfl⟩:=ar1 us a;exact rfl)|(obtain⟨c,i,rfl⟩:=ar2 us a;exact rfl)|(obtain⟨c,i,k,rfl⟩:=ar3 us a;exact rfl)|(obtain⟨c,i,k,o,rfl⟩:=ar4 us a;exact rfl)|(obtain⟨c,i,k,o,p,rfl⟩:=ar5 us a;exact rfl)):Df K j g []:=F.binds h
theorem fin{l:W.OpenLaw}{w:Q_}{K:O_}{h:T_}{mg:C_}{fa:R_}(X:K.In h)(G:h.Ns mainGlobals mg)(jq:mg "law" = some (.ref fa))
  {j:R_} {r:R_} {n:R_} {a:R_} {O:R_} {g:R_} {f0:R_} {d0:E_} {f1:R_} {d1:E_} {f2:R_} {d2:E_} {f3:R_} {d3:E_} {f4:R_} {d4:E_} {f5:R_} {d5:E_} {f6:R_} {d6:E_} {f7:R_} {d7:E_} {f8:R_} {d8:E_} {f9:R_} {d9:E_} {hf:R_} {eh:E_} {hg:R_} {ei:E_} {hh:R_} {ej:E_} {hi:R_} {ek:E_} {hj:R_} {el:E_} {hk:R_} {em:E_} {hl:R_} {en:E_} {hm:R_} {eo:E_} {hn:R_} {ep:E_} {ho:R_} {er:E_} {hp:R_} {es:E_} {hq:R_} {et:E_} {hr:R_} {eu:E_} {hs:R_} {ev:E_} {ht:R_} {ew:E_} {hu:R_} {ey:E_} {hv:R_} {ez:E_} {hw:R_} {e0:E_} {hx:R_} {e1:E_} {hy:R_} {e2:E_} {hz:R_} {e3:E_} {h0:R_} {e4:E_} {h1:R_} {e5:E_} {h2:R_} {e6:E_} {h3:R_} {e7:E_} {h4:R_} {e8:E_} {h5:R_} {e9:E_} {h6:R_} {fb:E_} {h7:R_} {fc:E_} {h8:R_} {fe:E_} {h9:R_} {ff:E_} {ia:R_} {fg:E_} {ib:R_} {fh:E_} {ic:R_} {fi:E_} {ie:R_} {fj:E_} {ig:R_} {fk:E_} {ih:R_} {fl:E_} {ii:R_} {fm:E_} {ij:R_} {fo:E_} {ik:R_} {fp:E_} {il:R_} {fq:E_} {im:R_} {ft:E_} {io:R_} {fu:E_} {ip:R_} {fv:E_} {iq:R_} {fw:E_} {ir:R_} {fy:E_} {is:R_} {fz:E_} {iu:R_} {ga:E_} {iv:R_} {eg:E_} {ix:R_} {gc:E_} {iz:R_} {gf:E_} {i1:R_} {gh:E_} {i3:R_} {gj:E_} {i4:R_} {gk:E_} {i5:R_} {gl:E_} {i6:R_} {gm:E_} {i7:R_} {gn:E_} {i8:R_} {go:E_} {i9:R_} {gp:E_} {ja:R_} {gq:E_} {jb:R_} {gr:E_} {jc:R_} {gs:E_} {jd:R_} {gt:E_} {je:R_} {gu:E_} {jh:R_} {gx:E_} {ji:R_} {gy:E_} {jj:R_} {gz:E_} {jk:R_} {ha:E_} {jm:R_} {hb:E_} {jn:R_} {hc:E_} {jo:R_} {hd:E_} {jp:R_} {he:E_} {iw:R_} {gb:E_} {iy:R_} {ge:E_} {i0:R_} {gg:E_} {i2:R_} {gi:E_} {jf:R_} {gv:E_} {jg:R_} {gw:E_} {a3:Tok} {R:Tok} {B:Tok} {D:Str} {u:Tok} {y:Str} {aj:Tok} {ak:Str} {ad:Tok} {a8:Tok} {M:Tok} {L:Tok} {N:Str} {E:Tok}
  (dE:W.nsIn K mainGlobals "Amounts" = some (some (.ref j)))
  (dF:W.nsIn K mainGlobals "Places" = some (some (.ref r)))
  (dG:W.nsIn K mainGlobals "Clause" = some (some (.ref n)))
  (dM:W.nsIn K mainGlobals "Grove" = some (some (.ref a)))
  (dN:W.nsIn K mainGlobals "Rule" = some (some (.ref O)))
  (dL:W.nsIn K mainGlobals "Jumps" = some (some (.ref g)))
  (ax:Cls K j)
  (a2:Cls K r)
  (a1:Cls K n)
  (i:Cls K a)
  (bi:Cls K O)
  (t:Cls K g)
  (Z:findIn K (.ref j) "state" = some none)
  (P:findIn K (.ref j) "numbers" = some none)
  (ac:findIn K (.ref r) "wanted" = some none)
  (an:findIn K (.ref n) "cell" = some none)
  (H:findIn K (.ref n) "conditions" = some none)
  (ag:findIn K (.ref n) "makes" = some none)
  (ah:findIn K (.ref a) "levels" = some none)
  (ar:findIn K (.ref a) "parts" = some none)
  (ab:findIn K (.ref a) "numbers" = some none)
  (ao:findIn K (.ref a) "bares" = some none)
  (aa:findIn K (.ref a) "amounts" = some none)
  (aq:findIn K (.ref a) "boxes" = some none)
  (az:findIn K (.ref O) "text" = some none)
  (ai:findIn K (.ref O) "clauses" = some none)
  (as:findIn K (.ref g) "grove" = some none)
  (U:findIn K (.ref g) "memories" = some none)
  (aw:findIn K (.ref g) "rule" = some none)
  (A:findIn K (.ref g) "known_squares" = some none)
  (I:findIn K (.ref g) "known_cells" = some none)
  (g0:Fg K "is_whole" LL f0 d0)
  (g1:Fg K "is_state" LM f1 d1)
  (g2:Fg K "takes" Rr f2 d2)
  (g3:Fg K "read_clause" EK f3 d3)
  (g4:Fg K "read_state" Ir f4 d4)
  (g5:Fg K "read_wanted" GI f5 d5)
  (g6:Fg K "read_condition" Ew f6 d6)
  (g7:Fg K "read_amounts" FK f7 d7)
  (g8:Fg K "read_numbers" FJ f8 d8)
  (g9:Fg K "read_places" EJ f9 d9)
  (bm:Fg K "shifted_box" GH hf eh)
  (bn:Fg K "least_box" Dg hg ei)
  (bo:Fg K "lies_within" GJ hh ej)
  (bp:Fg K "reach_of" LK hi ek)
  (bq:Fg K "bare_field" Iw hj el)
  (br:Fg K "widened" MZ hk em)
  (bt:Fg K "trimmed" Na hl en)
  (bu:Fg K "middle_of" Gr hm eo)
  (bv:Fg K "is_bare_around" Ex hn ep)
  (bw:Fg K "widened_over" FI ho er)
  (bx:Fg K "widened_to" Ip hp es)
  (bz:Fg K "planted" Nb hq et)
  (bc:Fg K "replaced" LJ hr eu)
  (b0:Fg K "field_of" LO hs ev)
  (b1:Fg K "box_of" OS ht ew)
  (b2:Fg K "jump" Uv hu ey)
  (b3:Fg K "road" Uu hv ez)
  (b4:Fg K "check_leap" Iv hw e0)
  (b5:Fg K "level_for" Jy hx e1)
  (ca:Fg K "clause_texts" FL hy e2)
  (cb:Fg K "read_rule" Jx hz e3)
  (cc:Fg K "deciding" LP h0 e4)
  (cd:Fg K "becomes" Nc h1 e5)
  (ce:Fg K "shown_rule" Iq h2 e6)
  (cf:Fg K "nine_parts" Iu h3 e7)
  (cg:Fg K "fours_of" LN h4 e8)
  (ch:Fg K "met_in_the_middle" Dv h5 e9)
  (ci:Fg K "_law_at" Nd h6 fb)
  (cj:Fg K "_law_mix" LQ h7 fc)
  (ck:Fg K "_law_state_by" Fj h8 fe)
  (cl:Fg K "_law_condition_by" Cs h9 ff)
  (cm:Fg K "_law_clause_by" Ey ia fg)
  (cn:Fg K "_law_holds" Iz ib fh)
  (co:Fg K "_law_decides" FM ic fi)
  (cp:Fg K "_law_becomes" FO ie fj)
  (cq:Fg K "_law_clauses_by" Ec ig fk)
  (cr:Fg K "_law_word" EU ih fl)
  (cs:Fg K "_law_text" Gs ii fm)
  (ct:Fg K "_law_map_by" EL ij fo)
  (cu:Fg K "_law_glide_text" Eb ik fp)
  (cv:Fg K "_law_by_rows" FN il fq)
  (cw:Fg K "_law_listed" GL im ft)
  (cx:Fg K "_law_base" JA io fu)
  (cy:Fg K "_law_heap" Jz ip fv)
  (cz:Fg K "_law_midst" Ix iq fw)
  (c0:Fg K "_law_least" Iy ir fy)
  (c1:Fg K "_law_entry" IA is fz)
  (c2:Fg K "_law_walked" GK iu ga)
  (c3:Fg K "law" YX iv eg)
  (c5:Fm K j "holds" "Amounts.holds" Fk ix gc)
  (c7:Fm K r "holds" "Places.holds" Ed iz gf)
  (c9:Fm K n "fits" "Clause.fits" EN i1 gh)
  (db:Fm K a "kept" "Grove.kept" IF i3 gj)
  (dc:Fm K a "linked" "Grove.linked" FP i4 gk)
  (dd:Fm K a "check_square" "Grove.check_square" Di i5 gl)
  (de:Fm K a "leaf" "Grove.leaf" IE i6 gm)
  (df:Fm K a "joined" "Grove.joined" Ef i7 gn)
  (dg:Fm K a "solid" "Grove.solid" GO i8 go)
  (dh:Fm K a "level_of" "Grove.level_of" EB i9 gp)
  (di:Fm K a "quarters" "Grove.quarters" EA ja gq)
  (dl:Fm K a "state_of" "Grove.state_of" Ez jb gr)
  (dm:Fm K a "span" "Grove.span" IC jc gs)
  (bd:Fm K a "boxed" "Grove.boxed" EM jd gt)
  (dn:Fm K a "measured" "Grove.measured" Ds je gu)
  (dr:Fm K g "change" "Jumps.change" Ee jh gx)
  (ds:Fm K g "after" "Jumps.after" GN ji gy)
  (dt:Fm K g "check_jump" "Jumps.check_jump" DI jj gz)
  (be:Fm K g "reckoned" "Jumps.reckoned" Dr jk ha)
  (du:Fm K g "fresh" "Jumps.fresh" Co jm hb)
  (dv:Fm K g "four_halfway" "Jumps.four_halfway" Bu jn hc)
  (dw:Fm K g "middle_after" "Jumps.middle_after" Dh jo hd)
  (dx:Fm K g "cell_after" "Jumps.cell_after" CJ jp he)
  (c4:Fi K j "Amounts.__init__" FQ iw gb)
  (c6:Fi K r "Places.__init__" GM iy ge)
  (c8:Fi K n "Clause.__init__" GP i0 gg)
  (da:Fi K a "Grove.__init__" IG i2 gi)
  (dp:Fi K O "Rule.__init__" Gu jf gv)
  (dq:Fi K g "Jumps.__init__" IB jg gw)
  (dy:W.nsIn K mainGlobals "all" = some none)
  (dz:W.nsIn K mainGlobals "any" = some none)
  (bj:W.nsIn K mainGlobals "bool" = some none)
  (a6:W.nsIn K mainGlobals "enumerate" = some none)
  (ea:W.nsIn K mainGlobals "int" = some none)
  (a0:W.nsIn K mainGlobals "isinstance" = some none)
  (eb:W.nsIn K mainGlobals "len" = some none)
  (bl:W.nsIn K mainGlobals "list" = some none)
  (ec:W.nsIn K mainGlobals "max" = some none)
  (ed:W.nsIn K mainGlobals "min" = some none)
  (bg:W.nsIn K mainGlobals "range" = some none)
  (bb:W.nsIn K mainGlobals "sorted" = some none)
  (ee:W.nsIn K mainGlobals "str" = some none)
  (bh:W.nsIn K mainGlobals "tuple" = some none)
  (ef:W.nsIn K mainGlobals "zip" = some none)
  (ba:W.nsIn K mainGlobals "STATES" = some (some (.int 8 a3)))
  (ay:W.nsIn K mainGlobals "NEIGHBOURS" = some (some (.int 8 R)))
  (af:W.nsIn K mainGlobals "STATE_FIGURES" = some (some (.str D B)))
  (Y:D=Str.ofString "01234567")
  (V:W.nsIn K mainGlobals "AMOUNT_FIGURES" = some (some (.str y u)))
  (S:y=Str.ofString "012345678")
  (a7:W.nsIn K mainGlobals "ANY_SIGN" = some (some (.str ak aj)))
  (a5:ak=Str.ofString "*")
  (a4:W.nsIn K mainGlobals "TOP_LEVEL" = some (some (.int 48 ad)))
  (bf:W.nsIn K mainGlobals "LIMIT" = some (some (.int 1099511627776 a8)))
  (av:W.nsIn K mainGlobals "LEAST_LEVEL" = some (some (.int 1 M)))
  (au:W.nsIn K mainGlobals "CLAUSE_MARK" = some (some (.str N L)))
  (am:N=Str.ofString "; ")
  (al:W.nsIn K mainGlobals "LEAST_JUMPED" = some (some (.int 2 E)))
  : ∃fd:FuncData,(∀(s:P_)(v:S_),BindsTo s fd ⟨[v],[]⟩ [("_law_script",v)])/\∀Q:Heap,K.In Q->Q.Ns mainGlobals mg->AK l.prog w K mg Q CX0 152 fa fd ["_law_script"] (Vu K):=by
 have e:=jq.symm.trans (K7 X G c3.at_);cases e;have no:∀{x:Str},W.nsIn K mainGlobals x=some none->mg x=none:=λz=>W.mg_none_of X G z;subst am;subst a5;subst S;subst Y;have T:Top K mg (⟨j,r,n,a,O,g⟩:Ad):=⟨no dy,no dz,no bj,no a6,no ea,no a0,no eb,no bl,no ec,no ed,no bg,no bb,no ee,no bh,no ef,⟨a3,K7 X G ba⟩,⟨R,K7 X G ay⟩,⟨B,K7 X G af⟩,⟨u,K7 X G V⟩,⟨aj,K7 X G a7⟩,⟨ad,K7 X G a4⟩,⟨a8,K7 X G bf⟩,⟨M,K7 X G av⟩,⟨L,K7 X G au⟩,⟨E,K7 X G al⟩,K7 X G dE,ax,Z,P,K7 X G dF,a2,ac,K7 X G dG,a1,an,H,ag,K7 X G dM,i,ah,ar,ab,ao,aa,aq,K7 X G dN,bi,az,ai,K7 X G dL,t,as,U,aw,A,I⟩
 refine⟨eg,λs v=>(by obtain⟨_,_,_,_,_,_,_,_,_,rfl,_⟩:=c3.fn.ex;exact .of_eq rfl),λQ _ _=>?_⟩;have d:∀{CX:CXT}{k:Nat}{x:Str}{st:Stmt}{f:R_}{fd:E_}{ps:K_}{sp:Sp},Fg K x st f fd->AK l.prog w K mg Q CX k f fd ps sp->Df K fd ps []->Cal l.prog w K mg Q CX k x ps sp:=λF o b=>⟨_,_,o,K7 X G F.at_,F.fn.kp,b⟩
 have p:∀{CX:CXT}{k:Nat}{C:R_}{x q:Str}{st:Stmt}{f:R_}{fd:E_}{ps:K_}{sp:Sp},Fm K C x q st f fd->Cls K C->AK l.prog w K mg Q CX k f fd ps sp->Df K fd ps []->BD l.prog w K mg Q CX k C x ps sp:=λF c o b=>⟨⟨_,_,o,F.me,b⟩,c⟩
 have ae:∀{CX:CXT}{k:Nat}{C:R_}{x q:Str}{st:Stmt}{f:R_}{fd:E_}{ps:K_}{sp:Sp},Fi K C q st f fd->mg x=some (.ref C)->AK l.prog w K mg Q CX k f fd ps sp->Df K fd ps []->Sx l.prog w K mg Q CX k x C ps sp:=λF m o b=>⟨_,_,o,F.mk_,m,b⟩
 have aD:=d g0 (ok_iw g0.fn T) (bnd g0.fn);have bE:=d g1 (ok_is g1.fn T aD) (bnd g1.fn);have aT:=p db i (ok_kept db.fn T) (bnd db.fn);have dD:=ae da T.m_Grove (Zw da.fn T aT) (bnd da.fn)
 have a9:=p dc i (ok_link dc.fn T aT) (bnd dc.fn);have aC:=p dd i (ok_chk dd.fn T aD) (bnd dd.fn);have aJ:=p de i (ok_leaf de.fn T bE) (bnd de.fn);have aA:=p dh i (ok_lev dh.fn T aC) (bnd dh.fn);have aZ:=p di i (ok_qua di.fn T aA) (bnd di.fn);have bK:=p df i (ok_join df.fn T aC a9) (bnd df.fn);have aW:=p dg i (Zn dg.fn T aD aJ a9) (bnd dg.fn);have bC:=p dl i (ok_sta dl.fn T aA) (bnd dl.fn);have aK:=d bm (Zo bm.fn T) (bnd bm.fn);have bA:=d bn (Zt bn.fn T) (bnd bn.fn);have b8:=p bd i (Zz bd.fn dn.fn T bd.me (bnd bd.fn) dn.me (bnd dn.fn) aK bA 49) (bnd bd.fn);have cA:=p dm i (ok_span dm.fn T aC b8) (bnd dm.fn);have aM:=d bo (ok_lie bo.fn T) (bnd bo.fn);have aN:=d bp (Zq bp.fn T aA) (bnd bp.fn);have bI:=d br (ok_wid br.fn T aA a9) (bnd br.fn);have cL:=d bu (ok_mid bu.fn T a9) (bnd bu.fn);have bF:=d bv (ok_ba bv.fn T) (bnd bv.fn);have aS:=d bt (ok_trim bt.fn T aA bF cL) (bnd bt.fn);have bL:=d bw (ok_wo bw.fn T aM aN bI) (bnd bw.fn);have b6:=d bq (ZA bq.fn T) (bnd bq.fn);have bM:=d bc (Zp bc.fn T (K7 X G bc.at_) (bnd bc.fn) aJ a9 50) (bnd bc.fn);have cV:=d bz (Zs bz.fn T aM bE aN bL bM aS) (bnd bz.fn);have cR:=d b0 (ok_fld b0.fn T b6 cV) (bnd b0.fn);have cZ:=d b1 (Zy b1.fn T cA aN aK) (bnd b1.fn);have cQ:=d g2 (Zm g2.fn) (bnd g2.fn);have cW:=ae c4 T.m_Amounts (WJ c4.fn T) (bnd c4.fn)
 have dA:=ae c6 T.m_Places (WH c6.fn T) (bnd c6.fn)
 have dB:=ae c8 T.m_Clause (WI c8.fn T) (bnd c8.fn)
 have cX:=p c5 ax (UA c5.fn T) (bnd c5.fn);have cY:=p c7 a2 (Uz c7.fn T cQ) (bnd c7.fn);have bV:=p c9 a1 (ok_Fits c9.fn T cQ cX cY) (bnd c9.fn);have cS:=d cc (ok_dec cc.fn T bV) (bnd cc.fn);have bJ:=d cd (ok_bec cd.fn T cS) (bnd cd.fn);have aP:=d g4 (ok_rs g4.fn T) (bnd g4.fn);have aX:=d g5 (ok_rw g5.fn T aP) (bnd g5.fn);have bN:=d g8 (ok_rn g8.fn T) (bnd g8.fn);have bO:=d g7 (ok_ram g7.fn T aP bN cW) (bnd g7.fn);have bW:=d g9 (ok_rpl g9.fn T aX dA) (bnd g9.fn);have bD:=d g6 (Zr g6.fn T bO bW) (bnd g6.fn);have bX:=d g3 (ok_rc g3.fn T aP aX bD dB) (bnd g3.fn);have bP:=d ca (ok_ct ca.fn T) (bnd ca.fn);have dJ:=ae dp T.m_Rule (ok_ri dp.fn T bP bX) (bnd dp.fn)
 have bT:=d cb (ok_rr cb.fn T dJ bJ) (bnd cb.fn);have cC:=d ce (ok_show ce.fn T) (bnd ce.fn);have aR:=p dr t (ok_chg dr.fn T cC) (bnd dr.fn);have cT:=ae dq T.m_Jumps (Zu dq.fn T aR) (bnd dq.fn)
 have aI:=p dx t (ok_cel dx.fn T bC aJ bJ) (bnd dx.fn);have aF:=p dw t (ok_mid2 dw.fn T a9 aI) (bnd dw.fn);have aQ:=d cf (ok_nine cf.fn T a9) (bnd cf.fn);have aU:=d cg (Zx cg.fn T) (bnd cg.fn);have aG:=d ch (ok_met ch.fn T a9) (bnd ch.fn);have aE:=p be t (VM be.fn dv.fn du.fn T be.me (bnd be.fn) dv.me (bnd dv.fn) du.me (bnd du.fn) aF a9 aQ aU aG 46) (bnd be.fn);have b9:=p dt t (ok_cj dt.fn T aA aD) (bnd dt.fn);have aV:=p ds t (WG ds.fn T A4 b9 aE) (bnd ds.fn);have cD:=d b4 (ok_chg' b4.fn T aD cZ aM) (bnd b4.fn);have cM:=d b5 (ok_lvf b5.fn T aN) (bnd b5.fn);have cB:=d bx (ok_wt bx.fn T aA bI) (bnd bx.fn);have cK:=d b3 (ok_rdg b3.fn T cD b6 cM cB aV aS) (bnd b3.fn);have dH:=d b2 (ok_jpg b2.fn T cK aS) (bnd b2.fn);have aB:=d ci (ok_at ci.fn T) (bnd ci.fn);have aO:=d cj (ok_mix cj.fn) (bnd cj.fn);have aH:=d ck (ok_st ck.fn) (bnd ck.fn);have b7:=d cl (ok_co cl.fn T aO aH) (bnd cl.fn);have bG:=d cm (ok_cl cm.fn T aO aH b7) (bnd cm.fn);have cG:=d cn (ok_ho cn.fn T) (bnd cn.fn);have bQ:=d co (ok_de co.fn T cG) (bnd co.fn);have bS:=d cp (ok_be cp.fn T bQ) (bnd cp.fn);have bB:=d cq (ok_cs cq.fn T aB bG bS) (bnd cq.fn);have cN:=d cr (ok_wd cr.fn T) (bnd cr.fn);have cO:=d cs (ok_tx cs.fn T cN) (bnd cs.fn);have bR:=d cv (ok_row cv.fn T) (bnd cv.fn);have bZ:=d cw (ok_lsd cw.fn T bR) (bnd cw.fn);have bU:=d cx (ok_base cx.fn T) (bnd cx.fn);have cP:=d cy (ok_heap cy.fn T aB) (bnd cy.fn);have bY:=d ct (ok_mapb ct.fn T aB) (bnd ct.fn);have aY:=d cu (ok_gtx cu.fn T) (bnd cu.fn);have cF:=d c0 (ok_lst c0.fn T) (bnd c0.fn);have cE:=d cz (ok_mst cz.fn T aA aW aZ bK) (bnd cz.fn);have cH:=d c1 (ok_ent c1.fn T aA cF cE aV) (bnd c1.fn);have bH:=d c2 (ok_wlk c2.fn T aW cH aS) (bnd c2.fn);exact ok_law c3.fn T dD aB bB cO bY aY bT bU cP bZ cR cT cK dH bH aR
theorem walk{l:W.OpenLaw}{q:N_}{c:K_}{m:(Str->Option Value)->Heap->Prop}{g:World->Heap->Prop}{d:DefRec}{K:Params->W.Frag}(t:l.most=some 63)(e:d.params.defaults=[])
  (p:∀(w:Q_)(h:T_),g w h->(K w.params).In h)
  (F:∀(w:Q_)(mg:C_)(i:R_)(h:T_),(K w.params).In h->h.Ns mainGlobals mg->mg d.name=some (.ref i) ->
   ∃j:FuncData,(∀(s:P_)(u:S_),BindsTo s j ⟨[u],[]⟩ [("_law_script",u)])/\∀b:Heap,(K w.params).In b->b.Ns mainGlobals mg->AK l.prog w (K w.params) mg b CX0 152 i j ["_law_script"] (Vu (K w.params))) :
  W.WalkO q c m g l.row.toRowW d [] (λf vs=>PySem.call f vs) :=
 L2.Vf (n:=63) (k:=152) (x:="_law_script") (CX:=λ_=>CX0) (sp:=λw=>Vu (K w.params)) t A4 e ⟨rfl,by decide,by decide⟩ p F (λ_ _ a ns r _ o=>⟨a,ns,rfl,o,r,λ_=>rfl⟩) λ_ _ _ _ _ z=>z
end J
namespace PySem.W.Fast
theorem tw12360030500721807089:True:=⟨⟩
theorem tw17817301176231832776:True:=⟨⟩
theorem tw15440203653811641532:True:=⟨⟩
theorem tw5858994429795051823:True:=⟨⟩
theorem tw16126872943448864819:True:=⟨⟩
theorem tw14266603487978994232:True:=⟨⟩
theorem tw10625243368487088968:True:=⟨⟩
theorem tw12397967703090268685:True:=⟨⟩
theorem tw5917009558962348056:True:=⟨⟩
theorem tw15498179341246997767:True:=⟨⟩
theorem tw16973823624400909042:True:=⟨⟩
theorem tw10226873274952435590:True:=⟨⟩
theorem tw8461775341648429699:True:=⟨⟩
theorem tw2486736451553241900:True:=⟨⟩
theorem tw10628569152384124025:True:=⟨⟩
theorem tw7125019938160766458:True:=⟨⟩
theorem tw16697666267530092457:True:=⟨⟩
theorem tw1149452758526117199:True:=⟨⟩
theorem tw693621919853595935:True:=⟨⟩
theorem tw15910085061529302804:True:=⟨⟩
theorem tw8940449652433717773:True:=⟨⟩
theorem tw14659552690021813043:True:=⟨⟩
theorem tw8406681938813368361:True:=⟨⟩
theorem tw2423402775955310182:True:=⟨⟩
theorem tw15012094427101140888:True:=⟨⟩
theorem tw7328302345326931631:True:=⟨⟩
theorem tw2843454642547813119:True:=⟨⟩
theorem tw14124483807864896498:True:=⟨⟩
theorem tw347228498486476257:True:=⟨⟩
theorem tw15762445380849028337:True:=⟨⟩
theorem tw18205821678315541722:True:=⟨⟩
theorem tw3169037033641092534:True:=⟨⟩
theorem tw8904864614506143233:True:=⟨⟩
theorem tw15722284593879788033:True:=⟨⟩
theorem tw8588238023894837628:True:=⟨⟩
theorem tw13218246425513855389:True:=⟨⟩
theorem tw16693190649149785531:True:=⟨⟩
theorem tw16069659283567878325:True:=⟨⟩
theorem tw16429571162036827471:True:=⟨⟩
theorem tw9875979001715381459:True:=⟨⟩
theorem tw5278884621993512024:True:=⟨⟩
theorem tw8653640938755316157:True:=⟨⟩
theorem tw6701775292745413872:True:=⟨⟩
theorem tw1912440597014555665:True:=⟨⟩
theorem tw7836170334053296665:True:=⟨⟩
theorem tw12668143289132562005:True:=⟨⟩
theorem tw2413824757967227778:True:=⟨⟩
theorem tw4485544400793867927:True:=⟨⟩
theorem tw3190754733920144258:True:=⟨⟩
theorem tw14075267728907797404:True:=⟨⟩
theorem tw3096439470619814384:True:=⟨⟩
theorem tw13511562720521256436:True:=⟨⟩
theorem tw13472261800738655675:True:=⟨⟩
theorem tw11483664160077484764:True:=⟨⟩
theorem tw1581916684916569589:True:=⟨⟩
theorem tw15481421335796957236:True:=⟨⟩
theorem tw17153950027681906672:True:=⟨⟩
theorem tw4791252123391439793:True:=⟨⟩
theorem tw2892806884952184588:True:=⟨⟩
theorem tw1538452205890588651:True:=⟨⟩
theorem tw6457627686690010455:True:=⟨⟩
theorem tw1809722716375961260:True:=⟨⟩
theorem tw8433142206065964003:True:=⟨⟩
theorem tw10585471618300624680:True:=⟨⟩
theorem tw6216184088517535624:True:=⟨⟩
theorem tw13921008627840246219:True:=⟨⟩
theorem tw729012967009979080:True:=⟨⟩
theorem tw6077321057121620699:True:=⟨⟩
theorem tw5212595689557722309:True:=⟨⟩
theorem tw1341630060162064932:True:=⟨⟩
theorem tw3913911441519999668:True:=⟨⟩
theorem tw15814878818030596829:True:=⟨⟩
theorem tw6575478462906261634:True:=⟨⟩
theorem tw16175882666934918246:True:=⟨⟩
theorem tw14647742959927134754:True:=⟨⟩
theorem tw7753629931132538798:True:=⟨⟩
theorem tw8100415180747131756:True:=⟨⟩
theorem tw3425631222742334645:True:=⟨⟩
theorem tw5092082427261125845:True:=⟨⟩
theorem tw1461950119011973904:True:=⟨⟩
theorem tw9544087742722986858:True:=⟨⟩
theorem tw6414718643357020189:True:=⟨⟩
theorem tw17926572302319796637:True:=⟨⟩
theorem tw10269898148300974570:True:=⟨⟩
theorem tw3295270265731676285:True:=⟨⟩
theorem tw14511644305103670833:True:=⟨⟩
theorem tw6636465947518945055:True:=⟨⟩
theorem tw17072894341606092991:True:=⟨⟩
theorem tw9683263884586161323:True:=⟨⟩
theorem tw14743189698987529966:True:=⟨⟩
theorem tw13284894574495232578:True:=⟨⟩
theorem tw13035506727575062258:True:=⟨⟩
theorem tw17319171140011864428:True:=⟨⟩
theorem tw4119874343534905013:True:=⟨⟩
theorem tw14034792518423370859:True:=⟨⟩
theorem tw1155278465506701621:True:=⟨⟩
theorem tw12343454216576895778:True:=⟨⟩
theorem tw14258932332394150574:True:=⟨⟩
theorem tw6683516795690827844:True:=⟨⟩
theorem tw7275254950289014454:True:=⟨⟩
theorem tw7708468846445959716:True:=⟨⟩
theorem tw3524388421822128622:True:=⟨⟩
theorem tw9502582481418422315:True:=⟨⟩
theorem tw9525157322523827827:True:=⟨⟩
theorem tw4585692521877411139:True:=⟨⟩
theorem tw1595760890071580275:True:=⟨⟩
theorem tw12462282614986996977:True:=⟨⟩
theorem tw10220666010261301587:True:=⟨⟩
theorem tw14784263635193713682:True:=⟨⟩
theorem tw13356377606274241823:True:=⟨⟩
theorem tw5767381431931129416:True:=⟨⟩
theorem tw17090616361070190899:True:=⟨⟩
theorem tw7994497179394005105:True:=⟨⟩
theorem tw3629226019864427080:True:=⟨⟩
theorem tw13306913890093401516:True:=⟨⟩
theorem tw18166152863425461238:True:=⟨⟩
theorem tw10622439635204630136:True:=⟨⟩
theorem tw6134366911565084222:True:=⟨⟩
theorem tw1667762823057276114:True:=⟨⟩
theorem tw17241717024134211313:True:=⟨⟩
theorem tw10687356748271062831:True:=⟨⟩
theorem tw1715529133568608002:True:=⟨⟩
theorem tw3720913575259757422:True:=⟨⟩
theorem tw9983490344663064960:True:=⟨⟩
theorem tw10191062477025159050:True:=⟨⟩
theorem tw8204297919146841114:True:=⟨⟩
theorem tw13869921096711307348:True:=⟨⟩
theorem tw10657290599473074605:True:=⟨⟩
theorem tw10457079897539448222:True:=⟨⟩
theorem tw1612328029923085498:True:=⟨⟩
theorem tw6227412888353810149:True:=⟨⟩
theorem tw3361498426625263743:True:=⟨⟩
theorem tw6481998419123008250:True:=⟨⟩
theorem tw9398150110009553832:True:=⟨⟩
theorem tw5625562217173241492:True:=⟨⟩
theorem tw15387004017661332108:True:=⟨⟩
theorem tw16351654306134452968:True:=⟨⟩
theorem tw17004456849026765647:True:=⟨⟩
theorem tw8744341799956506159:True:=⟨⟩
theorem tw2249723579584929284:True:=⟨⟩
theorem tw5591525654053163574:True:=⟨⟩
theorem tw15856554686997057593:True:=⟨⟩
theorem tw5130252257920451806:True:=⟨⟩
theorem tw9836220279228635968:True:=⟨⟩
theorem tw6271869498592010050:True:=⟨⟩
theorem tw8312552985371893191:True:=⟨⟩
theorem tw9207863072306019963:True:=⟨⟩
theorem tw8487295294812763135:True:=⟨⟩
theorem tw17219094256567229646:True:=⟨⟩
theorem tw13268475487654779170:True:=⟨⟩
theorem tw14184561792941315662:True:=⟨⟩
theorem tw1410677474736668793:True:=⟨⟩
theorem tw9081918855338424929:True:=⟨⟩
theorem tw3603796583574591452:True:=⟨⟩
theorem tw8094420188746331957:True:=⟨⟩
theorem tw1575729264297672932:True:=⟨⟩
theorem tw4125502385053211915:True:=⟨⟩
theorem tw13703549421462455692:True:=⟨⟩
theorem tw12961388619359006256:True:=⟨⟩
theorem tw8549161581304481430:True:=⟨⟩
theorem tw354723792612924014:True:=⟨⟩
theorem tw10396206791265286595:True:=⟨⟩
theorem tw1624068560857809193:True:=⟨⟩
theorem tw12076518473245983334:True:=⟨⟩
theorem tw4433048654432421759:True:=⟨⟩
theorem tw6705096218734947677:True:=⟨⟩
theorem tw1884871572334005742:True:=⟨⟩
theorem tw2612059591748894217:True:=⟨⟩
theorem tw11863474604632526609:True:=⟨⟩
theorem tw16408372016927728280:True:=⟨⟩
theorem tw11665833423975611007:True:=⟨⟩
theorem tw8357230995245538543:True:=⟨⟩
theorem tw5274216230462569817:True:=⟨⟩
theorem tw11774954118841344349:True:=⟨⟩
theorem tw6549096040745480957:True:=⟨⟩
theorem tw12908508971960946630:True:=⟨⟩
theorem tw3277890196536183034:True:=⟨⟩
theorem tw8446338726775984165:True:=⟨⟩
theorem tw12282297677345914582:True:=⟨⟩
theorem tw7421217205306968052:True:=⟨⟩
theorem tw10002244869256106397:True:=⟨⟩
theorem tw447894329718215607:True:=⟨⟩
theorem tw1581381959619249247:True:=⟨⟩
theorem tw4598288047193125330:True:=⟨⟩
theorem tw3788623929453917638:True:=⟨⟩
theorem tw13250968169319278828:True:=⟨⟩
theorem tw7468413572280752219:True:=⟨⟩
theorem tw13157677560947935080:True:=⟨⟩
theorem tw17018436792497812005:True:=⟨⟩
theorem tw5340793890210960942:True:=⟨⟩
theorem tw5541836454094121607:True:=⟨⟩
theorem tw18032724579805198864:True:=⟨⟩
theorem tw6521127836900593532:True:=⟨⟩
theorem tw7447698205131873895:True:=⟨⟩
theorem tw12323219588871747341:True:=⟨⟩
theorem tw12580230186076716890:True:=⟨⟩
theorem tw17438742767850630183:True:=⟨⟩
theorem tw1692770127385144313:True:=⟨⟩
theorem tw11009932445738260509:True:=⟨⟩
theorem tw12406200357573413004:True:=⟨⟩
theorem tw14550287968400334618:True:=⟨⟩
theorem tw1699591644462703107:True:=⟨⟩
theorem tw14496370894120437207:True:=⟨⟩
theorem tw7716456675193614339:True:=⟨⟩
theorem tw12706564583397781496:True:=⟨⟩
theorem tw5785361474150981785:True:=⟨⟩
theorem tw8213255041055614618:True:=⟨⟩
theorem tw15822574867357054681:True:=⟨⟩
theorem tw11465633641715758076:True:=⟨⟩
theorem tw17086187734012005979:True:=⟨⟩
theorem tw1304553664128652654:True:=⟨⟩
theorem tw17309702032325383632:True:=⟨⟩
theorem tw3823937023248550941:True:=⟨⟩
theorem tw9870221124082775906:True:=⟨⟩
theorem tw11561220319058915808:True:=⟨⟩
theorem tw15526320024113320296:True:=⟨⟩
theorem tw14933132514431715427:True:=⟨⟩
theorem tw1196352131988812762:True:=⟨⟩
theorem tw9780743614486336255:True:=⟨⟩
theorem tw14922240498757807004:True:=⟨⟩
theorem tw18150900257437784274:True:=⟨⟩
theorem tw261797154841002973:True:=⟨⟩
theorem tw10314337641648056453:True:=⟨⟩
theorem tw2145476921460140021:True:=⟨⟩
theorem tw12294374290285558184:True:=⟨⟩
theorem tw4699016265707576257:True:=⟨⟩
theorem tw7989447952183362499:True:=⟨⟩
theorem tw11930372475360710963:True:=⟨⟩
theorem tw16715133640790676185:True:=⟨⟩
theorem tw6516907628225009393:True:=⟨⟩
theorem tw3813877945521594023:True:=⟨⟩
theorem tw12381664237463872706:True:=⟨⟩
theorem tw2794726601623695714:True:=⟨⟩
theorem tw3800979419863189794:True:=⟨⟩
theorem tw11109064614379768456:True:=⟨⟩
theorem tw10463232774561189053:True:=⟨⟩
theorem tw5182630902983293295:True:=⟨⟩
theorem tw11916553248151791991:True:=⟨⟩
theorem tw16340852469005252283:True:=⟨⟩
theorem tw2066003711980156896:True:=⟨⟩
theorem tw1399941129157463631:True:=⟨⟩
theorem tw14650108656094092751:True:=⟨⟩
theorem tw17663409367957380846:True:=⟨⟩
theorem tw1464046742831400449:True:=⟨⟩
theorem tw17483500476966237045:True:=⟨⟩
theorem tw6472944461747849258:True:=⟨⟩
theorem tw16821854147068547793:True:=⟨⟩
theorem tw2301076210262490864:True:=⟨⟩
theorem tw4813483216458675818:True:=⟨⟩
theorem tw14833678051222578949:True:=⟨⟩
theorem tw3160504342909339313:True:=⟨⟩
theorem tw3734071712752624614:True:=⟨⟩
theorem tw7516231872791039610:True:=⟨⟩
theorem tw967289309518955114:True:=⟨⟩
theorem tw18238612022956936890:True:=⟨⟩
theorem tw10020632527276171820:True:=⟨⟩
theorem tw7101696623887716934:True:=⟨⟩
theorem tw10644831219704651579:True:=⟨⟩
theorem tw11316889173274142042:True:=⟨⟩
theorem tw16913543044128729241:True:=⟨⟩
theorem tw3828499794210478197:True:=⟨⟩
theorem tw7696541433605661696:True:=⟨⟩
theorem tw10923124221793496247:True:=⟨⟩
theorem tw1991513840682740975:True:=⟨⟩
theorem tw8414735792283073811:True:=⟨⟩
theorem tw1449179447471478587:True:=⟨⟩
theorem tw16501261287792029781:True:=⟨⟩
theorem tw17625055905607932118:True:=⟨⟩
theorem tw6522305678321761294:True:=⟨⟩
theorem tw14878959003256825164:True:=⟨⟩
theorem tw8594139481342210668:True:=⟨⟩
theorem tw5485877112255036337:True:=⟨⟩
theorem tw8231568766110616305:True:=⟨⟩
theorem tw12112194483235169556:True:=⟨⟩
theorem tw8633372477004930989:True:=⟨⟩
theorem tw11000448679399973403:True:=⟨⟩
theorem tw9656570803304659389:True:=⟨⟩
theorem tw13832898352817812120:True:=⟨⟩
theorem tw2426715995166143741:True:=⟨⟩
theorem tw459185436378620413:True:=⟨⟩
theorem tw3858373217194775297:True:=⟨⟩
theorem tw11898461463611281357:True:=⟨⟩
theorem tw2140250539412885005:True:=⟨⟩
theorem tw16810715780582186804:True:=⟨⟩
theorem tw12702935040866247835:True:=⟨⟩
theorem tw2469957494800970568:True:=⟨⟩
theorem tw2106472401669446758:True:=⟨⟩
theorem tw6571730682329258331:True:=⟨⟩
theorem tw4901834008753019669:True:=⟨⟩
theorem tw14692116280020008412:True:=⟨⟩
theorem tw17570917763949944599:True:=⟨⟩
theorem tw14146591107357238194:True:=⟨⟩
theorem tw376491930075225063:True:=⟨⟩
theorem tw1451026692025189411:True:=⟨⟩
theorem tw706342573678935541:True:=⟨⟩
theorem tw3128285352165168699:True:=⟨⟩
theorem tw4376568695809009395:True:=⟨⟩
theorem tw10514551959292128837:True:=⟨⟩
theorem tw7653951192687878432:True:=⟨⟩
theorem tw11702940233233036041:True:=⟨⟩
theorem tw3671029550734112926:True:=⟨⟩
theorem tw17032581298325915560:True:=⟨⟩
theorem tw3473615683959636822:True:=⟨⟩
theorem tw13337851778559972271:True:=⟨⟩
theorem tw15066971360078459609:True:=⟨⟩
theorem tw16166899296253236676:True:=⟨⟩
theorem tw15372278292487560862:True:=⟨⟩
theorem tw3918105694566271648:True:=⟨⟩
theorem tw7781684327310449914:True:=⟨⟩
theorem tw1378636235555100256:True:=⟨⟩
theorem tw3604501245128074439:True:=⟨⟩
theorem tw2169834973509680489:True:=⟨⟩
theorem tw13380580006756557443:True:=⟨⟩
theorem tw6926075700203433117:True:=⟨⟩
theorem tw9858127948512594826:True:=⟨⟩
theorem tw15245466830562190120:True:=⟨⟩
theorem tw16852124977580113180:True:=⟨⟩
theorem tw7447572931263444540:True:=⟨⟩
theorem tw439270546762936451:True:=⟨⟩
theorem tw16695191509633588458:True:=⟨⟩
theorem tw4091315553020818167:True:=⟨⟩
theorem tw10600189786919721142:True:=⟨⟩
theorem tw10084985875334423228:True:=⟨⟩
theorem tw3446971167365428758:True:=⟨⟩
theorem tw6753217882223934054:True:=⟨⟩
theorem tw15794563004270691521:True:=⟨⟩
theorem tw16481474083595691347:True:=⟨⟩
theorem tw7246893894283840329:True:=⟨⟩
theorem tw12346400651099542981:True:=⟨⟩
theorem tw12753350704541425999:True:=⟨⟩
theorem tw14985427257755881338:True:=⟨⟩
theorem tw1750697499682998602:True:=⟨⟩
theorem tw17734957483211319993:True:=⟨⟩
theorem tw16209281753753117403:True:=⟨⟩
theorem tw15560126507561540145:True:=⟨⟩
theorem tw1393846077713723781:True:=⟨⟩
theorem tw7315694341168922070:True:=⟨⟩
theorem tw11193827543915805828:True:=⟨⟩
theorem tw17280790131984738483:True:=⟨⟩
theorem tw6641701829632212150:True:=⟨⟩
theorem tw568119052054732226:True:=⟨⟩
theorem tw15575057135790361443:True:=⟨⟩
theorem tw9100227064811267983:True:=⟨⟩
theorem tw14985071836684200973:True:=⟨⟩
theorem tw77479944412702477:True:=⟨⟩
theorem tw1532135762890816730:True:=⟨⟩
theorem tw2774720718162329648:True:=⟨⟩
theorem tw7654106792330277379:True:=⟨⟩
theorem tw11713515287716313046:True:=⟨⟩
theorem tw1776940442457272411:True:=⟨⟩
theorem tw13050512448272734562:True:=⟨⟩
theorem tw8086796914307876461:True:=⟨⟩
theorem tw16957123975331025511:True:=⟨⟩
theorem tw17691771898207688508:True:=⟨⟩
theorem tw11782775318122359460:True:=⟨⟩
theorem tw11685990358285624708:True:=⟨⟩
theorem tw5060409662490650317:True:=⟨⟩
theorem tw14408624939954858797:True:=⟨⟩
theorem tw11391951639687425998:True:=⟨⟩
theorem tw1864590552810550538:True:=⟨⟩
theorem tw7137805745505965608:True:=⟨⟩
theorem tw17313422273846923280:True:=⟨⟩
theorem tw17175281003857246455:True:=⟨⟩
theorem tw2433863241189358278:True:=⟨⟩
theorem tw9677112454641657989:True:=⟨⟩
theorem tw15586133301866080276:True:=⟨⟩
theorem tw5635124646636738323:True:=⟨⟩
theorem tw4472244422892015932:True:=⟨⟩
theorem tw6380088975815156829:True:=⟨⟩
theorem tw7630110941972180202:True:=⟨⟩
theorem tw9805441736995771977:True:=⟨⟩
theorem tw17874053551092859155:True:=⟨⟩
theorem tw2696386645537007319:True:=⟨⟩
theorem tw3392227971000903228:True:=⟨⟩
theorem tw13333927147641849766:True:=⟨⟩
theorem tw17297670794368395773:True:=⟨⟩
theorem tw1222750279023947838:True:=⟨⟩
theorem tw13926295464750851391:True:=⟨⟩
theorem tw4847881791500017044:True:=⟨⟩
theorem tw16089730726539225632:True:=⟨⟩
theorem tw13981828509363401755:True:=⟨⟩
theorem tw7958813764784343624:True:=⟨⟩
theorem tw10930358442646717258:True:=⟨⟩
theorem tw14780597606253360623:True:=⟨⟩
theorem tw15300407358791729690:True:=⟨⟩
theorem tw6008941000463052664:True:=⟨⟩
theorem tw14435854146301489316:True:=⟨⟩
theorem tw7576379291455997693:True:=⟨⟩
theorem tw10214339901260726092:True:=⟨⟩
theorem tw7395778396666157156:True:=⟨⟩
theorem tw9724225540003208433:True:=⟨⟩
theorem tw14214872619488581635:True:=⟨⟩
theorem tw16091367150906638644:True:=⟨⟩
theorem tw6602185382908906696:True:=⟨⟩
theorem tw14978806335752673378:True:=⟨⟩
theorem tw5166090926561761859:True:=⟨⟩
theorem tw11376471649118499787:True:=⟨⟩
theorem tw14161345372157891205:True:=⟨⟩
theorem tw1807900426308082395:True:=⟨⟩
theorem tw1977274943922983278:True:=⟨⟩
theorem tw6754232993575951027:True:=⟨⟩
theorem tw1991783136031710104:True:=⟨⟩
theorem tw13348773028155566530:True:=⟨⟩
theorem tw4099249674752643188:True:=⟨⟩
theorem tw684157003156267910:True:=⟨⟩
theorem tw276828062813463437:True:=⟨⟩
theorem tw5640580216742939609:True:=⟨⟩
theorem tw18331817506721847975:True:=⟨⟩
theorem tw16287728637840144730:True:=⟨⟩
theorem tw15242857188554605022:True:=⟨⟩
theorem tw1206918005162808457:True:=⟨⟩
theorem tw1312648267170483199:True:=⟨⟩
theorem tw12526014550528315196:True:=⟨⟩
theorem tw13466674488841795749:True:=⟨⟩
theorem tw8267771568678106421:True:=⟨⟩
theorem tw13442876025356177048:True:=⟨⟩
theorem tw5586938555010281733:True:=⟨⟩
theorem tw8400777926848669342:True:=⟨⟩
theorem tw2910786778953871316:True:=⟨⟩
theorem tw1956490258325605745:True:=⟨⟩
theorem tw305828005046215507:True:=⟨⟩
theorem tw17708956575879080927:True:=⟨⟩
theorem tw17593586330081010277:True:=⟨⟩
theorem tw6117194689661195360:True:=⟨⟩
theorem tw2332201199705754797:True:=⟨⟩
theorem tw4782072548382833566:True:=⟨⟩
theorem tw11429540806550707668:True:=⟨⟩
theorem tw8001106145334725955:True:=⟨⟩
theorem tw15607969289056250808:True:=⟨⟩
theorem tw11147230115960903866:True:=⟨⟩
theorem tw17544173475752271403:True:=⟨⟩
theorem tw3176883963254264286:True:=⟨⟩
theorem tw5447862879976675559:True:=⟨⟩
theorem tw14602300322759452589:True:=⟨⟩
theorem tw15881620073469612775:True:=⟨⟩
theorem tw14823868091682584794:True:=⟨⟩
theorem tw15793551448996668:True:=⟨⟩
theorem tw2239120695708817433:True:=⟨⟩
theorem tw15861007550444476821:True:=⟨⟩
theorem tw12993096077884536565:True:=⟨⟩
theorem tw1458335608744841399:True:=⟨⟩
theorem tw2507801432287201644:True:=⟨⟩
theorem tw12871807098065138343:True:=⟨⟩
theorem tw12516094702869438424:True:=⟨⟩
theorem tw12425971031477617241:True:=⟨⟩
theorem tw5570824765677938178:True:=⟨⟩
theorem tw4560092551221484528:True:=⟨⟩
theorem tw7606809395406960911:True:=⟨⟩
theorem tw12005941680483101558:True:=⟨⟩
theorem tw16403898777471980530:True:=⟨⟩
theorem tw6739206748606362927:True:=⟨⟩
theorem tw8900398631392052015:True:=⟨⟩
theorem tw766090699262426134:True:=⟨⟩
theorem tw14018329414699583736:True:=⟨⟩
theorem tw2291162517257247235:True:=⟨⟩
theorem tw8809224901059202319:True:=⟨⟩
theorem tw4723817965119481861:True:=⟨⟩
theorem tw7462252778377498031:True:=⟨⟩
theorem tw15066228977022073848:True:=⟨⟩
theorem tw7886943801250287031:True:=⟨⟩
theorem tw7549183664137332202:True:=⟨⟩
theorem tw12461719195175245023:True:=⟨⟩
theorem tw16798986501160187467:True:=⟨⟩
theorem tw2591016755954295827:True:=⟨⟩
theorem tw12057033878026026796:True:=⟨⟩
theorem tw12776485592490658923:True:=⟨⟩
theorem tw12876722986707140149:True:=⟨⟩
theorem tw9100797952743320307:True:=⟨⟩
theorem tw2536700764224722314:True:=⟨⟩
theorem tw3530389579228223806:True:=⟨⟩
theorem tw13849145748052191886:True:=⟨⟩
theorem tw4831685872649871079:True:=⟨⟩
theorem tw474977306531295957:True:=⟨⟩
theorem tw575995089371421561:True:=⟨⟩
theorem tw13787741583614715687:True:=⟨⟩
theorem tw15752367305719739214:True:=⟨⟩
theorem tw14674806667070329653:True:=⟨⟩
theorem tw1765404161386911784:True:=⟨⟩
theorem tw11944647489777673789:True:=⟨⟩
theorem tw17041937784612648715:True:=⟨⟩
theorem tw4636255470730241448:True:=⟨⟩
theorem tw2982147777199449727:True:=⟨⟩
theorem tw15396755426465642592:True:=⟨⟩
theorem tw13538923198022373485:True:=⟨⟩
theorem tw15369880168976200893:True:=⟨⟩
theorem tw1282776586215659983:True:=⟨⟩
theorem tw4147012966609824851:True:=⟨⟩
theorem tw18331667668630609426:True:=⟨⟩
theorem tw11825896789143180138:True:=⟨⟩
theorem tw16737798666880475624:True:=⟨⟩
theorem tw1859817014010209020:True:=⟨⟩
theorem tw14257081098489952342:True:=⟨⟩
theorem tw394145082203426661:True:=⟨⟩
theorem tw8909936214097547554:True:=⟨⟩
theorem tw12969142039272316793:True:=⟨⟩
theorem tw11389915406201352059:True:=⟨⟩
theorem tw1060184742230231832:True:=⟨⟩
theorem tw877161374226384780:True:=⟨⟩
theorem tw4036304441459722416:True:=⟨⟩
theorem tw9334009412032863459:True:=⟨⟩
theorem tw14802100190595664217:True:=⟨⟩
theorem tw14290057566034899620:True:=⟨⟩
theorem tw7499591090203848671:True:=⟨⟩
theorem tw8728601090085472347:True:=⟨⟩
theorem tw14754489999153185425:True:=⟨⟩
theorem tw8379001423534553560:True:=⟨⟩
theorem tw9117030285591802059:True:=⟨⟩
theorem tw12730041645051980610:True:=⟨⟩
theorem tw12690361314499403704:True:=⟨⟩
theorem tw14807779811492767396:True:=⟨⟩
theorem tw4119260943565476970:True:=⟨⟩
theorem tw10417379423006749676:True:=⟨⟩
theorem tw8721687731591746119:True:=⟨⟩
theorem tw6155781857541952998:True:=⟨⟩
theorem tw13376354646052604919:True:=⟨⟩
theorem tw5115560321076860370:True:=⟨⟩
theorem tw14944088215170049872:True:=⟨⟩
theorem tw18361445811738390485:True:=⟨⟩
theorem tw10228062561612896555:True:=⟨⟩
theorem tw12353632384160188139:True:=⟨⟩
theorem tw3416622842315842100:True:=⟨⟩
theorem tw4334118088530297348:True:=⟨⟩
theorem tw14285556553183837894:True:=⟨⟩
theorem tw10878596698781574138:True:=⟨⟩
theorem tw18214413328123998831:True:=⟨⟩
theorem tw13868281700807453466:True:=⟨⟩
theorem tw15182194505702419268:True:=⟨⟩
theorem tw18208957942085677021:True:=⟨⟩
theorem tw2516310962852360260:True:=⟨⟩
theorem tw1842337874384700007:True:=⟨⟩
theorem tw17094193871612398410:True:=⟨⟩
theorem tw3771512704237145595:True:=⟨⟩
theorem tw14399102330879320069:True:=⟨⟩
theorem tw17362296229507504136:True:=⟨⟩
theorem tw5905332653602032780:True:=⟨⟩
theorem tw6885310112317338923:True:=⟨⟩
theorem tw12527620653271701504:True:=⟨⟩
theorem tw9772874288274064540:True:=⟨⟩
theorem tw712365145246918469:True:=⟨⟩
theorem tw1279645519400593196:True:=⟨⟩
theorem tw11711712736127297355:True:=⟨⟩
theorem tw5608892453775276509:True:=⟨⟩
theorem tw6294213318059129704:True:=⟨⟩
theorem tw5531705053953961239:True:=⟨⟩
theorem tw4142186237802273542:True:=⟨⟩
theorem tw8631436410625370356:True:=⟨⟩
theorem tw6281249638718712124:True:=⟨⟩
theorem tw9288572967079239021:True:=⟨⟩
theorem tw14829928482481212065:True:=⟨⟩
theorem tw12677665943306611097:True:=⟨⟩
theorem tw10034045147256384238:True:=⟨⟩
theorem tw5768858061414142750:True:=⟨⟩
theorem tw14722657590710069756:True:=⟨⟩
theorem tw17696833377879103832:True:=⟨⟩
theorem tw3879686869776753351:True:=⟨⟩
theorem tw16185728978471697113:True:=⟨⟩
theorem tw14655475382736837781:True:=⟨⟩
theorem tw8817400551714715336:True:=⟨⟩
theorem tw4431467564807824402:True:=⟨⟩
theorem tw1852463564913045714:True:=⟨⟩
theorem tw7346691762142319030:True:=⟨⟩
theorem tw12123750731775649117:True:=⟨⟩
theorem tw9108636972259862883:True:=⟨⟩
theorem tw15232761390128843556:True:=⟨⟩
theorem tw12480987471474512548:True:=⟨⟩
theorem tw6451454443904144058:True:=⟨⟩
theorem tw14506909818198243190:True:=⟨⟩
theorem tw2946553892986228862:True:=⟨⟩
theorem tw5802797726895190405:True:=⟨⟩
theorem tw17479621021969047261:True:=⟨⟩
theorem tw8088590644900288128:True:=⟨⟩
theorem tw10405396530291617180:True:=⟨⟩
theorem tw9738070339936897022:True:=⟨⟩
theorem tw17859222748978718580:True:=⟨⟩
theorem tw10136707387989065976:True:=⟨⟩
theorem tw8091233695590189009:True:=⟨⟩
theorem tw5243780308228922868:True:=⟨⟩
theorem tw1825081782083117995:True:=⟨⟩
theorem tw6678280966719827252:True:=⟨⟩
theorem tw17663047279281165675:True:=⟨⟩
theorem tw10259876697227579000:True:=⟨⟩
theorem tw14993589412075111746:True:=⟨⟩
theorem tw16316018879556015197:True:=⟨⟩
theorem tw8316545159842863869:True:=⟨⟩
theorem tw8140963133869398389:True:=⟨⟩
theorem tw12288112093588635434:True:=⟨⟩
theorem tw12896167522432169581:True:=⟨⟩
theorem tw7432717471697862818:True:=⟨⟩
theorem tw3592682963906863849:True:=⟨⟩
theorem tw10819269465758507076:True:=⟨⟩
theorem tw11002144500572009085:True:=⟨⟩
theorem tw6600867589616884299:True:=⟨⟩
theorem tw267330351216165329:True:=⟨⟩
theorem tw4127031584013090817:True:=⟨⟩
theorem tw1706306585703431448:True:=⟨⟩
theorem tw9969819975127084145:True:=⟨⟩
theorem tw13191136180904366976:True:=⟨⟩
theorem tw12681117388990448888:True:=⟨⟩
theorem tw17637871214186134141:True:=⟨⟩
theorem tw11377040069363717376:True:=⟨⟩
theorem tw11400622967957902584:True:=⟨⟩
theorem tw8287859287377303281:True:=⟨⟩
theorem tw10533268590708263240:True:=⟨⟩
end PySem.W.Fast
open PySem PySem.W PyProof.Rows
set_option maxRecDepth 100000 in
set_option maxHeartbeats 0 in
theorem PySem.Challenge.cw_jumpfield_k54_the_road_holds : PySem.Challenge.rw_jumpfield_k54_the_road.Holds := by
 w_on; o_law; k_head; (case hw=>w_witness2)
 k_fill
 refine J.walk (l:=PySem.Challenge.rw_jumpfield_k54_the_road) rfl rfl (fun w h Y=>PySem.W.kIn_of Y) ?F
 case F =>
  intro w mg fa h KX G hmg;refine' J.fin KX G hmg ?h0 ?h1 ?h2 ?h3 ?h4 ?h5 ?h6 ?h7 ?h8 ?h9 ?h10 ?h11 ?h12 ?h13 ?h14 ?h15 ?h16 ?h17 ?h18 ?h19 ?h20 ?h21 ?h22 ?h23 ?h24 ?h25 ?h26 ?h27 ?h28 ?h29 ?h30 ?h31 ?h32 ?h33 ?h34 ?h35 ?h36 ?h37 ?h38 ?h39 ?h40 ?h41 ?h42 ?h43 ?h44 ?h45 ?h46 ?h47 ?h48 ?h49 ?h50 ?h51 ?h52 ?h53 ?h54 ?h55 ?h56 ?h57 ?h58 ?h59 ?h60 ?h61 ?h62 ?h63 ?h64 ?h65 ?h66 ?h67 ?h68 ?h69 ?h70 ?h71 ?h72 ?h73 ?h74 ?h75 ?h76 ?h77 ?h78 ?h79 ?h80 ?h81 ?h82 ?h83 ?h84 ?h85 ?h86 ?h87 ?h88 ?h89 ?h90 ?h91 ?h92 ?h93 ?h94 ?h95 ?h96 ?h97 ?h98 ?h99 ?h100 ?h101 ?h102 ?h103 ?h104 ?h105 ?h106 ?h107 ?h108 ?h109 ?h110 ?h111 ?h112 ?h113 ?h114 ?h115 ?h116 ?h117 ?h118 ?h119 ?h120 ?h121 ?h122 ?h123 ?h124 ?h125 ?h126 ?h127 ?h128 ?h129 ?h130 ?h131 ?h132 ?h133 ?h134 ?h135 ?h136 ?h137 ?h138 ?h139 ?h140 ?h141 ?h142 ?h143 ?h144 ?h145 ?h146 ?h147
  (case h0 | h1 | h2 | h3 | h4 | h5=>k_is)
  (case h6 | h7 | h8 | h9 | h10 | h11=>(refine' ⟨?_,?_,?_,?_⟩<;>k_is))
  (case h12 | h13 | h14 | h15 | h16 | h17 | h18 | h19 | h20 | h21 | h22 | h23 | h24 | h25 | h26 | h27 | h28 | h29 | h30=>k_is)
  (case h31 | h32 | h33 | h34 | h35 | h36 | h37 | h38 | h39 | h40 | h41 | h42 | h43 | h44 | h45 | h46 | h47 | h48 | h49 | h50 | h51 | h52 | h53 | h54 | h55 | h56 | h57 | h58 | h59 | h60 | h61 | h62 | h63 | h64 | h65 | h66 | h67 | h68 | h69 | h70 | h71 | h72 | h73 | h74 | h75 | h76 | h77 | h78 | h79 | h80 | h81 | h82 | h83 | h84 | h85 | h86 | h87 | h88 | h89=>(apply J.Fg.mk; k_is; apply L2.UV<;>k_is))
  (case h90 | h91 | h92 | h93 | h94 | h95 | h96 | h97 | h98 | h99 | h100 | h101 | h102 | h103 | h104 | h105 | h106 | h107 | h108 | h109 | h110 | h111 | h112=>(apply J.Fm.mk; (apply L2.Qm.mk<;>k_is); apply L2.UV<;>k_is))
  (case h113 | h114 | h115 | h116 | h117 | h118=>(apply J.Fi.mk; (apply L2.Mk.mk<;>k_is); apply L2.UV<;>k_is))
  (case h119 | h120 | h121 | h122 | h123 | h124 | h125 | h126 | h127 | h128 | h129 | h130 | h131 | h132 | h133 | h134 | h135 | h136=>k_is)
  (case h137=>decide +kernel)
  (case h138=>k_is)
  (case h139=>decide +kernel)
  (case h140=>k_is)
  (case h141=>decide +kernel)
  (case h142 | h143 | h144 | h145=>k_is)
  (case h146=>decide +kernel)
  (case h147=>k_is)
