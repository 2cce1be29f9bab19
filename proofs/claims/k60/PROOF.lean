import PyProof.Rows.All
import Wide.All
import OpenK.AllK
import Wide.FinOn
import Lean
import PyProof.EqAt
import PyProof.EqKinds
import PyProof.TupleCall
import PyProof.Rows.CatFin
import PyProof.StrLawsIn
import KE.IntTextLaws
import KE.IntTextText
import PyProof.StrLawsTight
import PyProof.StrLawsChain
import PyProof.Rows.StrLawsPart
import PyProof.Rows.StrFirst
import PyProof.Rows.ReprOcc
import PyProof.Rows.StrItems
import PyProof.SumAny
import PyProof.SeqI3
import PyProof.WalkInts
import PyProof.NeKinds
import KE.KDictLaws
import PyProof.DictIter
import PyProof.DictWalks
import PyProof.Rows.DictUnroll
import KE.KSortTup
import KE.KSortKey
import PySem.Challenge.RW_jumpfield_k60_whole_turned_and_moved
set_option Elab.async false
set_option linter.all false
set_option genSizeOfSpec false
set_option maxRecDepth 100000
set_option maxHeartbeats 8000000
abbrev A_:=List (PySem.Addr×PySem.Obj)
abbrev B_:=PySem.Value->PySem.Shared->Prop
abbrev C_:=PySem.Str->Option PySem.Value
abbrev D_:=Int->Int->Nat
abbrev E_:=PySem.FuncData
abbrev F_:=List PySem.Value
abbrev H_:=List PySem.Addr
abbrev I_:=List Int
abbrev J_:=List Nat
abbrev K_:=List PySem.Str
abbrev L_:=Nat->Nat
abbrev M_:=Array PySem.Value
abbrev N_:=PySem.Program
abbrev O_:=PySem.W.Frag
abbrev P_:=PySem.Shared
abbrev Q_:=PySem.World
abbrev R_:=PySem.Addr
abbrev S_:=PySem.Value
abbrev T_:=PySem.Heap
theorem O_9{α:Sort u}{a:α}{q:Prop}:a=a∨q:=Or.inl rfl
theorem R_9{α:Sort u}{β:Sort v}{γ:Sort w}{f:α->β->γ}:∀a b,f a b=f a b:=λ_ _=>rfl
theorem S_4{p:Prop}(h:p:=by show 4<=PySem.sizeLine;decide):p:=h
theorem S_0{p:Prop}(h:p:=by show 0<=PySem.sizeLine;decide):p:=h
theorem S_1{p:Prop}(h:p:=by show 1<=PySem.sizeLine;decide):p:=h
theorem S_2{p:Prop}(h:p:=by show 2<=PySem.sizeLine;decide):p:=h
theorem S_3{p:Prop}(h:p:=by show 3<=PySem.sizeLine;decide):p:=h
theorem D_9{p:Prop}(h:p:=by intro _ _ _ _ h;rcases h;subst_vars;rfl):p:=h
theorem A0{p:Prop}(h:p:=by lia):p:=h
theorem A1{p:Prop}(h:p:=by decide +kernel):p:=h
theorem A3{p:Prop}(h:p:=by intro z; cases z):p:=h
theorem A4{p:Prop}(h:p:=by decide):p:=h
theorem A6{p:Prop}(h:p:=by simp):p:=h
theorem B0{p:Prop}(h:p:=by intro _ z; cases z):p:=h
theorem B1{p:Prop}(h:p:=by show (0:Int) < 3; decide):p:=h
theorem B2{p:Prop}(h:p:=by show 0 < 1000; decide):p:=h
theorem B3{p:Prop}(h:p:=by show 1 < 1000; decide):p:=h
open List renaming length_map->B4,getElem?_eq_some_iff->B5,getElem?_map->B6,mem_cons->B7,getElem?_eq_getElem->C0,length_append->C1,map_append->C3,mem_cons_self->C4,mem_cons_of_mem->C5,getD_eq_getElem?_getD->C6,mem_singleton->C7,mem_map->C8,mem_of_getElem?->D0,not_mem_nil->D3,mem_append->D4,length_cons->D6,size_toArray->F0,take_add_one->F3,map_cons->F4,take_length->F6,getElem?_of_mem->F7,getElem?_append_right->F8,length_take->J0,mem_append_right->J9,mem_range->L7,getElem?_append_left->M0,map_map->M5,nodup_cons->M8,length_range->M9,nodup_iff_pairwise_ne->O0,getElem?_eq_none->O1,find?_cons->O5,getElem?_range->O6,idxOf_lt_length_of_mem->O8,sum_cons->P0,lookup_cons->P2,all_eq_true->P3,length_singleton->P6,length_replicate->P7,length_nil->P8,append_nil->P9,flatten_cons->Q4,append_assoc->Q5,nodup_nil->Q7,getElem_mem->Q8,nodup_append->R6,any_eq_true->R8,replicate_succ->S0,map_eq_nil_iff->S1,range_succ->S2,findIdx?_eq_some_iff_getElem->S3,mem_flatMap->S5,any_cons->S7,mem_append_left->S9,mem_filter->T4,foldl_cons->T5,map_congr_left->T6,length_pos_iff->T7,getElem?_zip_eq_some->U9,findIdx?_eq_none_iff->V0,pairwise_map->V3,getElem?_take_of_lt->V5,mem_reverse->V9,getElem?_replicate->W0,getElem?_cons_succ->W1,countP_cons->W2,length_zip->W6,mem_iff_getElem->Y7,filterMap_cons->Y9,all_cons->Z0,map_nil->Z7,flatMap_cons->Z8,all_map->Z9
open Nat renaming le_refl->B8,le_trans->D7,mod_lt->F1,lt_of_le_of_lt->F2,lt_of_lt_of_le->F5,pow_succ->F9,ne_of_lt->J6,mod_eq_of_lt->J8,mul_le_mul_left->L5,div_eq_of_lt->L6,zero_le->L8,not_lt_zero->L9,zero_add->M4,div_add_mod->M7,add_mul_div_left->N4,min_le_right->N5,add_mul_mod_self_left->N6,pow_le_pow_right->N9,lt_succ_iff_lt_or_eq->O3,lt_irrefl->O9,le_of_not_lt->P1,succ_le_succ->Q6,le_succ->Q9,mul_comm->R3,mul_le_mul_right->S8,sub_self->T9,ne_of_gt->U0,lt_trans->U1,le_of_lt->U2,add_comm->U3,sub_right_comm->U5,pow_pos->V1,add_mul->V2,lt_succ_self->V6,lt_of_not_le->V7,le_add_right->V8,div_lt_iff_lt_mul->W7,pow_lt_pow_right->W9,mul_one->Y4,mul_add->Y5,lt_one_iff->Y6,add_sub_cancel->Z2,succ_mul->Z3,lt_succ_of_lt->Z4,lt_or_ge->Z5,add_zero->Z6
open PySem.Heap renaming get?_push_of_some->B9,get?_push_size->D8,lt_size->D9,get?_none_of_le->O4,get?_update_ne->O7,size_push->P5,get?_update_other->W4,get?_update_self->W8
open Option renaming map_eq_some_iff->C9,toList_some->R0,isSome_iff_exists->V4,map_some->W5
open Bool renaming false_ne_true->D5,false_eq_true->O2,and_eq_true->P4,eq_iff_iff->Q0,eq_false_iff->X5
open Int renaming eq_ofNat_of_zero_le->J3,toNat_natCast->J7,natCast_pow->M6,natCast_add->N3,toNat_of_nonneg->N7,natCast_mul->N8,add_sub_cancel->R5,le_refl->R7,lt_trans->S4,natCast_ediv->S6,zero_add->U4,sub_eq_add_neg->U6,fdiv_eq_ediv_of_nonneg->U7,emod_lt_of_pos->U8,pow_succ->W3,mul_add->Y8,mul_assoc->Z1,le_trans->X4
open Array renaming getElem?_eq_getElem->R9,length_toList->T8
open PySem renaming wpAny_bind->X6,wpAny_pure->K1,boot_len->A1a,wpAny_truthy_bool->A1c,mem_of_lookup->A1f,wpAny_mono->A1h,wpAny_field->A2a,wpAny_call_entry->A2c,wpAny_seqItems->A2d,wpAny_typeNameOfWhole_keyiter->A2g,wpAny_Call_Name_kw->A2h,wpAny_setField_rec->A3a,wpAny_passesOwn->A3b,wpAny_holding->A3d,wpAny_newObj_type->A3e,wpAny_attempt->A3h,wpAny_typeNameOf_keyiter->A4b,call_meets->A4c,wpAny_pyIter_list->A4f,tupleKind_room_in1->A5c,codeAny_mono->A6c,typeIs_str->A6d,wpAny_execs_nil->A6e,wpAny_setField->A7a,wpAny_updateSeq_pair->A7b,wpAny_standAt->A7e,wpAny_onRaise->A7f
open Int.ofNat renaming inj->K2
open Ne renaming symm->K3
open Option.some renaming inj->K4
open Classical renaming byContradiction->K5,choose_spec->A6a
open PySem.W renaming mg_of->K6,kia_one->A0h,plainGet_of->A6b,callWith_K->A6g
open PySem.PassesOwn renaming never->K7
open PySem.F renaming plainAttrs_list->K8,slot_list_append->A0a,type_list_append->A0b,plainAttrs_str->A0e,slot_str_join->A1d,type_str_join->A1e,slot_dict_keyiterator_next->A3c,slot_tuple_iterator_next->A3g,slot_str_split->A5e,type_str_split->A5f,slot_dict_get->A5g,slot_zip_next->A6f,args_str_split_2->A7g
open PySem.Paired renaming length->K9,snoc->A2b
open PyProof.Rows renaming boot_tuple->A0f,boot_isinstance->A1b,callWith_type1->A1g,boot_int->A2e,boot_str->A2f,boot_min->A4d,boot_max->A5h
open PySem.Heap.SameBut renaming update->A4h
open List.Pairwise renaming imp_of_mem->A5a
open PySem.Obj renaming data_mapFields->A5b
abbrev X7:=@if_neg
abbrev X8:=@decide_eq_true
abbrev X9:=@decide_eq_false
abbrev K0:=@if_pos
abbrev A0c:=@or_false
abbrev A0d:=@of_decide_eq_true
abbrev A0g:=@congrArg
abbrev A3f:=@if_false
abbrev A4a:=@not_false_eq_true
abbrev A4e:=@beq_self_eq_true
abbrev A4g:=@if_true
abbrev A5d:=@not_or
abbrev A6h:=@beq_iff_eq
abbrev A7c:=@decide_eq_true_eq
abbrev A7d:=@congrFun
open PySem.W (instObj methodObj lookIn plainGet hasDictIn findIn handedIn isFn plainOver takerIn any_some makesIn emptyDict keepIn specialIn takesIn mroIn kitOne kitx_list kitx_dict notCls clsIn)
namespace L2
open PySem PySem.Spec PyProof.Rows
abbrev Key:=Sum Int Str
def Ro:Key->Value->Bool
|.inl k,v=>Value.isInt k v
|.inr x,v=>Value.isStrOf x v
def keyH(w:Q_):Key->Int
|.inl k=>hashInt k
|.inr x=>hashStr w x
theorem Co:∀{k:Key}{v:S_},Ro k v=true->(∃i t,k=Sum.inl i/\v=Value.int i t)\/(∃x t,k=Sum.inr x/\v=Value.str x t)
|.inl i,v,h=>by
 obtain⟨t,e⟩:=Value.isInt_shape (k:=i) (v:=v) h;exact .inl ⟨i,t,rfl,e⟩
|.inr x,v,h=>by
 obtain⟨t,e⟩:=Value.isStrOf_shape (x:=x) (v:=v) h;exact .inr ⟨x,t,rfl,e⟩
theorem Zc(i:Int)(t:Tok):Ro (.inl i) (.int i t)=true:=by simp[Ro,Value.isInt]
theorem Zb(x:Str)(t:Tok):Ro (.inr x) (.str x t)=true:=by simp[Ro,Value.isStrOf]
theorem key_ll(a b:Int):decide ((Sum.inl a:Key)=Sum.inl b)=(a==b):=by
 by_cases e:a=b
 .subst e;simp
 .have h:¬(Sum.inl a:Key)=Sum.inl b:=λq=>e (Sum.inl.inj q);rw[X9 h];exact(beq_eq_false_iff_ne.mpr e).symm
theorem key_rr(a b:Str):decide ((Sum.inr a:Key)=Sum.inr b)=decide (a=b):=by
 by_cases e:a=b
 .subst e;simp
 .have h:¬(Sum.inr a:Key)=Sum.inr b:=λq=>e (Sum.inr.inj q);rw[X9 h,X9 e]
theorem key_lr(a:Int)(b:Str):decide ((Sum.inl a:Key)=Sum.inr b)=false:=X9 (λq=>nomatch q)
theorem key_rl(a:Str)(b:Int):decide ((Sum.inr a:Key)=Sum.inl b)=false:=X9 (λq=>nomatch q)
def CA(prog:N_)(w:Q_):PySem.KeyKind prog w Key where
 is:=Ro
 hash:=keyH w
 inj:=λv a b ha hb=>by
  rcases Co ha with ⟨i,t,rfl,rfl⟩|⟨x,t,rfl,rfl⟩
  .rcases Co hb with ⟨j,u,rfl,e⟩|⟨y,u,rfl,e⟩
   .injection e with e1 _;rw[e1]
   .exact nomatch e
  .rcases Co hb with ⟨j,u,rfl,e⟩|⟨y,u,rfl,e⟩
   .exact nomatch e
   .injection e with e1 _;rw[e1]
 byValue:=λk v h=>by
  rcases Co h with ⟨i,t,rfl,rfl⟩|⟨x,t,rfl,rfl⟩<;>rfl
 pyHash:=λhv h=>by
  rcases Co hv with ⟨i,t,rfl,rfl⟩|⟨x,t,rfl,rfl⟩
  .exact wpAny_pyHash_int h
  .exact wpAny_pyHash_str h
 eqBool:=λhu hv h=>by
  rcases Co hu with ⟨i,t,rfl,rfl⟩|⟨x,t,rfl,rfl⟩
  .rcases Co hv with ⟨j,u,rfl,rfl⟩|⟨y,u,rfl,rfl⟩
   .rw[key_ll]at h;exact wpAny_eqBool_int h
   .rw[key_lr]at h;exact SeqAt.EqAt.int_str i t y u _ _ _ _ h
  .rcases Co hv with ⟨j,u,rfl,rfl⟩|⟨y,u,rfl,rfl⟩
   .rw[key_rl]at h;exact SeqAt.EqAt.str_int x t j u _ _ _ _ h
   .rw[key_rr]at h;exact wpAny_eqBool_str h
 «strs»:=λk x t v h=>by
  rcases Co h with ⟨i,u,rfl,e⟩|⟨y,u,rfl,e⟩
  .exact nomatch e
  .injection e with e1 _
   subst e1;cases v<;>rfl
theorem Us(prog:N_)(w:Q_)(i:Int)(t:Tok):(CA prog w).is (.inl i) (.int i t)=true:=Zc i t
theorem Ur(prog:N_)(w:Q_)(x:Str)(t:Tok):(CA prog w).is (.inr x) (.str x t)=true:=Zb x t
inductive V where
 |non|bl (b:Bool)|int (i:Int)|str (x:Str)|byt (b:Array UInt8)|flt (b:UInt64)|ref (a:R_)|ty (n:String)
 deriving DecidableEq
def Bf:V->Value->Prop
|.non,u=>u=Value.none
|.bl b,u=>u=Value.bool b
|.int i,u=>∃t,u=Value.int i t
|.str x,u=>∃t,u=Value.str x t
|.byt b,u=>∃t,u=Value.bytes b t
|.flt b,u=>∃t,u=Value.float b t
|.ref a,u=>u=Value.ref a
|.ty n,u=>u=Value.type n
abbrev AS:List V->List Value->Prop:=Paired Bf
theorem AS.length{xs:List V}{us:F_}(r:AS xs us):xs.length=us.length:=K9 r
theorem AS.get:∀{xs:List V}{us:F_}{i:Nat}{x:V},AS xs us->xs[i]?=some x->∃u,us[i]?=some u/\Bf x u
|_,_,_,_,.nil,e=>by simp at e
|_,_,0,_,.cons r _,e=>by simp at e;subst e;exact⟨_,rfl,r⟩
|_,_,i+1,x,.cons _ t,e=>by
 obtain⟨u,a,b⟩:=AS.get (i:=i) (x:=x) t (by simpa using e);exact⟨u,by simpa using a,b⟩
theorem AS.set{x:V}{u:S_}(r:Bf x u):∀{xs:List V}{us:F_}(i:Nat),AS xs us->AS (xs.set i x) (us.set i u)
|_,_,_,.nil=>.nil
|_,_,0,.cons _ t=>.cons r t
|_,_,i+1,.cons q t=>.cons q (AS.set r i t)
theorem AS.append:∀{xs ys:List V}{us a:F_},AS xs us->AS ys a->AS (xs++ys) (us++a)
|_,_,_,_,.nil,s=>s
|_,_,_,_,.cons r t,s=>.cons r (AS.append t s)
theorem AS.take:∀{xs:List V}{us:F_}(n:Nat),AS xs us->AS (xs.take n) (us.take n)
|_,_,0,_=>.nil
|_,_,_+1,.nil=>.nil
|_,_,n+1,.cons r t=>.cons r (AS.take n t)
theorem AS.drop:∀{xs:List V}{us:F_}(n:Nat),AS xs us->AS (xs.drop n) (us.drop n)
|_,_,0,r=>r
|_,_,_+1,.nil=>.nil
|_,_,n+1,.cons _ t=>AS.drop n t
theorem AS.none_of:∀{xs:List V}{us:F_}{i:Nat},AS xs us->xs[i]?=none->us[i]?=none:=λ{xs us i} r e=>by
 have a:=r.length;have b:xs.length<=i:=List.getElem?_eq_none_iff.mp e;exact List.getElem?_eq_none_iff.mpr A0
def JK:Option V->Option Value->Prop
|some v,some u=>Bf v u
|none,none=>True
|_,_=>False
def KV{κ:Type}:List (κ×V)->List (κ×Value)->Prop:=Paired λ(p:κ×V)(q:κ×Value)=>p.1=q.1/\Bf p.2 q.2
def kV:Key->V
|.inl i=>.int i
|.inr x=>.str x
inductive HO where
|lst (xs:List V)
|tup (xs:List V)
|dK (kvs:List (Key×V))|dT (kvs:List (List Key×V))
|set (S:Int->Bool) (n:Nat)
|ins (C dx:R_) (fs:List (Str×V))
|own (x:R_)
|xd (fs:List (Str×V))
|met (f x:R_)
|rng (lo hi:Int)
|frz (o:Obj) (u:HO)
|tbl (ps:M_)
|ext (φ:Heap->Prop)
abbrev Hp:=Addr->Option HO
def upd(H:Hp)(a:R_)(o:HO):Hp:=λb=>if b=a then some o else H b
theorem Af{H:Hp}{a:R_}{o:HO}:upd H a o a=some o:=by unfold upd;rw[K0 rfl]
theorem Ax{H:Hp}{a b:R_}{o:HO}(h:b≠a):upd H a o b=H b:=by unfold upd;rw[X7 h]
theorem GM{H:Hp}{a:R_}{o u:HO}:upd (upd H a o) a u=upd H a u:=by
 funext b;unfold upd;split<;>rfl
theorem AE{H:Hp}{a b:R_}{o u:HO}(h:H a=some o)(h':H b=some u)(d:o≠u):a≠b:=by
 intro e;subst e;rw[h]at h';exact d (K4 h')
theorem Aw{H:Hp}{a b:R_}{o:HO}(h:H a=some o)(h':H b=none):a≠b:=by
 intro e;subst e;rw[h]at h';cases h'
section
variable(P:N_)(w:Q_)
def BQ(H:Hp)(h:T_)(a:R_):HO->Prop
|.lst xs=>xs.length<=sizeLine/\∃(its:F_)(n:Nat),AS xs its/\h.get? a=some {cls:=.type "list",data:=.seq its.toArray n}
|.tup xs=>xs.length<=sizeLine/\∃its:List Value,AS xs its/\IsTup h a its.toArray
|.dK kvs=>kvs.length<=sizeLine/\(a==sysModules)=false/\∃vs,KV kvs vs/\h.DictOf (CA P w) a vs
|.dT kvs=>kvs.length<=sizeLine/\(a==sysModules)=false/\∃xs:List (List Key×Addr×Value),
  Paired (λ(p:List Key×V)(q:List Key×Addr×Value)=>p.1=q.1/\H q.2.1=some (.tup (p.1.map kV))/\Bf p.2 q.2.2) kvs xs /\
  ∃o es ep,h.get? a=some o/\o.ExactDict/\o.data=.dict es ep/\es.toList=xs.map (entryOfKey (tupleKind (CA P w)))/\(xs.map (·.1)).Nodup
|.set S n=>h.SetOf (intKind P w) a S n
|.ins C dx fs=>H dx=some (.own a)/\fs.length<=1000/\dx≠a/\h.get? a=some (instObj C dx) /\
  ∃mA,h.Ns1 dx mA/\(∀f,JK (fs.lookup f) (mA f))/\PySem.Within mA (fs.map (·.1))
|.own _=>∃o,h.get? a=some o
|.xd fs=>∃mA,h.Ns1 a mA/\∀f,JK (fs.lookup f) (mA f)
|.rng lo hi=>∃t u v,h.get? a=some {cls:=.type "range",data:=.fields #[.int lo t,.int hi u,.int 1 v]}
|.frz o u=>h.get? a=some o/\BQ H h a u
|.tbl ps=>h.get? a=some {cls:=.none,data:=.fields ps}
|.met f x=>h.get? a=some (methodObj (.ref f) (.ref x))
|.ext φ=>φ h/\(∃o,h.get? a=some o)/\∀h1 h2:Heap,φ h1->(∀o,h1.get? a=some o->h2.get? a=some o)->φ h2
def HOk(H:Hp)(h:T_):Prop:=∀a o,H a=some o->BQ P w H h a o
end
section
variable{P:N_}{w:Q_}{H H':Hp}{h h':T_}{a:R_}{o:HO}
theorem BQ.lt(x:BQ P w H h a o):a<h.objs.size:=by
 cases o with
 |lst xs=>obtain⟨_,_,_,_,e⟩:=x;exact D9 e
 |tup xs=>obtain⟨_,_,_,p⟩:=x;exact p.lt
 |dK kvs=>obtain⟨_,_,_,_,o,_,_,e,_⟩:=x;exact D9 e
 |dT kvs=>obtain⟨_,_,_,_,o,_,_,e,_⟩:=x;exact D9 e
 |set S n=>obtain⟨o,_,_,_,e,_⟩:=x;exact D9 e
 |ins C dx fs=>obtain⟨_,_,_,e,_⟩:=x;exact D9 e
 |own y=>obtain⟨_,e⟩:=x;exact D9 e
 |xd fs=>obtain⟨_,⟨_,_,_,e,_⟩,_⟩:=x;exact D9 e
 |rng lo b=>obtain⟨_,_,_,e⟩:=x;exact D9 e
 |frz c u=>obtain⟨e,_⟩:=x;exact D9 e
 |tbl ps=>exact D9 (show h.get? a=some _ from x)
 |met f y=>exact D9 (show h.get? a=some _ from x)
 |ext φ=>obtain⟨_,⟨_,e⟩,_⟩:=x;exact D9 e
theorem Paired.mapP{α β:Type}{F G:α->β->Prop}:∀{c:List α}{d:List β},Paired F c d->(∀a b,F a b->G a b)->Paired G c d
|_,_,.nil,_=>.nil
|_,_,.cons r t,f=>.cons (f _ _ r) (Paired.mapP t f)
theorem BQ.stay(x:BQ P w H h a o)(k:∀b u,(b=a\/H b=some (.own a))->h.get? b=some u->h'.get? b=some u)
  (D:∀b,H b=some (.own a)->H' b=some (.own a)) (E:∀b xs,H b=some (.tup xs)->H' b=some (.tup xs)):BQ P w H' h' a o:=by
 induction o with
 |lst xs=>obtain⟨z,l,n,r,e⟩:=x;exact⟨z,l,n,r,k _ _ (.inl rfl) e⟩
 |tup xs=>obtain⟨z,l,r,g,e,c⟩:=x;exact⟨z,l,r,g,k _ _ (.inl rfl) e,c⟩
 |dK kvs=>obtain⟨z,y,vs,r,g,j,i,e,c⟩:=x;exact⟨z,y,vs,r,g,j,i,k _ _ (.inl rfl) e,c⟩
 |dT kvs =>
  obtain⟨z,y,xs,r,g,j,i,e,c⟩:=x;exact⟨z,y,xs,Paired.mapP r λp q z=>⟨z.1,E _ _ z.2.1,z.2.2⟩,g,j,i,k _ _ (.inl rfl) e,c⟩
 |set S n=>obtain⟨g,j,i,t,e,c⟩:=x;exact⟨g,j,i,t,k _ _ (.inl rfl) e,c⟩
 |ins C dx fs =>
  obtain⟨d,z,ne,e,m,⟨s,j,i,B,c⟩,r⟩:=x;exact⟨D _ d,z,ne,k _ _ (.inl rfl) e,m,⟨s,j,i,k _ _ (.inr d) B,c⟩,r⟩
 |own y=>obtain⟨g,e⟩:=x;exact⟨g,k _ _ (.inl rfl) e⟩
 |xd fs=>obtain⟨m,⟨s,j,i,e,c⟩,r⟩:=x;exact⟨m,⟨s,j,i,k _ _ (.inl rfl) e,c⟩,r⟩
 |rng lo G=>obtain⟨t,u,v,e⟩:=x;exact⟨t,u,v,k _ _ (.inl rfl) e⟩
 |frz g u F=>obtain⟨e,q⟩:=x;exact⟨k _ _ (.inl rfl) e,F q⟩
 |tbl ps =>
  have e:h.get? a=some {cls:=.none,data:=.fields ps}:=x;show h'.get? a=some {cls:=.none,data:=.fields ps};exact k a _ (.inl rfl) e
 |met f y =>
  have e:h.get? a=some (methodObj (.ref f) (.ref y)):=x;show h'.get? a=some (methodObj (.ref f) (.ref y));exact k a _ (.inl rfl) e
 |ext φ=>obtain⟨p,⟨o,e⟩,A⟩:=x;exact⟨A _ _ p λo q=>k _ _ (.inl rfl) q,⟨o,k _ _ (.inl rfl) e⟩,A⟩
theorem HOk.lt(x:HOk P w H h)(e:H a=some o):a<h.objs.size:=(x a o e).lt
theorem HOk.fresh(x:HOk P w H h)(e:h.objs.size<=a):H a=none:=by
 cases q:H a with
 |none=>rfl
 |some u=>exact absurd (F5 (x.lt q) e) (O9 _)
theorem HOk.kept(x:HOk P w H h)(k:∀b u,h.get? b=some u->h'.get? b=some u):HOk P w H h':=λa o e =>
 (x a o e).stay (λb u _ q=>k b u q) (λ_ q=>q) λ_ _ q=>q
theorem HOk.laid(x:HOk P w H h)(k:∀b u,h.get? b=some u->h'.get? b=some u)(g:h.objs.size<=a)(new:BQ P w (upd H a o) h' a o):HOk P w (upd H a o) h':=λb u e=>by
 have f:=x.fresh g;by_cases d:b=a
 .subst d;rw[Af]at e;cases e;exact new
 .rw[Ax d]at e;exact(x b u e).stay (λc v _ q=>k c v q) (λc q=>by rw[Ax (Aw q f)];exact q) λc xs q=>by rw[Ax (Aw q f)];exact q
end
def Rd(H:Hp)(a:R_)(u:HO):Prop:=H a=some u\/∃o,H a=some (.frz o u)
theorem Rd.ok{P:N_}{w:Q_}{H:Hp}{h:T_}{a:R_}{u:HO}(r:Rd H a u)(x:HOk P w H h):BQ P w H h a u:=by
 rcases r with r|⟨o,r⟩
 .exact x a u r
 .obtain⟨_,q⟩:=x a _ r;exact q
def Mut:Option HO->Prop
|some (.lst _)=>True
|some (.dK _)=>True
|some (.dT _)=>True
|some (.set _ _)=>True
|some (.ins _ _ _)=>True
|some (.ext _)=>True
|_=>False
section
variable{P:N_}{w:Q_}{H:Hp}{h h':T_}{x e:R_}{o':HO}
theorem HOk.write(ok:HOk P w H h)(j:Mut (H x))(m:e=x\/H e=some (.own x))(k:∀b u,b≠e->h.get? b=some u->h'.get? b=some u)(l:∃u,h'.get? e=some u)
  (new:BQ P w (upd H x o') h' x o'):HOk P w (upd H x o') h':=λb u q=>by
 have d:∀c y,H c=some (.own y)->c≠x:=λc y r z=>by subst z;rw[r]at j;exact j
 have f:∀c xs,H c=some (.tup xs)->c≠x:=λc xs r z=>by subst z;rw[r]at j;exact j
 by_cases g:b=x
 .subst g;rw[Af]at q;cases q;exact new
 .rw[Ax g]at q;by_cases a:b=e
  .have n:H b=some (.own x):=by
    rcases m with z|z
    .exact absurd (a.trans z) g
    .rw[a];exact z
   rw[q]at n;cases n;obtain⟨v,o⟩:=l;exact⟨v,by rw[a];exact o⟩
  .refine(ok b u q).stay (λc v i r=>k c v ?_ r) (λc r=>by rw[Ax (d c b r)];exact r) λc xs r=>by rw[Ax (f c xs r)];exact r
   rcases i with rfl|i
   .exact a
   .rintro rfl;rcases m with z|z
    .exact d c b i z
    .rw[i]at z;cases z;exact g rfl
end
structure Un(fs ex:H_)(H H':Hp)(h h':T_):Prop where
keep:∀b o,h.get? b=some o->H b=none->b∉fs->b∉ex->h'.get? b=some o
slot:∀b o,h.get? b=some o->H b=none->b∈fs->b∉ex->∃sl,h'.get? b=some {o with slots:=sl}
free:∀b o,h.get? b=some o->H b=none->b∉ex->H' b=none
there:∀b o,h.get? b=some o->b∉ex->∃o',h'.get? b=some o'
tups:∀b xs,H b=some (.tup xs)->H' b=some (.tup xs)
frzs:∀b o u,H b=some (.frz o u)->H' b=some (.frz o u)
tbls:∀b ps,H b=some (.tbl ps)->∃more,H' b=some (.tbl (ps++more))
section
variable{fs fs' ex ex':H_}{H H1 H2:Hp}{h h1 h2 h':T_}{a x e:R_}{o:HO}
theorem Un.any(u:Un fs ex H H1 h h1){b:R_}{c:Obj}(q:h.get? b=some c)(n:H b=none)(f:b∉ex):∃g,h1.get? b=some {c with slots:=g}:=by
 by_cases d:b∈fs
 .exact u.slot b c q n d f
 .exact⟨c.slots,u.keep b c q n d f⟩
theorem Un.kept(k:∀b u,h.get? b=some u->h'.get? b=some u):Un fs ex H H h h' :=
 ⟨λb c q _ _ _=>k b c q,λb c q _ _ _=>⟨c.slots,k b c q⟩,λ_ _ _ n _=>n,λb c q _=>⟨c,k b c q⟩,λ_ _ q=>q,λ_ _ _ q=>q,λ_ ps q=>⟨#[],by rw[q];simp⟩⟩
theorem Un.refl:Un fs ex H H h h:=Un.kept λ_ _ q=>q
theorem Un.laid(k:∀b u,h.get? b=some u->h'.get? b=some u)(d:h.objs.size<=a)(c:H a=none):Un fs ex H (upd H a o) h h' where
 keep:=λb u q _ _ _=>k b u q
 slot:=λb u q _ _ _=>⟨u.slots,k b u q⟩
 free:=λb u q n _=>by rw[Ax (J6 (F5 (D9 q) d))];exact n
 there:=λb u q _=>⟨u,k b u q⟩
 tups:=λb xs q=>by rw[Ax (Aw q c)];exact q
 frzs:=λb u xs q=>by rw[Ax (Aw q c)];exact q
 tbls:=λb ps q=>⟨#[],by rw[Ax (Aw q c),q];simp⟩
theorem Un.write(d:Mut (H x))(l:e=x\/H e=some (.own x))(k:∀b u,b≠e->h.get? b=some u->h'.get? b=some u)(f:∃u,h'.get? e=some u):Un fs ex H (upd H x o) h h':=by
 have j:∀b,H b=none->b≠x:=λb n z=>by subst z;rw[n]at d;exact d
 have i:∀b,H b=none->b≠e:=λb n z=>by
  subst z;rcases l with r|r
  .exact j b n r
  .rw[n]at r;cases r
 have g:∀b u,H b=some u->¬Mut (some u)->b≠x:=λb u q nm z=>by subst z;rw[q]at d;exact nm d
 refine⟨λb u q n _ _=>k b u (i b n) q,λb u q n _ _=>⟨u.slots,k b u (i b n) q⟩,λb u q n _=>by rw[Ax (j b n)];exact n,λb u q _=>?_,
  λb xs q=>by rw[Ax (g b _ q λz=>z)];exact q,λb u xs q=>by rw[Ax (g b _ q λz=>z)];exact q,λb ps q=>⟨#[],by rw[Ax (g b _ q λz=>z),q];simp⟩⟩
 by_cases c:b=e
 .subst c;exact f
 .exact⟨u,k b u c q⟩
end
def trk(h:T_)(H:Hp):List Addr:=(List.range h.objs.size).filter λa=>(H a).isSome
def SR(h:T_)(H:Hp):Heap:=W.hideAll h (trk h H)
theorem Zg(h:T_)(H:Hp):(SR h H).objs.size=h.objs.size:=W.hideAll_size _ _
theorem hidT_get{h:T_}{H:Hp}{b:R_}{o:Obj}(e:h.get? b=some o)(n:H b=none):(SR h H).get? b=some o :=
 W.hideAll_get _ e λa=>by
  have q:(H b).isSome=true:=(T4.mp a).2;rw[n]at q;simp at q
theorem of_hidT{h:T_}{H:Hp}{b:R_}{o:Obj}(e:(SR h H).get? b=some o):h.get? b=some o/\H b=none:=by
 have a:h.get? b=some o:=W.of_hideAll (trk h H) e;refine⟨a,?_⟩;cases q:H b with
 |none=>rfl
 |some x =>
  have c:b∈trk h H:=T4.mpr ⟨L7.mpr (D9 a),by simp[q]⟩;have z:(SR h H).get? b=none:=W.hideAll_none (trk h H) c;rw[z]at e;cases e
structure Mod(K:O_)(mg:C_)(base:T_):Prop where
kin:K.In base
glob:base.Ns mainGlobals mg
blt:∃mb,base.Ns builtinsNs mb/\∀x:Str,x≠"__name__" -> mb x=bootBuiltins x
nolimit:base.NoLimit
structure Cx where
prog:Program
w:World
K:W.Frag
mg:Str->Option Value
base:Heap
A:Around
N:List Str
s₀:Shared
H₀:Hp
env:Env
outer:List Env
stack:List Env
ex:List Addr
fn:Str->Bool
calm:Bool
pn:List (Addr×Obj)
xe:Value->Shared->Prop
def frs(l:List Env):List Addr:=l.filterMap (·.frame)
abbrev Cx.fs(X:Cx):List Addr:=frs X.outer
def Vis(sc:Scope)(x:Str):Prop:=sc.names.lookup x=some .local\/sc.names.lookup x=some .cell\/sc.names.lookup x=some .free
def Loc(sc:Scope)(x:Str):Prop:=sc.names.lookup x=some .local\/sc.names.lookup x=some .cell
def Look(env:Env)(h:T_)(m:C_)(x:Str)(u:S_):Prop :=
 (env.kindOf x=some .local/\m x=some u)\/((env.kindOf x=some .cell\/env.kindOf x=some .free)/\∃c,env.cells.lookup x=some c/\h.IsCell c (some u))
structure Cx.Ok(X:Cx):Prop where
mod:Mod X.K X.mg X.base
kind:X.env.scope.kind=.function
glob:X.env.globals=mainGlobals
blt:X.env.builtins=builtinsNs
above:X.s₀.heap.objs.size<=X.env.locals
inj:∀x y c,X.env.cells.lookup x=some c->X.env.cells.lookup y=some c->x=y
has:∀x,(X.env.kindOf x=some .cell\/X.env.kindOf x=some .free)->∃c,X.env.cells.lookup x=some c
cab:∀x c,X.fn x=true->X.env.cells.lookup x=some c->X.s₀.heap.objs.size<=c
hd:X.calm=true->X.A.handled=none
frames:X.A.frames=some X.stack
stk:X.stack=X.outer\/(X.stack=X.env::X.outer/\X.env.frame=some X.env.locals)
exf:∀b∈X.ex,b≠X.env.locals/\∀x c,X.env.cells.lookup x=some c->c≠b
bs:∀b o,X.base.get? b=some o->X.s₀.heap.get? b=some o/\X.H₀ b=none
bsz:X.base.objs.size<=X.s₀.heap.objs.size
noex:∀b o,X.base.get? b=some o->b∉X.ex
exfs:∀b∈X.ex,b∉X.fs
funs:X.s₀.heap.FunFrames X.base X.outer
frf:∀b∈X.fs,X.H₀ b=none
structure Inv(X:Cx)(pins:A_)(σ:List (Option V))(H:Hp)(s:P_):Prop where
ok:X.Ok
os:s.os=X.s₀.os
bare:AllBare s.gens
base:Un X.fs X.ex X.H₀ H X.s₀.heap s.heap
loc:∃m,s.heap.Ns X.env.locals m/\∀(i:Nat)(x:Str)(v:V),X.N[i]?=some x->σ[i]?=some (some v)->Vis X.env.scope x->∃u,Bf v u/\Look X.env s.heap m x u
cell:∀x c,X.env.cells.lookup x=some c->∃v,s.heap.IsCell c v
free:H X.env.locals=none
freeC:∀x c,X.env.cells.lookup x=some c->H c=none
pin:∀p∈X.pn++pins,s.heap.get? p.1=some p.2/\H p.1=none/\p.1≠X.env.locals/\p.1∉X.fs/\∀v,p.2.data≠.cell v
hok:HOk X.prog X.w H s.heap
len:σ.length=X.N.length
section
variable{X:Cx}{pins:A_}{σ:List (Option V)}{H H':Hp}{s:P_}{h':T_}
theorem Cx.Ok.nofr(ok:X.Ok){b:R_}{o:Obj}(e:X.base.get? b=some o):b∉X.fs:=λa=>by
 have:=(ok.funs.mem a).1;rw[e]at this;cases this
theorem Inv.bs(I:Inv X pins σ H s):∀b o,X.base.get? b=some o->s.heap.get? b=some o/\H b=none:=λb o e =>
 ⟨I.base.keep b o (I.ok.bs b o e).1 (I.ok.bs b o e).2 (I.ok.nofr e) (I.ok.noex b o e),I.base.free b o (I.ok.bs b o e).1 (I.ok.bs b o e).2 (I.ok.noex b o e)⟩
theorem Inv.bk(I:Inv X pins σ H s):∀b o,X.base.get? b=some o->s.heap.get? b=some o:=λb o e=>(I.bs b o e).1
theorem Inv.mod(I:Inv X pins σ H s):Mod X.K X.mg X.base:=I.ok.mod
theorem Inv.kIn(I:Inv X pins σ H s):X.K.In s.heap:=I.ok.mod.kin.keeps I.bk
theorem Inv.lt(I:Inv X pins σ H s):X.env.locals<s.heap.objs.size:=let ⟨_,hn,_⟩:=I.loc;hn.lt
theorem Inv.sz(I:Inv X pins σ H s):X.s₀.heap.objs.size<=s.heap.objs.size:=D7 I.ok.above (U2 I.lt)
theorem Inv.nofs(I:Inv X pins σ H s){a:R_}(h:s.heap.objs.size<=a):a∉X.fs:=λb=>by
 obtain⟨_,o,c,_⟩:=I.ok.funs.mem b;exact absurd (F5 (D9 c) (D7 I.sz h)) (O9 _)
theorem Inv.cne(I:Inv X pins σ H s):∀x c,X.env.cells.lookup x=some c->c≠X.env.locals:=λx c e z=>by
 obtain⟨v,o,f,d⟩:=I.cell x c e;obtain⟨m,⟨o',h,g,b,a,_⟩,_⟩:=I.loc;rw[z,b]at f;cases f;rw[a]at d;cases d
theorem Inv.funs (I:Inv X pins σ H s):s.heap.FunFrames X.base X.outer:=by
 have all:∀(l:List Env),(∀b∈frs l,b∈X.fs)->X.s₀.heap.FunFrames X.base l->s.heap.FunFrames X.base l:=by
  intro l;induction l with
  |nil=>intro _ _;trivial
  |cons g r p =>
   intro f j;obtain⟨i,⟨L,o,d,k,m,h⟩,n⟩:=j;have a:L∈X.fs:=f L (by unfold frs;rw[Y9,d];exact C4);obtain⟨q,e⟩:=I.base.slot L o m (I.ok.frf L a) a λz=>I.ok.exfs L z a;exact⟨i,⟨L,_,d,k,e,h⟩,p (λb c=>f b (by unfold frs;rw[Y9,d];exact C5 _ c)) n⟩
 exact all X.outer (λ_ c=>c) I.ok.funs
theorem Inv.stack(I:Inv X pins σ H s):s.heap.FunFrames X.base X.stack:=by
 rcases I.ok.stk with e|⟨e,a⟩
 .rw[e];exact I.funs
 .rw[e];obtain⟨m,b,_⟩:=I.loc;refine .cons (by rw[I.ok.kind];decide) a b ?_ I.funs;exact O4 (D7 I.ok.bsz I.ok.above)
theorem Inv.stkSub(I:Inv X pins σ H s):∀b∈frs X.stack,b∈X.env.locals::X.fs:=λb a=>by
 rcases I.ok.stk with e|⟨e,c⟩
 .rw[e]at a;exact C5 _ a
 .rw[e]at a;unfold frs at a;rw[Y9,c]at a;exact a
theorem Inv.stkFree(I:Inv X pins σ H s):∀b∈frs X.stack,H b=none:=λb a=>by
 rcases B7.mp (I.stkSub b a)with e|a
 .rw[e];exact I.free
 .obtain⟨_,o,c,_⟩:=I.ok.funs.mem a;exact I.base.free b o c (I.ok.frf b a) λz=>I.ok.exfs b z a
theorem Inv.step{g':Array GenState}{t':Nat}{d':Drawn}{ch:H_}(I:Inv X pins σ H s)
  (h:∀b∈ch,(b∈X.ex\/X.s₀.heap.objs.size<=b)/\b≠X.env.locals/\(∀x c,X.env.cells.lookup x=some c->c≠b)/\∀p∈X.pn++pins,p.1≠b)
  (keep:∀b o,b≠X.env.locals->b∉X.fs->b∉ch->s.heap.get? b=some o->H b=none->h'.get? b=some o)
  (t:∀b o,b≠X.env.locals->b∈X.fs->b∉ch->s.heap.get? b=some o->H b=none->∃O,h'.get? b=some {o with slots:=O}) (a:∀b o,b∉ch->s.heap.get? b=some o->H b=none->H' b=none)
  (there:∀b o,b∉ch->s.heap.get? b=some o->∃o',h'.get? b=some o')
  (D:∀b xs,H b=some (.tup xs)->H' b=some (.tup xs)) (B:∀b o u,H b=some (.frz o u)->H' b=some (.frz o u)) (C:∀b ps,H b=some (.tbl ps)->∃K,H' b=some (.tbl (ps++K)))
  (ns:∀m,s.heap.Ns X.env.locals m->h'.Ns X.env.locals m) (N:HOk X.prog X.w H' h') (U:AllBare g') :
  Inv X pins σ H' {s with heap:=h',gens:=g',drawn:=d',toks:=t'}:=by
 have L:∀b o,X.s₀.heap.get? b=some o->b≠X.env.locals:=λb o e=>J6 (F5 (D9 e) I.ok.above);have A:∀b o,X.s₀.heap.get? b=some o->b∉X.ex->b∉ch:=λb o e f E=>by
  rcases(h b E).1 with z|z
  .exact f z
  .exact absurd (F5 (D9 e) z) (O9 _)
 have g:∀x c,X.env.cells.lookup x=some c->∀v,s.heap.IsCell c v->h'.IsCell c v:=λx c e v ⟨o,F,M⟩=>by
  have j:c∉ch:=λz=>(h c z).2.2.1 x c e rfl;by_cases Q:c∈X.fs
  .obtain⟨O,q⟩:=t c o (I.cne x c e) Q j F (I.freeC x c e);exact⟨_,q,M⟩
  .exact⟨o,keep c o (I.cne x c e) Q j F (I.freeC x c e),M⟩
 refine⟨I.ok,I.os,U,⟨λb o e n E f=>?_,λb o e n E f=>?_,λb o e n f=>?_,λb o e f=>?_,λb xs e=>D b xs (I.base.tups b xs e),λb o xs e=>B b o xs (I.base.frzs b o xs e),λb ps e=>?_⟩,?_,λx c e=>?_,?_,λx c e=>?_,λp R=>?_,N,I.len⟩
 .exact keep b o (L b o e) E (A b o e f) (I.base.keep b o e n E f) (I.base.free b o e n f)
 .obtain⟨O,y⟩:=I.base.slot b o e n E f;obtain⟨P,G⟩:=t b _ (L b o e) E (A b o e f) y (I.base.free b o e n f);exact⟨P,G⟩
 .obtain⟨o',y⟩:=I.base.there b o e f;exact a b o' (A b o e f) y (I.base.free b o e n f)
 .obtain⟨o',y⟩:=I.base.there b o e f;exact there b o' (A b o e f) y
 .obtain⟨m1,y⟩:=I.base.tbls b ps e;obtain⟨m2,G⟩:=C b _ y;exact⟨m1++m2,by rw[G,Array.append_assoc]⟩
 .obtain⟨m,W,V⟩:=I.loc;refine⟨m,ns m W,λi x v y G T=>?_⟩;obtain⟨u,r,l⟩:=V i x v y G T;refine⟨u,r,?_⟩;rcases l with l|⟨k,c,e,z⟩
  .exact .inl l
  .exact .inr ⟨k,c,e,g x c e _ z⟩
 .obtain⟨v,z⟩:=I.cell x c e;exact⟨v,g x c e v z⟩
 .obtain⟨m,⟨o,_,_,F,_⟩,_⟩:=I.loc;exact a _ o (λz=>(h _ z).2.1 rfl) F I.free
 .obtain⟨v,o,F,M⟩:=I.cell x c e;exact a c o (λz=>(h c z).2.2.1 x c e rfl) F (I.freeC x c e)
 .obtain⟨e,n,ne,S,d⟩:=I.pin p R;have j:p.1∉ch:=λz=>(h p.1 z).2.2.2 p R rfl;exact⟨keep p.1 p.2 ne S j e n,a p.1 p.2 j e n,ne,S,d⟩
theorem Inv.un{t':Nat}(I:Inv X pins σ H s)(u:Un X.fs [] H H' s.heap h')(g:HOk X.prog X.w H' h'):Inv X pins σ H' {s with heap:=h',toks:=t'}:=by
 obtain⟨m,⟨o,p,l,h,r⟩,_⟩:=id I.loc;obtain⟨t,i⟩:=u.any h I.free A6;exact I.step (g':=s.gens) (d':=s.drawn) (ch:=[]) (λ_ z=>nomatch z) (λb o _ f _ e n=>u.keep b o e n f A6) (λb o _ f _ e n=>u.slot b o e n f A6) (λb o _ e n=>u.free b o e n A6) (λb o _ e=>u.there b o e A6) u.tups u.frzs u.tbls (λq j=>by
  obtain⟨o',d,c,a,k⟩:=j;rw[h]at a;cases a;exact⟨_,d,c,i,k⟩) g I.bare
theorem Inv.call{g':Array GenState}{t':Nat}{d':Drawn}{ch:H_}(I:Inv X pins σ H s)(u:Un (frs X.stack) ch H H' s.heap h')(j:HOk X.prog X.w H' h')(q:AllBare g')
  (d:∀b∈ch,(b∈X.ex\/X.s₀.heap.objs.size<=b)/\b≠X.env.locals/\(∀x c,X.env.cells.lookup x=some c->c≠b)/\∀p∈X.pn++pins,p.1≠b) :
  Inv X pins σ H' {s with heap:=h',gens:=g',drawn:=d',toks:=t'}:=by
 obtain⟨m,⟨o,A,y,k,r⟩,_⟩:=id I.loc;obtain⟨C,i⟩:=u.any k I.free λz=>(d _ z).2.1 rfl;exact I.step (ch:=ch) d (λb o i l a e n=>u.keep b o e n (λz=>(B7.mp (I.stkSub b z)).elim i l) a) (λb o _ _ a e n=>u.any e n a) (λb o a e n=>u.free b o e n a) (λb o a e=>u.there b o e a) u.tups u.frzs u.tbls (λB t=>by
  obtain⟨o',h,g,f,v⟩:=t;rw[k]at f;cases f;exact⟨_,h,g,i,v⟩) j q
theorem Inv.turned{t':Nat}{it:R_}(I:Inv X pins σ H s)(k:∀b o,b≠it->s.heap.get? b=some o->h'.get? b=some o)(y:H it=none)(f:it≠X.env.locals)
  (i:it∈X.ex\/X.s₀.heap.objs.size<=it) (j:∀x c,X.env.cells.lookup x=some c->c≠it) (l:∀p∈X.pn++pins,p.1≠it):Inv X pins σ H {s with heap:=h',toks:=t'}:=by
 have d:∀b u,H b=some u->b≠it:=λb u e z=>by rw[z,y]at e;cases e
 refine I.step (g':=s.gens) (d':=s.drawn) (ch:=[it]) (λb t=>?_) (λb o _ _ a e _=>k b o (λz=>a (by simp[z])) e) (λb o _ _ a e _=>⟨o.slots,k b o (λz=>a (by simp[z])) e⟩) (λ_ _ _ _ n=>n)
  (λb o a e=>⟨o,k b o (λz=>a (by simp[z])) e⟩) (λ_ _ e=>e) (λ_ _ _ e=>e) (λb ps e=>⟨#[],by rw[e];simp⟩) (λm w=>?_) (λb u e=>?_) I.bare
 .have e:b=it:=by simpa using t
  subst e;exact⟨i,f,j,l⟩
 .obtain⟨o,h,g,A,r⟩:=w;exact⟨o,h,g,k _ o (K3 f) A,r⟩
 .refine(I.hok b u e).stay (λc v a q=>k c v ?_ q) (λ_ q=>q) λ_ _ q=>q;rcases a with z|z
  .rw[z];exact d b u e
  .exact d c _ z
theorem Inv.tok(I:Inv X pins σ H s)(t:Nat):Inv X pins σ H {s with toks:=t}:=I.un (h':=s.heap) (t':=t) Un.refl I.hok
theorem Inv.kept{t':Nat}(I:Inv X pins σ H s)(k:∀b u,s.heap.get? b=some u->h'.get? b=some u):Inv X pins σ H {s with heap:=h',toks:=t'}:=I.un (Un.kept k) (I.hok.kept k)
theorem Inv.laid{a:R_}{o:HO}{t':Nat}(I:Inv X pins σ H s)(k:∀b u,s.heap.get? b=some u->h'.get? b=some u)(c:s.heap.objs.size<=a)(new:BQ X.prog X.w (upd H a o) h' a o) :
 Inv X pins σ (upd H a o) {s with heap:=h',toks:=t'}:=I.un (Un.laid k c (I.hok.fresh c)) (I.hok.laid k c new)
theorem Inv.write{x e:R_}{o:HO}{t':Nat}(I:Inv X pins σ H s)(d:Mut (H x))(c:e=x\/H e=some (.own x))(k:∀b u,b≠e->s.heap.get? b=some u->h'.get? b=some u)(a:∃u,h'.get? e=some u)
 (new:BQ X.prog X.w (upd H x o) h' x o):Inv X pins σ (upd H x o) {s with heap:=h',toks:=t'}:=I.un (Un.write d c k a) (I.hok.write d c k a new)
theorem Inv.weak{σ':List (Option V)}(I:Inv X pins σ H s)(d:σ'.length=σ.length)(w:∀(i:Nat) v,σ'[i]?=some (some v)->σ[i]?=some (some v)):Inv X pins σ' H s :=
 ⟨I.ok,I.os,I.bare,I.base,let ⟨m,hn,hl'⟩:=I.loc;⟨m,hn,λi x v a b c=>hl' i x v a (w i v b) c⟩,I.cell,I.free,I.freeC,I.pin,I.hok,d.trans I.len⟩
theorem Inv.pins_of{a:A_}(I:Inv X pins σ H s)(h:∀p∈a,s.heap.get? p.1=some p.2/\H p.1=none/\p.1≠X.env.locals/\p.1∉X.fs/\∀v,p.2.data≠.cell v):Inv X a σ H s :=
 ⟨I.ok,I.os,I.bare,I.base,I.loc,I.cell,I.free,I.freeC,λp b=>(D4.mp b).elim (λz=>I.pin p (S9 _ z)) (h p),I.hok,I.len⟩
theorem Uc{N:K_}(e:N.Nodup){i j:Nat}{x:Str}(a:N[i]?=some x)(b:N[j]?=some x):i=j:=by
 obtain⟨f,c⟩:=B5.mp a;obtain⟨g,d⟩:=B5.mp b;exact(List.getElem_inj e).mp (c.trans d.symm)
theorem Rb{M:Model}{A:Around}{E:B_}{i:Nat}{x:Str}{v:V}{u:S_}{Q:Unit->Shared->Prop}(I:Inv X pins σ H s)(hN:X.N.Nodup)(T:X.N[i]?=some x)(B:Loc X.env.scope x)(r:Bf v u)
  (h:∀s',Inv X pins (σ.set i (some v)) H s'->(∃a,Heap.SameBut a s.heap s'.heap/\(a=X.env.locals\/X.env.cells.lookup x=some a))->Q () s') (hf:X.fn x=true\/X.env.scope.names.lookup x=some .local:=by first|exact .inl rfl|exact .inr rfl|assumption):wpAny M A (storeName X.env x u) Q E s:=by
 obtain⟨m,hn,hl⟩:=id I.loc;have S:(X.env.scope.kind==.class || (X.env.scope.kind==.module && X.env.locals != X.env.globals))=false:=by rw[I.ok.kind];rfl
 have F:i<σ.length:=by rw[I.len];exact(B5.mp T).1
 have cne:=I.cne;have l:∀{a:R_}{h':T_},(∃o,s.heap.get? a=some o/\H a=none)->Heap.SameBut a s.heap h'->HOk X.prog X.w H h':=λ{a h'} ha f b ob e=>by
  obtain⟨_,_,C⟩:=ha;refine(I.hok b ob e).stay (λc Z t q=>(f.2 c ?_).trans q) (λ_ q=>q) λ_ _ q=>q;rintro rfl;rcases t with rfl|t
  .rw[C]at e;cases e
  .rw[C]at t;cases t
 rcases B with G|G
 .refine wpAny_storeName_local G hn (λh' aa f=>?_) S;obtain⟨oL,_,_,ab,_⟩:=id hn;refine h _ ⟨I.ok,I.os,I.bare,⟨λb o e n K B=>?_,λb o e n K B=>?_,I.base.free,λb o e B=>?_,I.base.tups,I.base.frzs,I.base.tbls⟩,⟨_,aa,λj y v' g D e3=>?_⟩,λy c e=>?_,I.free,I.freeC,λp hp=>?_,l ⟨oL,ab,I.free⟩ f,by simpa using I.len⟩ ⟨_,f,.inl rfl⟩
  .exact(f.2 b (J6 (F5 (D9 e) I.ok.above))).trans (I.base.keep b o e n K B)
  .obtain⟨sl,g⟩:=I.base.slot b o e n K B;exact⟨sl,(f.2 b (J6 (F5 (D9 e) I.ok.above))).trans g⟩
  .obtain⟨o',g⟩:=I.base.there b o e B;exact⟨o',(f.2 b (J6 (F5 (D9 e) I.ok.above))).trans g⟩
  .by_cases O:j=i
   .subst O;rw[T]at g;cases g;rw[List.getElem?_set_self F]at D;cases D;exact⟨u,r,.inl ⟨G,by simp⟩⟩
   .rw[List.getElem?_set_ne (K3 O)]at D;obtain⟨u',r',q⟩:=hl j y v' g D e3;refine⟨u',r',?_⟩;rcases q with ⟨k,e⟩|⟨k,c,e,z⟩
    .refine .inl ⟨k,?_⟩;have:y≠x:=λe=>O (Uc hN g (e▸T));simp[this,e]
    .exact .inr ⟨k,c,e,z.sameBut f (cne y c e)⟩
  .obtain⟨Z,z⟩:=I.cell y c e;exact⟨Z,z.sameBut f (cne y c e)⟩
  .obtain⟨e,n,ne,nf,d⟩:=I.pin p hp;exact⟨(f.2 p.1 ne).trans e,n,ne,nf,d⟩
 .have L:X.fn x=true:=by
   rcases hf with z|z
   .exact z
   .rw[z]at G;cases G
  obtain⟨c,t⟩:=I.ok.has x (.inl G);obtain⟨Z,z⟩:=I.cell x c t;refine wpAny_storeName_cell I.ok.kind G t z (λh' P f=>?_);obtain⟨oc,U,W⟩:=id z;refine h {s with heap:=h'} ⟨I.ok,I.os,I.bare,⟨λb o e n K B=>?_,λb o e n K B=>?_,I.base.free,λb o e B=>?_,I.base.tups,I.base.frzs,I.base.tbls⟩,⟨m,hn.sameBut f (K3 (cne x c t)),λj y v' g D e3=>?_⟩,λy Y e=>?_,I.free,I.freeC,λp hp=>?_,l ⟨oc,U,I.freeC x c t⟩ f,by simpa using I.len⟩ ⟨c,f,.inr t⟩
  .exact(f.2 b (J6 (F5 (D9 e) (I.ok.cab x c L t)))).trans (I.base.keep b o e n K B)
  .obtain⟨sl,g⟩:=I.base.slot b o e n K B;exact⟨sl,(f.2 b (J6 (F5 (D9 e) (I.ok.cab x c L t)))).trans g⟩
  .obtain⟨o',g⟩:=I.base.there b o e B;exact⟨o',(f.2 b (J6 (F5 (D9 e) (I.ok.cab x c L t)))).trans g⟩
  .by_cases O:j=i
   .subst O;rw[T]at g;cases g;rw[List.getElem?_set_self F]at D;cases D;exact⟨u,r,.inr ⟨.inl G,c,t,P⟩⟩
   .rw[List.getElem?_set_ne (K3 O)]at D;obtain⟨u',r',q⟩:=hl j y v' g D e3;refine⟨u',r',?_⟩;rcases q with q|⟨k,Y,e,z'⟩
    .exact .inl q
    .refine .inr ⟨k,Y,e,z'.sameBut f ?_⟩;rintro rfl;exact O (Uc hN g (I.ok.inj _ _ _ e t▸T))
  .by_cases R:Y=c
   .subst R;exact⟨_,P⟩
   .obtain⟨w2,z2⟩:=I.cell y Y e;exact⟨w2,z2.sameBut f R⟩
  .obtain⟨e,n,ne,nf,d⟩:=I.pin p hp;refine⟨(f.2 p.1 ?_).trans e,n,ne,nf,d⟩;intro q;rw[q,U]at e;have q':oc=p.2:=K4 e;exact d Z (by rw[<-q'];exact W)
theorem Tt{M:Model}{A:Around}{E:B_}{i:Nat}{x:Str}{v:V}{u:S_}{Q:Unit->Shared->Prop}(I:Inv X pins σ H s)(c:X.N.Nodup)(e:X.N[i]?=some x)(f:Loc X.env.scope x)(r:Bf v u)
  (h:∀a,Inv X pins (σ.set i (some v)) H a->Q () a) (d:X.fn x=true\/X.env.scope.names.lookup x=some .local:=by first|exact .inl rfl|exact .inr rfl|assumption):wpAny M A (storeName X.env x u) Q E s :=
 Rb I c e f r (λa b _=>h a b) d
theorem Inv.call'{a:P_}{ch:H_}(I:Inv X pins σ H s)(h:a.os=s.os)(u:Un (frs X.stack) ch H H' s.heap a.heap)(f:HOk X.prog X.w H' a.heap)(g:AllBare a.gens)
  (d:∀b∈ch,(b∈X.ex\/X.s₀.heap.objs.size<=b)/\b≠X.env.locals/\(∀x c,X.env.cells.lookup x=some c->c≠b)/\∀p∈X.pn++pins,p.1≠b):Inv X pins σ H' a:=by
 obtain⟨h',g',d',t',o'⟩:=a;have e:o'=s.os:=h;subst e;exact I.call (g':=g') (t':=t') (d':=d') u f g d
end
abbrev XK:=Value->Option Addr->Hp->Prop
abbrev St:=List (Option V)
abbrev VK:=V->Hp->Prop
abbrev TE:=St->Hp->VK->Prop
abbrev TT:=St->Hp->(Bool->Hp->Prop)->Prop
abbrev TA:=St->Hp->(List V->Hp->Prop)->Prop
structure NB where
nx:St->Hp->Prop
rt:VK
bk:St->Hp->Prop:=λ_ _=>False
ct:St->Hp->Prop:=λ_ _=>False
abbrev TS:=NB->St->Hp->Prop
def EP(X:Cx)(pins:A_)(σ:St)(Q:VK)(u:S_)(s':P_):Prop:=∃v H',Inv X pins σ H' s'/\Bf v u/\Q v H'
def TP(X:Cx)(pins:A_)(σ:St)(Q:Bool->Hp->Prop)(b:Bool)(s':P_):Prop:=∃H',Inv X pins σ H' s'/\Q b H'
def AP(X:Cx)(pins:A_)(σ:St)(Q:List V->Hp->Prop)(us:F_)(s':P_):Prop:=∃vs H',Inv X pins σ H' s'/\AS vs us/\Q vs H'
def SP(X:Cx)(pins:A_)(D:NB)(f:Flow)(s':P_):Prop :=
 match f with
 |.next=>∃σ' H',Inv X pins σ' H' s'/\D.nx σ' H'
 |.brk=>∃σ' H',Inv X pins σ' H' s'/\D.bk σ' H'
 |.cont=>∃σ' H',Inv X pins σ' H' s'/\D.ct σ' H'
 |.ret u=>∃v σ' H',Inv X pins σ' H' s'/\Bf v u/\D.rt v H'
def PE(X:Cx)(e:Expr)(t:TE):Prop :=
 ∀(pins:A_)(s:P_)(σ:St)(H:Hp)(Q:VK),Inv X pins σ H s->t σ H Q->wpAny (model X.prog X.w) X.A (eval e X.env) (EP X pins σ Q) X.xe s
def PT(X:Cx)(e:Expr)(t:TT):Prop :=
 ∀(pins:A_)(s:P_)(σ:St)(H:Hp)(Q:Bool->Hp->Prop),Inv X pins σ H s->t σ H Q->wpAny (model X.prog X.w) X.A (isTrue e X.env (eval e X.env)) (TP X pins σ Q) X.xe s
def PW(X:Cx)(e:Expr)(t:TT):Prop :=
 ∀(whole:Sem Value)(pins:A_)(s:P_)(σ:St)(H:Hp)(Q:Bool->Hp->Prop),Inv X pins σ H s->t σ H Q->wpAny (model X.prog X.w) X.A (isTrue e X.env whole) (TP X pins σ Q) X.xe s
theorem PW.pt{X:Cx}{e:Expr}{t:TT}(h:PW X e t):PT X e t:=h _
def PA(X:Cx)(es:List Expr)(t:TA):Prop :=
 ∀(pos:Pos)(pins:A_)(s:P_)(σ:St)(H:Hp)(Q:List V->Hp->Prop),Inv X pins σ H s->t σ H Q->wpAny (model X.prog X.w) X.A (spliced (backTo pos (starEach es X.env))) (AP X pins σ Q) X.xe s
def PS(X:Cx)(st:Stmt)(t:TS):Prop :=
 ∀(pins:A_)(s:P_)(σ:St)(H:Hp)(D:NB),Inv X pins σ H s->t D σ H->wpAny (model X.prog X.w) X.A (exec st X.env) (SP X pins D) X.xe s
def PSs(X:Cx)(st:List Stmt)(t:TS):Prop :=
 ∀(pins:A_)(s:P_)(σ:St)(H:Hp)(D:NB),Inv X pins σ H s->t D σ H->wpAny (model X.prog X.w) X.A (execs st X.env) (SP X pins D) X.xe s
theorem thn{α:Type}{t:Sem α}{Q b:α->Shared->Prop}{M:Model}{A:Around}{E:B_}{s:P_}(h:wpAny M A t Q E s)(c:∀a s,Q a s->b a s):wpAny M A t b E s:=A1h h c λ_ _ x=>x
section
variable{X:Cx}
def GZ(i:Nat):TE:=fun σ H Q=>∃v,σ[i]?=some (some v)/\Q v H
def tC(v:V):TE:=λ_ H Q=>Q v H
theorem pe_var{i:Nat}{x:Str}{pos:Pos}(k:X.N[i]?=some x)(q:Vis X.env.scope x)(g:(x==("__debug__" : Str))=false:=by decide)(f:(x==("__classdict__" : Str))=false:=by decide):PE X (.Name x pos) (GZ i):=by
 intro d s σ H Q I h;obtain⟨v,e,h⟩:=h;obtain⟨m,p,n⟩:=I.loc;obtain⟨u,r,l⟩:=n i x v k e q;have fin:EP X d σ Q u s:=⟨v,H,I,r,h⟩
 rcases l with ⟨b,o⟩|⟨b,c,j,a⟩
 .exact wpAny_Name (wpAny_loadName_local I.ok.kind b p o fin) g
 .rcases b with b|b
  .exact wpAny_Name (wpAny_loadName_cell I.ok.kind b j a fin) g
  .exact wpAny_Name (wpAny_loadName_free I.ok.kind b j a fin f) g
theorem Ae{i j pos}:PE X (.Constant (.int i) j pos) (tC (.int i)):=λ_ _ _ H _ I h=>wpAny_Constant_int ⟨.int i,H,I.tok _,⟨_,rfl⟩,h⟩
theorem Ou{b j pos}:PE X (.Constant (.bool b) j pos) (tC (.bl b)):=λ_ _ _ H _ I h=>Constant_bool ⟨.bl b,H,I,rfl,h⟩
theorem Db{j pos}:PE X (.Constant .none j pos) (tC .non):=λ_ _ _ H _ I h=>Constant_none ⟨.non,H,I,rfl,h⟩
theorem Es{x j pos}:PE X (.Constant (.str x) j pos) (tC (.str x)):=λ_ _ _ H _ I h=>Calls.Constant_str ⟨.str x,H,I.tok _,⟨_,rfl⟩,h⟩
def Gl(X:Cx)(x:Str):Prop:=X.env.kindOf x=some .globalImplicit
theorem OZ{E:B_}{a:A_}{s:P_}{σ:St}{H:Hp}{x:Str}{u:S_}{pos:Pos}{Q:B_}(I:Inv X a σ H s)(c:Gl X x)(d:X.mg x=some u)(h:Q u s)
  (b:(x==("__debug__" : Str))=false:=by decide):wpAny (model X.prog X.w) X.A (eval (.Name x pos) X.env) Q E s :=
 Calls.Name_function_global I.ok.kind c (Calls.loadGlobal_global (by rw[I.ok.glob];exact I.mod.glob.keeps I.bk) d h) b
theorem Lq{E:B_}{a:A_}{s:P_}{σ:St}{H:Hp}{x:Str}{u:S_}{pos:Pos}{Q:B_}(I:Inv X a σ H s)(e:Gl X x)(f:X.mg x=none)(i:bootBuiltins x=some u)(h:Q u s)
  (g:x≠"__name__" := by decide) (d:(x==("__debug__" : Str))=false:=by decide):wpAny (model X.prog X.w) X.A (eval (.Name x pos) X.env) Q E s:=by
 obtain⟨j,b,c⟩:=I.mod.blt;exact Calls.Name_function_global I.ok.kind e (Calls.loadGlobal_builtin (by rw[I.ok.glob];exact I.mod.glob.keeps I.bk) f (by rw[I.ok.blt];exact b.keeps I.bk) ((c x g).trans i) h) d
theorem Sk{x:Str}{v:V}{u:S_}{pos:Pos}(b:Gl X x)(c:X.mg x=some u)(r:Bf v u)(a:(x==("__debug__" : Str))=false:=by decide):PE X (.Name x pos) (tC v) :=
 λ_ _ _ H _ I h=>OZ I b c ⟨v,H,I,r,h⟩ a
theorem LE{x:Str}{v:V}{u:S_}{pos:Pos}(b:Gl X x)(c:X.mg x=none)(e:bootBuiltins x=some u)(r:Bf v u)(d:x≠"__name__" := by decide)(a:(x==("__debug__" : Str))=false:=by decide):PE X (.Name x pos) (tC v) :=
 λ_ _ _ H _ I h=>Lq I b c e ⟨v,H,I,r,h⟩ d a
variable{a b:Expr}{ta tb:TE}{pos:Pos}
def PC(X:Cx)(op:CmpOp)(a b:Expr)(t:TE):Prop :=
 ∀(pins:A_)(s:P_)(σ:St)(H:Hp)(Q:VK),Inv X pins σ H s->t σ H Q ->
  wpAny (model X.prog X.w) X.A (eval a X.env) (λv s₁=>wpAny (model X.prog X.w) X.A (eval b X.env) (λu s₂=>wpAny (model X.prog X.w) X.A (compareOp op v u) (EP X pins σ Q) X.xe s₂) X.xe s₁) X.xe s
def tB(t:TE):TT:=fun σ H Q=>t σ H λx H1=>∃c,x=.bl c/\Q c H1
theorem pt_cmp{g:CmpOp}{t:TE}(h:PC X g a b t)(f:behindInMarks g b=false:=by first|exact nobehind _ A4 A4|rfl):PT X (.Compare a [g] [b] pos) (tB t):=by
 intro e s σ H Q I l;refine wpAny_isTrue_Compare1 (thn (h e s σ H _ I l) λv o f=>thn f λu p k=>thn k λc r ⟨x,i,j,n,m⟩=>?_) f;obtain⟨d,rfl,q⟩:=m;cases n;exact A1c ⟨i,j,q⟩
theorem DT{e:Expr}{t:TE}(h:PE X e t)(j:∀c,isTrue e X.env c=(do let v <-c;standAt e.pos;holding [v] (truthy v)):=by intro _;rfl):PT X e (tB t):=by
 intro f s σ H Q I k;refine isTrue_plain (thn (h f s σ H _ I k) λv n ⟨x,g,i,m,l⟩=>?_) (j _);obtain⟨d,rfl,q⟩:=l;cases m;exact A1c ⟨g,i,q⟩
variable{tA tB':TT}{rest:List Expr}
def tAnd(t u:TT):TT:=fun σ H Q=>t σ H λc H1=>if c=true then u σ H1 Q else Q false H1
def tOr(t u:TT):TT:=fun σ H Q=>t σ H λc H1=>if c=true then Q true H1 else u σ H1 Q
def tNot(t:TT):TT:=fun σ H Q=>t σ H λc H1=>Q (!c) H1
theorem Jg(f:PT X a tA):PW X (.BoolOp .And [a] pos) tA:=by
 intro i d s σ H Q I h;refine isTrue_and (thn (f d s σ H Q I h) λc g e=>?_);cases c with
 |true=>exact isTrue_and_nil e
 |false=>exact e
theorem Ms(f:PT X a tA):PW X (.BoolOp .Or [a] pos) tA:=by
 intro i d s σ H Q I h;refine isTrue_or (thn (f d s σ H Q I h) λc g e=>?_);cases c with
 |false=>exact isTrue_or_nil e
 |true=>exact e
theorem Mt(i:PT X a tA)(j:PW X (.BoolOp .And (b::rest) pos) tB'):PW X (.BoolOp .And (a::b::rest) pos) (tAnd tA tB'):=by
 intro l d s σ H Q I h;refine isTrue_and (thn (i d s σ H _ I h) λc k ⟨e,f,g⟩=>?_);cases c with
 |true=>exact j l d k σ e Q f g
 |false=>exact⟨e,f,g⟩
theorem PL(i:PT X a tA)(j:PW X (.BoolOp .Or (b::rest) pos) tB'):PW X (.BoolOp .Or (a::b::rest) pos) (tOr tA tB'):=by
 intro l d s σ H Q I h;refine isTrue_or (thn (i d s σ H _ I h) λc k ⟨e,f,g⟩=>?_);cases c with
 |true=>exact⟨e,f,g⟩
 |false=>exact j l d k σ e Q f g
theorem Er(f:PT X a tA):PT X (.UnaryOp .Not a pos) (tNot tA):=by
 intro d s σ H Q I h;exact isTrue_not (f d s σ H (λc e=>Q (!c) e) I h)
def tAndV(ta tb:TE):TE:=fun σ H Q=>ta σ H λx H1=>∃c,x=.bl c/\if c=true then tb σ H1 Q else Q (.bl false) H1
def tOrV(ta tb:TE):TE:=fun σ H Q=>ta σ H λx H1=>∃c,x=.bl c/\if c=true then Q (.bl true) H1 else tb σ H1 Q
def tNotV(ta:TE):TE:=fun σ H Q=>ta σ H λx H1=>∃c,x=.bl c/\Q (.bl (!c)) H1
theorem Mu{op}{t:TE}(h:PE X a t):PE X (.BoolOp op [a] pos) t:=λc s σ H Q I d=>BoolOp_one (h c s σ H Q I d)
theorem JY(i:PE X a ta)(j:PE X (.BoolOp .And (b::rest) pos) tb):PE X (.BoolOp .And (a::b::rest) pos) (tAndV ta tb):=by
 intro d s σ H Q I h;refine BoolOp_and (thn (i d s σ H _ I h) λv l ⟨x,f,g,k,e⟩=>?_);obtain⟨c,rfl,e⟩:=e;cases k;refine A1c ?_;cases c with
 |true=>exact j d l σ f Q g e
 |false=>exact⟨.bl false,f,g,rfl,e⟩
theorem pe_or(i:PE X a ta)(j:PE X (.BoolOp .Or (b::rest) pos) tb):PE X (.BoolOp .Or (a::b::rest) pos) (tOrV ta tb):=by
 intro d s σ H Q I h;refine BoolOp_or (thn (i d s σ H _ I h) λv l ⟨x,f,g,k,e⟩=>?_);obtain⟨c,rfl,e⟩:=e;cases k;refine A1c ?_;cases c with
 |false=>exact j d l σ f Q g e
 |true=>exact⟨.bl true,f,g,rfl,e⟩
theorem pe_not(i:PE X a ta):PE X (.UnaryOp .Not a pos) (tNotV ta):=by
 intro d s σ H Q I h;refine UnaryOp_ (thn (i d s σ H _ I h) λv k ⟨x,f,g,j,e⟩=>?_);obtain⟨c,rfl,e⟩:=e;cases j;exact not_of (A1c ⟨.bl (!c),f,g,rfl,e⟩)
def tIf(t:TT)(ta tb:TE):TE:=fun σ H Q=>t σ H λc H1=>if c=true then ta σ H1 Q else tb σ H1 Q
theorem Ub{c:Expr}(m:PT X c tA)(k:PE X a ta)(l:PE X b tb):PE X (.IfExp c a b pos) (tIf tA ta tb):=by
 intro e s σ H Q I h;refine wpAny_IfExp (thn (m e s σ H _ I h) λd j ⟨f,g,i⟩=>?_);cases d with
 |true=>exact k e j σ f Q g i
 |false=>exact l e j σ f Q g i
end
def SqL(K:O_)(H:Hp)(a:R_)(xs:List V):Prop :=
 Rd H a (.lst xs) \/
  ∃(o:Obj)(its:M_)(n:Nat),K.lookup a=some o/\o.cls=.type "list" /\ o.dict=none/\o.data=.seq its n/\its.size<=sizeLine/\AS xs its.toList
def SqT(K:O_)(H:Hp)(a:R_)(xs:List V):Prop :=
 Rd H a (.tup xs) \/
  ∃(o:Obj)(its:M_)(n:Nat),K.lookup a=some o/\o.cls=.type "tuple" /\ o.data=.seq its n/\its.size<=sizeLine/\AS xs its.toList
def absV:Value->Option V
|.none=>some .non
|.bool b=>some (.bl b)
|.int i _=>some (.int i)
|.str x _=>some (.str x)
|.bytes b _=>some (.byt b)
|.float b _=>some (.flt b)
|.ref a=>some (.ref a)
|.type n=>some (.ty n)
|_=>none
theorem Bf.abs{x:V}{u:S_}(r:Bf x u):absV u=some x:=by
 cases x with
 |non=>cases r;rfl
 |bl _=>cases r;rfl
 |int _=>obtain⟨t,rfl⟩:=r;rfl
 |str _=>obtain⟨t,rfl⟩:=r;rfl
 |byt _=>obtain⟨t,rfl⟩:=r;rfl
 |flt _=>obtain⟨t,rfl⟩:=r;rfl
 |ref _=>cases r;rfl
 |ty _=>cases r;rfl
theorem Bf.inj{x y:V}{u:S_}(r:Bf x u)(q:Bf y u):x=y:=K4 (r.abs.symm.trans q.abs)
theorem AS.inj:∀{xs ys:List V}{us:F_},AS xs us->AS ys us->xs=ys
|_,_,_,.nil,.nil=>rfl
|_,_,_,.cons r t,.cons r' t'=>by rw[r.inj r',AS.inj t t']
section
variable{X:Cx}{pins:A_}{σ:St}{H:Hp}{s:P_}{a:R_}{xs ys:List V}
theorem SqL.of{K:O_}(h:H a=some (.lst xs)):SqL K H a xs:=.inl (.inl h)
theorem SqT.of{K:O_}(h:H a=some (.tup xs)):SqT K H a xs:=.inl (.inl h)
theorem Inv.list(I:Inv X pins σ H s)(h:SqL X.K H a xs):∃b:List Value,AS xs b/\PlainL s.heap a b.toArray/\xs.length<=sizeLine:=by
 rcases h with h|⟨o,b,n,f,c,d,g,i,r⟩
 .obtain⟨z,b,n,r,e⟩:=h.ok I.hok;exact⟨b,r,⟨_,n,e,rfl,rfl,rfl⟩,z⟩
 .refine⟨b.toList,r,⟨o,n,I.kIn a o f,c,d,by simpa using g⟩,?_⟩;have e:=r.length;simp only[T8]at e;lia
theorem Inv.tuple(I:Inv X pins σ H s)(h:SqT X.K H a xs):∃b:List Value,AS xs b/\IsTup s.heap a b.toArray/\xs.length<=sizeLine:=by
 rcases h with h|⟨o,b,n,d,c,f,g,r⟩
 .obtain⟨z,b,r,p⟩:=h.ok I.hok;exact⟨b,r,p,z⟩
 .refine⟨b.toList,r,⟨o,I.kIn a o d,c,n,by simpa using f⟩,?_⟩;have e:=r.length;simp only[T8]at e;lia
theorem Inv.list_inj(I:Inv X pins σ H s)(h:SqL X.K H a xs)(h':SqL X.K H a ys):xs=ys:=by
 obtain⟨b,r,⟨o,n,e,_,_,d⟩,_⟩:=I.list h;obtain⟨its',f,⟨o',g,c,_,_,d'⟩,_⟩:=I.list h';rw[e]at c;cases c;rw[d]at d';injection d' with d1 _
 have:b=its':=by simpa using A0g Array.toList d1
 subst this;exact r.inj f
theorem Inv.tuple_inj(I:Inv X pins σ H s)(h:SqT X.K H a xs)(h':SqT X.K H a ys):xs=ys:=by
 obtain⟨b,r,⟨o,e,_,n,d⟩,_⟩:=I.tuple h;obtain⟨its',f,⟨o',c,_,g,d'⟩,_⟩:=I.tuple h';rw[e]at c;cases c;rw[d]at d';injection d' with d1 _
 have:b=its':=by simpa using A0g Array.toList d1
 subst this;exact r.inj f
end
abbrev Cx.wish(X:Cx)(E:B_):Cx:={X with xe:=E}
abbrev Cx.nox(X:Cx):Cx:=X.wish λ_ _=>False
theorem Cx.Ok.wish{X:Cx}(ok:X.Ok)(E:B_):(X.wish E).Ok :=
 ⟨ok.mod,ok.kind,ok.glob,ok.blt,ok.above,ok.inj,ok.has,ok.cab,ok.hd,ok.frames,ok.stk,ok.exf,ok.bs,ok.bsz,ok.noex,ok.exfs,ok.funs,ok.frf⟩
theorem Cx.Ok.unwish{X:Cx}{E:B_}(ok:(X.wish E).Ok):X.Ok :=
 ⟨ok.mod,ok.kind,ok.glob,ok.blt,ok.above,ok.inj,ok.has,ok.cab,ok.hd,ok.frames,ok.stk,ok.exf,ok.bs,ok.bsz,ok.noex,ok.exfs,ok.funs,ok.frf⟩
section
variable{X:Cx}{pins:A_}{σ:St}{H:Hp}{s:P_}{E:B_}
theorem Inv.wish(I:Inv X pins σ H s)(E:B_):Inv (X.wish E) pins σ H s:=⟨I.ok.wish E,I.os,I.bare,I.base,I.loc,I.cell,I.free,I.freeC,I.pin,I.hok,I.len⟩
theorem Inv.unwish(I:Inv (X.wish E) pins σ H s):Inv X pins σ H s:=⟨I.ok.unwish,I.os,I.bare,I.base,I.loc,I.cell,I.free,I.freeC,I.pin,I.hok,I.len⟩
theorem SP.unwish{D:NB}{f:Flow}{b:P_}(h:SP (X.wish E) pins D f b):SP X pins D f b:=by
 cases f with
 |next=>obtain⟨σ',a,I,q⟩:=h;exact⟨σ',a,I.unwish,q⟩
 |brk=>obtain⟨σ',a,I,q⟩:=h;exact⟨σ',a,I.unwish,q⟩
 |cont=>obtain⟨σ',a,I,q⟩:=h;exact⟨σ',a,I.unwish,q⟩
 |ret u=>obtain⟨v,σ',a,I,r,q⟩:=h;exact⟨v,σ',a,I.unwish,r,q⟩
theorem PSs.nox{a:List Stmt}{t:TS}(h:PSs X.nox a t):PSs X a t:=λpins s σ H D I b =>
 A1h (h pins s σ H D (I.wish _) b) (λ_ _ q=>q.unwish) λ_ _ z=>False.elim z
end
section
variable{X:Cx}{st:Stmt}{rest:List Stmt}{t u:TS}{e:Expr}{te:TE}{pos:Pos}
def tNext:TS:=λD σ H=>D.nx σ H
def Yw(t u:TS):TS:=λD σ H=>t {D with nx:=u D} σ H
theorem AC:PSs X [] tNext:=λ_ _ σ H _ I h=>A6e ⟨σ,H,I,h⟩
theorem Ac(d:PS X st t)(g:PSs X rest u):PSs X (st::rest) (Yw t u):=by
 intro a s σ H D I h;refine wpAny_execs_cons (thn (d a s σ H {D with nx:=u D} I h) λf i q=>?_);cases f with
 |next =>
  obtain⟨σ',b,c,q⟩:=q;exact g a i σ' b D c q
 |ret v=>exact q
 |brk=>exact q
 |cont=>exact q
theorem Ah(b:PS X st t):PSs X [st] t:=by
 intro a s σ H D I h;refine wpAny_execs_cons (thn (b a s σ H D I h) λf c q=>?_);cases f with
 |next=>exact A6e q
 |ret v=>exact q
 |brk=>exact q
 |cont=>exact q
theorem Inv.quiet{a:A_}{σ:St}{H:Hp}{s:P_}(I:Inv X a σ H s):interactive X.env=false:=by simp[interactive,I.ok.kind]
def tDrop(te:TE):TS:=λD σ H=>te σ H λ_ H1=>D.nx σ H1
theorem BW(d:PE X e te)(f:swapsWith e none pos.line X.env=pure false:=by rfl):PS X (.Expr e pos) (tDrop te):=by
 intro a s σ H D I h;exact wpAny_Expr_any (thn (d a s σ H _ I h) λv j ⟨x,b,c,i,g⟩=>⟨σ,b,c,g⟩) I.quiet f
def tRet(te:TE):TS:=λD σ H=>te σ H D.rt
theorem Av(d:PE X e te):PS X (.Return (some e) pos) (tRet te):=by
 intro a s σ H D I h;exact wpAny_Return_some (thn (d a s σ H _ I h) λv i ⟨x,b,c,g,f⟩=>⟨x,σ,b,c,g,f⟩)
def tIfS(c:TT)(t u:TS):TS:=λD σ H=>c σ H λb H1=>if b=true then t D σ H1 else u D σ H1
theorem AO{c:Expr}{a b:List Stmt}{tc:TT}(n:PT X c tc)(l:PSs X a t)(m:PSs X b u):PS X (.If c a b pos) (tIfS tc t u):=by
 intro f s σ H D I h;refine wpAny_If (thn (n f s σ H _ I h) λd k ⟨g,i,j⟩=>?_);cases d with
 |true=>exact l f k σ g D i j
 |false=>exact m f k σ g D i j
def tNever:TS:=λ_ _ _=>False
theorem Bl:PS X st tNever:=λ_ _ _ _ _ _ h=>h.elim
end
abbrev TG:=V->St->Hp->(St->Hp->Prop)->Prop
abbrev TGs:=List V->St->Hp->(St->Hp->Prop)->Prop
def PG(X:Cx)(target:Expr)(t:TG):Prop :=
 ∀(pins:A_)(s:P_)(σ:St)(H:Hp)(v:V)(u:S_)(Q:St->Hp->Prop),Inv X pins σ H s->Bf v u->t v σ H Q ->
  wpAny (model X.prog X.w) X.A (assign target X.env u) (λ_ s'=>∃σ' H',Inv X pins σ' H' s'/\Q σ' H') X.xe s
def PGs(X:Cx)(ts:List Expr)(t:TGs):Prop :=
 ∀(pins:A_)(s:P_)(σ:St)(H:Hp)(vs:List V)(us:F_)(Q:St->Hp->Prop),Inv X pins σ H s->AS vs us->t vs σ H Q ->
  wpAny (model X.prog X.w) X.A (assignInOrder ((assignEach ts X.env).map (·.2)) us) (λ_ s'=>∃σ' H',Inv X pins σ' H' s'/\Q σ' H') X.xe s
abbrev TSet:=V->V->V->Hp->(Hp->Prop)->Prop
def PSet(X:Cx)(t:TSet):Prop :=
 ∀(pins:A_)(s:P_)(σ:St)(H:Hp)(o i v:V)(ov iv u:S_)(Q:Hp->Prop),Inv X pins σ H s->Bf o ov->Bf i iv->Bf v u->t o i v H Q ->
  wpAny (model X.prog X.w) X.A (setItem ov iv u) (λ_ s'=>∃H',Inv X pins σ H' s'/\Q H') X.xe s
section
variable{X:Cx}{pos:Pos}
def Qt(i:Nat):TG:=λv σ H Q=>Q (σ.set i (some v)) H
theorem BD{i:Nat}{x:Str}(c:X.N.Nodup)(e:X.N[i]?=some x)(f:Loc X.env.scope x)(d:X.fn x=true\/X.env.scope.names.lookup x=some .local:=by first|exact .inl rfl|exact .inr rfl|assumption):PG X (.Name x pos) (Qt i):=by
 intro a s σ H v u Q I r h;exact wpAny_assign_Name (Tt I c e f r (λg b=>⟨_,H,b,h⟩) d)
def gNil:TGs:=λvs σ H Q=>vs=[]/\Q σ H
def Uy(t:TG)(u:TGs):TGs:=λvs σ H Q=>∃v r,vs=v::r/\t v σ H fun σ' H'=>u r σ' H' Q
theorem MU:PGs X [] gNil:=by
 intro a s σ H vs us Q I r h;obtain⟨e,h⟩:=h;subst e;cases r;exact assignInOrder_nil ⟨σ,H,I,h⟩
theorem DF{e:Expr}{b:List Expr}{t:TG}{u:TGs}(i:PG X e t)(j:PGs X b u)
  (k:(assignEach (e::b) X.env).map (·.2)=assign e X.env::(assignEach b X.env).map (·.2):=by rfl):PGs X (e::b) (Uy t u):=by
 intro a s σ H vs us Q I r h;obtain⟨v,o,g,h⟩:=h;subst g;cases r with
 |cons r m =>
  rw[k];refine assignInOrder_cons (thn (i a s σ H _ _ _ I r h) λ_ n ⟨c,d,f,l⟩=>?_);exact j a n c d _ _ Q f m l
def gTup(K:O_)(n:Nat)(t:TGs):TG:=λv σ H Q=>∃a xs,v=.ref a/\SqT K H a xs/\xs.length=n/\t xs σ H Q
theorem PP{d:List Expr}{k:Nat}{t:TGs}{n:Nat}(m:X.calm=true)(h:PGs X d t)
  (q:(assignEach d X.env).length=n:=by rfl) (f:(assignEach d X.env).findIdx? (·.1)=none:=by rfl):PG X (.Tuple d k pos) (gTup X.K n t):=by
 intro c s σ H v u Q I r g;obtain⟨a,xs,l,w,p,g⟩:=g;subst l;cases r;obtain⟨z,i,x,A⟩:=I.tuple w;refine assign_Tuple_tuple (I.ok.hd m) x (by simp[q,<-p,i.length]) f λh' y=>?_;have j:Inv X c σ H {s with heap:=h'}:=I.kept (t':=s.toks) λb o e=>y b o (J6 (D9 e)) e;exact h c _ σ H xs _ Q j (by simpa using i) g
def gSub(to ti:TE)(t:TSet):TG:=λv σ H Q=>to σ H λo H1=>ti σ H1 λi H2=>t o i v H2 λH3=>Q σ H3
theorem pg_sub{o i:Expr}{to d:TE}{t:TSet}(p:PE X o to)(n:PE X i d)(q:PSet X t)
  (m:∀v,assign (.Subscript o i pos) X.env v=(do
   let b <-holding [v] (eval o X.env);let c <-holding [v,b] (eval i X.env)
   standAt pos
   holding [v,b,c] (setItem b c v)
   release [v,b,c] []):=by intro _;rfl):PG X (.Subscript o i pos) (gSub to d t):=by
 intro a s σ H v u Q I r h;rw[m];refine X6 (A3d (thn (p a s σ H _ I h) λb D ⟨x,e,j,B,w⟩=>?_));refine X6 (A3d (thn (n a D σ e _ j w) λc E ⟨y,f,k,C,z⟩=>?_));refine X6 (A7e (X6 (A3d (thn (q a E σ f x y v b c u _ k B C r z) λ_ F ⟨g,l,A⟩=>?_))));exact wpAny_release ⟨σ,g,l,A⟩
def tAsg(te:TE)(g:TG):TS:=λD σ H=>te σ H λx H1=>g x σ H1 D.nx
theorem ps_asg{b e:Expr}{c:TE}{g:TG}(j:PE X e c)(k:PG X b g)(l:swapsWithSole [b] e pos.line X.env=pure false:=by rfl)(m:swappedStores [b] e X.env=pure none:=by rfl)
  (i:(assignEach [b] X.env).map (·.2)=[assign b X.env]:=by rfl):PS X (.Assign [b] e pos) (tAsg c g):=by
 intro a s σ H D I h;refine wpAny_Assign_stores (thn (j a s σ H _ I h) λv p ⟨x,d,f,o,n⟩=>?_) l m;rw[i];exact thn (k a p σ d x v _ f o n) λ_ r q=>q
theorem Aq{i:Nat}{x:Str}{e:Expr}{c:TE}{a:Pos}(j:X.N.Nodup)(m:X.N[i]?=some x)(o:Loc X.env.scope x)(k:PE X e c)(n:swapsWith e (some (.Name x a)) pos.line X.env=pure false:=by rfl)(l:X.fn x=true\/X.env.scope.names.lookup x=some .local:=by first|exact .inl rfl|exact .inr rfl|assumption) :
  PS X (.Assign [.Name x a] e pos) (tAsg c (Qt i)):=by
 intro b s σ H D I h;refine wpAny_Assign_Name (thn (k b s σ H _ I h) λv r ⟨y,d,f,q,p⟩=>?_) n;exact Tt f j m o q (λt g=>⟨_,d,g,p⟩) l
def tWhile(c:TT)(tb:TS):TS:=λD σ H=>∃W:Nat->St->Hp->Prop,(∃m,W m σ H)/\∀m σ H,W m σ H ->
 c σ H λb H1=>if b=true then ∃N:St->Hp->Prop,(∀σ' H',N σ' H'->∃m',m'<m/\W m' σ' H')/\tb {D with nx:=N,ct:=N,bk:=D.nx} σ H1 else D.nx σ H1
theorem JV{c:Expr}{g:List Stmt}{tc:TT}{B:TS}(z:PassesOwn (model X.prog X.w) X.A X.env X.xe)(F:PT X c tc)(E:PSs X g B):PS X (.While c g [] pos) (tWhile tc B):=by
 intro a s σ H D I h;obtain⟨W,⟨m0,M⟩,turn⟩:=h;refine wpAny_While (codeAny_whileLoop (λn G=>∃σ' r,Inv X a σ' r G/\W n σ' r) ?_ m0 ⟨σ,H,I,M⟩);rintro n K ⟨e,t,C,O⟩;refine A3b z (thn (F a K e t _ C (turn n e t O)) λb L ⟨u,x,j⟩=>?_);cases b with
 |true =>
  obtain⟨N,y,j⟩:=j;rw[K0 rfl];refine A3b z (thn (E a L e u _ x j) λf P k=>?_);cases f with
  |next =>
   obtain⟨d,i,l,p⟩:=k;obtain⟨o,m,q⟩:=y d i p;exact⟨o,m,d,i,l,q⟩
  |cont =>
   obtain⟨d,i,l,p⟩:=k;obtain⟨o,m,q⟩:=y d i p;exact⟨o,m,d,i,l,q⟩
  |brk=>exact k
  |ret v=>exact k
 |false =>
  rw[X7 D5];exact A6e ⟨e,u,x,j⟩
end
structure It where
go:Nat->Hp->Prop
yld:Nat->Hp->V->Hp->Prop
stop:Nat->Hp->Prop
def DJ(X:Cx)(pins:A_)(H:Hp)(b:R_):Prop :=
 H b=none/\b≠X.env.locals/\b∉X.fs/\(b∈X.ex\/X.s₀.heap.objs.size<=b)/\(∀x c,X.env.cells.lookup x=some c->c≠b)/\∀p∈X.pn++pins,p.1≠b
theorem Inv.fpOk{X:Cx}{a:A_}{σ:St}{H f:Hp}{s:P_}{b:R_}(I:Inv X a σ H s)(d:s.heap.objs.size<=b)(g:f b=none):DJ X a f b:=by
 refine⟨g,U0 (F5 I.lt d),I.nofs d,.inr (D7 I.sz d),λx c e z=>?_,λp h z=>?_⟩
 .obtain⟨v,q⟩:=I.cell x c e;exact absurd (F5 q.lt (by rw[z];exact d)) (O9 _)
 .exact absurd (F5 (D9 (I.pin p h).1) (by rw[z];exact d)) (O9 _)
structure QV(P:N_)(w:Q_)(K:O_)(tg:Expr)(J:It)(fp:H_)(it:R_)(tn:Nat->Heap->Prop):Prop where
mem:it∈fp
obj:∀i h,tn i h->∀b∈fp,∃o,h.get? b=some o/\∀v,o.data≠.cell v
keep:∀i h h',tn i h->(∀b∈fp,∀o,h.get? b=some o->h'.get? b=some o)->tn i h'
item:∀(X:Cx),X.prog=P->X.w=w->X.K=K->X.calm=true->∀(i:Nat)(pins:A_)(s:P_)(σ:St)(H:Hp)(E:B_),Inv X pins σ H s->(∀b∈fp,DJ X pins H b)->tn i s.heap->J.go i H ->
 wpAny (model P w) X.A (pyNext (.ref it)) (λr s1=>∃u,r=some u /\
  wpAny (model P w) X.A (letOwnedTupleGo tg (.ref it) u) (λ_ s2=>∃x H',Inv X pins σ H' s2/\Bf x u/\J.yld i H x H'/\tn (i+1) s2.heap/\∀b∈fp,H' b=none) E s1) E s
done:∀(X:Cx),X.prog=P->X.w=w->X.K=K->X.calm=true->∀(i:Nat)(pins:A_)(s:P_)(σ:St)(H:Hp)(E:B_),Inv X pins σ H s->(∀b∈fp,DJ X pins H b)->tn i s.heap->J.stop i H ->
 wpAny (model P w) X.A (pyNext (.ref it)) (λr s1=>r=none/\Inv X pins σ H s1) E s
self:∀(A:Around)(i:Nat)(s:P_)(Q:B_)(E:B_),tn i s.heap->Q (.ref it) s->wpAny (model P w) A (pyIter (.ref it)) Q E s
abbrev TI:=St->Hp->(It->Hp->Prop)->Prop
def PIE(X:Cx)(pins:A_)(σ:St)(tg:Expr)(R:It->Hp->Prop)(itv:S_)(s2:P_):Prop :=
 ∃(it:R_)(fp:H_)(tn:Nat->Heap->Prop)(J:It)(H':Hp),itv=.ref it/\Inv X pins σ H' s2/\QV X.prog X.w X.K tg J fp it tn/\tn 0 s2.heap/\(∀b∈fp,DJ X pins H' b)/\R J H'
def PI(X:Cx)(tg iter:Expr)(wi:TI):Prop :=
 ∀(pins:A_)(s:P_)(σ:St)(H:Hp)(R:It->Hp->Prop),Inv X pins σ H s->wi σ H R ->
  wpAny (model X.prog X.w) X.A (eval iter X.env) (λv s1=>wpAny (model X.prog X.w) X.A (pyIter v) (PIE X pins σ tg R) X.xe s1) X.xe s
theorem Ux{M:Model}{A:Around}{E:B_}{s:P_}{b:Expr}{it:R_}{u:S_}{o:Obj}{n:String}{vs:M_}{Q:Unit->Shared->Prop}(f:s.heap.get? it=some o)(c:o.cls=.type n)(d:o.data=.fields vs)
   (e:["enumerate","zip","dict_itemiterator","dict_reverseitemiterator","odict_iterator","itertools.zip_longest","itertools.pairwise"].contains n=false) (a:Q () s):wpAny M A (letOwnedTupleGo b (.ref it) u) Q E s:=by
 unfold letOwnedTupleGo;cases b<;>first
   |exact K1 a
   | (cases u<;>first
       |exact K1 a
       | (refine X6 (wpAny_load f ?_)
          rw[c,d];show wpAny M A (if(["enumerate","zip","dict_itemiterator","dict_reverseitemiterator","odict_iterator","itertools.zip_longest","itertools.pairwise"].contains n && vs[0]?==some (rawInt _))=true then _ else _) Q E s;rw[X7 (by intro h;rw[e,Bool.false_and]at h;cases h)];exact K1 a))
def Itl(K:O_)(a:R_):It :=
 ⟨λi H=>∃xs x,SqL K H a xs/\xs[i]?=some x,λi H x H'=>H'=H/\∀xs,SqL K H a xs->xs[i]?=some x,λi H=>∃xs,SqL K H a xs/\xs.length<=i⟩
def Itt(K:O_)(a:R_):It :=
 ⟨λi H=>∃xs x,SqT K H a xs/\xs[i]?=some x,λi H x H'=>H'=H/\∀xs,SqT K H a xs->xs[i]?=some x,λi H=>∃xs,SqT K H a xs/\xs.length<=i⟩
def Itr(lo:Int)(n:Nat):It:=⟨λi _=>i<n,λi H x H'=>H'=H/\x=.int (lo+i),λi _=>n<=i⟩
theorem Ys{P:N_}{w:Q_}{K:O_}{Y:Expr}(a it:R_):QV P w K Y (Itl K a) [it] it (λi h=>h.IsListIter it a i) where
 mem:=by simp
 obj:=λi h f b j=>by
  have e:b=it:=by simpa using j
  subst e;obtain⟨o,e,c,d⟩:=f;exact⟨o,e,λv z=>by rw[d]at z;cases z⟩
 keep:=λi h h' f k=>f.at λo e=>k it A6 o e
 item:=by
  intro X B D A M i g s σ H E I m f C;subst B D A;obtain⟨xs,x,n,F⟩:=C;obtain⟨G,L,p,T⟩:=I.list n;obtain⟨u,R,U⟩:=L.get F;obtain⟨q,r,Q,t,f4,y⟩:=m it A6;refine wpAny_pyNext_list_item f p.isList (x:=u) (by simpa using R) λh' l V=>?_;have N:Inv X g σ H {s with heap:=h'}:=I.turned (t':=s.toks) (λb o j e=>(V.2 b j).trans e) q r t f4 y;obtain⟨o,e,c,d⟩:=id l;exact⟨u,rfl,Ux (s:={s with heap:=h'}) e c d A4 ⟨x,H,N,U,⟨rfl,λys S=>by rw[I.list_inj S n];exact F⟩,l,λb j=>(m b j).1⟩⟩
 done:=by
  intro X B D A M i g s σ H E I m f C;subst B D A;obtain⟨xs,n,F⟩:=C;obtain⟨G,L,p,T⟩:=I.list n;obtain⟨q,r,Q,t,f4,y⟩:=m it A6;have Z:=L.length;exact wpAny_pyNext_list_end (I.ok.hd M) f p.isList (by simp;lia) λh' O=>⟨rfl,I.turned (t':=s.toks) (λb o j e=>O b o j e) q r t f4 y⟩
 self:=λ_ _ _ _ _ f h=>wpAny_pyIter_listiter f h
theorem UT{P:N_}{w:Q_}{K:O_}{Y:Expr}(a it:R_):QV P w K Y (Itt K a) [it] it (λi h=>h.IsTupleIter it a i) where
 mem:=by simp
 obj:=λi h f b j=>by
  have e:b=it:=by simpa using j
  subst e;obtain⟨o,e,c,d⟩:=f;exact⟨o,e,λv z=>by rw[d]at z;cases z⟩
 keep:=λi h h' f k=>f.at λo e=>k it A6 o e
 item:=by
  intro X C F B M i g s σ H E I n f D;subst C F B;obtain⟨xs,x,q,G⟩:=D;obtain⟨l,L,p,T⟩:=I.tuple q;obtain⟨u,R,U⟩:=L.get G;obtain⟨r,t,Q,y,f4,A⟩:=n it A6;refine wpAny_pyNext_tuple_item f (show s.heap.IsTuple a l.toArray from p) (x:=u) (by simpa using R) λh' m V=>?_;have N:Inv X g σ H {s with heap:=h'}:=I.turned (t':=s.toks) (λb o j e=>(V.2 b j).trans e) r t y f4 A;obtain⟨o,e,c,d⟩:=id m;exact⟨u,rfl,Ux (s:={s with heap:=h'}) e c d A4 ⟨x,H,N,U,⟨rfl,λys S=>by rw[I.tuple_inj S q];exact G⟩,m,λb j=>(n b j).1⟩⟩
 done:=by
  intro X C F B M i g s σ H E I n f D;subst C F B;obtain⟨xs,q,G⟩:=D;obtain⟨l,L,p,T⟩:=I.tuple q;obtain⟨r,t,Q,y,f4,A⟩:=n it A6;have Z:=L.length;exact wpAny_pyNext_tuple_end (I.ok.hd M) f (show s.heap.IsTuple a l.toArray from p) (by simp;lia) λh' O=>⟨rfl,I.turned (t':=s.toks) (λb o j e=>O b o j e) r t y f4 A⟩
 self:=λ_ _ _ _ _ f h=>wpAny_pyIter_tupleiter f h
theorem UU{P:N_}{w:Q_}{K:O_}{F:Expr}(it:R_)(lo:Int)(n:Nat):QV P w K F (Itr lo n) [it] it (λi h=>IsRangeIter h it (lo+(i:Nat)*1) ((n:Int)-(i:Nat)) 1) where
 mem:=by simp
 obj:=λi h a b d=>by
  have e:b=it:=by simpa using d
  subst e;exact⟨_,a,λv z=>by
   have G:Data.fields _=Data.cell v:=z;cases G⟩
 keep:=λi h h' a k=>k it A6 _ a
 item:=by
  intro X r y q u i c s σ H E I g a x;subst r y q;obtain⟨j,l,C,m,f4,p⟩:=g it A6;have W:=Walks.range (prog:=X.prog) (w:=X.w) (I.ok.hd u) it lo 1 n;refine W.item i s _ _ x a λv h' tk D f kk=>?_;obtain⟨t,rfl⟩:=D;have A:Inv X c σ H {s with heap:=h',toks:=tk}:=I.turned (λb o d e=>kk b o (by simpa using d) e) j l m f4 p;refine⟨_,rfl,Ux (s:={s with heap:=h',toks:=tk}) (n:="range_iterator") f rfl rfl A4 ⟨.int (lo+i),H,A,⟨t,?_⟩,⟨rfl,rfl⟩,f,λb d=>(g b d).1⟩⟩;rw[Int.mul_one]
 done:=by
  intro X r y q u i c s σ H E I g a x;subst r y q;obtain⟨j,l,C,m,f4,p⟩:=g it A6;exact wpAny_pyNext_range_end (I.ok.hd u) a (by have:n<=i:=x;lia) λh' B=>⟨rfl,I.turned (t':=s.toks) (λb o d e=>B b o d e) j l m f4 p⟩
 self:=λ_ _ _ _ _ a h=>wpAny_pyIter_rangeiter a h
section
variable{X:Cx}{tg:Expr}
def iList(K:O_)(tl:TE):TI:=fun σ H R=>tl σ H λx H1=>∃a,x=.ref a/\(∃xs,SqL K H1 a xs)/\R (Itl K a) H1
def iTup(K:O_)(tl:TE):TI:=fun σ H R=>tl σ H λx H1=>∃a,x=.ref a/\(∃xs,SqT K H1 a xs)/\R (Itt K a) H1
theorem BS{l:Expr}{tl:TE}(j:PE X l tl):PI X tg l (iList X.K tl):=by
 intro c s σ H R I h;refine thn (j c s σ H _ I h) λv f ⟨x,g,d,r,n⟩=>?_;obtain⟨a,e,⟨xs,k⟩,q⟩:=n;subst e;cases r;obtain⟨m,u,p,t⟩:=d.list k;refine A4f p.isList ?_;refine⟨f.heap.objs.size,[f.heap.objs.size],_,_,g,rfl,d.kept (t':=f.toks) λb o e=>B9 _ e,Ys a _,⟨_,D8 _ rfl,rfl,rfl⟩,λb i=>?_,q⟩;have e:b=f.heap.objs.size:=by simpa using i
 subst e;exact d.fpOk (B8 _) (d.hok.fresh (B8 _))
theorem PN{l:Expr}{tl:TE}(k:PE X l tl):PI X tg l (iTup X.K tl):=by
 intro c s σ H R I h;refine thn (k c s σ H _ I h) λv d ⟨x,i,f,r,n⟩=>?_;obtain⟨a,e,⟨xs,m⟩,q⟩:=n;subst e;cases r;obtain⟨g,u,p,t⟩:=f.tuple m;refine wpAny_pyIter_tuple (show d.heap.IsTuple a g.toArray from p) ?_;refine⟨d.heap.objs.size,[d.heap.objs.size],_,_,i,rfl,f.kept (t':=d.toks) λb o e=>B9 _ e,UT a _,⟨_,D8 _ rfl,rfl,rfl⟩,λb j=>?_,q⟩;have e:b=d.heap.objs.size:=by simpa using j
 subst e;exact f.fpOk (B8 _) (f.hok.fresh (B8 _))
theorem TW{c:A_}{σ:St}{H:Hp}{s:P_}{R:It->Hp->Prop}{E:B_}{lo a:Int}{t u v:Tok}{tk:Nat}(I:Inv X c σ H s)(h:-(2^62)<=lo)(i:lo<2^62)(j:-(2^62)<=a)(k:a<2^62)
  (q:R (Itr lo (a-lo).toNat) H):wpAny (model X.prog X.w) X.A (pyIter (.ref s.heap.objs.size)) (PIE X c σ tg R) E {s with heap:=s.heap.push {cls:=.type "range",data:=.fields #[.int lo t,.int a u,.int 1 v]},toks:=tk}:=by
 refine wpAny_pyIter_range (IsRange.new ..) (small_one h i j k) ?_;have d:Inv X c σ H {s with heap:=s.heap.push {cls:=.type "range",data:=.fields #[.int lo t,.int a u,.int 1 v]},toks:=tk}:=I.kept λb o e=>B9 _ e;refine⟨(s.heap.push {cls:=.type "range",data:=.fields #[.int lo t,.int a u,.int 1 v]}).objs.size,[(s.heap.push {cls:=.type "range",data:=.fields #[.int lo t,.int a u,.int 1 v]}).objs.size],_,_,H,rfl,
  d.kept (t':=tk) λb o e=>B9 _ e,UU _ lo (a-lo).toNat,?_,λb l=>?_,q⟩
 .have f:lo+((0:Nat):Int)*1=lo:=by simp
  have g:(((a-lo).toNat:Nat):Int)-((0:Nat):Int)=Builtin.Range.rangeSize lo a 1:=by rw[rangeSize_one];split<;>lia
  show IsRangeIter _ _ (lo+((0:Nat):Int)*1) ((((a-lo).toNat:Nat):Int)-((0:Nat):Int)) 1;rw[f,g];exact D8 _ rfl
 .have e:b=(s.heap.push {cls:=.type "range",data:=.fields #[.int lo t,.int a u,.int 1 v]}).objs.size:=by simpa using l
  subst e;exact d.fpOk (B8 _) (d.hok.fresh (B8 _))
def iRng1(ta:TA):TI:=fun σ H R=>ta σ H λvs H1=>∃j:Int,vs=[.int j]/\-(2^62)<=j/\j<2^62/\R (Itr 0 j.toNat) H1
def iRng2(ta:TA):TI:=fun σ H R=>ta σ H λvs H1=>∃i j:Int,vs=[.int i,.int j]/\(-(2^62)<=i/\i<2^62/\-(2^62)<=j/\j<2^62)/\R (Itr i (j-i).toNat) H1
theorem CU{a:Expr}{d:TA}{p pos:Pos}(i:Gl X "range")(k:X.mg "range" = none)(g:PA X [a] d)(l:starEach [a] X.env=[(false,eval a X.env)]:=by rfl):PI X tg (.Call (.Name "range" p) [a] [] pos) (iRng1 d):=by
 intro b s σ H R I h;refine Call_ (Lq I i k boot_range (A1g (thn (g pos b s σ H _ I h) λus v ⟨vs,u,f,n,c⟩=>?_) l rfl));obtain⟨j,e,c,m,q⟩:=c;subst e;cases n with
 |cons r o =>
  cases o;obtain⟨t,rfl⟩:=r;exact call_range_1 (TW f A0 A0 c m (by simpa using q))
theorem YE{a b:Expr}{k:TA}{p pos:Pos}(n:Gl X "range")(o:X.mg "range" = none)(m:PA X [a,b] k)(u:starEach [a,b] X.env=[(false,eval a X.env),(false,eval b X.env)]:=by rfl)(c:starEach [b] X.env=[(false,eval b X.env)]:=by rfl) :
  PI X tg (.Call (.Name "range" p) [a,b] [] pos) (iRng2 k):=by
 intro d s σ H R I h;refine Call_ (Lq I n o boot_range (A1g (thn (m pos d s σ H _ I h) λus B ⟨vs,A,l,z,f⟩=>?_) (by rw[u,c]) (by rw[c];rfl)));obtain⟨i,j,e,⟨f,v,w,x⟩,q⟩:=f;subst e;cases z with
 |cons r g =>
  cases g with
  |cons y g =>
   cases g;obtain⟨t,rfl⟩:=r;obtain⟨t',rfl⟩:=y;exact call_range_2 (TW l f v w x q)
def tFor(wi:TI)(g:TG)(tb:TS):TS:=λD σ H=>wi σ H λJ H1=>∃W:Nat->Nat->St->Hp->Prop,(∃m,W 0 m σ H1)/\∀i m σ H,W i m σ H ->
 (J.stop i H/\D.nx σ H)\/(J.go i H/\∃N:St->Hp->Prop,(∀σ' H',N σ' H'->∃m',m'<m/\W (i+1) m' σ' H')/\∀x H',J.yld i H x H'->g x σ H' fun σ2 H2=>tb {D with nx:=N,ct:=N,bk:=D.nx} σ2 H2)
def NS(fp:H_)(h:T_):List (Addr×Obj):=fp.filterMap λb=>(h.get? b).map λo=>(b,o)
theorem Ju{fp:H_}{h:T_}{b:R_}{o:Obj}(a:b∈fp)(e:h.get? b=some o):(b,o)∈NS fp h:=List.mem_filterMap.mpr ⟨b,a,by rw[e];rfl⟩
theorem Rj{fp:H_}{h:T_}{p:Addr×Obj}(d:p∈NS fp h):p.1∈fp/\h.get? p.1=some p.2:=by
 obtain⟨b,c,e⟩:=List.mem_filterMap.mp d;cases q:h.get? b with
 |none=>rw[q]at e;cases e
 |some o =>
  rw[q]at e;have a:(b,o)=p:=K4 e;subst a;exact⟨c,q⟩
theorem Inv.pinned{a:A_}{σ:St}{H:Hp}{s:P_}{fp:H_}(I:Inv X a σ H s)(j:∀b∈fp,DJ X a H b)(k:∀b∈fp,∃o,s.heap.get? b=some o/\∀v,o.data≠.cell v):Inv X (a++NS fp s.heap) σ H s :=
 I.pins_of λp l=>(D4.mp l).elim (λz=>I.pin p (J9 _ z)) λz=>by
  obtain⟨f,e⟩:=Rj z;obtain⟨g,h,i,_⟩:=j p.1 f;obtain⟨o,c,d⟩:=k p.1 f;rw[e]at c;cases c;exact⟨e,g,h,i,d⟩
theorem Inv.unpinned{a pl:A_}{σ:St}{H:Hp}{s:P_}(I:Inv X (a++pl) σ H s):Inv X a σ H s:=I.pins_of λp b=>I.pin p (J9 _ (S9 _ b))
theorem CK{q:Expr}{B:List Stmt}{wi:TI}{g:TG}{tb:TS}{pos:Pos}(G:PassesOwn (model X.prog X.w) X.A X.env X.xe)(hc:X.calm=true)(hi:PI X tg q wi)(hg:PG X tg g)(p:PSs X B tb)
  (hs:∀x,foldedSetIterable q X.env x=pure x:=by intro _;rfl):PS X (.For tg q B [] pos) (tFor wi g tb):=by
 intro a s σ H D I h;refine wpAny_For (thn (hi a s σ H _ I h) λv s1 h1=>thn h1 λaa s2 h2=>?_) hs;obtain⟨it,fp,tn,J,H2,e,I2,T,U,f2,W,⟨m0,w0⟩,turn⟩:=h2;subst e;have t:∀{z:Hp},(∀b∈fp,z b=none)->∀b∈fp,DJ X a z b:=λhn b p=>⟨hn b p,(f2 b p).2⟩
 refine codeAny_forLoop_any (λn s'=>∃i σ' z,Inv X a σ' z s'/\tn i s'.heap/\(∀b∈fp,z b=none)/\W i n σ' z) ?_ m0 ⟨0,σ,H2,I2,U,λb p=>(f2 b p).1,w0⟩;rintro n s3 ⟨i,y,O,Z,L,F,w3⟩;rcases turn i n y O w3 with ⟨M,qn⟩|⟨go,N,hN,step⟩
 .refine A3b G (thn (T.done X rfl rfl rfl hc i a s3 y O X.xe Z (t F) L M) λr s4 ⟨R,I4⟩=>?_);subst R;exact A6e ⟨y,O,I4,qn⟩
 .refine A3b G (thn (T.item X rfl rfl rfl hc i a s3 y O X.xe Z (t F) L go) λr s4 ⟨u,R,h4⟩=>?_);subst R;refine A3b G (thn h4 λ_ s5 ⟨x,Y,I5,r5,y5,E,Q⟩=>?_);have P:=I5.pinned (t Q) (T.obj _ _ E);refine A3b G (thn (hg _ s5 y Y x u _ P r5 (step x Y y5)) λ_ s6 ⟨V,H6,I6,q6⟩=>?_);refine A3b G (thn (p _ s6 V H6 _ I6 q6) λf S C=>?_);have l:∀{c:St}{j:Hp},Inv X (a++NS fp s5.heap) c j S->N c j->∃m,m<n/\∃i σ' z,Inv X a σ' z S/\tn i S.heap/\(∀b∈fp,z b=none)/\W i m σ' z:=λ{c j} k K=>by
   obtain⟨m',hm,w7⟩:=hN c j K;refine⟨m',hm,i+1,c,j,k.unpinned,T.keep _ _ _ E λb p o e=>(k.pin (b,o) (J9 _ (J9 _ (Ju p e)))).1,λb p=>?_,w7⟩;obtain⟨o,e,d⟩:=T.obj _ _ E b p;exact(k.pin (b,o) (J9 _ (J9 _ (Ju p e)))).2.1
  cases f with
  |next=>obtain⟨c,j,k,K⟩:=C;exact l k K
  |cont=>obtain⟨c,j,k,K⟩:=C;exact l k K
  |brk=>obtain⟨c,j,k,C⟩:=C;exact⟨c,j,k.unpinned,C⟩
  |ret v=>obtain⟨x7,c,j,k,r7,C⟩:=C;exact⟨x7,c,j,k.unpinned,r7,C⟩
end
theorem Nk{K:O_}{a:R_}{xs:List V}{g:TG}{k:TS}{D:NB}{σ:St}{H:Hp}(b:Nat->St->Hp->Prop)(l:b 0 σ H)(r:∀i σ H,i<=xs.length->b i σ H->SqL K H a xs)
  (s:∀i x σ H,xs[i]?=some x->b i σ H->g x σ H fun d h=>k {D with nx:=b (i+1),ct:=b (i+1),bk:=D.nx} d h) (n:∀σ H,b xs.length σ H->D.nx σ H) :
  ∃W:Nat->Nat->St->Hp->Prop,(∃m,W 0 m σ H)/\∀i m σ H,W i m σ H ->
   ((Itl K a).stop i H/\D.nx σ H)\/((Itl K a).go i H/\∃N:St->Hp->Prop,(∀σ' c,N σ' c->∃j,j<m/\W (i+1) j σ' c)/\∀x c,(Itl K a).yld i H x c->g x σ c fun d h=>k {D with nx:=N,ct:=N,bk:=D.nx} d h):=by
 refine⟨λi m σ H=>m=xs.length-i/\i<=xs.length/\b i σ H,⟨xs.length,by simp,L8 _,l⟩,?_⟩;rintro i m σ H ⟨rfl,o,p⟩;have q:=r i σ H o p;by_cases f:i<xs.length
 .refine .inr ⟨⟨xs,xs[i],q,by simp[f]⟩,b (i+1),fun σ' c t=>⟨xs.length-(i+1),by lia,rfl,f,t⟩,λx c y=>?_⟩;obtain⟨e,y⟩:=y;subst e;exact s i x σ _ (y xs q) p
 .have e:i=xs.length:=by lia
  subst e;exact .inl ⟨⟨xs,q,B8 _⟩,n σ H p⟩
theorem Dv{lo:Int}{n:Nat}{g:TG}{j:TS}{D:NB}{σ:St}{H:Hp}(b:Nat->St->Hp->Prop)(k:b 0 σ H)
  (o:∀i σ H,i<n->b i σ H->g (.int (lo+i)) σ H fun d f=>j {D with nx:=b (i+1),ct:=b (i+1),bk:=D.nx} d f) (l:∀σ H,b n σ H->D.nx σ H) :
  ∃W:Nat->Nat->St->Hp->Prop,(∃m,W 0 m σ H)/\∀i m σ H,W i m σ H ->
   ((Itr lo n).stop i H/\D.nx σ H)\/((Itr lo n).go i H/\∃N:St->Hp->Prop,(∀σ' a,N σ' a->∃h,h<m/\W (i+1) h σ' a)/\∀x a,(Itr lo n).yld i H x a->g x σ a fun d f=>j {D with nx:=N,ct:=N,bk:=D.nx} d f):=by
 refine⟨λi m σ H=>m=n-i/\i<=n/\b i σ H,⟨n,by simp,L8 _,k⟩,?_⟩;rintro i m σ H ⟨rfl,r,p⟩;by_cases c:i<n
 .refine .inr ⟨c,b (i+1),fun σ' a q=>⟨n-(i+1),by lia,rfl,c,q⟩,λx a y=>?_⟩;obtain⟨e,y⟩:=y;subst e y;exact o i σ _ c p
 .have e:i=n:=by lia
  subst e;exact .inl ⟨B8 _,l σ H p⟩
abbrev R2:=V->V->Hp->VK->Prop
def OpR(X:Cx)(f:Value->Value->Sem Value)(r:R2):Prop :=
 ∀(pins:A_)(s:P_)(σ:St)(H:Hp)(x y:V)(v u:S_)(Q:VK),Inv X pins σ H s->Bf x v->Bf y u->r x y H Q ->
  wpAny (model X.prog X.w) X.A (f v u) (EP X pins σ Q) X.xe s
def UnR(X:Cx)(f:Value->Sem Value)(r:V->Hp->VK->Prop):Prop :=
 ∀(pins:A_)(s:P_)(σ:St)(H:Hp)(x:V)(v:S_)(Q:VK),Inv X pins σ H s->Bf x v->r x H Q ->
  wpAny (model X.prog X.w) X.A (f v) (EP X pins σ Q) X.xe s
def GY(X:Cx)(f:S_)(r:List V->Hp->VK->Prop):Prop :=
 ∀(pins:A_)(s:P_)(σ:St)(H:Hp)(xs:List V)(us:F_)(Q:VK),Inv X pins σ H s->AS xs us->r xs H Q ->
  wpAny (model X.prog X.w) X.A (call f us) (EP X pins σ Q) X.xe s
def tOp(r:R2)(ta tb:TE):TE:=fun σ H Q=>ta σ H λx H1=>tb σ H1 λy H2=>r x y H2 Q
def tUn(r:V->Hp->VK->Prop)(ta:TE):TE:=fun σ H Q=>ta σ H λx H1=>r x H1 Q
def rI(C:Int->Int->Prop)(g:Int->Int->V):R2:=λx y H Q=>∃i j,x=.int i/\y=.int j/\C i j/\Q (g i j) H
def rI0(g:Int->Int->V):R2:=λx y H Q=>∃i j,x=.int i/\y=.int j/\Q (g i j) H
def rU(g:Int->V):V->Hp->VK->Prop:=λx H Q=>∃i,x=.int i/\Q (g i) H
section
variable{X:Cx}{a b c:Expr}{ta tb tc:TE}{pos:Pos}
theorem binT(n:PE X a ta)(o:PE X b tb){d:A_}{s:P_}{σ:St}{H:Hp}{R:V->V->Hp->Prop}(I:Inv X d σ H s)
  (h:ta σ H λx k=>tb σ k λy e=>R x y e) {Q:B_} {f:Value->Value->Sem Value}
  (p:∀v u j x y e,Inv X d σ e j->Bf x v->Bf y u->R x y e->wpAny (model X.prog X.w) X.A (f v u) Q X.xe j) :
  wpAny (model X.prog X.w) X.A (eval a X.env) (λv g=>wpAny (model X.prog X.w) X.A (eval b X.env) (λu i=>wpAny (model X.prog X.w) X.A (f v u) Q X.xe i) X.xe g) X.xe s:=by
 refine thn (n d s σ H _ I h) λv B ⟨x,k,l,t,q⟩=>?_;refine thn (o d B σ k _ l q) λu j ⟨y,e,m,z,r⟩=>?_;exact p v u j x y e m t z r
theorem AF{e:Operator}{r:R2}(k:OpR X (binaryOp e) r)(i:PE X a ta)(j:PE X b tb):PE X (.BinOp a e b pos) (tOp r ta tb):=by
 intro d s σ H Q I h;exact wpAny_BinOp (binT i j I h λv u n x y f g l m q=>k d n σ f x y v u Q g l m q)
theorem JX{e:UnaryOp}{r:V->Hp->VK->Prop}(j:UnR X (unaryOp e) r)(i:PE X a ta):PE X (.UnaryOp e a pos) (tUn r ta):=by
 intro d s σ H Q I h;exact UnaryOp_ (thn (i d s σ H _ I h) λv m ⟨x,f,g,l,k⟩=>j d m σ f x v Q g l k)
theorem opI{f:Value->Value->Sem Value}{C:Int->Int->Prop}{g:Int->Int->Int}
  (d:∀(i j:Int)(t u:Tok)(s:P_)(Q:B_)(E:B_),C i j->Q (.int (g i j) s.toks) {s with toks:=s.toks+1}->wpAny (model X.prog X.w) X.A (f (.int i t) (.int j u)) Q E s) :
  OpR X f (rI C λi j=>.int (g i j)):=by
 intro e s σ H x y v u Q I l m h;obtain⟨i,j,rfl,rfl,k,q⟩:=h;obtain⟨t,rfl⟩:=l;obtain⟨t',rfl⟩:=m;exact d i j t t' s _ _ k ⟨.int (g i j),H,I.tok _,⟨_,rfl⟩,q⟩
theorem opI0{f:Value->Value->Sem Value}{g:Int->Int->Int}
  (d:∀(i j:Int)(t u:Tok)(s:P_)(Q:B_)(E:B_),Q (.int (g i j) s.toks) {s with toks:=s.toks+1}->wpAny (model X.prog X.w) X.A (f (.int i t) (.int j u)) Q E s) :
  OpR X f (rI0 λi j=>.int (g i j)):=by
 intro e s σ H x y v u Q I k l h;obtain⟨i,j,rfl,rfl,q⟩:=h;obtain⟨t,rfl⟩:=k;obtain⟨t',rfl⟩:=l;exact d i j t t' s _ _ ⟨.int (g i j),H,I.tok _,⟨_,rfl⟩,q⟩
theorem opB0{f:Value->Value->Sem Value}{g:Int->Int->Bool}
  (d:∀(i j:Int)(t u:Tok)(s:P_)(Q:B_)(E:B_),Q (.bool (g i j)) s->wpAny (model X.prog X.w) X.A (f (.int i t) (.int j u)) Q E s) :
  OpR X f (rI0 λi j=>.bl (g i j)):=by
 intro e s σ H x y v u Q I k l h;obtain⟨i,j,rfl,rfl,q⟩:=h;obtain⟨t,rfl⟩:=k;obtain⟨t',rfl⟩:=l;exact d i j t t' s _ _ ⟨.bl (g i j),H,I,rfl,q⟩
def CDiv(i j:Int):Prop:=0<j/\j<1073741824
def CPow(i j:Int):Prop:=0<=j/\j<=1000000/\i.natAbs<2^64
def CMul(i j:Int):Prop:=(-(2^64)<i/\i<2^64)\/(-(2^64)<j/\j<2^64)
theorem CMul.ok{i j:Int}(h:CMul i j):IntMulOk i j:=by
 rcases h with ⟨d,e⟩|⟨d,e⟩
 .exact .of_left (intBits_le_64 d e)
 .exact .of_right (intBits_le_64 d e)
theorem US(k:Nat):(0:Int)<=2^k:=by
 rw[two_pow_cast];exact Int.natCast_nonneg _
theorem AQ:OpR X (binaryOp .Add) (rI0 λi j=>.int (i+j)):=opI0 λ_ _ _ _ _ _ _ q=>add_int q
theorem Cv:OpR X (binaryOp .Sub) (rI0 λi j=>.int (i-j)):=opI0 λ_ _ _ _ _ _ _ q=>sub_int q
theorem EW:OpR X (binaryOp .Mult) (rI CMul λi j=>.int (i*j)):=opI λ_ _ _ _ _ _ _ d q=>mul_int q d.ok
theorem Ey:OpR X (binaryOp .FloorDiv) (rI CDiv λi j=>.int (i/j)):=opI λi j _ _ _ _ _ d q=>by
 have e:(0:Int)<j:=d.1;have f:j<1073741824:=d.2;exact floordiv_int A0 (by rw[U7 i A0];exact q) (.inl (PyProof.noPylong_small A0))
theorem Bq:OpR X (binaryOp .Mod) (rI (λ_ j=>0<j) λi j=>.int (i%j)):=opI λi j _ _ _ _ _ d q=>by
 have e:(0:Int)<j:=d;exact mod_int' A0 (by rw[Int.fmod_eq_emod_of_nonneg i A0];exact q)
theorem op_pow:OpR X (binaryOp .Pow) (rI CPow λi j=>.int (i^j.toNat)):=opI λ_ _ _ _ _ _ _ d q=>pow_int_small d.1 d.2.1 d.2.2 q
theorem NU:OpR X (binaryOp .LShift) (rI CPow λi j=>.int (i*2^j.toNat)):=opI λ_ _ _ _ _ _ _ d q=>lshift_int_small d.1 d.2.1 d.2.2 q
theorem op_shr:OpR X (binaryOp .RShift) (rI (λ_ j=>0<=j) λi j=>.int (i/2^j.toNat)):=opI λi j _ _ _ _ _ d q =>
 rshift_int d (by rw[U7 i (US _)];exact q)
theorem op_and:OpR X (binaryOp .BitAnd) (rI0 λi j=>.int (Builtin.bitAnd i j)):=opI0 λ_ _ _ _ _ _ _ q=>and_int q
theorem unI{f:Value->Sem Value}{g:Int->Int}
  (d:∀(i:Int)(t:Tok)(s:P_)(Q:B_)(E:B_),Q (.int (g i) s.toks) {s with toks:=s.toks+1}->wpAny (model X.prog X.w) X.A (f (.int i t)) Q E s) :
  UnR X f (rU λi=>.int (g i)):=by
 intro e s σ H x v Q I j h;obtain⟨i,rfl,q⟩:=h;obtain⟨t,rfl⟩:=j;exact d i t s _ _ ⟨.int (g i),H,I.tok _,⟨_,rfl⟩,q⟩
theorem FY:UnR X (unaryOp .USub) (rU λi=>.int (-i)):=unI λ_ _ _ _ _ q=>neg_int q
end
def scal:V->V->Bool
|.non,.non=>true|.non,.int _=>true|.int _,.non=>true|.non,.bl _=>true|.bl _,.non=>true|.non,.str _=>true|.str _,.non=>true
|.int _,.int _=>true|.bl _,.bl _=>true|.str _,.str _=>true|.byt _,.byt _=>true
|.int _,.str _=>true|.str _,.int _=>true|.bl _,.str _=>true|.str _,.bl _=>true
|_,_=>false
def rEq:R2:=λx y H Q=>scal x y=true/\Q (.bl (decide (x=y))) H
def rNe:R2:=λx y H Q=>scal x y=true/\Q (.bl (!decide (x=y))) H
theorem Jy{i j:Int}:decide (V.int i=V.int j)=(i==j):=by
 rw[Q0];simp
theorem dec_bl{i j:Bool}:decide (V.bl i=V.bl j)=(i==j):=by
 rw[Q0];simp
theorem WX{i j:Str}:decide (V.str i=V.str j)=(i==j):=by
 rw[Q0];simp
theorem WY{i j:Array UInt8}:decide (V.byt i=V.byt j)=(i.toList==j.toList):=by
 rw[Q0];cases i;cases j;simp
section
variable{X:Cx}{a b c:Expr}{ta tb tc:TE}{pos:Pos}
theorem Bh{d:A_}{σ:St}{H:Hp}{s:P_}{Q:VK}{k f:Bool}(I:Inv X d σ H s)(q:Q (.bl k) H)(e:k=f):EP X d σ Q (.bool f) s:=by
 subst e;exact⟨.bl k,H,I,rfl,q⟩
theorem CG:OpR X (compareOp .Eq) rEq:=by
 intro g s σ H x y v u Q I f d h;obtain⟨e,q⟩:=h;cases x with
 |non =>
  cases f;cases y with
  |non=>cases d;exact PySem.EqNone.eq_none_none (Bh I q A6)
  |bl j=>cases d;exact PySem.EqNone.eq_none_bool (Bh I q A6)
  |int j=>obtain⟨t',rfl⟩:=d;exact PySem.EqNone.eq_none_int (Bh I q A6)
  |str j=>obtain⟨t',rfl⟩:=d;exact PySem.EqNone.eq_none_str (Bh I q A6)
  |_=>exact absurd (show false=true from e) D5
 |bl i =>
  cases f;cases y with
  |non=>cases d;exact PySem.EqNone.eq_bool_none (Bh I q A6)
  |bl j=>cases d;exact eq_bool (Bh I q dec_bl)
  |str j=>obtain⟨t',rfl⟩:=d;exact PySem.EqMixed.eq_bool_str (Bh I q A6)
  |_=>exact absurd (show false=true from e) D5
 |int i =>
  obtain⟨t,rfl⟩:=f;cases y with
  |non=>cases d;exact PySem.EqNone.eq_int_none (Bh I q A6)
  |int j=>obtain⟨t',rfl⟩:=d;exact eq_int (Bh I q Jy)
  |str j=>obtain⟨t',rfl⟩:=d;exact PySem.EqMixed.eq_int_str (Bh I q A6)
  |_=>exact absurd (show false=true from e) D5
 |str i =>
  obtain⟨t,rfl⟩:=f;cases y with
  |non=>cases d;exact PySem.EqNone.eq_str_none (Bh I q A6)
  |bl j=>cases d;exact PySem.EqMixed.eq_str_bool (Bh I q A6)
  |int j=>obtain⟨t',rfl⟩:=d;exact PySem.EqMixed.eq_str_int (Bh I q A6)
  |str j=>obtain⟨t',rfl⟩:=d;exact eq_str (Bh I q WX)
  |_=>exact absurd (show false=true from e) D5
 |byt i =>
  obtain⟨t,rfl⟩:=f;cases y with
  |byt j=>obtain⟨t',rfl⟩:=d;exact W.eq_bytes (Bh I q WY)
  |_=>exact absurd (show false=true from e) D5
 |_=>cases y<;>exact absurd (show false=true from e) D5
theorem GV:OpR X (compareOp .NotEq) rNe:=by
 intro g s σ H x y v u Q I f d h;obtain⟨e,q⟩:=h;cases x with
 |non =>
  cases f;cases y with
  |non=>cases d;exact PySem.EqNone.ne_none_none (Bh I q A6)
  |bl j=>cases d;exact PySem.EqNone.ne_none_bool (Bh I q A6)
  |int j=>obtain⟨t',rfl⟩:=d;exact PySem.EqNone.ne_none_int (Bh I q A6)
  |str j=>obtain⟨t',rfl⟩:=d;exact PySem.EqNone.ne_none_str (Bh I q A6)
  |_=>exact absurd (show false=true from e) D5
 |bl i =>
  cases f;cases y with
  |non=>cases d;exact PySem.EqNone.ne_bool_none (Bh I q A6)
  |bl j=>cases d;exact ne_bool (Bh I q (A0g not dec_bl))
  |str j=>obtain⟨t',rfl⟩:=d;exact PySem.EqMixed.ne_bool_str (Bh I q A6)
  |_=>exact absurd (show false=true from e) D5
 |int i =>
  obtain⟨t,rfl⟩:=f;cases y with
  |non=>cases d;exact PySem.EqNone.ne_int_none (Bh I q A6)
  |int j=>obtain⟨t',rfl⟩:=d;exact ne_int (Bh I q (A0g not Jy))
  |str j=>obtain⟨t',rfl⟩:=d;exact PySem.EqMixed.ne_int_str (Bh I q A6)
  |_=>exact absurd (show false=true from e) D5
 |str i =>
  obtain⟨t,rfl⟩:=f;cases y with
  |non=>cases d;exact PySem.EqNone.ne_str_none (Bh I q A6)
  |bl j=>cases d;exact PySem.EqMixed.ne_str_bool (Bh I q A6)
  |int j=>obtain⟨t',rfl⟩:=d;exact PySem.EqMixed.ne_str_int (Bh I q A6)
  |str j=>obtain⟨t',rfl⟩:=d;exact ne_str (Bh I q (A0g not WX))
  |_=>exact absurd (show false=true from e) D5
 |byt i =>
  obtain⟨t,rfl⟩:=f;cases y with
  |byt j=>obtain⟨t',rfl⟩:=d;exact W.ne_bytes (Bh I q (A0g not WY))
  |_=>exact absurd (show false=true from e) D5
 |_=>cases y<;>exact absurd (show false=true from e) D5
theorem JF:OpR X (compareOp .Lt) (rI0 λi j=>.bl (decide (i<j))):=opB0 λ_ _ _ _ _ _ _ q=>lt_int q
theorem MZ:OpR X (compareOp .LtE) (rI0 λi j=>.bl (decide (i<=j))):=opB0 λ_ _ _ _ _ _ _ q=>le_int q
theorem Ri:OpR X (compareOp .Gt) (rI0 λi j=>.bl (decide (j<i))):=opB0 λ_ _ _ _ _ _ _ q=>gt_int q
theorem Rh:OpR X (compareOp .In) (λx y H Q=>∃i j,x=.str i/\y=.str j/\Q (.bl (!(Builtin.Str.occurrences j i 0 j.length 1).isEmpty)) H):=by
 intro d s σ H x y v u Q I e f h;obtain⟨i,j,rfl,rfl,q⟩:=h;obtain⟨t,rfl⟩:=e;obtain⟨t',rfl⟩:=f;exact in_str (Bh I q rfl)
theorem GB:OpR X (compareOp .Is) (λx y H Q=>y=.non/\Q (.bl (decide (x=.non))) H):=by
 intro d s σ H x y v u Q I e f h;obtain⟨rfl,q⟩:=h;cases f;refine is_none_gen (Bh I q ?_);cases x<;>first
  | (cases e;rfl)
  | (obtain⟨t,rfl⟩:=e;rfl)
theorem WG:OpR X (compareOp .IsNot) (λx y H Q=>y=.non/\Q (.bl (!decide (x=.non))) H):=by
 intro d s σ H x y v u Q I e f h;obtain⟨rfl,q⟩:=h;cases f;refine isnot_none_gen (Bh I q ?_);cases x<;>first
  | (cases e;rfl)
  | (obtain⟨t,rfl⟩:=e;rfl)
theorem MY:OpR X (compareOp .NotIn) (λx y H Q=>∃i j,x=.str i/\y=.str j/\Q (.bl (!(!(Builtin.Str.occurrences j i 0 j.length 1).isEmpty))) H):=by
 intro d s σ H x y v u Q I e f h;obtain⟨i,j,rfl,rfl,q⟩:=h;obtain⟨t,rfl⟩:=e;obtain⟨t',rfl⟩:=f;exact notIn_str (Bh I q rfl)
theorem AG(b:Expr){d:CmpOp}(h:d≠.In:=by decide)(g:d≠.NotIn:=by decide):behindInMarks d b=false:=by
 have e:(d==CmpOp.In)=false:=by cases d<;>first|rfl|exact absurd rfl h
 have f:(d==CmpOp.NotIn)=false:=by cases d<;>first|rfl|exact absurd rfl g
 cases b<;>simp[behindInMarks,e,f]
theorem Fe{e:CmpOp}{r:R2}(l:OpR X (compareOp e) r)(i:PE X a ta)(j:PE X b tb)(k:behindInMarks e b=false):PE X (.Compare a [e] [b] pos) (tOp r ta tb):=by
 intro d s σ H Q I h;exact wpAny_Compare1 (binT i j I h λv u o x y f g m n q=>l d o σ f x y v u Q g m n q) k
def ZF(t:TE):TT:=fun σ H Q=>t σ H λx H'=>∃k,x=.bl k/\Q k H'
theorem AA{f:CmpOp}{r:R2}(t:OpR X (compareOp f) r)(o:PE X a ta)(p:PE X b tb)(q:behindInMarks f b=false):PT X (.Compare a [f] [b] pos) (ZF (tOp r ta tb)):=by
 intro d s σ H Q I h;refine wpAny_isTrue_Compare1 (thn (o d s σ H _ I h) λv F ⟨x,g,l,C,w⟩=>thn (p d F σ g _ l w) λu G ⟨y,i,m,D,A⟩ =>
  thn (t d G σ i x y v u _ m C D A) λc K ⟨z,j,n,E,k,e,B⟩=>?_) q
 subst e;cases E;exact A1c ⟨j,n,B⟩
def ZH(r r':R2)(ta tb tc:TE):TE:=fun σ H Q=>ta σ H λx H1=>tb σ H1 λy H2=>r x y H2 λz H3=>∃k,z=.bl k /\
 (if k=true then tc σ H3 λw' H4=>r' y w' H4 Q else Q (.bl false) H3)
theorem pe_chain{j g:CmpOp}{r o:R2}(K:OpR X (compareOp j) r)(i:OpR X (compareOp g) o)(D:PE X a ta)(E:PE X b tb)(F:PE X c tc)
  (G:lastMarks [j,g] [b,c]=false:=by with_unfolding_all rfl):PE X (.Compare a [j,g] [b,c] pos) (ZH r o ta tb tc):=by
 intro f s σ H Q I h;refine Compare_chain (thn (D f s σ H _ I h) λv S ⟨x,q,A,O,L⟩=>chain_link (thn (E f S σ q _ A L) λu T ⟨y,t,B,p,M⟩ =>
  thn (K f T σ t x y v u _ B O p M) λd U ⟨z,l,m,P,k,e,n⟩=>?_)) G
 subst e;cases P;refine A1c ?_;cases k with
 |false=>exact ite_ff ⟨.bl false,l,m,rfl,n⟩
 |true=>exact ite_tt (chain_last (thn (F f U σ l _ m n) λW V ⟨Y,w,C,R,N⟩=>i f V σ w y Y u W Q C p R N))
theorem TY{j g:CmpOp}{r o:R2}(O:OpR X (compareOp j) r)(i:OpR X (compareOp g) o)(K:PE X a ta)(L:PE X b tb)(M:PE X c tc)
  (N:lastMarks [j,g] [b,c]=false:=by with_unfolding_all rfl):PT X (.Compare a [j,g] [b,c] pos) (ZF (ZH r o ta tb tc)):=by
 intro f s σ H Q I h;refine isTrue_chain (thn (K f s σ H _ I h) λv s1 ⟨x,q,B,V,R⟩=>test_link (thn (L f s1 σ q _ B R) λu s2 ⟨y,t,C,p,S⟩ =>
  thn (O f s2 σ t x y v u _ C V p S) λd s3 ⟨z,l,m,W,k,e,n⟩=>?_)) N
 subst e;cases W;refine A1c ?_;cases k with
 |false =>
  obtain⟨k',F,P⟩:=n;cases F;exact ite_ff ⟨l,m,P⟩
 |true =>
  refine ite_tt (test_last (thn (M f s3 σ l _ m n) λw' s4 ⟨z',w,D,Y,T⟩=>thn (i f s4 σ w y z' u w' _ D p Y T) λd' s5 ⟨z2,A,E,Z,k2,G,U⟩=>?_));subst G;cases Z;exact A1c ⟨A,E,U⟩
theorem Og:(sizeLine:Nat)<2^63:=by rw[sizeLine_eq];decide
theorem PX:OpR X (binaryOp .Add) (λx y H Q=>∃i j,x=.str i/\y=.str j/\i.length+j.length<=sizeLine/\Q (.str (i++j)) H):=by
 intro d s σ H x y v u Q I f g h;obtain⟨i,j,rfl,rfl,e,q⟩:=h;obtain⟨t,rfl⟩:=f;obtain⟨t',rfl⟩:=g;exact add_str (λt' tk=>⟨.str (i++j),H,I.tok _,⟨_,rfl⟩,q⟩) e
theorem Tk{x:V}{us:F_}(r:AS [x] us):∃u,us=[u]/\Bf x u:=by
 cases r with
 |cons d e=>cases e;exact⟨_,rfl,d⟩
theorem vals2{x y:V}{us:F_}(r:AS [x,y] us):∃u d,us=[u,d]/\Bf x u/\Bf y d:=by
 cases r with
 |cons e f =>
  cases f with
  |cons g h=>cases h;exact⟨_,_,rfl,e,g⟩
theorem Zp(f:X.calm=true):GY X (.builtin "max") (λxs H Q=>∃i j,xs=[.int i,.int j]/\Q (.int (if j > i then j else i)) H):=by
 intro e s σ H xs us Q I r h;obtain⟨i,j,rfl,q⟩:=h;obtain⟨u,g,rfl,⟨t,rfl⟩,⟨t',rfl⟩⟩:=vals2 r;refine max_two_ints (I.ok.hd f) λh' tk k=>⟨_,H,I.kept k,?_,q⟩
 by_cases d:j > i
 .rw[K0 d,K0 d];exact⟨_,rfl⟩
 .rw[X7 d,X7 d];exact⟨_,rfl⟩
theorem RC(f:X.calm=true):GY X (.builtin "min") (λxs H Q=>∃i j,xs=[.int i,.int j]/\Q (.int (if j<i then j else i)) H):=by
 intro e s σ H xs us Q I r h;obtain⟨i,j,rfl,q⟩:=h;obtain⟨u,g,rfl,⟨t,rfl⟩,⟨t',rfl⟩⟩:=vals2 r;refine min_two_ints (I.ok.hd f) λh' tk k=>⟨_,H,I.kept k,?_,q⟩
 by_cases d:j<i
 .rw[K0 d,K0 d];exact⟨_,rfl⟩
 .rw[X7 d,X7 d];exact⟨_,rfl⟩
theorem Jz:GY X (.type "str") (λxs H Q=>∃i,xs=[.int i]/\i.natAbs.log2<1920/\Q (.str (toString i)) H):=by
 intro d s σ H xs us Q I r h;obtain⟨i,rfl,e,q⟩:=h;obtain⟨u,rfl,t,rfl⟩:=Tk r;exact PySem.P.str_of_int e ⟨.str _,H,I.tok _,⟨_,rfl⟩,q⟩
end
structure Wa(h:T_)(x dx C:R_)(mA:C_):Prop where
obj:h.get? x=some (instObj C dx)
ns:h.Ns1 dx mA
ne:dx≠x
theorem YX{h:T_}{dx:R_}{d:C_}(n:h.Ns1 dx d):∃f,h.get? dx=some f/\∀name,lookIn name f=some (d name):=by
 obtain⟨o,c,p,l,i,j,_,k⟩:=n;refine⟨o,l,λname=>?_⟩;have e:=k name;unfold nsFind findBy at e;rw[<-Array.find?_toList]at e;unfold lookIn;rw[i];dsimp only;split
 .rename_i y q;rw[q]at e;exact A0g some e
 .rename_i q;rw[q]at e;have a:c.toList.any (·.refKey)=false:=by
   rw[List.any_eq_false];intro y m;obtain⟨z,t,b⟩:=j y (Array.mem_toList_iff.mp m);simp[DictEntry.refKey,b]
  have g:¬c.toList.any (·.refKey)=true:=by rw[a];exact D5
  rw[X7 g];exact A0g some e
theorem Wa.look{h:T_}{x dx C:R_}{b:C_}(I:Wa h x dx C b):∃a,W.InstAt h x (instObj C dx) C (some a)/\∀name,lookIn name a=some (b name) :=
 let ⟨a,ho,hl⟩:=YX I.ns
 ⟨a,⟨I.obj,rfl,rfl,ho⟩,hl⟩
section
variable{prog:N_}{w:Q_}{A:Around}{E:B_}{s:P_}{K:O_}{x dx C f:R_}{mA:C_}{name:Str}{v:S_}
theorem get_map{a:Bool}{Q:B_}(X:K.In s.heap)(I:Wa s.heap x dx C mA)(d:plainGet K C name=true)(e:hasDictIn K C=true)
  (c:findIn K (.ref C) name=some none) (i:mA name=some v) (b:handedIn v=true) (h:Q v {s with toks:=s.toks+1}) :
  wpAny (model prog w) A (getAttr (.ref x) name a) Q E s:=by
 obtain⟨j,J,g⟩:=I.look;exact W.get_value X J (A6b d).1 (W.findObj_own e c rfl (by rw[g,i])) b h
theorem get_meth{pl:Sem Bool}{Q:Value×List Value->Shared->Prop}(X:K.In s.heap)(I:Wa s.heap x dx C mA)(a:plainGet K C name=true)
  (b:findIn K (.ref C) name=some (some (.ref f))) (d:isFn K (.ref f)=true) (e:mA name=none) (h:Q (.ref f,[.ref x]) s) :
  wpAny (model prog w) A (getMethod (.ref x) name pl) Q E s:=by
 obtain⟨g,J,c⟩:=I.look;exact W.method_fn X J (A6b a).1 (A6b a).2 b (beq_iff_eq.mp d) (by show(lookIn name g).map (·.isSome)=some false;rw[c,e];rfl) h
theorem set_map{ns:K_}{Q:Unit->Shared->Prop}(X:K.In s.heap)(I:Wa s.heap x dx C mA)
  (p:findIn K (.ref C) "__setattr__" = some (some (.builtin "object.__setattr__"))) (o:plainOver K C=true) (q:takerIn K C name=some none) (n:hasDictIn K C=true)
  (t:PySem.Within mA ns) (hsz:ns.length<=sizeLine)
  (h:∀h',Wa h' x dx C (λy=>if y=name then some v else mA y)->Heap.SameBut dx s.heap h'->Q () {s with heap:=h',toks:=s.toks+2}) :
  wpAny (model prog w) A (setAttr (.ref x) name v) Q E s:=by
 obtain⟨F,J,B⟩:=I.look;refine W.set_plain X J p (W.osa_open (s:={s with toks:=s.toks+1}) (r:=none) X J o q λb=>?_)
 obtain⟨z,m,g⟩:=any_some n;have u:s.heap.get? x=some ⟨.ref C,some dx,.plain,#[]⟩:=I.obj;refine X6 (K1 (X6 (X6 (wpAny_loadPart u (X6 (W.Looks.here (s:={s with toks:=s.toks+1}) (W.looks_clsIn X m) ?_))))))
 rw[g];refine K1 (a:=some dx) (X6 (K1 (X6 ?_)));refine wpAny_nsSet1 (s:={s with toks:=s.toks+1}) I.ns λh' c d=>?_;obtain⟨D,l,k,j,i,e⟩:=c.count (PySem.Within.cons name v t);refine X6 (wpAny_lookBehind j (by rw[i];exact pastItsLine_dict (D7 e (by rw[D6];lia))) ?_);exact K1 (h _ ⟨(d.2 _ (K3 I.ne)).trans I.obj,c,I.ne⟩ d)
theorem make_map{R:Result->Shared->Prop}{vs:F_}{b:List (Str×Value)}(X:K.In s.heap)(i:makesIn K C=true)
  (e:findIn K (.ref C) "__init__" = some (some (.ref f))) (c:W.typeIn K (.ref f)=some (.type "function"))
  (h:codeAny (model prog w) (A.under (.builtin "type.__call__" ⟨.ref C::vs,b⟩)) (.call (.ref f) ⟨.ref (s.heap.objs.size+1)::vs,b⟩) (W.InitBack (s.heap.objs.size+1) R)
   {s with heap:=(s.heap.push emptyDict).push (instObj C s.heap.objs.size)}) :
  codeAny (model prog w) A (.call (.ref C) ⟨vs,b⟩) R s:=by
 obtain⟨j,g,d,t,k⟩:=s;exact W.make_core (W.makes_of X i) (W.looks_findIn X e) (λa=>W.bind_fn X a c) (.inl rfl) h
end
def AY(f:Str)(v:V):List (Str×V)->List (Str×V)
|[]=>[(f,v)]
| (g,x)::r=>if g=f then(g,v)::r else(g,x)::AY f v r
theorem An(f g:Str)(v:V):∀fs:List (Str×V),(AY f v fs).lookup g=if g=f then some v else fs.lookup g
|[]=>by
 show List.lookup g [(f,v)]=_;by_cases h:g=f
 .have a:(g==f)=true:=beq_iff_eq.mpr h;simp only[List.lookup,a,K0 h]
 .have a:(g==f)=false:=beq_eq_false_iff_ne.mpr h;simp only[List.lookup,a,X7 h]
| (k,x)::r=>by
 have c:=An f g v r;rw[show AY f v ((k,x)::r)=(if k=f then(k,v)::r else(k,x)::AY f v r)from rfl];by_cases b:k=f
 .rw[K0 b];by_cases h:g=k
  .have a:(g==k)=true:=beq_iff_eq.mpr h;simp only[List.lookup,a,K0 (h.trans b)]
  .have a:(g==k)=false:=beq_eq_false_iff_ne.mpr h;simp only[List.lookup,a,X7 (λe:g=f=>h (e.trans b.symm))]
 .rw[X7 b];by_cases h:g=k
  .have a:(g==k)=true:=beq_iff_eq.mpr h;simp only[List.lookup,a,X7 (λe:g=f=>b (h.symm.trans e))]
  .have a:(g==k)=false:=beq_eq_false_iff_ne.mpr h;simp only[List.lookup,a];exact c
theorem Oh(f:Str)(v:V):∀fs:List (Str×V),f∈(AY f v fs).map (·.1)/\∀g,g∈fs.map (·.1)->g∈(AY f v fs).map (·.1)
|[]=>⟨by simp[AY],λg h=>by simp at h⟩
| (k,x)::r=>by
 obtain⟨b,c⟩:=Oh f v r;rw[show AY f v ((k,x)::r)=(if k=f then(k,v)::r else(k,x)::AY f v r)from rfl];by_cases a:k=f
 .rw[K0 a];subst a;exact⟨by simp,λg h=>by simpa using h⟩
 .rw[X7 a];refine⟨?_,λg h=>?_⟩
  .rw[F4];exact C5 _ b
  .rw[F4]at h⊢;rcases B7.mp h with e|e
   .exact B7.mpr (.inl e)
   .exact C5 _ (c g e)
theorem BH(f:Str)(v:V):∀fs:List (Str×V),(AY f v fs).length<=fs.length+1
|[]=>by simp[AY]
| (k,x)::r=>by
 have b:=BH f v r;rw[show AY f v ((k,x)::r)=(if k=f then(k,v)::r else(k,x)::AY f v r)from rfl];by_cases a:k=f
 .rw[K0 a,D6,D6];lia
 .rw[X7 a,D6,D6];lia
theorem JK.some_of{v:V}{o:Option Value}(r:JK (some v) o):∃u,o=some u/\Bf v u:=by
 cases o with
 |none=>exact(show False from r).elim
 |some u=>exact⟨u,rfl,r⟩
theorem JK.none_of{o:Option Value}(r:JK none o):o=none:=by
 cases o with
 |none=>rfl
 |some u=>exact(show False from r).elim
theorem Zh{v:V}{u:S_}(r:Bf v u):handedIn u=true:=by
 cases v with
 |non=>cases(show u=Value.none from r);rfl
 |bl b=>cases(show u=Value.bool b from r);rfl
 |int i=>obtain⟨t,e⟩:=(show ∃t,u=Value.int i t from r);cases e;rfl
 |str x=>obtain⟨t,e⟩:=(show ∃t,u=Value.str x t from r);cases e;rfl
 |byt b=>obtain⟨t,e⟩:=(show ∃t,u=Value.bytes b t from r);cases e;rfl
 |flt b=>obtain⟨t,e⟩:=(show ∃t,u=Value.float b t from r);cases e;rfl
 |ref a=>cases(show u=Value.ref a from r);rfl
 |ty n=>cases(show u=Value.type n from r);rfl
section
variable{P:N_}{w:Q_}{H H':Hp}{h h':T_}{a C dx:R_}{fs fs':List (Str×V)}
theorem Pb(c:HOk P w H h)(e:H a=some (.ins C dx fs)):∃b,Wa h a dx C b/\(∀f,JK (fs.lookup f) (b f))/\PySem.Within b (fs.map (·.1))/\fs.length<=1000/\H dx=some (.own a):=by
 obtain⟨d,z,ne,g,b,n,r,q⟩:=(show BQ P w H h a (.ins C dx fs)from c a _ e)
 exact⟨b,⟨g,n,ne⟩,r,q,z,d⟩
end
structure Cls(K:O_)(C:R_):Prop where
pg:plainGet K C Str.empty=true
hd:hasDictIn K C=true
po:plainOver K C=true
sa:findIn K (.ref C) "__setattr__" = some (some (.builtin "object.__setattr__"))
theorem Cls.get{K:O_}{C:R_}(c:Cls K C)(f:Str):plainGet K C f=true:=c.pg
def BK(K:O_)(C:R_)(f:Str):Prop:=findIn K (.ref C) f=some none
theorem BK.taker{K:O_}{C:R_}{f:Str}(n:BK K C f):takerIn K C f=some none:=by
 unfold takerIn;rw[show findIn K (.ref C) f=some none from n];rfl
structure QW(K:O_)(C:R_)(m:Str)(f:R_):Prop where
at_:findIn K (.ref C) m=some (some (.ref f))
fn:isFn K (.ref f)=true
kp:keepIn K (.ref f)=true
section
variable{X:Cx}{pins:A_}{σ:St}{H:Hp}{s:P_}{a C dx:R_}{fs:List (Str×V)}{f:Str}{v:V}{A:Around}{E:B_}
theorem VL{b:Bool}{Q:B_}(I:Inv X pins σ H s)(e:H a=some (.ins C dx fs))(c:Cls X.K C)(n:BK X.K C f)(l:fs.lookup f=some v)
  (h:∀u g,Inv X pins σ H g->Bf v u->Q u g):wpAny (model X.prog X.w) A (getAttr (.ref a) f b) Q E s:=by
 obtain⟨j,O,r,_,_,_⟩:=Pb I.hok e;obtain⟨u,i,d⟩:=JK.some_of (v:=v) (o:=j f) (by rw[<-l];exact r f);exact get_map I.kIn O (c.get f) c.hd n i (Zh d) (h u _ (I.tok _) d)
theorem VJ{m:Str}{g:R_}{pl:Sem Bool}{Q:Value×List Value->Shared->Prop}(I:Inv X pins σ H s)(e:H a=some (.ins C dx fs))(c:Cls X.K C)(k:QW X.K C m g)(l:fs.lookup m=none)
  (h:Q (.ref g,[.ref a]) s):wpAny (model X.prog X.w) A (getMethod (.ref a) m pl) Q E s:=by
 obtain⟨d,O,r,_,_,_⟩:=Pb I.hok e;have b:d m=none:=JK.none_of (by rw[<-l];exact r m);exact get_meth I.kIn O (c.get m) k.at_ k.fn b h
theorem Vc{y:V}{u:S_}{Q:Unit->Shared->Prop}(I:Inv X pins σ H s)(e:H a=some (.ins C dx fs))(c:Cls X.K C)(n:BK X.K C f)(G:fs.length<1000)(D:Bf y u)
  (h:∀l,Inv X pins σ (upd H a (.ins C dx (AY f y fs))) l->Q () l):wpAny (model X.prog X.w) A (setAttr (.ref a) f u) Q E s:=by
 obtain⟨k,O,r,m,_,j⟩:=Pb I.hok e;have B:(fs.map (·.1)).length<=sizeLine:=by rw[B4,sizeLine_eq];lia
 refine set_map I.kIn O c.sa c.po n.taker c.hd m B λh' d F=>h _ ?_;have i:∃o,h'.get? dx=some o:=let ⟨o,_,_,e',_⟩:=d.ns;⟨o,e'⟩;refine I.write (x:=a) (e:=dx) (by rw[e];exact True.intro) (.inr j) (λb q p z=>(F.2 b p).trans z) i ?_;refine⟨by rw[Ax O.ne];exact j,?_,O.ne,d.obj,_,d.ns,λg=>?_,λg t=>?_⟩
 .have:=BH f y fs;lia
 .show JK ((AY f y fs).lookup g) (if g=f then some u else k g);rw[An];by_cases q:g=f
  .rw[K0 q,K0 q];exact D
  .rw[X7 q,X7 q];exact r g
 .by_cases q:g=f
  .rw[q];exact(Oh f y fs).1
  .refine(Oh f y fs).2 g (m g λz=>t ?_);show(if g=f then some u else k g)=none;rw[X7 q];exact z
theorem Inv.made(I:Inv X pins σ H s):Inv X pins σ (upd (upd H s.heap.objs.size (.own (s.heap.objs.size+1))) (s.heap.objs.size+1) (.ins C s.heap.objs.size []))
  {s with heap:=(s.heap.push emptyDict).push (instObj C s.heap.objs.size)}:=by
 have c:(s.heap.push emptyDict).get? s.heap.objs.size=some emptyDict:=D8 s.heap rfl;have g:((s.heap.push emptyDict).push (instObj C s.heap.objs.size)).get? (s.heap.objs.size+1)=some (instObj C s.heap.objs.size):=by
  have:=D8 (s.heap.push emptyDict) (o:=instObj C s.heap.objs.size) rfl
  rwa [P5]at this
 have h:(s.heap.push emptyDict).Ns s.heap.objs.size (λ_=>none):=⟨emptyDict,#[],_,c,rfl,(λe i=>absurd i A6),λ_=>rfl⟩
 have d:=I.laid (a:=s.heap.objs.size) (o:=.own (s.heap.objs.size+1)) (h':=s.heap.push emptyDict) (t':=s.toks) (λb u q=>B9 _ q) (B8 _) ⟨_,c⟩;refine d.laid (a:=s.heap.objs.size+1) (o:=.ins C s.heap.objs.size []) (t':=s.toks) (λb u q=>B9 _ q) (Nat.le_of_eq (P5 _ _)) ?_;have ne:s.heap.objs.size≠s.heap.objs.size+1:=J6 (V6 _);refine⟨by rw[Ax ne,Af],L8 _,ne,g,λ_=>none,(Heap.Ns1.of_empty h).at λo q=>B9 _ q,λ_=>True.intro,λy j=>absurd rfl j⟩
theorem attr_of{prog:N_}{w:Q_}{b:Env}{e:Expr}{f:Str}{pos:Pos}{s:P_}{Q:B_}(d:attributeBase e f b (eval e b)=eval e b)
  (h:wpAny (model prog w) A (eval e b) (λo c=>wpAny (model prog w) A (getAttr o f true) Q E c) E s):wpAny (model prog w) A (eval (.Attribute e f pos) b) Q E s :=
 Attribute_any_ h (by rw[arm_eval_Attribute,d])
end
def tFld(K:O_)(ta:TE)(f:Str):TE:=fun σ H Q=>ta σ H λx H1=>∃a C dx fs v,x=.ref a/\H1 a=some (.ins C dx fs)/\Cls K C/\BK K C f/\fs.lookup f=some v/\Q v H1
def sFld(K:O_)(ta tv:TE)(f:Str):TS:=λD σ H=>tv σ H λy H1=>ta σ H1 λx H2=>∃a C dx fs,x=.ref a/\H2 a=some (.ins C dx fs)/\Cls K C/\BK K C f/\fs.length<1000 /\
 D.nx σ (upd H2 a (.ins C dx (AY f y fs)))
section
variable{X:Cx}{o e value:Expr}{f:Str}{pos pos' tpos:Pos}{ta tv:TE}
theorem AB(p:PE X e ta)(m:attributeBase e f X.env (eval e X.env)=eval e X.env):PE X (.Attribute e f pos) (tFld X.K ta f):=by
 intro b s σ H Q I h;refine attr_of m (thn (p b s σ H _ I h) λu w ⟨x,d,g,t,a,C,dx,fs,v,k,j,c,n,l,q⟩=>?_);subst k;obtain rfl:u=Value.ref a:=t;exact VL g j c n l λz y i r=>⟨v,d,i,r,q⟩
theorem CL(p:PE X o ta)(t:PE X value tv)(r:swapsWith value (some (.Attribute o f pos')) pos.line X.env=pure false):PS X (.Assign [.Attribute o f pos'] value pos) (sFld X.K ta tv f):=by
 intro b s σ H D I h;refine plainObj_wpAny_Assign_Attribute (thn (t b s σ H _ I h) λu B ⟨y,d,g,A,q⟩=>thn (p b B σ d _ g q) λv F ⟨x,E,i,z,a,C,dx,fs,m,k,c,n,l,w⟩=>?_) r;subst m;obtain rfl:v=Value.ref a:=z;exact Vc i k c n l A λG j=>⟨σ,_,j,w⟩
end
section
variable{X:Cx}{pins:A_}{σ:St}{H:Hp}{s:P_}{A:Around}{E:B_}{Q:B_}{c:S_}{b:Bool}
inductive Oo(K:O_)(H:Hp):V->Value->Prop where
|non:Oo K H .non (.type "NoneType")
|bl (x:Bool):Oo K H (.bl x) (.type "bool")
|int (i:Int):Oo K H (.int i) (.type "int")
|str (x:Str):Oo K H (.str x) (.type "str")
|flt (x:UInt64):Oo K H (.flt x) (.type "float")
|lst {a:R_} {xs:List V} (e:H a=some (.lst xs)):Oo K H (.ref a) (.type "list")
|frz {a:R_} {o:Obj} {xs:List V} (e:H a=some (.frz o (.lst xs))):Oo K H (.ref a) (.type "list")
|tup {a:R_} {xs:List V} (e:H a=some (.tup xs)):Oo K H (.ref a) (.type "tuple")
|dK {a:R_} {kvs:List (Key×V)} (e:H a=some (.dK kvs)):Oo K H (.ref a) (.type "dict")
|dT {a:R_} {kvs:List (List Key×V)} (e:H a=some (.dT kvs)):Oo K H (.ref a) (.type "dict")
|ins {a C dx:R_} {fs:List (Str×V)} (e:H a=some (.ins C dx fs)) (cl:Cls K C) (ha:findIn K (.ref C) "__class__" = some (some (.builtin "object.__class__")))
  (hn:specialIn K (.builtin "object.__class__") "__get__" = some (some (.builtin "getset_descriptor.__get__"))) (htk:takesIn K (.builtin "object.__class__")=some true)
  (hm:mroIn K C (.type "object")=some true):Oo K H (.ref a) (.ref C)
theorem Zd{x:V}{u t:S_}(I:Inv X pins σ H s)(f:Bf x u)(F:Oo X.K H x t)(e:kitOne X.K t c=some b)(h:∀tk,Q (.bool b) {s with toks:=tk}) :
  wpAny (model X.prog X.w) A (call (.builtin "isinstance") [u,c]) Q E s:=by
 cases F with
 |non=>cases(show u=Value.none from f);exact A0h W.kitx_none I.kIn True.intro e (λz=>nomatch z) h
 |bl y=>cases(show u=Value.bool y from f);exact A0h W.kitx_bool I.kIn True.intro e (λz=>nomatch z) h
 |int i=>obtain⟨t,q⟩:=(show ∃t,u=Value.int i t from f);cases q;exact A0h W.kitx_int I.kIn True.intro e (λz=>nomatch z) h
 |str y=>obtain⟨t,q⟩:=(show ∃t,u=Value.str y t from f);cases q;exact A0h W.kitx_str I.kIn True.intro e (λz=>nomatch z) h
 |flt y=>obtain⟨t,q⟩:=(show ∃t,u=Value.float y t from f);cases q;exact A0h W.kitx_float I.kIn True.intro e (λz=>nomatch z) h
 |@lst a xs d =>
  cases(show u=Value.ref a from f);obtain⟨_,_,n,_,g⟩:=(show BQ X.prog X.w H s.heap a (.lst xs)from I.hok a _ d)
  exact A0h kitx_list I.kIn ⟨_,g,rfl⟩ e (λz=>nomatch z) h
 |@frz a D xs d =>
  cases(show u=Value.ref a from f);obtain⟨_,_,_,n,_,g⟩:=(show BQ X.prog X.w H s.heap a (.frz D (.lst xs))from I.hok a _ d)
  exact A0h kitx_list I.kIn ⟨_,g,rfl⟩ e (λz=>nomatch z) h
 |@tup a xs d =>
  cases(show u=Value.ref a from f);obtain⟨_,_,_,p⟩:=(show BQ X.prog X.w H s.heap a (.tup xs)from I.hok a _ d)
  obtain⟨o,g,j,_⟩:=p;exact A0h W.kitx_tuple I.kIn ⟨o,g,j⟩ e (λz=>nomatch z) h
 |@dK a kvs d =>
  cases(show u=Value.ref a from f);obtain⟨_,_,vs,_,p⟩:=(show BQ X.prog X.w H s.heap a (.dK kvs)from I.hok a _ d)
  obtain⟨o,m,l,g,j,_⟩:=p;exact A0h kitx_dict I.kIn ⟨o,g,j.1⟩ e (λz=>nomatch z) h
 |@dT a kvs d =>
  cases(show u=Value.ref a from f);obtain⟨_,_,xs,_,o,m,l,g,j,_⟩:=(show BQ X.prog X.w H s.heap a (.dT kvs)from I.hok a _ d)
  exact A0h kitx_dict I.kIn ⟨o,g,j.1⟩ e (λz=>nomatch z) h
 |@ins a C dx fs d cl r B k v =>
  cases(show u=Value.ref a from f);obtain⟨G,O,_⟩:=Pb I.hok d;obtain⟨L,J,_⟩:=O.look;exact A0h (W.kitx_own (cl.get _) cl.hd r B k v) I.kIn J e (λz=>nomatch z) h
end
structure Dc(k:Nat)(A:Around):Prop where
hd:A.handled=none
dp:A.depth+3*k+5<recursionLimit
un:A.units+16*k+200<cLine
theorem Dc.mono{j k:Nat}{A:Around}(r:Dc k A)(h:j<=k):Dc j A:=⟨r.hd,by have:=r.dp;lia,by have:=r.un;lia⟩
theorem Dc.deeper{k:Nat}{A:Around}(r:Dc (k+1) A)(a:Env):Dc k (A.deeper a) :=
 ⟨r.hd,by have:=r.dp;show A.depth+1+3*k+5<_;lia,by have:=r.un;show A.units+3+16*k+200<_;lia⟩
theorem Dc.in1{k:Nat}{A:Around}(r:Dc (k+1) A):Dc k A.in1 :=
 ⟨r.hd,by have:=r.dp;show A.depth+3*k+5<_;lia,by have:=r.un;show A.units+1+16*k+200<_;lia⟩
theorem VE{A:Around}{C:R_}{us:F_}{a:List (Str×Value)}:(A.under (.builtin "type.__call__" ⟨.ref C::us,a⟩)).depth=A.depth+1:=by
 first|rfl|simp[Around.under,Code.weight,Code.isCreation,Code.isGuard,Code.isCaller,Code.frames,Code.isFrame,guardIds]
theorem VD{A:Around}{C:R_}{us:F_}{a:List (Str×Value)}:(A.under (.builtin "type.__call__" ⟨.ref C::us,a⟩)).units=A.units+1:=by
 first|rfl|simp[Around.under,Code.cUnits,Code.frames,Code.isFrame]
theorem Dc.make{k:Nat}{A:Around}(r:Dc (k+1) A)(C:R_)(us:F_)(a:List (Str×Value)):Dc k (A.under (.builtin "type.__call__" ⟨.ref C::us,a⟩)) :=
 ⟨r.hd,by have:=r.dp;rw[VE];lia,by have:=r.un;rw[VD];lia⟩
theorem Dc.depth{k:Nat}{A:Around}(r:Dc k A):A.depth<recursionLimit:=by have:=r.dp;lia
theorem Dc.units{k:Nat}{A:Around}(r:Dc k A):A.units+64<cLine:=by have:=r.un;lia
def QC:TA:=λ_ H Q=>Q [] H
def CO(ta:TE)(tr:TA):TA:=fun σ H Q=>ta σ H λx H1=>tr σ H1 λxs H2=>Q (x::xs) H2
section
variable{X:Cx}{e:Expr}{es:List Expr}{te:TE}{t:TA}{pos:Pos}
theorem Ab:PA X [] QC:=λ_ _ _ _ H Q I h=>Calls.spliced_nil ⟨[],H,I,.nil,h⟩
theorem Aa(g:PE X e te)(i:PA X es t)(j:starEach (e::es) X.env=(false,eval e X.env)::starEach es X.env:=by rfl):PA X (e::es) (CO te t):=by
 intro pos a s σ H Q I h;rw[j];show wpAny _ _ (spliced ((false,eval e X.env)::backTo pos (starEach es X.env))) _ _ s;refine Calls.spliced_cons (thn (g a s σ H _ I h) λu o ⟨x,b,d,m,k⟩=>?_);exact thn (i pos a o σ b _ d k) λus p ⟨xs,c,f,n,l⟩=>⟨x::xs,c,f,.cons m n,l⟩
def ZE(t:TA):TE:=fun σ H Q=>t σ H λxs H1=>xs.length<=sizeLine/\∀p,H1 p=none->Q (.ref p) (upd H1 p (.tup xs))
def tLst(t:TA):TE:=fun σ H Q=>t σ H λxs H1=>xs.length<=sizeLine/\∀p,H1 p=none->Q (.ref p) (upd H1 p (.lst xs))
theorem Dz{x1}(h:PA X es t):PE X (.Tuple es x1 pos) (ZE t):=by
 intro a s σ H Q I i;refine wpAny_Tuple_spliced (thn (h pos a s σ H _ I i) λus c ⟨xs,d,f,r,z,q⟩=>⟨by rw[<-r.length];exact z,?_⟩);have g:d c.heap.objs.size=none:=f.hok.fresh (B8 _);refine⟨.ref c.heap.objs.size,upd d c.heap.objs.size (.tup xs),f.laid (t':=c.toks) (λb u e=>B9 _ e) (B8 _) ?_,rfl,q _ g⟩;exact⟨z,us,r,⟨_,D8 _ rfl,rfl,_,rfl⟩⟩
theorem Ce(h:PA X es t):PE X (.List es pos) (tLst t):=by
 intro a s σ H Q I i;refine wpAny_List_spliced (thn (h pos a s σ H _ I i) λus c ⟨xs,d,f,r,z,q⟩=>⟨by rw[<-r.length];exact z,?_⟩);have g:d c.heap.objs.size=none:=f.hok.fresh (B8 _);refine⟨.ref c.heap.objs.size,upd d c.heap.objs.size (.lst xs),f.laid (t':=c.toks) (λb u e=>B9 _ e) (B8 _) ?_,rfl,q _ g⟩;exact⟨z,us,0,r,D8 _ rfl⟩
end
abbrev Sp:=List V->Hp->VK->XK->Prop
abbrev CXT:=List Env->Hp->Shared->XK->Value->Shared->Prop
structure OM(P:N_)(w:Q_)(K:O_)(mg:C_)(base:T_)(A:Around)(outer:List Env)(s:P_)(H:Hp):Prop where
frames:A.frames=some outer
mod:Mod K mg base
bs:∀b o,base.get? b=some o->s.heap.get? b=some o/\H b=none
bsz:base.objs.size<=s.heap.objs.size
funs:s.heap.FunFrames base outer
frf:∀b∈frs outer,H b=none
hok:HOk P w H s.heap
bare:AllBare s.gens
def CE(outer:List Env)(P:N_)(w:Q_)(H:Hp)(s:P_)(Q:VK)(u:S_)(s':P_):Prop :=
 ∃v H',s'.os=s.os/\AllBare s'.gens/\Un (frs outer) [] H H' s.heap s'.heap/\HOk P w H' s'.heap/\Bf v u/\Q v H'
def CR(CX:CXT)(outer:List Env)(P:N_)(w:Q_)(H:Hp)(s:P_)(Q:VK)(E:XK)(r:Result)(s':P_):Prop :=
 match r with
 |.ok (.ret u)=>CE outer P w H s Q u s'
 |.ok _=>False
 |.error e=>CX outer H s E e s'
structure AL(P:N_)(w:Q_)(K:O_)(mg:C_)(base:T_)(CX:CXT)(k:Nat)(f:R_)(fd:E_)(ps:K_)(sp:Sp):Prop where
len:∀vs H Q E,sp vs H Q E->vs.length=ps.length
run:∀(A:Around)(outer:List Env)(s:P_)(H:Hp)(args:Args)(us:F_)(vs:List V)(Q:VK)(E:XK),Dc k A->OM P w K mg base A outer s H->BindsTo s fd args (ps.zip us)->AS vs us->sp vs H Q E ->
 codeAny (model P w) A (.call (.ref f) args) (CR CX outer P w H s Q E) s
theorem AL.imp{P:N_}{w:Q_}{K:O_}{mg:C_}{a:T_}{CX:CXT}{k:Nat}{f:R_}{e:E_}{ps:K_}{sp d:Sp}(F:AL P w K mg a CX k f e ps sp)
  (h:∀vs H Q E,d vs H Q E->sp vs H Q E):AL P w K mg a CX k f e ps d :=
 ⟨λvs H Q E q=>F.len vs H Q E (h _ _ _ _ q),λA b s H c us vs Q E j i g m l=>F.run A b s H c us vs Q E j i g m (h _ _ _ _ l)⟩
theorem OM.make{P:N_}{w:Q_}{K:O_}{mg:C_}{b:T_}{A:Around}{a:List Env}{s:P_}{H:Hp}(e:OM P w K mg b A a s H)(C:R_)(us:F_)(c:List (Str×Value)) :
 OM P w K mg b (A.under (.builtin "type.__call__" ⟨.ref C::us,c⟩)) a s H:=⟨by first|exact e.frames|(simpa[Around.under,Code.envs,Code.isFrame,pushEnvs] using e.frames),e.mod,e.bs,e.bsz,e.funs,e.frf,e.hok,e.bare⟩
theorem OM.in1{P:N_}{w:Q_}{K:O_}{mg:C_}{b:T_}{A:Around}{a:List Env}{s:P_}{H:Hp}(e:OM P w K mg b A a s H) :
 OM P w K mg b A.in1 a s H:=⟨e.frames,e.mod,e.bs,e.bsz,e.funs,e.frf,e.hok,e.bare⟩
section
variable{X:Cx}{pins:A_}{σ:St}{H:Hp}{s s':P_}
theorem Inv.env0(I:Inv X pins σ H s):OM X.prog X.w X.K X.mg X.base X.A X.stack s H :=
 ⟨I.ok.frames,I.ok.mod,I.bs,D7 I.ok.bsz I.sz,I.stack,I.stkFree,I.hok,I.bare⟩
theorem Inv.after{Q:VK}{u:S_}(I:Inv X pins σ H s)(h:CE X.stack X.prog X.w H s Q u s'):EP X pins σ Q u s':=by
 obtain⟨v,f,e,bare,un,a,r,q⟩:=h;obtain⟨i,g,d,t,c⟩:=s';obtain rfl:c=s.os:=e;exact⟨v,f,I.call (h':=i) (g':=g) (d':=d) (t':=t) (ch:=[]) un a bare (λb z=>absurd z A6),r,q⟩
end
def tCall(sp:Sp)(dvs:List V)(E:XK)(t:TA):TE:=fun σ H Q=>t σ H λvs H1=>sp (vs++dvs) H1 Q E
def Wh(C:R_)(m:Str)(sp:Sp)(dvs:List V)(E:XK)(ta:TE)(t:TA):TE:=fun σ H Q=>ta σ H λx H1=>∃a dx fs,x=.ref a/\H1 a=some (.ins C dx fs)/\fs.lookup m=none /\
 t σ H1 λvs H2=>sp (x::(vs++dvs)) H2 Q E
def Wi(C:R_)(sp:Sp)(dvs:List V)(E:XK)(t:TA):TE:=fun σ H Q=>t σ H λvs H1=>∀x dx,H1 x=none->H1 dx=none->dx≠x ->
 sp (.ref x::(vs++dvs)) (upd (upd H1 dx (.own x)) x (.ins C dx [])) (λv H2=>v=.non/\Q (.ref x) H2) E
def CF(K:O_)(fd:E_)(ps:K_)(ds:F_):Prop :=
 ∀(s:P_)(us:F_),K.In s.heap->(us++ds).length=ps.length->BindsTo s fd ⟨us,[]⟩ (ps.zip (us++ds))
theorem CF.all{K:O_}{a:E_}{ps:K_}(h:∀us:List Value,us.length=ps.length->bindArgs a ⟨us,[]⟩=pure (ps.zip us)):CF K a ps []:=λs us _ b=>by
 rw[P9]at b⊢;exact .of_eq (h us b)
def GJ(CX:CXT)(X:Cx)(E:XK):Prop:=∀(pins:A_)(σ:St)(H:Hp)(s:P_)(e:S_)(s':P_),Inv X pins σ H s->CX X.stack H s E e s'->X.xe e s'
section
variable{X:Cx}{CX:CXT}{k:Nat}{f C:R_}{fd:E_}{ps:K_}{sp:Sp}{dvs:List V}{ds:F_}{E:XK}{x m:Str}{p pos apos:Pos}{e o:Expr}{es:List Expr}{ta:TE}{t:TA}
theorem run_fn{a:A_}{σ:St}{H:Hp}{s:P_}{Q:VK}{us:F_}{vs:List V}(F:AL X.prog X.w X.K X.mg X.base CX k f fd ps sp)(l:Dc k X.A)(g:CF X.K fd ps ds)(i:AS dvs ds)(n:GJ CX X E)
  (I:Inv X a σ H s) (r:AS vs us) (h:sp (vs++dvs) H Q E):wpAny (model X.prog X.w) X.A (call (.ref f) us) (EP X a σ Q) X.xe s:=by
 have c:AS (vs++dvs) (us++ds):=r.append i;have j:(us++ds).length=ps.length:=by rw[<-c.length];exact F.len _ _ _ _ h
 refine wpAny_call (A6c (F.run X.A X.stack s H ⟨us,[]⟩ (us++ds) (vs++dvs) Q E l I.env0 (g s us I.kIn j) c h) λr q b=>?_);cases r with
 |error e=>exact n a σ H s e q I b
 |ok d =>
  cases d with
  |ret u=>exact I.after b
  |next=>exact False.elim b
  |brk=>exact False.elim b
  |cont=>exact False.elim b
theorem pe_call(F:AL X.prog X.w X.K X.mg X.base CX k f fd ps sp)(y:Dc k X.A)(n:Gl X x)(v:X.mg x=some (.ref f))(u:keepIn X.K (.ref f)=true)(i:CF X.K fd ps ds)(j:AS dvs ds)(z:GJ CX X E)
  (g:PA X (e::es) t) (b:(x==("__debug__" : Str))=false:=by decide) (l:starEach (e::es) X.env=(false,eval e X.env)::starEach es X.env:=by rfl) (c:(backTo pos (starEach es X.env)).any (·.1)=false:=by rfl) :
  PE X (.Call (.Name x p) (e::es) [] pos) (tCall sp dvs E t):=by
 intro a s σ H Q I h;refine A2h (OZ I n v ?_ b);refine A6g (h₀:=X.base) I.ok.mod.kin u (thn (g pos a s σ H _ I h) λus D ⟨vs,B,d,r,q⟩=>⟨d.kIn,?_⟩) l c;exact run_fn F y i j z d r q
theorem pe_meth{pl:Sem Bool}(M:PE X o ta)(c:Cls X.K C)(n:QW X.K C m f)(F:AL X.prog X.w X.K X.mg X.base CX k f fd ps sp)(N:Dc k X.A)(G:CF X.K fd ps ds)(L:AS dvs ds)(P:GJ CX X E)(D:PA X (e::es) t)
  (g:starEach (e::es) X.env=(false,eval e X.env)::starEach es X.env:=by rfl) (d:(backTo pos (starEach es X.env)).any (·.1)=false:=by rfl)
  (O:eval (.Call (.Attribute o m apos) (e::es) [] pos) X.env=(do
   let v <-eval o X.env
   standAt apos.atName
   let (f,first) <-holding [v] (getMethod v m pl)
   callWith pos f first (backTo pos (starEach (e::es) X.env)) (backToKw pos (keywordEach [] X.env))):=by rfl) :
  PE X (.Call (.Attribute o m apos) (e::es) [] pos) (Wh C m sp dvs E ta t):=by
 intro b s σ H Q I h;refine W.methodCall_KW (pl:=pl) (thn (M b s σ H _ I h) λu T ⟨x,y,i,S,a,dx,fs,B,z,l,q⟩=>?_) O;subst B;obtain rfl:u=Value.ref a:=S;refine VJ i z c n l ?_;refine A6g (first:=[.ref a]) (h₀:=X.base) I.ok.mod.kin n.kp (thn (D pos b T σ y _ i q) λus V ⟨vs,U,j,r,R⟩=>⟨j.kIn,?_⟩) g d;exact run_fn (us:=.ref a::us) (vs:=.ref a::vs) F N G L P j (.cons rfl r) R
structure Mk(K:O_)(C f:R_):Prop where
makes:makesIn K C=true
init:findIn K (.ref C) "__init__" = some (some (.ref f))
fn:isFn K (.ref f)=true
kp:keepIn K (.ref C)=true
theorem TL{b:A_}{σ:St}{H:Hp}{s:P_}{Q:VK}{us:F_}{vs:List V}(M:Mk X.K C f)(F:AL X.prog X.w X.K X.mg X.base CX k f fd ps sp)(D:Dc (k+1) X.A)(y:CF X.K fd ps ds)(z:AS dvs ds)
  (G:GJ CX X E) (I:Inv X b σ H s) (r:AS vs us)
  (h:∀x dx,H x=none->H dx=none->dx≠x->sp (.ref x::(vs++dvs)) (upd (upd H dx (.own x)) x (.ins C dx [])) (λv j=>v=.non/\Q (.ref x) j) E) :
  wpAny (model X.prog X.w) X.A (call (.ref C) us) (EP X b σ Q) X.xe s:=by
 have d:=h (s.heap.objs.size+1) s.heap.objs.size (I.hok.fresh (Q9 _)) (I.hok.fresh (B8 _)) (J6 (V6 _));have c:=Inv.made (C:=C) I;have g:AS (V.ref (s.heap.objs.size+1)::(vs++dvs)) (Value.ref (s.heap.objs.size+1)::(us++ds)):=.cons rfl (r.append z);have B:(Value.ref (s.heap.objs.size+1)::us++ds).length=ps.length:=by
  have e:=g.length;rw[F.len _ _ _ _ d]at e;exact e.symm
 refine wpAny_call (make_map (f:=f) I.kIn M.makes M.init (beq_iff_eq.mp M.fn) (A6c (F.run _ X.stack _ _ ⟨Value.ref (s.heap.objs.size+1)::us,[]⟩ (Value.ref (s.heap.objs.size+1)::(us++ds)) _ _ E (D.make C us [])
  (c.env0.make C us []) (y _ (Value.ref (s.heap.objs.size+1)::us) c.kIn B) g d) λr O a=>?_))
 cases r with
 |error e=>exact G b σ _ _ e O c a
 |ok q =>
  cases q with
  |ret u =>
   obtain⟨v,i,l,N,n,L⟩:=c.after a;subst n;exact⟨N,⟨V.ref (s.heap.objs.size+1),i,l,rfl,L⟩⟩
  |next=>exact False.elim a
  |brk=>exact False.elim a
  |cont=>exact False.elim a
theorem pe_make(M:Mk X.K C f)(F:AL X.prog X.w X.K X.mg X.base CX k f fd ps sp)(v:Dc (k+1) X.A)(n:Gl X x)(u:X.mg x=some (.ref C))(i:CF X.K fd ps ds)(j:AS dvs ds)(y:GJ CX X E)
  (g:PA X (e::es) t) (b:(x==("__debug__" : Str))=false:=by decide) (l:starEach (e::es) X.env=(false,eval e X.env)::starEach es X.env:=by rfl) (c:(backTo pos (starEach es X.env)).any (·.1)=false:=by rfl) :
  PE X (.Call (.Name x p) (e::es) [] pos) (Wi C sp dvs E t):=by
 intro a s σ H Q I h;refine A2h (OZ I n u ?_ b);refine A6g (h₀:=X.base) I.ok.mod.kin M.kp (thn (g pos a s σ H _ I h) λus B ⟨vs,z,d,r,q⟩=>⟨d.kIn,?_⟩) l c;exact TL M F v i j y d r q
theorem pe_make0(M:Mk X.K C f)(F:AL X.prog X.w X.K X.mg X.base CX k f fd ps sp)(j:Dc (k+1) X.A)(g:Gl X x)(i:X.mg x=some (.ref C))(c:CF X.K fd ps ds)(d:AS dvs ds)(l:GJ CX X E)
  (a:(x==("__debug__" : Str))=false:=by decide):PE X (.Call (.Name x p) [] [] pos) (Wi C sp dvs E QC):=by
 intro b s σ H Q I h;refine A2h (OZ I g i ?_ a);exact W.callWith_K0 I.kIn M.kp (TL (us:=[]) M F j c d l I .nil h)
end
def PK(X:Cx)(kws:List Keyword)(t:TA):Prop :=
 ∀(pos:Pos)(pins:A_)(s:P_)(σ:St)(H:Hp)(Q:List V->Hp->Prop),Inv X pins σ H s->t σ H Q->wpAny (model X.prog X.w) X.A (evalAll ((backToKw pos (keywordEach kws X.env)).map (·.2))) (AP X pins σ Q) X.xe s
section
variable{X:Cx}{CX:CXT}{k:Nat}{f C:R_}{fd:E_}{ps ks:K_}{sp:Sp}{E:XK}{x m:Str}{p pos apos kpos:Pos}{e o:Expr}{es:List Expr}{kws:List Keyword}{te ta:TE}{t tk:TA}{nm:Option Str}
theorem pk_nil:PK X [] QC:=λ_ _ _ _ H Q I h=>wpAny_evalAll_nil ⟨[],H,I,.nil,h⟩
theorem pk_cons(i:PE X e te)(j:PK X kws t):PK X (⟨nm,e,kpos⟩::kws) (CO te t):=by
 intro pos a s σ H Q I h;show wpAny _ _ (evalAll ((do let v <-eval e X.env;standAt pos;pure v)::(backToKw pos (keywordEach kws X.env)).map (·.2))) _ _ s;refine wpAny_evalAll_cons (X6 (thn (i a s σ H _ I h) λu w ⟨x,b,d,q,l⟩=>X6 (A7e (K1 ?_))));exact thn (j pos a w σ b _ d l) λus y ⟨xs,c,g,r,n⟩=>⟨x::xs,c,g,.cons q r,n⟩
variable{g:List Value->List Value->List Value}{gV:List V->List V->List V}
end
structure Au(N P:K_)(sc:Scope):Prop where
kind:sc.kind=.function
co:sc.isCoroutine=false
gen:sc.isGenerator=false
nd:N.Nodup
pre:N.take P.length=P
par:∀x∈P,sc.names.lookup x=some .local\/sc.names.lookup x=some .cell
nofree:∀y∈sc.names,y.2≠.free
theorem RF{a:Str->Option NameKind}{x:Str}:∀{binds:List (Str×Value)}{m:C_},(∀v,(x,v)∉binds)->bindL a binds m x=m x
|[],_,_=>rfl
| (n,v)::r,m,h=>by
 unfold bindL;rw[RF λw b=>h w (C5 _ b)];split
 .have:x≠n:=by rintro rfl;exact h v C4
  simp[this]
 .rfl
theorem RH{a:Str->Option NameKind}{x:Str}:∀{binds:List (Str×Value)}{m:C_},(∀v,(x,v)∉binds)->bindC a binds m x=m x
|[],_,_=>rfl
| (n,v)::r,m,h=>by
 unfold bindC;rw[RH λw b=>h w (C5 _ b)];split
 .rfl
 .have:x≠n:=by rintro rfl;exact h v C4
  simp[this]
theorem RG{a:Str->Option NameKind}{x:Str}{v:S_}:∀{P:K_}{vs:F_}{i:Nat}{m:C_},P.Nodup->P[i]?=some x->vs[i]?=some v->a x=some .local ->
 bindL a (P.zip vs) m x=some v
|[],_,_,_,_,h,_,_=>by simp at h
|_::_,[],_,_,_,_,h,_=>by simp at h
|p::P,w::vs,0,m,nd,h1,h2,hk=>by
 simp at h1 h2;subst h1;subst h2;show bindL a ((p,w)::P.zip vs) m p=_;unfold bindL;rw[RF λv b=>(M8.mp nd).1 (List.of_mem_zip b).1,K0 hk];simp
|p::P,w::vs,i+1,m,nd,h1,h2,hk=>by
 show bindL a ((p,w)::P.zip vs) m x=_;unfold bindL;exact RG (i:=i) (M8.mp nd).2 (by simpa using h1) (by simpa using h2) hk
theorem RI{a:Str->Option NameKind}{x:Str}{v:S_}:∀{P:K_}{vs:F_}{i:Nat}{m:C_},P.Nodup->P[i]?=some x->vs[i]?=some v->a x≠some .local ->
 bindC a (P.zip vs) m x=some v
|[],_,_,_,_,h,_,_=>by simp at h
|_::_,[],_,_,_,_,h,_=>by simp at h
|p::P,w::vs,0,m,nd,h1,h2,hk=>by
 simp at h1 h2;subst h1;subst h2;show bindC a ((p,w)::P.zip vs) m p=_;unfold bindC;rw[RH λv b=>(M8.mp nd).1 (List.of_mem_zip b).1,X7 hk];simp
|p::P,w::vs,i+1,m,nd,h1,h2,hk=>by
 show bindC a ((p,w)::P.zip vs) m x=_;unfold bindC;exact RI (i:=i) (M8.mp nd).2 (by simpa using h1) (by simpa using h2) hk
def Os(N:K_)(vs:List V):St:=vs.map some++List.replicate (N.length-vs.length) none
def Zn(CX:CXT)(P:N_)(w:Q_)(K:O_)(mg:C_)(base:T_)(N:K_)(qual:Str)(scope:Scope)(f:R_)(cd:S_)(A:Around)(outer:List Env)(s:P_)(H:Hp)(E:XK):Cx where
 prog:=P
 w:=w
 K:=K
 mg:=mg
 base:=base
 A:=A.deeper (envOfC qual scope s.heap.objs.size f cd)
 N:=N
 s₀:=s
 H₀:=H
 env:=envOfC qual scope s.heap.objs.size f cd
 outer:=outer
 stack:=envOfC qual scope s.heap.objs.size f cd::outer
 ex:=[]
 calm:=true
 fn:=λ_=>true
 pn:=[]
 xe:=λe s'=>wpAny (model P w) (A.deeper (envOfC qual scope s.heap.objs.size f cd)) (leaving (envOfC qual scope s.heap.objs.size f cd) e) (λ_ s''=>CX outer H s E e s'') (λe' s''=>CX outer H s E e' s'') s'
theorem UG{a:Scope}{n:Nat}{x:Str}(h:a.names.lookup x=some .cell):∃c,(cellsFrom n a.names []).lookup x=some c:=by
 have q:=W.cellsFrom_some a.names n [] (.inl h);exact V4.mp q
theorem Ze{CX:CXT}{P:N_}{w:Q_}{K:O_}{mg:C_}{m:T_}{N ps:K_}{j:Str}{d:Scope}{f:R_}{F:S_}{A:Around}{g:List Env}{s O:P_}{H:Hp}{E:XK}{us:F_}{vs:List V}
  (S:Au N ps d) (R:A.handled=none) (o:OM P w K mg m A g s H) (Y:vs.length=ps.length) (r:AS vs us)
  (x:InCallC s s.heap.objs.size (bindL (envOfC j d s.heap.objs.size f F).kindOf (ps.zip us) λ_=>none) (cellsFrom (s.heap.objs.size+1) d.names []) (bindC (envOfC j d s.heap.objs.size f F).kindOf (ps.zip us) λ_=>none) O) :
  Inv (Zn CX P w K mg m N j d f F A g s H E) [] (Os N vs) H O:=by
 have T:ps.length<=N.length:=by have:=A0g List.length S.pre;rw[J0]at this;lia
 obtain⟨G,tk,rfl,L⟩:=x.done;have B:∀b:Addr,b∉(Zn CX P w K mg m N j d f F A g s H E).ex:=λb z=>absurd (show b∈([]:H_)from z) A6;refine⟨⟨o.mod,S.kind,rfl,rfl,B8 _,λy z c G l=>?_,λy t=>?_,λy c _ h=>?_,λ_=>R,Around.frames_deeper o.frames,.inr ⟨rfl,rfl⟩,λb z=>absurd z (B b),o.bs,o.bsz,λb _ _=>B b,λb z=>absurd z (B b),o.funs,o.frf⟩,
  rfl,o.bare,Un.kept L,⟨_,x.toInCall.ns,λi y v G l X=>?_⟩,λy c h=>⟨_,x.cell y c h⟩,o.hok.fresh (B8 _),λy c h=>?_,λp C=>absurd (show p∈([]:A_)from C) A6,o.hok.kept L,?_⟩
 .exact name_of_addr x.apart (A1f G) (A1f l)
 .have t:d.names.lookup y=some .cell\/d.names.lookup y=some .free:=t;rcases t with t|t
  .exact UG t
  .exact absurd rfl (S.nofree _ (A1f t))
 .exact U2 (x.above y c (A1f h))
 .have I:i<vs.length:=by
   unfold Os at l;by_cases I:i<vs.length
   .exact I
   .rw[F8 (by simpa using I)]at l;rw[W0]at l;split at l<;>cases l
  have Q:vs[i]?=some v:=by
   unfold Os at l;rw[M0 (by simpa using I),B6]at l;cases e:vs[i]? with
   |none=>rw[e]at l;cases l
   |some a=>rw[e]at l;cases l;rfl
  obtain⟨u,M,U⟩:=r.get Q;have C:ps[i]?=some y:=by
   rw[<-S.pre,V5 A0];exact G
  have D:ps.Nodup:=by rw[<-S.pre];exact S.nd.sublist (List.take_sublist _ _)
  refine⟨u,U,?_⟩;rcases S.par y (D0 C)with k|k
  .exact .inl ⟨k,RG D C M k⟩
  .obtain⟨c,e⟩:=UG (n:=s.heap.objs.size+1) k;refine .inr ⟨.inl k,c,e,?_⟩;have q:=x.cell y c e;rw[RI D C M (by show d.names.lookup y≠_;rw[k];decide)]at q;exact q
 .exact o.hok.fresh (U2 (x.above y c (A1f h)))
 .unfold Os;show _=N.length;rw[C1,B4,P7];lia
theorem fn_of{CX:CXT}{P:N_}{w:Q_}{K:O_}{mg:C_}{g:T_}{k:Nat}{f:R_}{name d:Str}{i:Arguments}{j:List Stmt}{a:Scope}{Z kV B pm h Y oc:S_}{U od:Option Addr}
  {M:Array (Option Value)} {N ps:K_} {sp:Sp} (lk:K.lookup f=some ⟨oc,od,.func (W.fnOf name d i j a Z kV B pm U h Y),M⟩) (F:W.codeIn K h d=true) (S:Au N ps a)
  (len:∀vs H Q E,sp vs H Q E->vs.length=ps.length)
  (m:∀(A:Around)(c:List Env)(s:P_)(H:Hp)(vs:List V)(Q:VK)(E:XK),Dc k (A.deeper (envOfC d a s.heap.objs.size f h))->sp vs H Q E ->
   ∃t,PSs (Zn CX P w K mg g N d a f h A c s H E) j t/\t {nx:=λ_ l=>Q .non l,rt:=Q} (Os N vs) H) :
  AL P w K mg g CX (k+1) f (W.fnOf name d i j a Z kV B pm U h Y) ps sp:=by
 refine⟨len,λA c s H X us vs Q E G C hb r D=>?_⟩;have hl:=len _ _ _ _ D;have T:K.In s.heap:=C.mod.kin.keeps λb o e=>(C.bs b o e).1;have L:s.heap.NoLimit:=C.mod.nolimit.keeps λb o e=>(C.bs b o e).1;have p:∀y∈ps.zip us,a.names.lookup y.1=some .local\/(a.names.lookup y.1=some .cell/\((cellsFrom (s.heap.objs.size+1) a.names []).lookup y.1).isSome=true):=λ⟨n,v⟩ hy=>by
  rcases S.par n (List.of_mem_zip hy).1 with q|q
  .exact .inl q
  .exact .inr ⟨q,W.cellsFrom_some _ _ _ (.inl q)⟩
 refine codeAny_call_function G.depth (T _ _ lk) rfl S.co S.gen rfl (W.codeRec_of T F) (hb _ _ _ _ ?_);refine wpAny_newFunctionEnv_cells S.kind p λaa he s1 x=>?_;subst he;refine⟨L.keeps x.toInCall.keep,codeAny_func ?_⟩;obtain⟨t,ht,hq⟩:=m A c s H vs Q E (G.deeper _) D;have I:Inv (Zn CX P w K mg g N d a f h A c s H E) [] (Os N vs) H s1:=Ze S G.hd C hl r x;refine A1h (ht [] s1 (Os N vs) H _ I hq) (λfl R z=>?_) λe R z=>z;have fin:∀{σ':St}{l:Hp}{v:V}{u:S_},Inv (Zn CX P w K mg g N d a f h A c s H E) [] σ' l R->Bf v u->Q v l->CE c P w H s Q u R :=
  λ{σ' l v u} J O q=>⟨v,l,J.os,J.bare,J.base,J.hok,O,q⟩
 cases fl with
 |ret u =>
  obtain⟨v,σ',l,J,O,q⟩:=z;exact fin J O q
 |next =>
  obtain⟨σ',l,J,q⟩:=z;exact fin (v:=V.non) (u:=Value.none) J rfl q
 |brk =>
  obtain⟨_,_,_,q⟩:=z;exact False.elim q
 |cont =>
  obtain⟨_,_,_,q⟩:=z;exact False.elim q
section
variable{X:Cx}{x:Str}{p pos:Pos}{e:Expr}{es:List Expr}{t:TA}{id T:String}{r:List V->Hp->VK->Prop}
def tCB(r:List V->Hp->VK->Prop)(t:TA):TE:=fun σ H Q=>t σ H λvs H1=>r vs H1 Q
theorem AX(i:GY X (.builtin id) r)(k:Gl X x)(l:X.mg x=none)(n:bootBuiltins x=some (.builtin id))(g:PA X (e::es) t)(m:x≠"__name__" := by decide)(b:(x==("__debug__" : Str))=false:=by decide)
  (j:starEach (e::es) X.env=(false,eval e X.env)::starEach es X.env:=by rfl) (c:(backTo pos (starEach es X.env)).any (·.1)=false:=by rfl):PE X (.Call (.Name x p) (e::es) [] pos) (tCB r t):=by
 intro a s σ H Q I h;refine A2h (Lq I k l n ?_ m b);exact PyProof.Rows.callWith_builtin1 (thn (g pos a s σ H _ I h) λus u ⟨vs,d,f,q,o⟩=>i a u σ d vs us Q f q o) j c
theorem Bw(i:GY X (.type T) r)(k:Gl X x)(l:X.mg x=none)(n:bootBuiltins x=some (.type T))(g:PA X (e::es) t)(m:x≠"__name__" := by decide)(b:(x==("__debug__" : Str))=false:=by decide)
  (j:starEach (e::es) X.env=(false,eval e X.env)::starEach es X.env:=by rfl) (c:(backTo pos (starEach es X.env)).any (·.1)=false:=by rfl):PE X (.Call (.Name x p) (e::es) [] pos) (tCB r t):=by
 intro a s σ H Q I h;refine A2h (Lq I k l n ?_ m b);exact A1g (thn (g pos a s σ H _ I h) λus u ⟨vs,d,f,q,o⟩=>i a u σ d vs us Q f q o) j c
end
end L2
namespace HT
open PySem PyProof.Rows
section
variable{prog:N_}{w:Q_}{A:Around}{E:B_}{s:P_}
def sIx(n d:Nat):Option Int->Nat
|none=>d
|some v=>if v<0 then(v+(n:Int)).toNat else min v.toNat n
end
end HT
namespace L2
open PySem PySem.Spec PyProof.Rows
abbrev TO:=St->Hp->(Option Int->Hp->Prop)->Prop
def PO(X:Cx)(e:Option Expr)(t:TO):Prop :=
 ∀(pins:A_)(s:P_)(σ:St)(H:Hp)(Q:Option Int->Hp->Prop),Inv X pins σ H s->t σ H Q ->
  wpAny (model X.prog X.w) X.A (evalPart e X.env) (λu s'=>∃o H',Inv X pins σ H' s'/\IsPart u o/\Q o H') X.xe s
def tNoPart:TO:=λ_ H Q=>Q none H
def tPart(t:TE):TO:=fun σ H Q=>t σ H λx H1=>∃i,x=.int i/\Q (some i) H1
section
variable{X:Cx}{e:Expr}{te:TE}{lo hi:Option Expr}{tl th:TO}{pos p2:Pos}
theorem po_none:PO X none tNoPart:=by
 intro a s σ H Q I h;rw[evalPart_none];exact K1 ⟨none,H,I,.none,h⟩
theorem Sj(h:PE X e te):PO X (some e) (tPart te):=by
 intro a s σ H Q I d;rw[evalPart_some];refine thn (h a s σ H _ I d) λu j ⟨x,b,c,g,f⟩=>?_;obtain⟨i,rfl,q⟩:=f;obtain⟨t,rfl⟩:=g;exact⟨some i,b,c,.int i t,q⟩
def SlR(X:Cx)(r:V->Option Int->Option Int->Hp->VK->Prop):Prop :=
 ∀(pins:A_)(s:P_)(σ:St)(H:Hp)(x:V)(v vl vu:S_)(lo hi:Option Int)(sl:R_)(Q:VK),Inv X pins σ H s->Bf x v->s.heap.IsSliceOf sl vl vu .none->IsPart vl lo->IsPart vu hi->r x lo hi H Q ->
  ∃T id,typeLookup (.type T) "__getitem__" = pure (some (.builtin id))/\s.TypeIs v T/\wpAny (model X.prog X.w) X.A (getItem v (.ref sl)) (EP X pins σ Q) X.xe s
def tSl(r:V->Option Int->Option Int->Hp->VK->Prop)(te:TE)(tl th:TO):TE:=fun σ H Q=>te σ H λx H1=>tl σ H1 λl H2=>th σ H2 λu H3=>r x l u H3 Q
theorem Ua{r:V->Option Int->Option Int->Hp->VK->Prop}(B:SlR X r)(t:PE X e te)(z:PO X lo tl)(D:PO X hi th):PE X (.Subscript e (.Slice lo hi none p2) pos) (tSl r te tl th):=by
 intro a s σ H Q I h;refine Subscript_ (thn (t a s σ H _ I h) λv M ⟨x,i,k,L,F⟩=>?_);refine wpAny_Slice (thn (z a M σ i _ k F) λd N ⟨l,j,m,pl,G⟩=>thn (D a N σ j _ m G) λf c ⟨u,g,n,E,K⟩=>?_);rw[evalPart_none];refine K1 ?_;have o:Inv X a σ g {c with heap:=c.heap.push {cls:=.type "slice",data:=.fields #[d,f,.none]} }:=n.kept (t':=c.toks) λb O q=>B9 _ q;obtain⟨T,id,p,C,y⟩:=B a {c with heap:=c.heap.push {cls:=.type "slice",data:=.fields #[d,f,.none]} } σ g x v d f l u c.heap.objs.size Q o L (Heap.IsSliceOf.new ..) pl E K;show wpAny (model X.prog X.w) X.A (subscriptTail e (.Slice lo hi none p2) v (.ref c.heap.objs.size)) (EP X a σ Q) X.xe {c with heap:=c.heap.push {cls:=.type "slice",data:=.fields #[d,f,.none]} };exact tail_any (ops:=[.ref c.heap.objs.size,v]) C p y (by with_unfolding_all rfl)
def VQ(xs:List V)(lo hi:Option Int):List V:=(xs.drop (HT.sIx xs.length 0 lo)).take (HT.sIx xs.length xs.length hi-HT.sIx xs.length 0 lo)
theorem UB(xs:List V)(lo hi:Option Int):(VQ xs lo hi).length<=xs.length:=by
 unfold VQ;rw[J0,List.length_drop];lia
end
def ixN(n:Nat)(i:Int):Option Nat:=if 0<=i then(if i<n then some i.toNat else none)else if -(n:Int)<=i then some (i+n).toNat else none
def atI{α:Type}(xs:List α)(i:Int):Option α:=(ixN xs.length i).bind λj=>xs[j]?
theorem WS{n:Nat}{i:Int}{j:Nat}(h:ixN n i=some j):seqIndex? i n=some j/\j<n/\-(n:Int)<=i/\i<n:=by
 unfold ixN at h;by_cases b:0<=i
 .rw[K0 b]at h;by_cases a:i<n
  .rw[K0 a]at h;have e:i.toNat=j:=K4 h;exact⟨by rw[seqIndex_of b a,e],by lia,by lia,a⟩
  .rw[X7 a]at h;cases h
 .rw[X7 b]at h;by_cases a:-(n:Int)<=i
  .rw[K0 a]at h;have e:(i+n).toNat=j:=K4 h;exact⟨by rw[seqIndex_neg A0 a,e],by lia,a,by lia⟩
  .rw[X7 a]at h;cases h
theorem Tb{α:Type}{xs:List α}{i:Int}{v:α}(h:atI xs i=some v):∃j,seqIndex? i xs.length=some j/\xs[j]?=some v/\j<xs.length/\-(xs.length:Int)<=i/\i<xs.length:=by
 unfold atI at h;cases e:ixN xs.length i with
 |none=>rw[e]at h;cases h
 |some j =>
  rw[e]at h;obtain⟨a,b,c,d⟩:=WS e;exact⟨j,a,h,b,c,d⟩
theorem Ai{α:Type}{xs:List α}{j:Nat}{v:α}(h:xs[j]?=some v):atI xs (j:Int)=some v:=by
 have a:j<xs.length:=(B5.mp h).1;have e:ixN xs.length (j:Int)=some j:=by
  unfold ixN;rw[K0 A0,K0 A0];simp
 unfold atI;rw[e];exact h
def PlainIx(b:Expr):Prop:=∀o i,subscripted b false o i=operate [o,i] (getItem o i)
def IxR(X:Cx)(r:R2):Prop :=
 ∀(value slice:Expr)(pins:A_)(s:P_)(σ:St)(H:Hp)(x y:V)(v u:S_)(Q:VK),Inv X pins σ H s->Bf x v->Bf y u->r x y H Q ->
  subscripted slice false v u=operate [v,u] (getItem v u)->wpAny (model X.prog X.w) X.A (subscriptTail value slice v u) (EP X pins σ Q) X.xe s
def MtR(X:Cx)(id:String)(r:V->List V->Hp->VK->Prop):Prop :=
 ∀(pins:A_)(s:P_)(σ:St)(H:Hp)(x:V)(xs:List V)(v:S_)(us:F_)(Q:VK),Inv X pins σ H s->Bf x v->AS xs us->r x xs H Q ->
  wpAny (model X.prog X.w) X.A (call (.builtin id) (v::us)) (EP X pins σ Q) X.xe s
section
variable{X:Cx}{a b:Expr}{ta tb:TE}{pos:Pos}
theorem Aj{r:R2}(i:IxR X r)(f:PE X a ta)(g:PE X b tb)(j:PlainIx b):PE X (.Subscript a b pos) (tOp r ta tb):=by
 intro c s σ H Q I h;exact Subscript_ (binT f g I h λv u m x y d e k l q=>i a b c m σ d x y v u Q e k l q (j _ _))
def rIxL(K:O_):R2:=λx y H Q=>∃p xs i v,x=.ref p/\y=.int i/\SqL K H p xs/\atI xs i=some v/\Q v H
def LV(K:O_):R2:=λx y H Q=>∃p xs i v,x=.ref p/\y=.int i/\SqT K H p xs/\atI xs i=some v/\Q v H
def rIxS:R2:=λx y H Q=>∃z i c,x=.str z/\y=.int i/\z.length<=sizeLine/\atI z.cps.toList i=some c/\Q (.str ⟨#[c]⟩) H
theorem Ay:IxR X (rIxL X.K):=by
 intro l k c s σ H x y v u Q I G L h o;obtain⟨p,xs,i,z,rfl,rfl,F,D,q⟩:=h;cases G;obtain⟨t,rfl⟩:=L;obtain⟨f,r,pl,P⟩:=I.list F;obtain⟨j,d,A,N,B,C⟩:=Tb D;obtain⟨w,m,g⟩:=r.get A;have E:=r.length;have O:=Og;have fin:EP X c σ Q w s:=⟨z,H,I,g,q⟩
 by_cases n:0<=i
 .have e:i.toNat=j:=by
   rw[seqIndex_of n C]at d;exact K4 d
  exact item_listR pl.isList n A0 (by rw[e];simpa using m) fin o
 .have e:(i+(f.toArray.size:Int)).toNat=j:=by
   rw[seqIndex_neg A0 B]at d;rw[F0,<-E];exact K4 d
  exact subscriptTail_builtinR (x:=w) pl.isList.typeIs slot_list_getitem.lookup
   (wpAny_getItem_list_neg (Q:=λr M=>r=w/\EP X c σ Q r M) pl.isList A0 (by rw[F0]<;>lia) A0 (by rw[e];simpa using m) ⟨rfl,fin⟩) o
theorem Al:IxR X (LV X.K):=by
 intro f e c s σ H x y v u Q I C D h A;obtain⟨p,xs,i,z,rfl,rfl,o,m,q⟩:=h;cases C;obtain⟨t,rfl⟩:=D;obtain⟨B,r,pl,N⟩:=I.tuple o;obtain⟨j,k,l,F,G,L⟩:=Tb m;obtain⟨w,g,d⟩:=r.get l;have n:=r.length;have M:=Og;have fin:EP X c σ Q w s:=⟨z,H,I,d,q⟩
 exact subscriptTail_builtinR (x:=w) pl.typeIs slot_tuple_getitem.lookup
  (getItem_tuple (j:=j) (Q:=λr E=>r=w/\EP X c σ Q r E) pl A0 A0 (by rw[F0,<-n];exact k) (by simpa using g) ⟨rfl,fin⟩) A
theorem VI:IxR X rIxS:=by
 intro e d g s σ H x y v u Q I A B h w;obtain⟨z,i,c,rfl,rfl,E,p,q⟩:=h;obtain⟨t,rfl⟩:=A;obtain⟨t',rfl⟩:=B;obtain⟨j,f,m,C,n,o⟩:=Tb p;have r:z.cps.toList.length=z.length:=by simp[Str.length]
 rw[r]at f n o;have D:=Og;exact tail_any (A6d s z t) slot_str_getitem.lookup (getItem_str (c:=c) (by
  have k:decide (i < -(2^63:Int))=false:=X9 A0;have l:decide (i ≥ 2^63)=false:=X9 A0;rw[k,l,Bool.or_false]) (by rw[f];simpa using m) ⟨.str ⟨#[c]⟩,H,I.tok _,⟨_,rfl⟩,q⟩) w
theorem VC(c:F_)(n j:Nat)(u:S_):Obj.mapSeq (·.setIfInBounds j u) {cls:=.type "list",data:=.seq c.toArray n}={cls:=.type "list",data:=.seq (c.set j u).toArray n}:=by
 simp[Obj.mapSeq]
theorem Inv.lst{d:A_}{σ:St}{H:Hp}{s:P_}{p:R_}{xs:List V}(I:Inv X d σ H s)(h:H p=some (.lst xs)) :
  ∃(c:F_)(n:Nat),AS xs c/\s.heap.get? p=some {cls:=.type "list",data:=.seq c.toArray n}/\xs.length<=sizeLine:=by
 obtain⟨z,c,n,r,e⟩:=I.hok p _ h;exact⟨c,n,r,e,z⟩
theorem Inv.lstUpd{c:A_}{σ:St}{H:Hp}{s:P_}{p:R_}{xs ys:List V}{d its':F_}{n g:Nat}{f:Obj->Obj}(I:Inv X c σ H s)(h:H p=some (.lst xs))
  (k:s.heap.get? p=some {cls:=.type "list",data:=.seq d.toArray n}) (i:f {cls:=.type "list",data:=.seq d.toArray n}={cls:=.type "list",data:=.seq its'.toArray g}) (r:AS ys its') (l:ys.length<=sizeLine) (t:Nat) :
  Inv X c σ (upd H p (.lst ys)) {s with heap:=s.heap.update p f,toks:=t}:=by
 have e:(s.heap.update p f).get? p=some {cls:=.type "list",data:=.seq its'.toArray g}:=by
  rw[W8 f k (by rw[i]<;>rfl),i]
 refine I.write (x:=p) (e:=p) (by rw[h];trivial) (.inl rfl) (λb u j q=>(W4 _ _ (K3 j)).trans q) ⟨_,e⟩ ?_;exact⟨l,its',g,r,e⟩
def rSetL:V->V->V->Hp->(Hp->Prop)->Prop:=λo i v H Q=>∃p xs k j,o=.ref p/\i=.int k/\H p=some (.lst xs)/\ixN xs.length k=some j/\Q (upd H p (.lst (xs.set j v)))
theorem TD:PSet X rSetL:=by
 intro d s σ H o i v L K u Q I D C E h;obtain⟨p,xs,k,j,rfl,rfl,z,A,q⟩:=h;cases D;obtain⟨t,rfl⟩:=C;obtain⟨c,n,r,l,B⟩:=I.lst z;obtain⟨e,F,x,y⟩:=WS A;have g:=r.length;have G:=Og;have m:Inv X d σ (upd H p (.lst (xs.set j v))) {s with heap:=s.heap.update p (Obj.mapSeq (·.setIfInBounds j u))} :=
  I.lstUpd z l (VC c n j u) (r.set E j) (by rw[List.length_set];exact B) s.toks
 by_cases w:0<=k
 .have f:k.toNat=j:=by
   rw[seqIndex_of w y]at e;exact K4 e
  exact W.ki_setAt l w A0 (by rw[F0,<-g];exact y) (by rw[f];exact⟨_,m,q⟩)
 .have f:(k+(c.toArray.size:Int)).toNat=j:=by
   rw[seqIndex_neg A0 x]at e;rw[F0,<-g];exact K4 e
  exact W.ki_setBack l A0 (by rw[F0,<-g];exact x) A0 (by rw[f];exact⟨_,m,q⟩)
theorem Sa(lo c:Option Int)(n:Nat):(sliceBounds lo c none n).1=((HT.sIx n 0 lo:Nat):Int)/\(sliceBounds lo c none n).2.1=((HT.sIx n n c:Nat):Int)/\(sliceBounds lo c none n).2.2=1:=by
 refine⟨?_,?_,rfl⟩
 .cases lo with
  |none=>simp[sliceBounds,HT.sIx]
  |some i =>
   simp only[sliceBounds,HT.sIx,Option.getD_none,show(1:Int) > 0 by decide,A4g];by_cases h:i<0
   .simp only[h,A4g]<;>lia
   .simp only[h,A3f]<;>lia
 .cases c with
  |none=>simp[sliceBounds,HT.sIx]
  |some i =>
   simp only[sliceBounds,HT.sIx,Option.getD_none,show(1:Int) > 0 by decide,A4g];by_cases h:i<0
   .simp only[h,A4g]<;>lia
   .simp only[h,A3f]<;>lia
theorem QD(c:F_)(lo d:Option Int):slicePick c.toArray lo d none=((c.drop (HT.sIx c.length 0 lo)).take (HT.sIx c.length c.length d-HT.sIx c.length 0 lo)).toArray:=by
 obtain⟨e,f,g⟩:=Sa lo d c.toArray.size;unfold slicePick;rw[e,f,g];simp only[sliceRange_one,pick_run,F0]<;>rfl
def rSlL(K:O_):V->Option Int->Option Int->Hp->VK->Prop:=λx lo hi H Q=>∃a xs,x=.ref a/\SqL K H a xs/\∀p,H p=none->Q (.ref p) (upd H p (.lst (VQ xs lo hi)))
theorem Wv:SlR X (rSlL X.K):=by
 intro f s σ H x v t u lo d p Q I m g pl l h;obtain⟨a,xs,rfl,i,q⟩:=h;cases m;obtain⟨k,r,e,j⟩:=I.list i;have c:=r.length;refine⟨"list",_,slot_list_getitem.lookup,e.isList.typeIs,?_⟩;refine wpAny_getItem_list_slice e.isList g pl l .none A6 ?_ (by rw[F0]<;>lia);rw[QD,<-c];refine⟨.ref s.heap.objs.size,_,I.laid (t':=s.toks) (o:=.lst (VQ xs lo d)) (λb n q=>B9 _ q) (B8 _) ?_,rfl,q _ (I.hok.fresh (B8 _))⟩;exact⟨D7 (UB xs lo d) j,_,0,(r.drop (HT.sIx xs.length 0 lo)).take (HT.sIx xs.length xs.length d-HT.sIx xs.length 0 lo),D8 _ rfl⟩
def Nm:V->Bool
|.non=>true
|.bl _=>true
|.int _=>true
|.str _=>true
|_=>false
def eqV:V->V->Bool
|.non,.non=>true
|.bl a,.bl b=>a==b
|.bl a,.int b=>(if a then 1 else 0)==b
|.int a,.bl b=>a==(if b then 1 else 0)
|.int a,.int b=>a==b
|.str a,.str b=>a==b
|_,_=>false
theorem eqAt_V{A:Around}{s:P_}{y x:V}{u v:S_}(d:Bf y u)(c:Bf x v)(e:Nm y=true)(fx:Nm x=true):SeqAt.EqAt A s u v (eqV y x):=by
 cases y with
 |non =>
  cases d;cases x with
  |non=>cases c;exact SeqAt.EqAt.same _
  |bl b=>cases c;exact SeqAt.EqAt.none_bool b
  |int b=>obtain⟨t,rfl⟩:=c;exact SeqAt.EqAt.none_int b t
  |str b=>obtain⟨t,rfl⟩:=c;exact SeqAt.EqAt.none_str b t
  |_=>exact absurd (show false=true from fx) D5
 |bl a =>
  cases d;cases x with
  |non=>cases c;exact SeqAt.EqAt.bool_none a
  |bl b=>cases c;exact SeqAt.EqAt.bool_bool a b
  |int b=>obtain⟨t,rfl⟩:=c;exact SeqAt.EqAt.bool_int a b t
  |str b=>obtain⟨t,rfl⟩:=c;exact SeqAt.EqAt.bool_str a b t
  |_=>exact absurd (show false=true from fx) D5
 |int a =>
  obtain⟨t',rfl⟩:=d;cases x with
  |non=>cases c;exact SeqAt.EqAt.int_none a t'
  |bl b=>cases c;exact SeqAt.EqAt.int_bool a t' b
  |int b=>obtain⟨t,rfl⟩:=c;exact SeqAt.EqAt.int_int a t' b t
  |str b=>obtain⟨t,rfl⟩:=c;exact SeqAt.EqAt.int_str a t' b t
  |_=>exact absurd (show false=true from fx) D5
 |str a =>
  obtain⟨t',rfl⟩:=d;cases x with
  |non=>cases c;exact SeqAt.EqAt.str_none a t'
  |bl b=>cases c;exact SeqAt.EqAt.str_bool a t' b
  |int b=>obtain⟨t,rfl⟩:=c;exact SeqAt.EqAt.str_int a t' b t
  |str b=>obtain⟨t,rfl⟩:=c;exact SeqAt.EqAt.str_str a t' b t
  |_=>exact absurd (show false=true from fx) D5
 |_=>exact absurd (show false=true from e) D5
def eqU(x:V)(u:S_):Bool:=match u with
|.none=>eqV .non x
|.bool b=>eqV (.bl b) x
|.int i _=>eqV (.int i) x
|.str z _=>eqV (.str z) x
|_=>false
theorem eqU_of{x y:V}{u:S_}(r:Bf y u)(f:Nm y=true):eqU x u=eqV y x:=by
 cases y with
 |non=>cases r;rfl
 |bl b=>cases r;rfl
 |int i=>obtain⟨t,rfl⟩:=r;rfl
 |str z=>obtain⟨t,rfl⟩:=r;rfl
 |_=>exact absurd (show false=true from f) D5
theorem Te{x:V}:∀{xs:List V}{us:F_},AS xs us->xs.all Nm=true->us.any (eqU x)=xs.any λy=>eqV y x
|_,_,.nil,_=>rfl
|y::xs,u::us,.cons r t,f=>by
 rw[Z0,P4]at f;rw[S7,S7,eqU_of r f.1,Te t f.2]
theorem Ql{A:Around}{s:P_}{x:V}{v:S_}(d:Bf x v)(fx:Nm x=true):∀{xs:List V}{us:F_},AS xs us->xs.all Nm=true->∀u∈us,SeqAt.EqAt A s u v (eqU x u)
|_,_,.nil,_=>λu c=>by cases c
|y::xs,u::us,.cons r t,f=>λe c=>by
 rw[Z0,P4]at f;rcases B7.mp c with rfl|c
 .rw[eqU_of r f.1];exact eqAt_V r d f.1 fx
 .exact Ql d fx t f.2 e c
def inV(x:V)(xs:List V):Bool:=xs.any λy=>eqV y x
def rIn(K:O_)(neg:Bool):R2:=λx y H Q=>∃p xs,y=.ref p/\(SqL K H p xs\/SqT K H p xs)/\Nm x=true/\xs.all Nm=true/\Q (.bl (if neg then !inV x xs else inV x xs)) H
theorem NV:OpR X (compareOp .In) (rIn X.K false):=by
 intro f s σ H x y v u Q I g j h;obtain⟨p,xs,rfl,d,fx,fs,q⟩:=h;cases j;rcases d with d|d
 .obtain⟨c,r,pl,i⟩:=I.list d;refine SeqAt.in_listAt (eqU x) pl.isList (λw e=>Ql g fx r fs w (by simpa using e)) ⟨.bl _,H,I,rfl,?_⟩;rw[show c.toArray.any (eqU x)=c.any (eqU x) by simp,Te r fs];exact q
 .obtain⟨c,r,pl,i⟩:=I.tuple d;refine SeqAt.in_tupleAt (eqU x) pl (λw e=>Ql g fx r fs w (by simpa using e)) ⟨.bl _,H,I,rfl,?_⟩;rw[show c.toArray.any (eqU x)=c.any (eqU x) by simp,Te r fs];exact q
theorem Cr:GY X (.builtin "len") (λxs H Q=>∃p ys,xs=[.ref p]/\(SqL X.K H p ys\/SqT X.K H p ys)/\Q (.int ys.length) H):=by
 intro g s σ H xs us Q I r h;obtain⟨p,ys,rfl,d,q⟩:=h;obtain⟨u,rfl,j⟩:=Tk r;cases j;have k:=Og;rcases d with d|d
 .obtain⟨e,f,pl,i⟩:=I.list d;have c:=f.length;exact Calls.call_len_list pl.isList (by simp only[F0]<;>lia) ⟨.int ys.length,H,I.tok _,⟨s.toks+1,by rw[F0,c]⟩,q⟩
 .obtain⟨e,f,pl,i⟩:=I.tuple d;have c:=f.length;exact len_tuple pl (by simp only[F0]<;>lia) ⟨.int ys.length,H,I.tok _,⟨s.toks+1,by rw[F0,c]⟩,q⟩
theorem FS:GY X (.builtin "len") (λxs H Q=>∃z,xs=[.str z]/\z.length<=sizeLine/\Q (.int z.length) H):=by
 intro c s σ H xs us Q I r h;obtain⟨z,rfl,e,q⟩:=h;obtain⟨u,rfl,t,rfl⟩:=Tk r;have d:=Og;exact len_str A0 ⟨.int z.length,H,I.tok _,⟨_,rfl⟩,q⟩
theorem SZ:GY X (.type "list") (λxs H Q=>∃p ys,xs=[.ref p]/\(SqL X.K H p ys\/SqT X.K H p ys)/\∀l,H l=none->Q (.ref l) (upd H l (.lst ys))):=by
 intro k s σ H xs us Q I r h;obtain⟨p,ys,rfl,i,q⟩:=h;obtain⟨u,rfl,x⟩:=Tk r;cases x;have fin:∀(c:F_),AS ys c->ys.length<=sizeLine->∀(h':T_)(d:Nat),(∀b o',s.heap.get? b=some o'->h'.get? b=some o') ->
   h'.get? s.heap.objs.size=some {cls:=.type "list",dict:=none,data:=.seq c.toArray d,slots:=#[]}->EP X k σ Q (.ref s.heap.objs.size) {s with heap:=h'}:=λc f j h' d kp e =>
  ⟨.ref s.heap.objs.size,_,I.laid (t':=s.toks) kp (B8 _) (show BQ X.prog X.w _ h' _ (.lst ys)from⟨j,c,d,f,e⟩),rfl,q _ (I.hok.fresh (B8 _))⟩
 rcases i with i|i
 .obtain⟨c,f,pl,j⟩:=I.list i;have g:=f.length;obtain⟨o,v,m,n,t⟩:=pl.isList;exact call_list_seq p (.inl rfl) v m t (λh' d kp e=>fin c f j h' d kp e) (by simp only[F0]<;>lia)
 .obtain⟨c,f,pl,j⟩:=I.tuple i;have g:=f.length;obtain⟨o,v,m,n,t⟩:=pl;exact call_list_seq p (.inr rfl) v m t (λh' d kp e=>fin c f j h' d kp e) (by simp only[F0]<;>lia)
theorem BE:GY X (.type "tuple") (λxs H Q=>∃p ys,xs=[.ref p]/\((SqL X.K H p ys/\∀l,H l=none->Q (.ref l) (upd H l (.tup ys)))\/(SqT X.K H p ys/\Q (.ref p) H))):=by
 intro c s σ H xs us Q I r h;obtain⟨p,ys,rfl,h⟩:=h;obtain⟨u,rfl,n⟩:=Tk r;cases n;rcases h with ⟨f,q⟩|⟨f,q⟩
 .obtain⟨d,g,pl,k⟩:=I.list f;have j:=g.length;refine call_tuple_list pl.isList (λh' kp=>?_) (by simp only[F0]<;>lia);have i:Inv X c σ H {s with heap:=h'}:=I.kept (t':=s.toks) kp
  have m:Inv X c σ (upd H h'.objs.size (.tup ys)) {s with heap:=h'.push {cls:=.type "tuple",data:=.seq d.toArray} } :=
   i.laid (t':=s.toks) (λb o e=>B9 _ e) (B8 _) (show BQ X.prog X.w _ _ _ (.tup ys)from⟨k,d,g,IsTup.new _ _⟩)
  exact⟨.ref h'.objs.size,_,m,rfl,q _ (i.hok.fresh (B8 _))⟩
 .obtain⟨d,g,pl,k⟩:=I.tuple f;exact call_tuple_same pl ⟨.ref p,H,I,rfl,q⟩
def tyV(K:O_)(T:String)(x:V)(H:Hp):Prop:=match x with
|.str _=>T="str"
|.int _=>T="int"
|.ref p=>(T="list" /\ ∃xs,SqL K H p xs)\/(T="tuple" /\ ∃o,K.lookup p=some o/\o.cls=.type "tuple" /\ o.dict=none) \/
  (T="dict" /\ ((∃kvs,H p=some (.dK kvs))\/∃kvs,H p=some (.dT kvs)))\/(T="set" /\ ∃S n,H p=some (.set S n))
|_=>False
theorem tyV_is{g:A_}{σ:St}{H:Hp}{s:P_}{T:String}{x:V}{v:S_}(I:Inv X g σ H s)(r:Bf x v)(h:tyV X.K T x H) :
  s.TypeIs v T/\∀a,v=.ref a->∃l,s.heap.get? a=some l/\l.dict=none:=by
 cases x with
 |str z =>
  obtain⟨t,rfl⟩:=r;cases(show T="str" from h);exact⟨A6d s z t,λ_ e=>nomatch e⟩
 |int i =>
  obtain⟨t,rfl⟩:=r;cases(show T="int" from h);exact⟨typeIs_int s i t,λ_ e=>nomatch e⟩
 |ref p =>
  cases r;rcases h with ⟨rfl,xs,q⟩|⟨rfl,o,d,m,k⟩|⟨rfl,d⟩|⟨rfl,S,n,d⟩
  .obtain⟨u,_,pl,_⟩:=I.list q;refine⟨pl.isList.typeIs,λa e=>?_⟩;cases e;obtain⟨o,n,e,c,k,_⟩:=pl;exact⟨o,e,k⟩
  .refine⟨⟨o,I.kIn p o d,m⟩,λa e=>?_⟩;cases e;exact⟨o,I.kIn _ o d,k⟩
  .have z:∃o,s.heap.get? p=some o/\o.ExactDict:=by
    rcases d with ⟨kvs,d⟩|⟨kvs,d⟩
    .obtain⟨_,_,_,_,o,_,_,e,f,_⟩:=I.hok p _ d;exact⟨o,e,f⟩
    .obtain⟨_,_,_,_,o,_,_,e,f,_⟩:=I.hok p _ d;exact⟨o,e,f⟩
   obtain⟨o,e,f⟩:=z;refine⟨⟨o,e,f.1⟩,λa j=>?_⟩;cases j;exact⟨o,e,f.2.1⟩
  .obtain⟨o,_,_,_,e,f,_⟩:=I.hok p _ d;refine⟨⟨o,e,f.1⟩,λa j=>?_⟩;cases j;exact⟨o,e,f.2.1⟩
 |_=>exact False.elim h
def tBM(K:O_)(T:String)(r:V->List V->Hp->VK->Prop)(to:TE)(t:TA):TE:=fun σ H Q=>to σ H λx H1=>tyV K T x H1/\t σ H1 λxs H2=>r x xs H2 Q
variable{o e:Expr}{es:List Expr}{to:TE}{t:TA}{name:Str}{apos cpos:Pos}{T id:String}{r:V->List V->Hp->VK->Prop}
theorem CQ(D:PlainAttrs T)(j:Slot T name id)(k:typeOf (.builtin id)=pure (.type "method_descriptor"))(A:MtR X id r)(B:PE X o to)(z:PA X (e::es) t)
  (f:attributeBase o name X.env (eval o X.env)=eval o X.env:=by rfl)
  (i:((backTo cpos (starEach (e::es) X.env)).all (λx=>!x.1) && (backToKw cpos (keywordEach [] X.env)).all (λx=>x.1.isSome)
   && decide ((e::es).length+([]:List Keyword).length+(if([]:List Keyword).isEmpty then 0 else 1)<30))=true:=by rfl)
  (g:(apos.endLine==cpos.line)=true:=by rfl) (C:starEach (e::es) X.env=(false,eval e X.env)::starEach es X.env:=by rfl) (d:(backTo cpos (starEach es X.env)).any (·.1)=false:=by rfl) :
  PE X (.Call (.Attribute o name apos) (e::es) [] cpos) (tBM X.K T r to t):=by
 intro c s σ H Q I h;refine wpAny_Call_method_late f i g rfl (thn (B c s σ H _ I h) λv L ⟨x,p,l,n,N,E⟩=>?_);obtain⟨w,y⟩:=tyV_is l n N;refine⟨T,id,D,j,k,w,y,?_⟩;have m:=z cpos c L σ p _ l E;rw[C]at m⊢;refine Calls.callWith_builtin (by show(false || (backTo cpos (starEach es X.env)).any (·.1))=false;rw[d]<;>rfl) (Calls.evalArgs_plain ?_);exact thn m λus M ⟨vs,q,u,G,F⟩=>A c M σ q x vs v us Q u n G F
end
def MtM(X:Cx)(id:String)(r:V->List V->Hp->VK->Prop):Prop :=
 ∀(pins:A_)(s:P_)(σ:St)(H:Hp)(x:V)(xs:List V)(v:S_)(us:F_)(Q:VK),Inv X pins σ H s->Bf x v->AS xs us->r x xs H Q ->
  wpAny (model X.prog X.w) X.A (call (.builtin id) (v::us)) (EP X pins σ Q) X.xe s
theorem AS.one:∀{x:V}{us:F_},AS [x] us->∃u,us=[u]/\Bf x u
|_,_,.cons r .nil=>⟨_,rfl,r⟩
theorem AS.two:∀{x y:V}{us:F_},AS [x,y] us->∃u v,us=[u,v]/\Bf x u/\Bf y v:=by
 intro x y us h;cases h with
 |cons r t=>cases t with
  |cons q t=>cases t;exact⟨_,_,rfl,r,q⟩
theorem AS.rep{xs:List V}{us:F_}(h:AS xs us):∀k:Nat,AS (List.replicate k xs).flatten (List.replicate k us).flatten
|0=>.nil
|k+1=>by
 rw[S0,S0,Q4,Q4];exact AS.append h (AS.rep h k)
theorem Rq(b:F_):∀(k:Nat)(a:F_),
 List.foldl (λd f=>d++f) a.toArray (List.replicate k b.toArray)=(a++(List.replicate k b).flatten).toArray
|0,a=>by simp
|k+1,a=>by
 have e:a.toArray++b.toArray=(a++b).toArray:=by simp
 have c:(a++b)++(List.replicate k b).flatten=a++(List.replicate (k+1) b).flatten:=by
  rw[S0,Q4,Q5]
 rw[<-c,<-Rq b k (a++b),<-e,S0,T5]
section
variable{X:Cx}{pins:A_}{σ:St}{H:Hp}{s:P_}{l b:R_}{xs ys zs:List V}
theorem Inv.lset{a its':F_}{n:Nat}{f:Array Value->Array Value}{t':Nat}(I:Inv X pins σ H s)(c:H l=some (.lst xs))
  (e:s.heap.get? l=some {cls:=.type "list",data:=.seq a.toArray n}) (g:f a.toArray=its'.toArray) (i:AS ys its') (j:ys.length<=sizeLine) :
  Inv X pins σ (upd H l (.lst ys)) {s with heap:=s.heap.update l (Obj.mapSeq f),toks:=t'}:=by
 have q:=PySem.IsL.update e f;rw[g]at q;refine I.write (x:=l) (e:=l) (by rw[c];exact trivial) (.inl rfl) (λk u d h=>(W4 s.heap (Obj.mapSeq f) (K3 d)).trans h) ⟨_,q⟩ ?_;exact⟨j,its',_,i,q⟩
theorem Inv.lnew{a:F_}{t':Nat}(I:Inv X pins σ H s)(c:AS ys a)(d:ys.length<=sizeLine) :
  Inv X pins σ (upd H s.heap.objs.size (.lst ys)) {s with heap:=s.heap.push {cls:=.type "list",data:=.seq a.toArray},toks:=t'} :=
 I.laid (λ_ _ q=>B9 _ q) (B8 _) ⟨d,a,0,c,D8 _ rfl⟩
theorem Inv.fresh(I:Inv X pins σ H s):H s.heap.objs.size=none:=I.hok.fresh (B8 _)
theorem Inv.lstM(I:Inv X pins σ H s)(c:H l=some (.lst xs)):xs.length<=sizeLine/\∃(a:F_)(n:Nat),AS xs a/\xs.length=a.length/\s.heap.get? l=some {cls:=.type "list",data:=.seq a.toArray n}:=by
 obtain⟨z,a,n,r,e⟩:=I.hok l _ c;exact⟨z,a,n,r,r.length,e⟩
theorem notLongL{n:Nat}(h:n<=sizeLine):Builtin.List.listTooLong n=false:=by
 unfold Builtin.List.listTooLong;exact X9 A0
end
section
variable{X:Cx}
def WE:V->List V->Hp->VK->Prop:=λx vs H Q=>∃l xs y,x=.ref l/\vs=[y]/\H l=some (.lst xs)/\xs.length<sizeLine/\Q .non (upd H l (.lst (xs++[y])))
theorem Cc:MtM X "list.append" WE:=by
 intro c s σ H x vs v us Q I g f h;obtain⟨l,xs,y,rfl,rfl,b,j,q⟩:=h;cases g;obtain⟨u,rfl,d⟩:=f.one;obtain⟨z,a,n,r,i,e⟩:=I.lstM b;refine A4c F.slot_list_append ⟨_,e,rfl⟩ F.entry_list_append (F.args_list_append_2 _ _) (PySem.list_append l a.toArray n u (by rw[F0];lia)) ⟨e,?_⟩;refine⟨.non,_,I.lset (its':=a++[u]) b e A6 (r.append (.cons d .nil)) ?_,rfl,q⟩;rw[C1,P6];lia
def rCat:R2:=λx y H Q=>∃l b xs zs,x=.ref l/\y=.ref b/\H l=some (.lst xs)/\H b=some (.lst zs)/\xs.length+zs.length<=sizeLine/\∀p,H p=none->Q (.ref p) (upd H p (.lst (xs++zs)))
theorem Vl:OpR X (binaryOp .Add) rCat:=by
 intro d s σ H x y v u Q I o p h;obtain⟨l,b,xs,C,rfl,rfl,j,i,w,q⟩:=h;cases o;cases p;obtain⟨z,c,n,r,t,e⟩:=I.lstM j;obtain⟨B,a,A,m,k,f⟩:=I.lstM i;refine PySem.P.add_list e f ?_ (by rw[F0,F0];lia);have g:c.toArray++a.toArray=(c++a).toArray:=by simp
 rw[g];exact⟨.ref _,_,I.lnew (t':=s.toks) (r.append m) (by rw[C1];lia),rfl,q _ I.fresh⟩
def rRep:R2:=λx y H Q=>∃l k xs,x=.ref l/\y=.int k/\H l=some (.lst xs)/\-(2^63)<=k/\k<2^63/\xs.length*k.toNat<=sizeLine /\
 ∀p,H p=none->Q (.ref p) (upd H p (.lst (List.replicate k.toNat xs).flatten))
theorem len_rep{α:Type}(xs:List α)(k:Nat):(List.replicate k xs).flatten.length=k*xs.length:=by
 induction k with
 |zero=>simp
 |succ k a=>rw[S0,Q4,C1,a,Z3,U3]
theorem op_rep:OpR X (binaryOp .Mult) rRep:=by
 intro w s σ H x y v u Q I G K h;obtain⟨l,k,xs,rfl,rfl,D,B,C,p,q⟩:=h;cases G;obtain⟨t,rfl⟩:=K;obtain⟨z,b,n,r,E,e⟩:=I.lstM D;have g:b.toArray.size*k.toNat<=sizeLine:=by rw[F0,<-E];exact p
 have d:¬b.toArray.size*k.toNat > (2^63-1)/8:=by
  have:(sizeLine:Nat)<=(2^63-1)/8:=by decide
  lia
 have f:¬(!Builtin.List.listFitsIndex k)=true:=by
  rw[fitsIndex_both B C];exact D5
 have c:¬Builtin.List.listTooLong (b.toArray.size*k.toNat)=true:=by
  rw[notLongL g];exact D5
 have i:List.foldl (λj o=>j++o) #[] (List.replicate (if b.toArray.isEmpty=true then 0 else k.toNat) b.toArray)=(List.replicate k.toNat b).flatten.toArray:=by
  have A:∀m:Nat,List.foldl (λj o=>j++o) #[] (List.replicate m b.toArray)=(List.replicate m b).flatten.toArray:=λm=>by
   have:=Rq b m [];rw[List.nil_append]at this;exact this
  rw[A];cases b with
  |nil=>simp
  |cons a M=>rw[X7 A6]
 refine wpAny_binaryOp_repeat_ref (T:="list") (U:="int") A4 ⟨_,e,rfl⟩ (λL=>typeIs_int L k t) noFill_list_mul F.fills_int_mul F.slot_int_rmul repeat_list F.slot_int_index.lookup
  (A4c F.slot_int_rmul (typeIs_int s k t) F.entry_int_rmul (F.args_int_rmul_2 _ _) (int___rmul___int_list k t l b.toArray n)
   ⟨e,rfl,⟨_,e,rfl⟩,A4c F.slot_list_mul ⟨_,e,rfl⟩ F.entry_list_mul (F.args_list_mul_2 _ _) (AutoListH.list___mul___list_int_3 l b.toArray n k t f d c) ⟨e,?_⟩⟩)
 rw[i];exact⟨.ref _,_,I.lnew (t':=s.toks) (r.rep k.toNat) (by rw[len_rep,R3];exact p),rfl,q _ I.fresh⟩
end
end L2
namespace Att
open PySem PySem.W PySem.Calls PyProof.Rows
theorem OK{P:Params}{h:T_}:∀(ns:I_)(vs:F_),WellAll P h vs (ns.map WData.int)->IntsAre vs ns:=by
 intro ns;induction ns with
 |nil =>
  intro vs w;rw[Z7]at w;cases w;exact .nil
 |cons n ns c =>
  intro vs w;rw[F4]at w;cases w with
  |cons a b =>
   cases a;exact .cons _ _ (c _ b)
theorem YA{l:OpenLaw}{n:Nat}(t:l.most=some n){P:Params}{h:T_}{args:List WData}{c:F_}
  (b:l.row.toRowW.claim.pre args=true) (k:WellAll P h c args) :
  ∃a vs ns,c=[Value.ref a]/\args=[WData.list (ns.map WData.int)]/\h.get? a=some {cls:=.type "list",data:=.seq vs.toArray}/\IntsAre vs ns/\ns.length<=n:=by
 have j:WShape.hasAll [] args [.list .int]=true:=(pre_splitW b).1;have m:l.pre.holds [] {args:=args}=true:=(pre_splitW b).2;obtain⟨d,r,rfl,o,p⟩:=hasAllW_cons j;obtain rfl:=hasAllW_nil p;obtain⟨xs,rfl,s⟩:=hasW_list o;obtain⟨ns,rfl⟩:=items_int s;have f:ns.length<=n:=by
  unfold OpenLaw.pre at m;have g:(WTm.not (.lt (.lit (.int (n:Int))) (.len (.arg 0)))).holds [] {args:=[.list (ns.map .int)]}=true:=by
   have g:=(holds_andW m).1;rw[t]at g;exact g
  have i:=condW_of g (w_not (w_lt w_lit (w_len_list (w_arg rfl))));rw[B4]at i;refine P1 λq=>?_;have v:(n:Int)<((ns.length:Nat):Int):=by lia
  first
   | (rw[X8 v]at i;exact absurd i A4)
   | (simp at i;lia)
 cases k with
 |cons w x =>
  cases x;cases w with
  |list u e=>exact⟨_,_,ns,rfl,rfl,u,OK ns _ e,f⟩
theorem YD(l:OpenLaw)(args:List WData):l.row.toRowW.claim.post args (.bool true) args=true :=
 postW_of (r:=l.row.toRowW) (X:=(true==true))
  (show WShape.has [] (.bool true) .bool=true by first|rfl|decide|simp[WShape.has,WShape.arms,WShape.armsAll])
  (show(WTm.eq .res (.lit (.bool true))).value [] {args:=args,res:=some (.bool true),after:=args}=some (.bool (true==true))from w_eq_bool (w_res rfl) w_lit) rfl
theorem UJ{l:OpenLaw}{n:Nat}{q:N_}{c:K_}{A:(Str->Option Value)->Heap->Prop}{B:World->Heap->Prop}{d:DefRec}
  (Q:l.most=some n) (u:d.params.defaults=[])
  (call:∀(w:Q_)(e b:P_)(mg y:C_)(i:R_)(o:Obj)(z p g:S_)(a:R_)(vs:F_)(ns:I_),
   Ground q c [] A w e mg y b.heap->B w b.heap ->
   b.heap.get? i=some o->o.data=.func (docDef d.name d.params d.body d.scope z p g)->b.heap.CodeRec p d.name->mg d.name=some (.ref i) ->
   b.heap.get? a=some {cls:=.type "list",data:=.seq vs.toArray}->IntsAre vs ns->ns.length<=n->b.gens=#[] ->
   codeAny (model l.prog w) callerA (.call (.ref i) ⟨[.ref a],[]⟩) (λr s=>r=.ok (.ret (.bool true))/\OldK b.heap s.heap/\s.os=b.os/\AllBare s.gens) b) :
  WalkO q c A B l.row.toRowW d [] (λf vs=>PySem.call f vs):=by
 intro w e b mg y G Y i o z p g H kV R M t D v N C F as m E T x O;obtain rfl:H=.none:=Dflts.none D u;obtain rfl:kV=.none:=Dflts.noKw D;obtain⟨a,vs,ns,rfl,rfl,k,h,j⟩:=YA Q m x;refine enter_call (A6c (call w e b mg y i o z p g a vs ns G Y R (fd_plain M) t v k h j N) λr s S=>?_);obtain⟨rfl,I,K,L⟩:=S;exact⟨.inl ⟨.bool true,.bool true,[],rfl,λ_=>rfl,.bool true,YD l _,λ_=>⟨List.Pairwise.nil,λ_ P=>(nomatch P)⟩⟩,I,K,L⟩
end Att
namespace L2
open PySem PySem.Spec PyProof.Rows
theorem QZ:∀{vs:F_}{ns:I_},IntsAre vs ns->AS (ns.map V.int) vs
|_,_,.nil=>.nil
|_,_,.cons n t h=>.cons ⟨t,rfl⟩ (QZ h)
def Only(H:Hp):Prop:=∀b,H b=none\/∃o xs,H b=some (.frz o (.lst xs))
theorem law_call{P:N_}{w:Q_}{K:O_}{mg X:C_}{CX:CXT}{k:Nat}{Q a:R_}{fd:E_}{x:Str}{sp:Sp}{c:P_}{vs:F_}{ns:I_}
  (Z:K.In c.heap) (D:c.heap.Ns mainGlobals mg) (g:c.heap.Ns builtinsNs X) (S:∀x:Str,x≠"__name__" -> X x=bootBuiltins x) (C:c.heap.NoLimit) (hg:c.gens=#[])
  (N:c.heap.get? a=some {cls:=.type "list",data:=.seq vs.toArray}) (hi:IntsAre vs ns) (hl:ns.length<=sizeLine) (hr:Dc k callerA)
  (F:∀i:Heap,K.In i->i.Ns mainGlobals mg->AL P w K mg i CX k Q fd [x] sp) (t:∀(s:P_)(u:S_),BindsTo s fd ⟨[u],[]⟩ [(x,u)])
  (U:∀H:Hp,Only H->SqL K H a (ns.map V.int)->sp [.ref a] H (λv _=>v=.bl true) λ_ _ _=>False)
  (R:∀H e j,CX [] H c (λ_ _ _=>False) e j->False) :
  codeAny (model P w) callerA (.call (.ref Q) ⟨[.ref a],[]⟩) (λr j=>r=.ok (.ret (.bool true))/\OldK c.heap j.heap/\j.os=c.os/\AllBare j.gens) c:=by
 have rv:=QZ hi;have I:=hi.length;have p:∀H:Hp,Only H->SqL K H a (ns.map V.int)->HOk P w H c.heap->(∀b,H b≠none->b=a)->(H a≠none->K.lookup a=none) ->
   codeAny (model P w) callerA (.call (.ref Q) ⟨[.ref a],[]⟩) (λr j=>r=.ok (.ret (.bool true))/\OldK c.heap j.heap/\j.os=c.os/\AllBare j.gens) c:=by
  intro H hO hS E hA hK;have f:∀{b:R_}{o:Obj},c.heap.get? b=some o->H b=none->(SR c.heap H).get? b=some o:=λe n=>hidT_get e n;have Y:∀{b:R_}{o:Obj}{A:Array DictEntry}{y:Nat},c.heap.get? b=some o->o.data=.dict A y->H b=none:=λ{b o A y} e d=>by
   cases q:H b with
   |none=>rfl
   |some u =>
    have O:b=a:=hA b (by rw[q];simp);subst O;rw[N]at e;cases e;have d':Data.seq vs.toArray _=Data.dict A y:=d;cases d'
  have l:∀{b:R_}{m:C_},c.heap.Ns b m->(SR c.heap H).Ns b m:=λ{b m} ⟨o,A,y,e,d,r⟩=>⟨o,A,y,f e (Y e d),d,r⟩
  have B:K.In (SR c.heap H):=λb o e=>f (Z b o e) (by
   cases q:H b with
   |none=>rfl
   |some u =>
    have O:b=a:=hA b (by rw[q];simp);subst O;rw[hK (by rw[q];simp)]at e;cases e)
  have hM:Mod K mg (SR c.heap H):=⟨B,l D,⟨X,l g,S⟩,let ⟨mc,h1,h2⟩:=C;⟨mc,l h1,h2⟩⟩
  have e0:OM P w K mg (SR c.heap H) callerA [] c H:=⟨rfl,hM,λb o e=>of_hidT e,Nat.le_of_eq (Zg _ _),trivial,λb g=>absurd (show b∈([]:H_)from g) A6,E,.of_eq hg⟩
  refine A6c ((F _ B (l D)).run callerA [] c H ⟨[.ref a],[]⟩ [.ref a] [.ref a] _ _ hr e0 (t c (.ref a)) (.cons rfl .nil) (U H hO hS)) λr j h=>?_;cases r with
  |error e=>exact(R H e j h).elim
  |ok fl =>
   cases fl with
   |next=>exact False.elim h
   |brk=>exact False.elim h
   |cont=>exact False.elim h
   |ret u =>
    obtain⟨v,H',L,bare,un,G,r',q⟩:=h;have q':v=.bl true:=q;subst q';obtain rfl:u=Value.bool true:=r';refine⟨rfl,OldK.of_keep λb o e=>?_,L,bare⟩;cases q:H b with
    |none=>exact un.keep b o e q (by intro z;exact absurd (show b∈([]:H_)from z) A6) A6
    |some u =>
     rcases hO b with z|⟨ob,xs,z⟩
     .rw[q]at z;cases z
     .have z2:=un.frzs b ob _ z;obtain⟨e1,_⟩:=E b _ z;obtain⟨e2,_⟩:=G b _ z2;rw[e]at e1;cases e1;exact e2
 cases T:K.lookup a with
 |some o =>
  have e:=Z a o T;rw[N]at e;cases e;refine p (λ_=>none) (λ_=>.inl rfl) (.inr ⟨_,vs.toArray,_,T,rfl,rfl,rfl,by rw[F0,I];exact hl,by simpa using rv⟩) (λb u z=>by have M:(none:Option HO)=some u:=z;cases M) (λb z=>absurd rfl z) λz=>absurd rfl z
 |none =>
  refine p (λb=>if b=a then some (.frz {cls:=.type "list",data:=.seq vs.toArray} (.lst (ns.map V.int)))else none) (λb=>?_) (.inl (.inr ⟨{cls:=.type "list",data:=.seq vs.toArray},K0 rfl⟩)) (λb u z=>?_) (λb z=>?_) λ_=>T
  .by_cases g:b=a
   .exact .inr ⟨_,_,K0 g⟩
   .exact .inl (X7 g)
  .by_cases g:b=a
   .have M:=(K0 g).symm.trans z;cases M;subst g;exact⟨N,by rw[B4];exact hl,vs,_,rv,N⟩
   .have M:=(X7 g).symm.trans z;cases M
  .by_cases g:b=a
   .exact g
   .exact absurd (X7 g) z
theorem Wb{l:W.OpenLaw}{n k:Nat}{q:N_}{m:K_}{N:(Str->Option Value)->Heap->Prop}{L:World->Heap->Prop}{d:DefRec}{K:Params->W.Frag}{CX:World->CXT}{sp:World->Sp}{x:Str}
  (hn:l.most=some n) (C:n<=sizeLine) (A:d.params.defaults=[]) (hr:Dc k callerA)
  (S:∀(w:Q_)(h:T_),L w h->(K w.params).In h)
  (F:∀(w:Q_)(mg:C_)(t:R_)(h:T_),(K w.params).In h->h.Ns mainGlobals mg->mg d.name=some (.ref t) ->
   ∃y:FuncData,(∀(s:P_)(u:S_),BindsTo s y ⟨[u],[]⟩ [(x,u)]) /\
    ∀c:Heap,(K w.params).In c->c.Ns mainGlobals mg->AL l.prog w (K w.params) mg c (CX w) k t y [x] (sp w))
  (D:∀(w:Q_)(H:Hp)(a:R_)(ns:I_),ns.length<=n->Only H->SqL (K w.params) H a (ns.map V.int)->sp w [.ref a] H (λv _=>v=.bl true) λ_ _ _=>False)
  (z:∀(w:Q_)(H:Hp)(s:P_)(e:S_)(E:P_),CX w [] H s (λ_ _ _=>False) e E->False) :
  W.WalkO q m N L l.row.toRowW d [] (λf vs=>PySem.call f vs):=by
 refine Att.UJ hn A λw M r mg mb t o pm cd O a vs ns G Y ho hd X B p j i Z=>?_;have I:=S w _ Y;obtain⟨y,U,P⟩:=F w mg t _ I G.T.g B;exact law_call I G.T.g G.T.b G.T.builtins G.T.nolimit Z p j (D7 i C) hr P U (λH Q R=>D w H a ns i Q R) λH e E=>z w H r e E
end L2
namespace L2
open PySem PySem.Spec PyProof.Rows
def Be(s:Stmt)(j:Nat):Stmt:=match s with
|.ClassDef _ _ _ body _ _ _ _ _ _ _=>body.getD j (.Pass ⟨0,0,0,0⟩)
|_=>.Pass ⟨0,0,0,0⟩
def Nr(s:Stmt):Arguments:=match s with
|.FunctionDef _ a _ _ _ _ _ _ _ _=>a
|_=>{posonlyargs:=[],args:=[],vararg:=none,kwonlyargs:=[],kw_defaults:=[],kwarg:=none,defaults:=[]}
def LM(s:Stmt):List Stmt:=match s with
|.FunctionDef _ _ b _ _ _ _ _ _ _=>b
|_=>[]
def Ak(s:Stmt):Scope:=match s with
|.FunctionDef _ _ _ _ _ _ sc _ _ _=>sc
|_=>{kind:=.function,names:=[],isGenerator:=false,isCoroutine:=false}
abbrev CX0:CXT:=λ_ _ _ _ _ _=>False
abbrev E0:XK:=λ_ _ _=>False
theorem Ao{X:Cx}:GJ CX0 X E0:=λ_ _ _ _ _ _ _ h=>h.elim
structure Fun(K:O_)(x qual:Str)(st:Stmt)(f:R_)(fd:E_):Prop where
ex:∃(oc:S_)(od:Option Addr)(kV doc pm:S_)(an:Option Addr)(cdv ct:S_)(osl:Array (Option Value)),
 fd=W.fnOf x qual (Nr st) (LM st) (Ak st) .none kV doc pm an cdv ct/\K.lookup f=some ⟨oc,od,.func fd,osl⟩/\W.codeIn K cdv qual=true
kp:keepIn K (.ref f)=true
section
variable{P:N_}{w:Q_}{K:O_}{mg:C_}{base:T_}
theorem Fun.ok{x b:Str}{e:Stmt}{f:R_}{j:E_}{N ps:K_}{k:Nat}{sp:Sp}(F:Fun K x b e f j)(S:Au N ps (Ak e))(len:∀vs H Q E,sp vs H Q E->vs.length=ps.length)
  (d:∀(c:S_)(A:Around)(a:List Env)(s:P_)(H:Hp)(vs:List V)(Q:VK)(E:XK),Dc k (A.deeper (envOfC b (Ak e) s.heap.objs.size f c))->sp vs H Q E ->
   ∃t,PSs (Zn CX0 P w K mg base N b (Ak e) f c A a s H E).nox (LM e) t/\t {nx:=λ_ l=>Q .non l,rt:=Q} (Os N vs) H):AL P w K mg base CX0 (k+1) f j ps sp:=by
 obtain⟨v,y,kV,m,z,r,c,u,p,rfl,o,g⟩:=F.ex;refine fn_of o g S len λA a s H vs Q E n i=>?_;obtain⟨t,h,q⟩:=d c A a s H vs Q E n i;exact⟨t,h.nox,q⟩
theorem Fun.binds{x a:Str}{d:Stmt}{f:R_}{j:E_}{ps:K_}(F:Fun K x a d f j)
  (h:∀(kV c i:S_)(e:Option Addr)(b g:S_)(us:F_),us.length=ps.length->bindArgs (W.fnOf x a (Nr d) (LM d) (Ak d) .none kV c i e b g) ⟨us,[]⟩=pure (ps.zip us)):CF K j ps []:=by
 obtain⟨n,o,kV,c,i,e,b,g,l,rfl,m,k⟩:=F.ex;exact .all (h kV c i e b g)
theorem VN {x a:Str} {e:Stmt} {f:R_} {m:S_} {n h:Option Addr} {g:Array (Option Value)} {kV d j b i:S_} (l:K.lookup f=some ⟨m,n,.func (W.fnOf x a (Nr e) (LM e) (Ak e) .none kV d j h b i),g⟩)
 (c:W.codeIn K b a=true) (k:keepIn K (.ref f)=true):Fun K x a e f (W.fnOf x a (Nr e) (LM e) (Ak e) .none kV d j h b i):=⟨⟨m,n,kV,d,j,h,b,i,g,rfl,l,c⟩,k⟩
end
theorem EB{A:Around}{k:Nat}(a:Dc k A):A.units+1<cLine:=F2 (Nat.add_le_add_left (by decide:1<=64) _) a.units
section
variable{X:Cx}
theorem pv(i:Nat){x:Str}{pos:Pos}(b:X.N[i]?=some x:=by rfl)(d:Vis X.env.scope x:=by first|exact Or.inl rfl|exact Or.inr O_9|exact Or.inr (Or.inr rfl))(c:(x==("__debug__" : Str))=false:=by decide)
 (a:(x==("__classdict__" : Str))=false:=by decide):PE X (.Name x pos) (GZ i):=pe_var b d c a
end
theorem Bd{A B:Prop}(h:B):if false=true then A else B:=by
 rw[X7 D5];exact h
theorem BP{A B:Prop}(h:A):if true=true then A else B:=by
 rw[K0 rfl];exact h
theorem JI{c A B:Prop}[Decidable c](a:c->A)(b:¬c->B):if c then A else B:=by
 by_cases h:c
 .rw[K0 h];exact a h
 .rw[X7 h];exact b h
theorem Qr{c A B:Prop}[Decidable c](a:c)(h:B):if(!decide c)=true then A else B:=by
 rw[X8 a];exact Bd h
def Az(H H':Hp):Prop:=∀b o,H b=some o->H' b=some o
theorem Az.refl(H:Hp):Az H H:=λ_ _ h=>h
theorem Az.trans{H d e:Hp}(a:Az H d)(b:Az d e):Az H e:=λc o h=>b c o (a c o h)
theorem Az.seq{K:O_}{H b:Hp}{a:R_}{xs:List V}(e:Az H b)(h:SqL K H a xs):SqL K b a xs:=by
 rcases h with (h|⟨o,h⟩)|h
 .exact .inl (.inl (e _ _ h))
 .exact .inl (.inr ⟨o,e _ _ h⟩)
 .exact .inr h
def Yp(a D:R_)(h:T_):Prop:=∃o,h.get? a=some o/\o.cls=.ref D/\∃vs,o.data=.fields vs/\vs[2]?=some .none
theorem Yp.not{a D:R_}{h:T_}(x:Yp a D h):∃o,h.get? a=some o/\o.cls=.ref D/\notCls o=true:=by
 obtain⟨o,e,c,vs,d,_⟩:=x;exact⟨o,e,c,by unfold notCls;rw[d]⟩
def isExc(a D:R_):HO:=.ext (Yp a D)
theorem Inv.track{X:Cx}{d:A_}{σ:St}{H:Hp}{s:P_}{a:R_}{o:HO}(I:Inv X d σ H s)(h:H a=none)(f:X.s₀.heap.get? a=none)(k:X.base.get? a=none)(g:X.env.locals≠a)(i:∀x c,X.env.cells.lookup x=some c->c≠a)
  (j:∀p,p∈X.pn++d->p.1≠a) (l:∀b,b∈X.fs->b≠a) (new:BQ X.prog X.w (upd H a o) s.heap a o):Inv X d σ (upd H a o) s:=by
 have ne:∀b u,H b=some u->b≠a:=λb u q z=>by rw[z,h]at q;cases q
 refine⟨I.ok,I.os,I.bare,⟨I.base.keep,I.base.slot,λb u q n x=>?_,I.base.there,λb xs q=>?_,λb u v q=>?_,λb ps q=>?_⟩,I.loc,I.cell,?_,λx c q=>?_,λp z=>?_,λb u q=>?_,I.len⟩
 .rw[Ax (λz=>by rw[z,f]at q;cases q)];exact I.base.free b u q n x
 .have z:=I.base.tups b xs q;rw[Ax (ne _ _ z)];exact z
 .have z:=I.base.frzs b u v q;rw[Ax (ne _ _ z)];exact z
 .obtain⟨m,z⟩:=I.base.tbls b ps q;exact⟨m,by rw[Ax (ne _ _ z)];exact z⟩
 .rw[Ax g];exact I.free
 .rw[Ax (i x c q)];exact I.freeC x c q
 .obtain⟨e,n,r⟩:=I.pin p z;exact⟨e,by rw[Ax (j p z)];exact n,r⟩
 .by_cases z:b=a
  .subst z;rw[Af]at q;cases q;exact new
  .rw[Ax z]at q;exact(I.hok b u q).stay (λc v _ r=>r) (λc r=>by rw[Ax (ne _ _ r)];exact r) λc xs r=>by rw[Ax (ne _ _ r)];exact r
section
variable{X:Cx}{tg:Expr}
def Its(x:Str):It:=⟨λi _=>i<x.cps.size,λi H v H'=>H'=H/\∃c,x.cps[i]?=some c/\v=.str ⟨#[c]⟩,λi _=>i=x.cps.size⟩
theorem Tn{P:N_}{w:Q_}{K:O_}(it:R_)(x:Str)(t:Tok)(T:String)(O:["enumerate","zip","dict_itemiterator","dict_reverseitemiterator","odict_iterator","itertools.zip_longest","itertools.pairwise"].contains T=false)
  (W:∀A:Around,A.handled=none->Walks P w A it [it] [it] x.cps.size (SignAt x) (λi h=>h.IsStrIter it T x t i))
  (g:∀(A:Around)(i:Nat)(s:P_)(Q:B_)(E:B_),s.heap.IsStrIter it T x t i->Q (.ref it) s->wpAny (model P w) A (pyIter (.ref it)) Q E s):QV P w K tg (Its x) [it] it (λi h=>h.IsStrIter it T x t i) where
 mem:=by simp
 obj:=λi h j b f=>by
  have e:b=it:=by simpa using f
  subst e;obtain⟨o,e,c,d⟩:=j;exact⟨o,e,λv z=>by rw[d]at z;cases z⟩
 keep:=λi h h' ⟨o,e,r⟩ k=>⟨o,k it A6 o e,r⟩
 item:=by
  intro X C L B D i a s σ H E I m j G;subst C L B;obtain⟨n,p,N,q,f4,y⟩:=m it A6;refine(W X.A (I.ok.hd D)).item i s _ _ G j λv h' tk R l kk=>?_;obtain⟨c,u,F,rfl⟩:=R;have M:Inv X a σ H {s with heap:=h',toks:=tk}:=I.turned (λb o f e=>kk b o (by simpa using f) e) n p q f4 y;obtain⟨o,e,S,U⟩:=id l;exact⟨_,rfl,Ux (s:={s with heap:=h',toks:=tk}) e S U O ⟨.str ⟨#[c]⟩,H,M,⟨u,rfl⟩,⟨rfl,c,F,rfl⟩,l,λb f=>(m b f).1⟩⟩
 done:=by
  intro X C L B D i a s σ H E I m j G;subst C L B;obtain⟨n,p,N,q,f4,y⟩:=m it A6;have z:i=x.cps.size:=G;subst z;exact(W X.A (I.ok.hd D)).done s _ _ j λh' tk kk=>⟨rfl,I.turned (λb o f e=>kk b o (by simpa using f) e) n p q f4 y⟩
 self:=g
def iStr(tl:TE):TI:=fun σ H R=>tl σ H λv H1=>∃x,v=.str x/\R (Its x) H1
theorem pi_str{l:Expr}{tl:TE}(n:PE X l tl):PI X tg l (iStr tl):=by
 intro a s σ H R I h;refine thn (n a s σ H _ I h) λv c k=>?_;obtain⟨y,f,d,r,p⟩:=k;obtain⟨x,rfl,q⟩:=p;obtain⟨t,rfl⟩:=r;have fp:∀b,b∈[c.heap.objs.size]->DJ X a f b:=λb m=>by
  have e:b=c.heap.objs.size:=by simpa using m
  subst e;exact d.fpOk (B8 _) (d.hok.fresh (B8 _))
 cases j:x.cps.all (· < 128)with
 |true =>
  refine wpAny_pyIter_ascii j ?_;refine⟨c.heap.objs.size,[c.heap.objs.size],_,_,f,rfl,d.kept (t':=c.toks) λb o e=>B9 _ e,Tn _ x t "str_ascii_iterator" A4 (λA g=>Walks.strAscii g _ x t) (λ_ _ _ _ _ i h=>wpAny_pyIter_striter_ascii i h),⟨_,D8 _ rfl,rfl,rfl⟩,fp,q⟩
 |false =>
  refine wpAny_pyIter_wide j ?_;refine⟨c.heap.objs.size,[c.heap.objs.size],_,_,f,rfl,d.kept (t':=c.toks) λb o e=>B9 _ e,Tn _ x t "str_iterator" A4 (λA g=>Walks.strWide g _ x t) (λ_ _ _ _ _ i h=>wpAny_pyIter_striter_wide i h),⟨_,D8 _ rfl,rfl,rfl⟩,fp,q⟩
theorem for_str{x:Str}{g:TG}{k:TS}{D:NB}{σ:St}{H:Hp}(b:Nat->St->Hp->Prop)(l:b 0 σ H)
  (q:∀i c σ H,x.cps[i]?=some c->b i σ H->g (.str ⟨#[c]⟩) σ H fun d h=>k {D with nx:=b (i+1),ct:=b (i+1),bk:=D.nx} d h) (o:∀σ H,b x.cps.size σ H->D.nx σ H) :
  ∃W:Nat->Nat->St->Hp->Prop,(∃m,W 0 m σ H)/\∀i m σ H,W i m σ H ->
   ((Its x).stop i H/\D.nx σ H)\/((Its x).go i H/\∃N:St->Hp->Prop,(∀σ' a,N σ' a->∃j,j<m/\W (i+1) j σ' a)/\∀v a,(Its x).yld i H v a->g v σ a fun d h=>k {D with nx:=N,ct:=N,bk:=D.nx} d h):=by
 refine⟨λi m σ H=>m=x.cps.size-i/\i<=x.cps.size/\b i σ H,⟨x.cps.size,by simp,L8 _,l⟩,?_⟩;rintro i m σ H ⟨rfl,s,p⟩;by_cases f:i<x.cps.size
 .refine .inr ⟨f,b (i+1),fun σ' a r=>⟨x.cps.size-(i+1),by lia,rfl,f,r⟩,λv a y=>?_⟩;obtain⟨e,c,n,rfl⟩:=y;subst e;exact q i c σ _ n p
 .have e:i=x.cps.size:=by lia
  subst e;exact .inl ⟨rfl,o σ H p⟩
theorem Iz:GY X (.type "int") (λxs H Q=>∃x n,xs=[.str x]/\PySem.intText? x=some n/\x.length<=640/\Q (.int n) H):=by
 intro a s σ H xs us Q I r h;obtain⟨x,n,rfl,c,b,q⟩:=h;cases r with
 |cons d e =>
  cases e;obtain⟨t,rfl⟩:=d;exact W.KIN.call_text c b ⟨.int n,H,I.tok _,⟨_,rfl⟩,q⟩
theorem UI(F:X.calm=true):GY X (.builtin "all") (λxs H Q=>∃(p:R_)(bs:List Bool),xs=[.ref p]/\SqL X.K H p (bs.map V.bl)/\Q (.bl (bs.all id)) H):=by
 intro d s σ H xs us Q I r h;obtain⟨p,bs,rfl,G,q⟩:=h;cases r with
 |cons L M =>
  cases M;cases(show _=Value.ref p from L);obtain⟨a,m,pl,R⟩:=I.list G;have l:p≠s.heap.objs.size:=J6 (by obtain⟨o,n,e,_⟩:=pl;exact D9 e);refine call_all_walk (A4f pl.isList ?_);have f:∀(i:Nat) v,a[i]?=some v->∃b,bs[i]?=some b/\v=.bool b:=λi v e=>by
   cases g:bs[i]? with
   |none =>
    have:a[i]?=none:=m.none_of (by rw[B6,g];rfl);rw[e]at this;cases this
   |some b =>
    obtain⟨u,t,N⟩:=m.get (i:=i) (x:=V.bl b) (by rw[B6,g];rfl);rw[e]at t;cases t;exact⟨b,rfl,N⟩
  refine⟨s.heap.objs.size,_,_,_,_,_,λi=>bs.getD i true,rfl,Walks.list (A:=X.A.in1) (I.ok.hd F) s.heap.objs.size p l a.toArray,⟨⟨_,D8 _ rfl,rfl,rfl⟩,?_⟩,?_,?_⟩
  .exact pl.isList.at λo e=>B9 _ e
  .intro i v O y P D j;obtain⟨b,g,rfl⟩:=f i v (by simpa using D);have B:bs.getD i true=b:=by rw[C6,g];rfl
   have j:y (bs.getD i true) O:=j;rw[B]at j;exact A1c j
  .intro h' tk kk;have w:Inv X d σ H {s with heap:=h',toks:=tk}:=I.kept λb o e=>kk b o (by intro z;exact J6 (D9 e) (by simpa using z)) (B9 _ e);have len:a.toArray.size=bs.length:=by rw[F0,<-m.length,B4]
   have C:(List.range a.toArray.size).all (λi=>bs.getD i true)=bs.all id:=by
    rw[len,Q0,P3,P3];constructor
    .intro z b E;obtain⟨i,k,e⟩:=Y7.mp E;have:=z i (L7.mpr k);rw[C6,C0 k,e]at this;exact this
    .intro z i k;have c:=L7.mp k;rw[C6,C0 c];exact z _ (Q8 c)
   rw[C];exact⟨.bl _,H,w,rfl,q⟩
end
structure ExcF(K:O_)(D:R_):Prop where
hd:hasDictIn K D=true
ga:findIn K (.ref D) "__getattribute__" = some (some (.builtin "BaseException.__getattribute__"))
gt:findIn K (.ref D) "__getattr__" = some none
cl:findIn K (.ref D) "__class__" = some (some (.builtin "object.__class__"))
sp:specialIn K (.builtin "object.__class__") "__get__" = some (some (.builtin "getset_descriptor.__get__"))
tk:takesIn K (.builtin "object.__class__")=some true
mo:mroIn K D (.type "object")=some true
mb:mroIn K D (.type "BaseException")=some true
section
variable{K:O_}{prog:N_}{w:Q_}{A:Around}{E:B_}{s:P_}{a D:R_}{o:Obj}
open PySem.W Builtin Builtin.ObjectAttr Builtin.Getset_descriptor
theorem exc_find{M:Model}{h:T_}(X:K.In h)(f:ExcF K D):Looks M h (find (.ref a) (.ref D) "__class__") (.bind (.builtin "getset_descriptor.__get__") (.builtin "object.__class__")) :=
 (looks_findIn X f.cl).andThen ((looks_specialIn X f.sp).andThen ((show Looks M h (dataDescriptor? (some (.builtin "object.__class__")) (some (.builtin "getset_descriptor.__get__"))) (some (.builtin "getset_descriptor.__get__",.builtin "object.__class__"))from(looks_takesIn X f.tk).andThen .now).andThen (Looks.tag .now)))
theorem exc_get{R:Result->Shared->Prop}{i:S_}(X:K.In s.heap)(f:ExcF K D)(c:s.heap.get? a=some o)(b:o.cls=.ref D)(e:R (.ok (.ret (.ref D))) s) :
  codeAny (model prog w) A (.call (.builtin "getset_descriptor.__get__") ⟨[.builtin "object.__class__",.ref a,i],[]⟩) R s:=by
 obtain⟨h,g,d,t,l⟩:=s;have j:Looks (model prog w) h (typeOf (.ref a)) (.ref D):=b▸(Looks.ld c).andThen .now;have k:=looks_mroIn (M:=model prog w) X f.mo;refine codeAny_call_builtin KF.slot_gs.plain KF.entry_gs (KF.slot_gs.check _ _ _ _ _ _ _ _ KF.type_class (KF.args_gs _ _ _) ?_);unfold Builtin.«getset_descriptor.__get__» descrGet;rw[dga_obj];refine X6 (K1 ?_);unfold descrGetter descrCheckInstance descrNameAndClass isInstance;simp only[KF.owner_class]
 repeat lk
 refine⟨Code.quiet_builtin _ A1,codeAny_builtin KF.entry_class ?_⟩;unfold Builtin.«object.__class__» shownTypeOf
 repeat lk
 exact e
theorem Zj{Q:Option Value->Shared->Prop}(X:K.In s.heap)(f:ExcF K D)(j:s.heap.get? a=some o)(i:o.cls=.ref D)(q:Q (some (.ref D)) {s with toks:=s.toks+1}) :
  wpAny (model prog w) A (getAttr? (.ref a) "__class__") Q E s:=by
 obtain⟨h,g,d,t,u⟩:=s;have e:Looks (model prog w) h (typeOf (.ref a)) (.ref D):=i▸(Looks.ld j).andThen .now;have k:=looks_findIn (M:=model prog w) X f.ga;have l:=looks_findIn (M:=model prog w) X f.gt;have m:=exc_find (M:=model prog w) (a:=a) X f;have n:Looks (model prog w) h (isInstance (.ref a) (.type "BaseException")) true:=e.andThen (looks_mroIn X f.mb);unfold getAttr? getAttrBy? getAttrBy;refine X6 (wpAny_mkText (X6 (A3h (A3d (X6 (e.at (X6 (k.at ?_))))))));dsimp only;have r:(Value.builtin "BaseException.__getattribute__" == Value.builtin "object.__getattribute__")=false:=by decide +kernel
 rw[X7 (by rw[r,Bool.and_false];exact D5)];unfold getAttrByItsOwn hookBefore;rw[K0 (by rfl)];refine X6 (l.at ?_);refine X6 (A3h (A3d ?_));unfold callGetattribute;rw[X7 A4];unfold boundAndCalled;refine X6 (wpAny_of_eq (PySem.F.excAttr_ValueError.ga.bind (.ref a)) ?_);dsimp only;refine wpAny_call (codeAny_call_builtin PySem.F.excAttr_ValueError.ga.plain PySem.F.entry_bexc_ga ?_);have p:builtinKind "BaseException.__getattribute__" = some .slot:=by decide +kernel
 have c:splitId "BaseException.__getattribute__" = some ("BaseException","__getattribute__"):=by decide +kernel
 have b:=PySem.F.args_bexc_ga (.ref a) (.str "__class__" t);simp only[checkBuiltinCall,p,c];refine X6 (n.at ?_);rw[X7 A4];refine wpAny_of_eq (a:=()) b ?_;unfold Builtin.«object.__getattribute__»;dsimp only at m
 repeat ((fail_if_success (with_reducible show wpAny _ _ (call _ _) _ _ _));lk)
 refine wpAny_call (exc_get (s:=⟨h,g,d,t+1,u⟩) X f j i ?_);dsimp only
 repeat lk
 exact q
end
inductive TyX(K:O_)(H:Hp):V->Value->Prop where
|of {x:V} {t:S_} (h:Oo K H x t):TyX K H x t
|exc {a D:R_} (e:H a=some (isExc a D)) (f:ExcF K D):TyX K H (.ref a) (.ref D)
theorem kitx_exc{K:O_}{a D:R_}(f:ExcF K D):W.KitX K (.ref a) (.ref D) (λh=>∃o,h.get? a=some o/\o.cls=.ref D/\notCls o=true) where
 ty:=λM h X ⟨o,e,c,_⟩=>c▸(W.Looks.ld e).andThen .now
 it:=λM h X _=>by
  obtain⟨m,b,_⟩:=any_some f.hd;unfold clsIn at b;split at b
  .rename_i l d' d j g;intro s u t w k q;unfold isType loadHead;exact X6 (wpAny_loadPart (k _ _ (X _ _ g)) (K1 q))
  .cases b
 ne:=λh r v p n x X i=>by
  obtain⟨m,b,_⟩:=any_some f.hd;refine X5.mpr λq=>?_;have e:D=r:=Value.ref.inj (beq_iff_eq.mp q);subst e;unfold clsIn at b;split at b
  .rename_i l d' d j g;have z:=(X _ _ g).symm.trans i;cases z
  .cases b
 ca:=λX ⟨o,e,c,_⟩ k=>Zj X f e c k
def clsV:V->Option Value
|.ty n=>some (.type n)
|.ref C=>some (.ref C)
|_=>none
theorem IK{X:Cx}:GY X (.builtin "isinstance") (λxs H Q=>∃x c d t b,xs=[x,c]/\clsV c=some d/\TyX X.K H x t/\kitOne X.K t d=some b/\Q (.bl b) H):=by
 intro j s σ H xs us Q I r h;obtain⟨x,c,d,t,b,rfl,g,ty,i,q⟩:=h;cases r with
 |@cons _ u _ _ l y =>
  cases y with
  |@cons _ v _ _ k o =>
   cases o;have m:v=d:=by
    cases c with
    |ty n=>cases g;exact k
    |ref C=>cases g;exact k
    |_=>cases g
   subst m;cases ty with
   |of ty=>exact Zd I l ty i λtk=>⟨.bl b,H,I.tok tk,rfl,q⟩
   |@exc a D e f =>
    cases(show u=Value.ref a from l);obtain⟨p,_,_⟩:=(show BQ X.prog X.w H s.heap a (isExc a D)from I.hok a _ e)
    exact A0h (kitx_exc f) I.kIn (Yp.not p) i (λz=>nomatch z) λtk=>⟨.bl b,H,I.tok tk,rfl,q⟩
section
variable{X:Cx}{c:Expr}{a b:List Stmt}{tc:TT}{t u:TS}{pos:Pos}
def tIfJ(J:St->Hp->Prop)(tc:TT)(t u:TS):TS:=λD σ H=>(tc σ H λb H1=>if b=true then t {D with nx:=J} σ H1 else u {D with nx:=J} σ H1)/\∀σ' H',J σ' H'->D.nx σ' H'
theorem SP.nx{d:A_}{D:NB}{J:St->Hp->Prop}{f:Flow}{s:P_}(k:∀σ' e,J σ' e->D.nx σ' e)(h:SP X d {D with nx:=J} f s):SP X d D f s:=by
 cases f with
 |next=>obtain⟨σ',e,I,q⟩:=h;exact⟨σ',e,I,k _ _ q⟩
 |brk=>exact h
 |cont=>exact h
 |ret v=>exact h
theorem ps_ifJ(J:St->Hp->Prop)(o:PT X c tc)(m:PSs X a t)(n:PSs X b u):PS X (.If c a b pos) (tIfJ J tc t u):=by
 intro e s σ H D I h;obtain⟨h,k⟩:=h;refine wpAny_If (thn (o e s σ H _ I h) λd l ⟨g,i,j⟩=>?_);cases d with
 |true=>exact thn (m e l σ g _ i j) λf p q=>q.nx k
 |false=>exact thn (n e l σ g _ i j) λf p q=>q.nx k
end
def Iy(env:Env)(a:List (Str×Addr))(x:Str×NameKind):List (Str×Addr):=if(x.2==NameKind.free)=true then(x.1,(env.cells.lookup x.1).getD 0)::a else a
def VT(env:Env)(l:List (Str×NameKind)):List (Str×Addr):=l.foldl (Iy env) []
theorem VO{α β:Type}{l:List α}{f:α->β->Sem (ForInStep β)}{g:β->α->β}(h:∀x∈l,∀b,f x b=pure (.yield (g b x))):∀b,forIn l b f=pure (l.foldl g b):=by
 induction l with
 |nil=>intro b;rfl
 |cons x l c =>
  intro b;rw[List.forIn_cons,h x C4,pure_bind];exact c (λy a=>h y (C5 _ a)) _
theorem Qx{d:Scope}{b:Env}(h:∀y∈d.names,y.2=.free->∃c,b.cells.lookup y.1=some c):closureFor d b=pure (VT b d.names):=by
 simp only[closureFor];rw[VO (g:=Iy b) (λx l c=>by
  obtain⟨n,k⟩:=x;by_cases i:k=.free
  .subst i;obtain⟨a,f⟩:=h _ l rfl;have e:cellOf b n=pure a:=by unfold cellOf;rw[show b.cells.lookup n=some a from f]
   simp only[Iy,A4e,A4g,e,show b.cells.lookup n=some a from f,Option.getD_some];rfl
  .have j:(k==NameKind.free)=false:=by simpa using i
   simp only[Iy,j,O2,A3f])]
 rfl
theorem RA(b:Env){y:Str}{c:R_}:∀(l:List (Str×NameKind))(a:List (Str×Addr)),(l.foldl (Iy b) a).lookup y=some c->a.lookup y=some c\/((y,NameKind.free)∈l/\c=(b.cells.lookup y).getD 0)
|[],a,h=>.inl h
| (n,k)::r,a,h=>by
 rw[T5]at h;rcases RA b r _ h with z|⟨z,e⟩
 .unfold Iy at z;split at z
  .rename_i g;have d:k=.free:=by simpa using g
   rw[P2]at z;split at z
   .rename_i i;have f:y=n:=by simpa using i
    subst f d;exact .inr ⟨C4,(K4 z).symm⟩
   .exact .inl z
  .exact .inl z
 .exact .inr ⟨C5 _ z,e⟩
theorem UF(b:Env){y:Str}:∀(l:List (Str×NameKind))(a:List (Str×Addr)),(∃c,a.lookup y=some c)->∃c,(l.foldl (Iy b) a).lookup y=some c
|[],_,h=>h
| (n,k)::r,a,h=>by
 rw[T5];refine UF b r _ ?_;unfold Iy;split
 .rw[P2];split
  .exact⟨_,rfl⟩
  .exact h
 .exact h
theorem VS(b:Env){y:Str}:∀(l:List (Str×NameKind))(a:List (Str×Addr)),(y,NameKind.free)∈l->∃c,(l.foldl (Iy b) a).lookup y=some c
|[],_,h=>by simp at h
| (n,k)::r,a,h=>by
 rw[T5];rcases B7.mp h with e|h
 .cases e;refine UF b r _ ⟨(b.cells.lookup y).getD 0,?_⟩;unfold Iy;simp only[A4e,A4g,P2]
 .exact VS b r _ h
theorem PJ{a:Env}{y:Str}:∀{b:List (Str×NameKind)},(∀z∈b,z.2≠.cell) ->
 ((b.map λ(n,k)=>if(k==NameKind.free && a.scope.kind==.function && a.kindOf n==some .cell)then(n,NameKind.cell)else(n,k)).lookup y=some .cell \/
  (b.map λ(n,k)=>if(k==NameKind.free && a.scope.kind==.function && a.kindOf n==some .cell)then(n,NameKind.cell)else(n,k)).lookup y=some .free)->(y,NameKind.free)∈b
|[],_,h=>by simp at h
| (n,k)::r,hc,h=>by
 have e:=@PJ a y r (λz g=>hc z (C5 _ g));have h':List.lookup y ((if(k==NameKind.free && a.scope.kind==.function && a.kindOf n==some .cell)=true then(n,NameKind.cell)else(n,k))::(r.map λ(n,k)=>if(k==NameKind.free && a.scope.kind==.function && a.kindOf n==some .cell)then(n,NameKind.cell)else(n,k)))=some .cell \/
  List.lookup y ((if(k==NameKind.free && a.scope.kind==.function && a.kindOf n==some .cell)=true then(n,NameKind.cell)else(n,k))::(r.map λ(n,k)=>if(k==NameKind.free && a.scope.kind==.function && a.kindOf n==some .cell)then(n,NameKind.cell)else(n,k)))=some .free:=h
 clear h;by_cases d:(k==NameKind.free && a.scope.kind==.function && a.kindOf n==some .cell)=true
 .rw[K0 d]at h';have f:k=.free:=by
   simp only[P4,A6h]at d;exact d.1.1
  simp only[P2]at h';cases c:y==n with
  |true =>
   have:y=n:=by simpa using c
   subst this f;exact C4
  |false =>
   rw[c]at h';exact C5 _ (e h')
 .rw[X7 d]at h';simp only[P2]at h';cases c:y==n with
  |true =>
   rw[c]at h';have:y=n:=by simpa using c
   subst this;rcases h' with z|z
   .exact absurd (K4 z) (hc (y,k) C4)
   .cases K4 z;exact C4
  |false =>
   rw[c]at h';exact C5 _ (e h')
theorem MT{a:Env}{y:Str}:∀{b:List (Str×NameKind)},b.lookup y=some .free ->
 ((b.map λ(n,k)=>if(k==NameKind.free && a.scope.kind==.function && a.kindOf n==some .cell)then(n,NameKind.cell)else(n,k)).lookup y=some .cell \/
  (b.map λ(n,k)=>if(k==NameKind.free && a.scope.kind==.function && a.kindOf n==some .cell)then(n,NameKind.cell)else(n,k)).lookup y=some .free)
|[],h=>by simp at h
| (n,k)::r,h=>by
 have e:=@MT a y r;show List.lookup y ((if(k==NameKind.free && a.scope.kind==.function && a.kindOf n==some .cell)=true then(n,NameKind.cell)else(n,k))::(r.map λ(n,k)=>if(k==NameKind.free && a.scope.kind==.function && a.kindOf n==some .cell)then(n,NameKind.cell)else(n,k)))=some .cell \/
  List.lookup y ((if(k==NameKind.free && a.scope.kind==.function && a.kindOf n==some .cell)=true then(n,NameKind.cell)else(n,k))::(r.map λ(n,k)=>if(k==NameKind.free && a.scope.kind==.function && a.kindOf n==some .cell)then(n,NameKind.cell)else(n,k)))=some .free
 rw[P2]at h;by_cases d:(k==NameKind.free && a.scope.kind==.function && a.kindOf n==some .cell)=true
 .rw[K0 d];simp only[P2];cases c:y==n with
  |true=>exact .inl rfl
  |false=>rw[c]at h;exact e h
 .rw[X7 d];simp only[P2];cases c:y==n with
  |true=>rw[c]at h;exact .inr h
  |false=>rw[c]at h;exact e h
section
variable{prog:N_}{w:Q_}{A:Around}{R:Result->Shared->Prop}{s:P_}
abbrev Wf(ifs:List Expr)(env:Env):Sem Bool:=forIn ifs true λc r=>if r=true then do let ok <-isTrue c env (eval c env);pure (ForInStep.yield ok)else pure (ForInStep.yield r)
theorem UC{q a i:Expr}{t:List Expr}{c:Scope}{pos:Pos}{it p:S_}{b:Env}(I:Nat->Shared->Prop)
  (turn:∀n s,I n s->wpAny (model prog w) A (pyNext it) (λr d=>match r with
   |none=>R (.ok .next) d
   |some v=>wpAny (model prog w) A (letOwnedTupleGo a it v) (λ_ j=>wpAny (model prog w) A (assign a b v) (λ_ k =>
     wpAny (model prog w) A (Wf t b) (λok e =>
      if ok=true then wpAny (model prog w) A (eval q b) (λx l =>
       wpAny (model prog w) A (call (.builtin "list.append") [p,x]) (λ_ o=>∃m,m<n/\I m o) (λ_ _=>False) l) (λ_ _=>False) e
      else ∃m,m<n/\I m e) (λ_ _=>False) k) (λ_ _=>False) j) (λ_ _=>False) d) (λ_ _=>False) s)
  (n:Nat) (h:I n s):codeAny (model prog w) A (.compLoop (.ListComp q [⟨a,i,t,0⟩] c pos) 0 it p b) R s:=by
 refine codeAny_loop rfl I (λn s B=>?_) n h;show wpAny _ A ((compTurn (.ListComp q [⟨a,i,t,0⟩] c pos) 0 it p b).onRaise (λx=>do noteFrame x b;theTreesLotGoes x)) _ _ s;refine wpAny_noted ?_;rw[compTurn_list];refine X6 (A7e (X6 (A1h (turn n s B) (λr d f=>?_) λ_ _ h'=>h'.elim)));cases r with
 |none=>exact K1 f
 |some v =>
  refine X6 (A1h f (λ_ j h₀=>?_) λ_ _ h'=>h'.elim);refine X6 (A1h h₀ (λ_ k u=>X6 (A1h u (λok e g=>?_) λ_ _ h'=>h'.elim)) λ_ _ h'=>h'.elim);cases ok with
  |false=>exact K1 ⟨rfl,g⟩
  |true =>
   exact X6 (X6 (A1h g (λx l y=>X6 (A1h y (λ_ o z=>K1 (K1 ⟨rfl,z⟩)) λ_ _ h'=>h'.elim)) λ_ _ h'=>h'.elim))
end
def OL(cs:J_)(σ:St):St:=cs.map λj=>(σ[j]?).getD none
def cxC(X:Cx)(scope:Scope)(N:K_)(s:P_)(H:Hp)(ex:H_):Cx :=
 {X with N:=N,s₀:=s,H₀:=H,env:=compEnvC scope (VT X.env scope.names) s.heap.objs.size X.env,outer:=X.stack,stack:=X.stack,ex:=ex,fn:=λ_=>false,pn:=[],xe:=λ_ _=>False}
def PTs(X:Cx)(ifs:List Expr)(t:TT):Prop :=
 ∀(pins:A_)(s:P_)(σ:St)(H:Hp)(Q:Bool->Hp->Prop),Inv X pins σ H s->t σ H Q->wpAny (model X.prog X.w) X.A (Wf ifs X.env) (TP X pins σ Q) X.xe s
def tYes:TT:=λ_ H Q=>Q true H
theorem BC{X:Cx}:PTs X [] tYes:=λ_ _ _ H _ I h=>wpAny_tests_nil ⟨H,I,h⟩
theorem pts_one{X:Cx}{c:Expr}{t:TT}(h:PT X c t):PTs X [c] t:=λa s σ H Q I q=>wpAny_tests_one (h a s σ H Q I q)
structure Bo(X:Cx)(scope:Scope)(N:K_)(k:Nat)(cs:J_):Prop where
cell:∀y∈scope.names,y.2≠.cell
kind:scope.kind=.function
names:∀y∈scope.names,y.2=.local->scope.names.lookup y.1=some .local
free:∀y∈scope.names,y.2=.free->X.env.scope.names.lookup y.1=some .cell\/X.env.scope.names.lookup y.1=some .free
len:N.length=k+cs.length
cap:∀j,j<cs.length->∃x,N[k+j]?=some x/\X.N[cs.getD j 0]?=some x/\scope.names.lookup x=some .free
def Ia(k:Nat)(cs:J_)(g:TG)(tc:TT)(te:TE)(J:It)(σ:St)(H1:Hp)(fin:List V->Hp->Prop):Prop :=
 ∃W:Nat->Nat->List V->Hp->Prop,(∃m,W 0 m [] H1)/\∀i m acc H,W i m acc H ->
  (J.stop i H/\fin acc H)\/(J.go i H/\∃Nx:List V->Hp->Prop,(∀acc' H',Nx acc' H'->∃m',m'<m/\W (i+1) m' acc' H')/\∀x H',J.yld i H x H'->g x (List.replicate k none++OL cs σ) H' fun σ2 H2=>(∃ts:St,ts.length=k/\σ2=ts++OL cs σ)/\acc.length<sizeLine /\
   tc σ2 H2 λb H3=>if b=true then te σ2 H3 λv H4=>Nx (acc++[v]) H4 else Nx acc H3)
def tComp(k:Nat)(cs:J_)(wi:TI)(g:TG)(tc:TT)(te:TE):TE:=fun σ H Q=>wi σ H λJ H1=>Ia k cs g tc te J σ H1 λacc H2=>∀p,H2 p=none->Q (.ref p) (upd H2 p (.lst acc))
section
variable{X:Cx}{tg iter elt:Expr}{ifs:List Expr}{scope:Scope}{pos:Pos}{wi:TI}{g:TG}{tc:TT}{te:TE}{N:K_}{k:Nat}{cs:J_}
theorem Inv.block{t:A_}{σ:St}{H:Hp}{s C:P_}{G:H_}(S:Bo X scope N k cs)(I:Inv X t σ H s)
  (f:∀b∈G,DJ X t H b/\∃o,s.heap.get? b=some o) (P:C.os=s.os) (hg:AllBare C.gens) (E:∀b o,s.heap.get? b=some o->C.heap.get? b=some o) (hn:∃m,C.heap.Ns s.heap.objs.size m) :
  Inv (cxC X scope N s H G) [] (List.replicate k none++OL cs σ) H C:=by
 have A:∀{x c},(VT X.env scope.names).lookup x=some c->X.env.cells.lookup x=some c:=λ{x c} h=>by
  rcases RA X.env _ _ h with z|⟨z,e⟩
  .simp at z
  .obtain⟨a,Z⟩:=I.ok.has x (S.free _ z rfl);rw[e,Z];rfl
 have Q:∀b,b∈G->b≠s.heap.objs.size:=λb r z=>by
  obtain⟨_,o,B⟩:=f b r;exact absurd (D9 B) (by rw[z];exact O9 _)
 refine⟨⟨I.ok.mod,S.kind,I.ok.glob,I.ok.blt,B8 _,λx y c K d=>I.ok.inj x y c (A K) (A d),λx hx=>?_,λx c h _=>(nomatch h),I.ok.hd,I.ok.frames,.inl rfl,λb r=>⟨Q b r,λx c h=>?_⟩,I.bs,?_,λb o e r=>?_,λb r hf=>?_,I.stack,I.stkFree⟩,
  P,hg,Un.kept E,?_,λx c h=>?_,I.hok.fresh (B8 _),λx c h=>I.freeC x c (A h),λp hp=>absurd (show p∈([]:A_)from hp) A6,I.hok.kept E,?_⟩
 .exact VS X.env _ _ (PJ S.cell hx)
 .exact(f b r).1.2.2.2.2.1 x c (A h)
 .exact D7 I.ok.bsz I.sz
 .rcases(f b r).1.2.2.2.1 with z|z
  .exact I.ok.noex b o e z
  .exact absurd (F5 (D9 e) (D7 I.ok.bsz z)) (O9 _)
 .rcases B7.mp (I.stkSub b hf)with z|z
  .exact(f b r).1.2.1 z
  .exact(f b r).1.2.2.1 z
 .obtain⟨m,hm⟩:=hn;obtain⟨mo,aa,O⟩:=I.loc;refine⟨m,hm,λi x v K d h3=>?_⟩;have hi:k<=i:=by
   by_cases z:i<k
   .rw[M0 (by simpa using z),W0,K0 z]at d;cases d
   .lia
  obtain⟨j,rfl⟩:∃j,i=k+j:=⟨i-k,by lia⟩
  rw[F8 A6,P7,Nat.add_sub_cancel_left]at d;unfold OL at d;rw[B6]at d;have M:j<cs.length:=by
   by_cases z:j<cs.length
   .exact z
   .rw[O1 A0]at d;cases d
  obtain⟨x',R,T,F⟩:=S.cap j M;rw[show N[k+j]?=some x from K]at R;cases R;rw[C0 M]at d;have n:(σ[cs[j]]?).getD none=some v:=K4 d;rw[C6,C0 M]at T;have Y:σ[cs[j]]?=some (some v):=by
   cases q:σ[cs[j]]? with
   |none=>rw[q]at n;cases n
   |some w=>rw[q]at n;rw[show w=some v from n]
  have W:=S.free (x,.free) (A1f F) rfl;obtain⟨u,ru,l⟩:=O _ x v T Y (.inr W);refine⟨u,ru,?_⟩;rcases l with ⟨z,_⟩|⟨_,c,L,z⟩
  .have z':X.env.scope.names.lookup x=some .local:=z;rcases W with q|q<;>· rw[z']at q;cases q
  .obtain⟨c',U⟩:=VS X.env _ [] (A1f F);have V:=A U;rw[L]at V;cases V;obtain⟨o,B,D⟩:=z;exact .inr ⟨MT F,c,U,o,E _ _ B,D⟩
 .obtain⟨v,o,B,D⟩:=I.cell x c (A h);exact⟨v,o,E _ _ B,D⟩
 .show(List.replicate k none++OL cs σ).length=N.length;rw[C1,P7,S.len];unfold OL;rw[B4]
end
structure TurnQ(C:Cx->Prop)(P:N_)(w:Q_)(K:O_)(tg:Expr)(J:It)(fp:H_)(it:R_)(tn:Nat->Heap->Prop):Prop where
obj:∀i h,tn i h->∀b∈fp,∃o,h.get? b=some o/\∀v,o.data≠.cell v
keep:∀i h h',tn i h->(∀b∈fp,∀o,h.get? b=some o->h'.get? b=some o)->tn i h'
item:∀(X:Cx),C X->X.prog=P->X.w=w->X.K=K->∀(i:Nat)(pins:A_)(s:P_)(σ:St)(H:Hp)(E:B_),Inv X pins σ H s->(∀b∈fp,DJ X pins H b)->tn i s.heap->J.go i H ->
 wpAny (model P w) X.A (pyNext (.ref it)) (λr s1=>∃u,r=some u/\wpAny (model P w) X.A (letOwnedTupleGo tg (.ref it) u) (λ_ s2=>∃x H',Inv X pins σ H' s2/\Bf x u/\J.yld i H x H'/\tn (i+1) s2.heap/\∀b∈fp,H' b=none) E s1) E s
done:∀(X:Cx),C X->X.prog=P->X.w=w->X.K=K->∀(i:Nat)(pins:A_)(s:P_)(σ:St)(H:Hp)(E:B_),Inv X pins σ H s->(∀b∈fp,DJ X pins H b)->tn i s.heap->J.stop i H ->
 wpAny (model P w) X.A (pyNext (.ref it)) (λr s1=>r=none/\Inv X pins σ H s1) E s
self:∀(A:Around)(i:Nat)(s:P_)(Q:B_)(E:B_),tn i s.heap->Q (.ref it) s->wpAny (model P w) A (pyIter (.ref it)) Q E s
theorem QV.q{P:N_}{w:Q_}{K:O_}{a:Expr}{J:It}{fp:H_}{it:R_}{b:Nat->Heap->Prop}(T:QV P w K a J fp it b):TurnQ (λX=>X.calm=true) P w K a J fp it b :=
 ⟨T.obj,T.keep,λX c p w k=>T.item X p w k c,λX c p w k=>T.done X p w k c,T.self⟩
section
variable{X:Cx}{tg iter elt:Expr}{ifs:List Expr}{scope:Scope}{pos:Pos}{wi:TI}{g:TG}{tc:TT}{te:TE}{N:K_}{k:Nat}{cs:J_}{fin:List V->Hp->Prop}
theorem Zo{l:A_}{σ:St}{E:Hp}{sD s1:P_}{it D:R_}{fp:H_}{tn:Nat->Heap->Prop}{J:It}{n0:Nat}{RR:Result->Shared->Prop}{Cq:Cx->Prop}(hc:∀s H ex,Cq (cxC X scope N s H ex))(S:Bo X scope N k cs)
  (hg:∀s H ex,PG (cxC X scope N s H ex) tg g) (ht:∀s H ex,PTs (cxC X scope N s H ex) ifs tc) (he:∀s H ex,PE (cxC X scope N s H ex) elt te)
  (ID:Inv X l σ E sD) (hD:sD.heap.get? D=some {cls:=.type "list",data:=.seq ([]:F_).toArray n0}) (ag:X.s₀.heap.objs.size<=D) (fD:DJ X l E D) (aj:D∉fp)
  (T:TurnQ Cq X.prog X.w X.K tg J fp it tn) (st:tn 0 sD.heap) (f2:∀b∈fp,DJ X l E b) (a:Ia k cs g tc te J σ E fin)
  (au:s1.os=sD.os) (as:AllBare s1.gens) (hk:∀b o,sD.heap.get? b=some o->s1.heap.get? b=some o) (hn:∃m,s1.heap.Ns sD.heap.objs.size m)
  (ar:∀(B:Hp)(d:List V)(Y:P_),fin d B->B D=none->Inv X l σ (upd B D (.lst d)) Y->(∃m,Y.heap.Ns sD.heap.objs.size m)->DJ X l (upd B D (.lst d)) sD.heap.objs.size->RR (.ok .next) Y) :
  codeAny (model X.prog X.w) X.A (.compLoop (.ListComp elt [⟨tg,iter,ifs,0⟩] scope pos) 0 (.ref it) (.ref D) (compEnvC scope (VT X.env scope.names) sD.heap.objs.size X.env)) RR s1:=by
 obtain⟨W,⟨m0,w0⟩,turn⟩:=a;have U:∀b,b∈D::fp->∃o,sD.heap.get? b=some o:=λb a=>by
  rcases B7.mp a with rfl|z
  .exact⟨_,hD⟩
  .obtain⟨o,e,_⟩:=T.obj _ _ st b z;exact⟨o,e⟩
 have t:∀b∈D::fp,DJ X l E b/\∃o,sD.heap.get? b=some o:=λb a=>⟨by
  rcases B7.mp a with rfl|z
  .exact fD
  .exact f2 b z,U b a⟩
 have Q:∀b,b∈D::fp->b≠sD.heap.objs.size:=λb a z=>by
  obtain⟨o,e⟩:=U b a;exact absurd (D9 e) (by rw[z];exact O9 _)
 have ak:∀b,b∈D::fp->b∉frs X.stack:=λb a hf=>by
  rcases B7.mp (ID.stkSub b hf)with z|z
  .exact(t b a).1.2.1 z
  .exact(t b a).1.2.2.1 z
 have I0:=ID.block S t au as hk hn;have ac:=I0.ok;have I:∀b,b∈D::fp->∀x c,(VT X.env scope.names).lookup x=some c->c≠b:=λb a x c h=>(ac.exf b a).2 x c h;have L:∀{B:Hp}{pl:A_},(∀b∈fp,B b=none)->(∀p∈pl,p.1=D)->∀b∈fp,DJ (cxC X scope N sD E (D::fp)) pl B b:=λhn G b a =>
  ⟨hn b a,Q b (.tail _ a),ak b (.tail _ a),.inl (.tail _ a),I b (.tail _ a),λp av z=>aj (by
   have:=G p av;rw[<-this,z];exact a)⟩
 refine UC (λn O=>∃(i:Nat)(d:List V)(f:F_)(P:Nat)(B:Hp),Inv (cxC X scope N sD E (D::fp)) [] (List.replicate k none++OL cs σ) B O/\tn i O.heap/\(∀b∈fp,B b=none)/\B D=none/\d.length<=sizeLine/\AS d f /\
  O.heap.get? D=some {cls:=.type "list",data:=.seq f.toArray P}/\W i n d B) ?_ m0
  ⟨0,[],[],n0,E,I0,T.keep _ _ _ st (λb _ o e=>hk b o e),λb a=>(f2 b a).1,fD.1,L8 _,.nil,hk _ _ hD,w0⟩
 rintro n s3 ⟨i,d,f,P,Z,I3,al,af,aa,ai,v3,e3,w3⟩;have ad:Inv (cxC X scope N sD E (D::fp)) [(D,{cls:=.type "list",data:=.seq f.toArray P})] (List.replicate k none++OL cs σ) Z s3:=I3.pins_of λp G=>by
  rw[C7]at G;subst G;exact⟨e3,aa,Q D (.head _),ak D (.head _),λv z=>by cases z⟩
 have one:∀p∈[((D,{cls:=.type "list",data:=.seq f.toArray P}):Addr×Obj)],p.1=D:=λp G=>by
  rw[C7]at G;subst G;rfl
 rcases turn i n d Z w3 with ⟨am,qf⟩|⟨go,Nx,ah,step⟩
 .refine thn (T.done (cxC X scope N sD E (D::fp)) (hc _ _ _) rfl rfl rfl i _ s3 _ Z _ ad (L af one) al am) λr Y M=>?_;obtain⟨hr,I4⟩:=M;subst hr;have IX:Inv X l σ Z Y:=ID.call' (ch:=D::fp) I4.os I4.base I4.hok I4.bare λb a=>⟨(t b a).1.2.2.2.1,(t b a).1.2.1,(t b a).1.2.2.2.2.1,(t b a).1.2.2.2.2.2⟩
  have p4:=(I4.pin (D,{cls:=.type "list",data:=.seq f.toArray P}) (by show _∈[]++[_];simp)).1;have IY:Inv X l σ (upd Z D (.lst d)) Y:=by
   refine IX.track aa (O4 ag) (O4 (D7 ID.ok.bsz ag)) (K3 fD.2.1) fD.2.2.2.2.1 fD.2.2.2.2.2 (λb a z=>fD.2.2.1 (z▸a)) ?_;exact⟨ai,f,P,v3,p4⟩
  refine ar Z d Y qf aa IY ?_ (ID.fpOk (B8 _) ?_)
  .obtain⟨m,hm,_⟩:=I4.loc;exact⟨m,hm⟩
  .rw[Ax (K3 (Q D (.head _)))];exact I4.free
 .refine thn (T.item (cxC X scope N sD E (D::fp)) (hc _ _ _) rfl rfl rfl i _ s3 _ Z (λ_ _=>False) ad (L af one) al go) λr Y M=>?_;obtain⟨u,hr,h4⟩:=M;subst hr;refine thn h4 λ_ s5 M=>?_;obtain⟨x,H5,I5,r5,y5,ab,aq⟩:=M;have an:=I5.pinned (L aq one) (T.obj _ _ ab);refine thn (hg sD E (D::fp) _ s5 _ H5 x u _ an r5 (step x H5 y5)) λ_ s6 M=>?_;obtain⟨R,H6,I6,⟨ts,tl,ae⟩,ay,q6⟩:=M;refine thn (ht sD E (D::fp) _ s6 R H6 _ I6 q6) λb s7 M=>?_;obtain⟨H7,I7,q7⟩:=M;have weak:∀{pl:A_}{B:Hp}{O:P_},Inv (cxC X scope N sD E (D::fp)) pl R B O->Inv (cxC X scope N sD E (D::fp)) [] (List.replicate k none++OL cs σ) B O:=λ{pl B O} J=>by
   refine(J.weak (σ':=List.replicate k none++OL cs σ) ?_ λj v e=>?_).pins_of λp G=>absurd G A6
   .rw[ae,C1,C1,P7,tl]
   .by_cases z:j<k
    .rw[M0 (by simpa using z),W0,K0 z]at e;cases e
    .rw[F8 (by rw[P7];lia),P7]at e;rw[ae,F8 A0,tl];exact e
  have C:∀{pl:A_}{σ':St}{B:Hp}{O:P_},Inv (cxC X scope N sD E (D::fp)) (pl++NS fp s5.heap) σ' B O->tn (i+1) O.heap/\∀b∈fp,B b=none:=λ{pl σ' B O} J =>
   ⟨T.keep _ _ _ ab λb a o e=>(J.pin (b,o) (J9 _ (J9 _ (Ju a e)))).1,λb a=>by
    obtain⟨o,e,_⟩:=T.obj _ _ ab b a;exact(J.pin (b,o) (J9 _ (J9 _ (Ju a e)))).2.1⟩
  cases b with
  |false =>
   have aw:Nx d H7:=by simpa using q7
   obtain⟨m',hm,w7⟩:=ah _ _ aw;rw[X7 D5];have p7:=I7.pin (D,{cls:=.type "list",data:=.seq f.toArray P}) (J9 _ (S9 _ (C7.mpr rfl)));exact⟨m',hm,i+1,d,f,P,H7,weak I7,(C I7).1,(C I7).2,p7.2.1,ai,v3,p7.1,w7⟩
  |true =>
   rw[K0 rfl]at q7;rw[K0 rfl];refine thn (he sD E (D::fp) _ s7 R H7 _ I7 q7) λy s8 M=>?_;obtain⟨v,H8,I8,r8,q8⟩:=M;obtain⟨m',hm,w8⟩:=ah _ _ q8;have p8:=I8.pin (D,{cls:=.type "list",data:=.seq f.toArray P}) (J9 _ (S9 _ (C7.mpr rfl)));have ax:=v3.length;refine A4c F.slot_list_append ⟨_,p8.1,rfl⟩ F.entry_list_append (F.args_list_append_2 _ _) (PySem.list_append D f.toArray P y (by rw[F0];lia)) ⟨p8.1,?_⟩;have q:=PySem.IsL.update p8.1 (·.push y);have eq:f.toArray.push y=(f++[y]).toArray:=by simp
   dsimp only at q;rw[eq]at q;have ao:Inv (cxC X scope N sD E (D::fp)) ([]++NS fp s5.heap) R H8 s8:=I8.pins_of λp G=>I8.pin p (J9 _ (J9 _ G));have I9:=ao.turned (t':=s8.toks) (it:=D) (h':=s8.heap.update D (Obj.mapSeq (·.push y))) (λb o a e=>(W4 s8.heap (Obj.mapSeq (·.push y)) (K3 a)).trans e) p8.2.1 (Q D (.head _)) (.inl (.head _)) (I D (.head _))
    (λp G z=>aj (by
     have:=(Rj (fp:=fp) (h:=s5.heap) (p:=p) (by simpa[cxC] using G)).1;rw[z]at this;exact this))
   refine⟨m',hm,i+1,d++[v],f++[y],_,H8,weak I9,(C I9).1,(C I9).2,p8.2.1,?_,v3.append (.cons r8 .nil),q,w8⟩;rw[C1,P6];lia
theorem Qw{d:A_}{σ:St}{B:Hp}{a:P_}{it:R_}{fp:H_}{I:Nat->Heap->Prop}{J:It}{RR:Value->Addr->Result->Shared->Prop}{E:B_}{Cq:Cx->Prop}(U:∀s H q,Cq (cxC X scope N s H q))(S:Bo X scope N k cs)
  (Y:∀s H q,PG (cxC X scope N s H q) tg g) (Z:∀s H q,PTs (cxC X scope N s H q) ifs tc) (W:∀s H q,PE (cxC X scope N s H q) elt te)
  (t:Inv X d σ B a) (T:TurnQ Cq X.prog X.w X.K tg J fp it I) (M:I 0 a.heap) (P:∀b∈fp,DJ X d B b) (R:Ia k cs g tc te J σ B fin)
  (F:∀(D C:R_)(r:Hp)(c:List V)(u:P_),fin c r->r D=none->Inv X d σ (upd r D (.lst c)) u->(∃m,u.heap.Ns C m)->DJ X d (upd r D (.lst c)) C->RR (.ref D) C (.ok .next) u) :
  wpAny (model X.prog X.w) X.A (newList []) (λc f=>wpAny (model X.prog X.w) X.A (newFunctionEnv scope X.env.globals (VT X.env scope.names) [] X.env.qual none .none (some X.env)) (λl x =>
   codeAny (model X.prog X.w) X.A (.compStart (.ListComp elt [⟨tg,iter,ifs,0⟩] scope pos) 0 (.ref it) c {l with scope:=relabel scope X.env}) (RR c l.locals) x) E f) E a:=by
 refine A3e (wpAny_newFunctionEnv S.cell (by intro y hy;simp at hy) (λn h i=>?_) S.kind);dsimp only at h i⊢;have j:∀b o,a.heap.get? b=some o->(a.heap.push {cls:=.type "list",dict:=none,data:=.seq ([]:F_).toArray}).get? b=some o:=λb o e=>B9 _ e;have O:Inv X d σ B {a with heap:=a.heap.push {cls:=.type "list",dict:=none,data:=.seq ([]:F_).toArray} }:=t.kept (t':=a.toks) j;have Q:(a.heap.push {cls:=.type "list",dict:=none,data:=.seq ([]:F_).toArray}).get? a.heap.objs.size=some {cls:=.type "list",data:=.seq ([]:F_).toArray}:=D8 _ rfl;have G:a.heap.objs.size∉fp:=λz=>by
  obtain⟨o,e,_⟩:=T.obj _ _ M _ z;exact absurd (D9 e) (O9 _)
 have v:I 0 (a.heap.push {cls:=.type "list",dict:=none,data:=.seq ([]:F_).toArray}):=T.keep _ _ _ M λb _ o e=>j b o e;have L:∀b o,(a.heap.push {cls:=.type "list",dict:=none,data:=.seq ([]:F_).toArray}).get? b=some o->n.get? b=some o:=λb o e=>i.extBut b o (J6 (D9 e)) (B9 _ e);have p:∀f:Shared,f={a with heap:=n,toks:=a.toks+([]:List (Str×Value)).length} ->
   codeAny (model X.prog X.w) X.A (.compLoop (.ListComp elt [⟨tg,iter,ifs,0⟩] scope pos) 0 (.ref it) (.ref a.heap.objs.size) (compEnvC scope (VT X.env scope.names) (a.heap.push {cls:=.type "list",dict:=none,data:=.seq ([]:F_).toArray}).objs.size X.env))
    (RR (.ref a.heap.objs.size) (a.heap.push {cls:=.type "list",dict:=none,data:=.seq ([]:F_).toArray}).objs.size) f:=by
  rintro f rfl;exact Zo (sD:={a with heap:=a.heap.push {cls:=.type "list",dict:=none,data:=.seq ([]:F_).toArray} }) U S Y Z W O Q t.sz (t.fpOk (B8 _) t.fresh) G T v P R rfl t.bare L ⟨_,h⟩ λr c u=>F _ _ r c u
 exact codeAny_compStart_list (p _ rfl) (T.self _ 0 _ _ _ (T.keep _ _ _ v λb _ o e=>L b o e) (p _ rfl))
theorem BL(z:X.calm=true)(S:Bo X scope N k cs)(G:PI X tg iter wi)(F:∀s H d,PG (cxC X scope N s H d) tg g)(O:∀s H d,PTs (cxC X scope N s H d) ifs tc)(B:∀s H d,PE (cxC X scope N s H d) elt te)
  (M:∀x,foldedSetIterable iter X.env x=pure x:=by intro _;rfl):PE X (.ListComp elt [⟨tg,iter,ifs,0⟩] scope pos) (tComp k cs wi g tc te):=by
 intro a s σ H Q I h;rw[eval_ListComp];refine wpAny_comprehension_free (use:=none) rfl M (Qx λy P E=>I.ok.has _ (S.free y P E)) S.kind S.names (thn (G a s σ H _ I h) λv s1 t=>thn t λR s2 u=>?_);obtain⟨it,fp,tn,J,Z,rfl,n,T,j,r,i⟩:=u;refine Qw (RR:=λc C=>compPost (model X.prog X.w) X.A X.xe none (EP X a σ Q) c C) (Cq:=λX=>X.calm=true) (λ_ _ _=>z) S F O B n T.q j r i λD C l c W V U p L f=>?_;obtain⟨m,K⟩:=L;refine⟨m,K,λh' Y=>⟨.ref D,upd l D (.lst c),?_,rfl,V D U⟩⟩;exact p.turned (t':=W.toks) (it:=C) (λb o i e=>(Y.2 b i).trans e) f.1 f.2.1 f.2.2.2.1 f.2.2.2.2.1 f.2.2.2.2.2
def ZG(i k:Nat)(cs:J_)(wi:TI)(g:TG)(tc:TT)(te:TE):TS:=λD σ H=>wi σ H λJ H1=>Ia k cs g tc te J σ H1 λacc H2=>∀p,H2 p=none->D.nx (σ.set i (some (.ref p))) (upd H2 p (.lst acc))
theorem Jh{i:Nat}{y:Str}{l d:Pos}(hc:X.calm=true)(Y:X.N.Nodup)(u:X.N[i]?=some y)(p:X.env.scope.names.lookup y=some .local)(S:Bo X scope N k cs)(hi:PI X tg iter wi)
  (hg:∀s H n,PG (cxC X scope N s H n) tg g) (ht:∀s H n,PTs (cxC X scope N s H n) ifs tc) (he:∀s H n,PE (cxC X scope N s H n) elt te)
  (E:swapsWith (.ListComp elt [⟨tg,iter,ifs,0⟩] scope pos) (some (.Name y l)) d.line X.env=pure true:=by rfl) (hs:∀x,foldedSetIterable iter X.env x=pure x:=by intro _;rfl) :
  PS X (.Assign [.Name y l] (.ListComp elt [⟨tg,iter,ifs,0⟩] scope pos) d) (ZG i k cs wi g tc te):=by
 intro c s σ H D I h;rw[exec_Assign_Name_used _ _ _ _ E];refine X6 (A7e (X6 ?_));show wpAny _ X.A (do let _ <-comprehension (.ListComp elt [⟨tg,iter,ifs,0⟩] scope pos) scope X.env _ (newList []) false (eval iter X.env) (some (assign (.Name y l) X.env))) _ _ s;refine X6 (A1h (wpAny_comprehension_free (use:=some (assign (.Name y l) X.env)) (Q:=λ_ r=>SP X c D .next r) rfl hs (Qx λy p hf=>I.ok.has _ (S.free y p hf)) S.kind S.names
  (thn (hi c s σ H _ I h) λv s1 V=>thn V λaa s2 W=>?_)) (λ_ r hq=>K1 (K1 hq)) λ_ _ e=>e)
 obtain⟨it,fp,tn,J,H2,rfl,O,T,K,U,t⟩:=W;refine Qw (RR:=λf C=>compPost (model X.prog X.w) X.A X.xe (some (assign (.Name y l) X.env)) (λ_ r=>SP X c D .next r) f C) (Cq:=λX=>X.calm=true) (λ_ _ _=>hc) S hg ht he O T.q K U t λL C M f s4 qf nD P hn j=>?_;obtain⟨m,hm⟩:=hn;show wpAny _ X.A (assign (.Name y l) X.env (.ref L)) _ _ _;refine wpAny_assign_Name (Rb P Y u (.inl p) (v:=.ref L) rfl (λs5 R B=>?_) (.inr p));obtain⟨a,sb,Z⟩:=B;have F:C≠a:=by
  rcases Z with z|z
  .rw[z];exact j.2.1
  .exact λq=>j.2.2.2.2.1 y a z q.symm
 refine⟨m,hm.sameBut sb F,λh' G=>⟨σ.set i (some (.ref L)),upd M L (.lst f),?_,qf L nD⟩⟩;exact R.turned (t':=s5.toks) (it:=C) (λb o t e=>(G.2 b t).trans e) j.1 j.2.1 j.2.2.2.1 j.2.2.2.2.1 j.2.2.2.2.2
end
section
variable{K:O_}{k:Nat}{cs:J_}{g:TG}{tc:TT}{te:TE}{σ:St}{H:Hp}{fin:List V->Hp->Prop}
abbrev Bt(k:Nat)(cs:J_)(g:TG)(tc:TT)(te:TE)(σ:St)(x:V)(acc:List V)(H:Hp)(Nx:List V->Hp->Prop):Prop :=
 g x (List.replicate k none++OL cs σ) H fun σ2 H2=>(∃ts:St,ts.length=k/\σ2=ts++OL cs σ)/\acc.length<sizeLine/\tc σ2 H2 λb H3=>if b=true then te σ2 H3 λv H4=>Nx (acc++[v]) H4 else Nx acc H3
theorem CC{a:R_}{xs:List V}(c:Nat->List V->Hp->Prop)(j:c 0 [] H)(o:∀i b H,i<=xs.length->c i b H->SqL K H a xs)
  (r:∀i x b H,xs[i]?=some x->c i b H->Bt k cs g tc te σ x b H (c (i+1))) (l:∀b H,c xs.length b H->fin b H):Ia k cs g tc te (Itl K a) σ H fin:=by
 refine⟨λi m b H=>m=xs.length-i/\i<=xs.length/\c i b H,⟨xs.length,by simp,L8 _,j⟩,?_⟩;rintro i m b H ⟨rfl,n,p⟩;have q:=o i b H n p;by_cases d:i<xs.length
 .refine .inr ⟨⟨xs,xs[i],q,by simp[d]⟩,c (i+1),λf h s=>⟨xs.length-(i+1),by lia,rfl,d,s⟩,λx h y=>?_⟩;obtain⟨e,y⟩:=y;subst e;exact r i x b _ (y xs q) p
 .have e:i=xs.length:=by lia
  subst e;exact .inl ⟨⟨xs,q,B8 _⟩,l b H p⟩
theorem Ny{a:R_}{xs:List V}(c:Nat->List V->Hp->Prop)(j:c 0 [] H)(o:∀i b H,i<=xs.length->c i b H->SqT K H a xs)
  (r:∀i x b H,xs[i]?=some x->c i b H->Bt k cs g tc te σ x b H (c (i+1))) (l:∀b H,c xs.length b H->fin b H):Ia k cs g tc te (Itt K a) σ H fin:=by
 refine⟨λi m b H=>m=xs.length-i/\i<=xs.length/\c i b H,⟨xs.length,by simp,L8 _,j⟩,?_⟩;rintro i m b H ⟨rfl,n,p⟩;have q:=o i b H n p;by_cases d:i<xs.length
 .refine .inr ⟨⟨xs,xs[i],q,by simp[d]⟩,c (i+1),λf h s=>⟨xs.length-(i+1),by lia,rfl,d,s⟩,λx h y=>?_⟩;obtain⟨e,y⟩:=y;subst e;exact r i x b _ (y xs q) p
 .have e:i=xs.length:=by lia
  subst e;exact .inl ⟨⟨xs,q,B8 _⟩,l b H p⟩
theorem RE{lo:Int}{n:Nat}(c:Nat->List V->Hp->Prop)(h:c 0 [] H)(l:∀i a H,i<n->c i a H->Bt k cs g tc te σ (.int (lo+i)) a H (c (i+1)))(j:∀a H,c n a H->fin a H):Ia k cs g tc te (Itr lo n) σ H fin:=by
 refine⟨λi m a H=>m=n-i/\i<=n/\c i a H,⟨n,by simp,L8 _,h⟩,?_⟩;rintro i m a H ⟨rfl,q,p⟩;by_cases b:i<n
 .refine .inr ⟨b,c (i+1),λd f o=>⟨n-(i+1),by lia,rfl,b,o⟩,λx f y=>?_⟩;obtain⟨e,y⟩:=y;subst e y;exact l i a _ b p
 .have e:i=n:=by lia
  subst e;exact .inl ⟨B8 _,j a H p⟩
end
section
variable{prog:N_}{w:Q_}{A:Around}{E:B_}{s:P_}
theorem Nc{I t:R_}{k:Nat}{vs:M_}{v:S_}{Q:B_}(c:s.heap.IsTupleIter I t k)(h:s.heap.IsTuple t vs)(i:vs[k]?=some v)
  (q:∀g,g.IsTupleIter I t (k+1)->Heap.SameBut I s.heap g->Q v {s with heap:=g}):wpAny (model prog w) A (Builtin.SmallTypes.nextOf (.ref I)) Q E s:=by
 obtain⟨l,b,d,a⟩:=id c;obtain⟨m,f,_,j,e⟩:=h;unfold Builtin.SmallTypes.nextOf;refine X6 (wpAny_callSpecial?_slot (name:=Str.ofString "__next__") c.typeIs A3g (A2c A3g c.typeIs F.entry_tuple_iterator_next ?_ (F.args_tuple_iterator_next_1 _)));show wpAny _ _ (field (.ref I) 0 >>= _) _ _ s;refine X6 (A2a b a (x:=.ref t) rfl ?_);show wpAny _ _ (if(Value.ref t==Value.none)=true then _ else _) _ _ s;rw[X7 (λz:(Value.ref t==Value.none)=true=>D5 z)];show wpAny _ _ (field (.ref I) 1 >>= _) _ _ s;refine X6 (A2a b a (x:=.int k 0) rfl ?_);show wpAny _ _ (seqItems? (.ref t) >>= _) _ _ s;refine X6 (A2d f e ?_);simp only[J7,i];refine X6 (A7a b a A6 (K1 ⟨v,rfl,K1 (q _ ?_ (A4h ..))⟩));exact⟨_,W8 _ b (Obj.isFreed_of_fields (A5b a _)),(Obj.cls_mapFields ..).trans d,by rw[A5b a];simp[rawInt]⟩
theorem NW{I t:R_}{k:Nat}{vs:M_}{Q:B_}(f:A.handled=none)(d:s.heap.IsTupleIter I t k)(j:s.heap.IsTuple t vs)(l:vs[k]?=none)
  (q:∀g e,Heap.ExtBut I s.heap g->(∃o,g.get? e=some o/\o.cls=.type "StopIteration")->E (.ref e) {s with heap:=g}):wpAny (model prog w) A (Builtin.SmallTypes.nextOf (.ref I)) Q E s:=by
 obtain⟨r,c,n,b⟩:=id d;obtain⟨u,i,_,p,h⟩:=j;unfold Builtin.SmallTypes.nextOf;refine X6 (wpAny_callSpecial?_slot (name:=Str.ofString "__next__") d.typeIs A3g (A2c A3g d.typeIs F.entry_tuple_iterator_next ?_ (F.args_tuple_iterator_next_1 _)));show wpAny _ _ (field (.ref I) 0 >>= _) _ _ s;refine X6 (A2a c b (x:=.ref t) rfl ?_);show wpAny _ _ (if(Value.ref t==Value.none)=true then _ else _) _ _ s;rw[X7 (λz:(Value.ref t==Value.none)=true=>D5 z)];show wpAny _ _ (field (.ref I) 1 >>= _) _ _ s;refine X6 (A2a c b (x:=.int k 0) rfl ?_);show wpAny _ _ (seqItems? (.ref t) >>= _) _ _ s;refine X6 (A2d i h ?_);simp only[J7,l];refine X6 (wpAny_rule (X6 (A7a c b A6 ?_)));show wpAny _ _ (newExc (.type "StopIteration") [] >>= _) _ _ _;refine X6 ?_;simp only[newExc,newTuple];refine X6 (A3e ?_ (by size_fits));refine X6 (m:=firstArgMember _ _) (wpAny_of_eq (a:=Value.none) (by first|rfl|(simp only[firstArgMember];rfl)) (A3e ?_ (by size_fits)));simp only[raiseNew];refine X6 (wpAny_handled ?_)
 first|rw[show A.in1.handled=none from f]|rw[f]
 refine X6 (K1 (wpAny_throw (q _ _ (((A4h ..).extBut.push _).push _) ⟨_,D8 _ rfl,rfl⟩)))
def CH:Bool->Heap->Addr->Addr->Nat->Prop
|true,h,I,l,k=>h.IsTupleIter I l k
|false,h,I,l,k=>h.IsListIter I l k
def Ed:Bool->Heap->Addr->Array Value->Prop
|true,h,l,vs=>h.IsTuple l vs
|false,h,l,vs=>h.IsList l vs
def SqX(K:O_):Bool->Hp->Addr->List V->Prop
|true,H,a,xs=>SqT K H a xs
|false,H,a,xs=>SqL K H a xs
theorem CH.move{b:Bool}{h g:T_}{I l:R_}{k:Nat}(x:CH b h I l k)(e:∀o,h.get? I=some o->g.get? I=some o):CH b g I l k:=by
 cases b with
 |true=>obtain⟨o,a,r⟩:=x;exact⟨o,e _ a,r⟩
 |false=>obtain⟨o,a,r⟩:=x;exact⟨o,e _ a,r⟩
theorem CH.there{b:Bool}{h:T_}{I l:R_}{k:Nat}(x:CH b h I l k):∃o,h.get? I=some o/\∀v,o.data≠.cell v:=by
 cases b with
 |true=>obtain⟨o,a,_,d⟩:=x;exact⟨o,a,λv z=>by rw[d]at z;cases z⟩
 |false=>obtain⟨o,a,_,d⟩:=x;exact⟨o,a,λv z=>by rw[d]at z;cases z⟩
theorem Ed.move{b:Bool}{h g:T_}{l:R_}{vs:M_}(x:Ed b h l vs)(e:∀o,h.get? l=some o->g.get? l=some o):Ed b g l vs:=by
 cases b with
 |true=>obtain⟨o,a,r⟩:=x;exact⟨o,e _ a,r⟩
 |false=>obtain⟨o,a,r⟩:=x;exact⟨o,e _ a,r⟩
theorem DP{b:Bool}{I l:R_}{k:Nat}{vs:M_}{v:S_}{Q:B_}(a:CH b s.heap I l k)(c:Ed b s.heap l vs)(d:vs[k]?=some v)
  (q:∀g,CH b g I l (k+1)->Heap.SameBut I s.heap g->Q v {s with heap:=g}):wpAny (model prog w) A (Builtin.SmallTypes.nextOf (.ref I)) Q E s:=by
 cases b with
 |true=>exact Nc a c d q
 |false=>exact wpAny_nextOf_list_item a c d q
theorem GC{b:Bool}{I l:R_}{k:Nat}{vs:M_}{Q:B_}(a:A.handled=none)(c:CH b s.heap I l k)(d:Ed b s.heap l vs)(f:vs[k]?=none)
  (q:∀g e,Heap.ExtBut I s.heap g->(∃o,g.get? e=some o/\o.cls=.type "StopIteration")->E (.ref e) {s with heap:=g}):wpAny (model prog w) A (Builtin.SmallTypes.nextOf (.ref I)) Q E s:=by
 cases b with
 |true=>exact NW a c d f q
 |false=>exact wpAny_nextOf_list_end a c d f q
theorem Gm{b:Bool}{l:R_}{vs:M_}{Q:B_}(a:Ed b s.heap l vs)
  (q:∀g,CH b g s.heap.objs.size l 0->g.objs.size=s.heap.objs.size+1->(∀c o,s.heap.get? c=some o->g.get? c=some o)->Q (.ref s.heap.objs.size) {s with heap:=g}):wpAny (model prog w) A (pyIter (.ref l)) Q E s:=by
 cases b with
 |true=>exact wpAny_pyIter_tuple a (q _ ⟨_,D8 _ rfl,rfl,rfl⟩ (P5 ..) λc o e=>B9 _ e)
 |false=>exact A4f a (q _ ⟨_,D8 _ rfl,rfl,rfl⟩ (P5 ..) λc o e=>B9 _ e)
structure Yq(z U O i j l m:R_):Prop where
nd:[z,U,O,i,j].Nodup
l:l∉[z,O,i,j]
m:m∉[z,O,i,j]
theorem Zw{b c:Bool}{z U O i j l m:R_}{k:Nat}{xs ys:M_}{x y p q:S_}{Q:B_}(D:Yq z U O i j l m)(L:IsZip s.heap z U O .none)(hU:IsPair s.heap U (.ref i) (.ref j))(hO:IsPair s.heap O p q)
  (hi:CH b s.heap i l k) (hj:CH c s.heap j m k) (hl:Ed b s.heap l xs) (hm:Ed c s.heap m ys) (hx:xs[k]?=some x) (hy:ys[k]?=some y)
  (fin:∀g,IsZip g z U O (rawInt s.heap.objs.size)->IsPair g O x y->CH b g i l (k+1)->CH c g j m (k+1)->IsPair g s.heap.objs.size x y->g.objs.size=s.heap.objs.size+1 ->
   (∀a o,a∉[z,O,i,j]->s.heap.get? a=some o->g.get? a=some o)->Q (.ref s.heap.objs.size) {s with heap:=g}) :
  wpAny (model prog w) A (Builtin.«zip.__next__» ⟨[.ref z],[]⟩) (λr s'=>∃v,r=.done (.ret v)/\Q v s') E s:=by
 obtain⟨nd,nl,nm⟩:=D;simp only[M8,B7,D3,A0c,A5d,Q7,and_true,A4a]at nd nl nm;obtain⟨⟨zU,V,zi,zj⟩,⟨UO,Ui,Uj⟩,⟨W,X⟩,ij⟩:=nd;obtain⟨lz,lO,li,lj⟩:=nl;obtain⟨mz,mO,mi,mj⟩:=nm;show wpAny _ _ (field (.ref z) 2 >>= _) _ _ _;refine X6 (A2a L rfl (x:=.bool false) rfl ?_);show wpAny _ _ (field (.ref z) 3 >>= _) _ _ _;refine X6 (A2a L rfl (x:=.ref U) rfl (X6 (A2d hU rfl ?_)));show wpAny _ _ (Builtin.SmallTypes.ownedTupleIsFree (.ref z) >>= _) _ _ _;refine X6 ?_;unfold Builtin.SmallTypes.ownedTupleIsFree;refine X6 (A2a L rfl (x:=.none) rfl (K1 ?_));simp only[A4g];refine X6 (wpAny_rule (X6 (A2a L rfl (x:=.ref O) rfl (X6 (A3a L A6 λh1 u C=>?_)))));replace u:IsZip h1 z U O .ellipsis:=u;refine X6 ?_;simp only[List.zipIdx_cons,List.zipIdx_nil,List.forIn_cons,List.forIn_nil];refine X6 (X6 (A7f ?_));show wpAny _ _ (Builtin.SmallTypes.nextOf (.ref i) >>= _) _ _ _;refine X6 (DP (hi.move λo e=>C.extBut _ _ (K3 zi) e) (hl.move λo e=>C.extBut _ _ lz e) hx λh2 Z F=>K1 ?_);have I:IsPair h2 O p q:=F.extBut _ _ W (C.extBut _ _ (K3 V) hO);refine X6 (A2d I rfl (X6 (A7b I λh3 t G=>?_)));replace t:IsPair h3 O x q:=t;refine X6 (wpAny_letGo (K1 (X6 (X6 (A7f ?_)))));show wpAny _ _ (Builtin.SmallTypes.nextOf (.ref j) >>= _) _ _ _;refine X6 (DP (hj.move λo e=>G.extBut _ _ (K3 X) (F.extBut _ _ (K3 ij) (C.extBut _ _ (K3 zj) e))) (hm.move λo e=>G.extBut _ _ mO (F.extBut _ _ mi (C.extBut _ _ mz e))) hy λh4 ab N=>K1 ?_);have K:IsPair h4 O x q:=N.extBut _ _ X t;refine X6 (A2d K rfl (X6 (A7b K λd h P=>?_)));replace h:IsPair d O x y:=h;refine X6 (wpAny_letGo (K1 (K1 (X6 (A2d h rfl (X6 (wpAny_newTuple ?_)))))));have sz:d.objs.size=s.heap.objs.size:=by rw[P.1,N.1,G.1,F.1,C.1]
 have M:IsZip d z U O .ellipsis:=P.extBut _ _ V (N.extBut _ _ zj (G.extBut _ _ V (F.extBut _ _ zi u)));have kp:∀a o,a∉[z,O,i,j]->s.heap.get? a=some o->d.get? a=some o:=λa o f e=>by
  simp only[B7,D3,A0c,A5d]at f;exact P.extBut _ _ f.2.1 (N.extBut _ _ f.2.2.2 (G.extBut _ _ f.2.1 (F.extBut _ _ f.2.2.1 (C.extBut _ _ f.1 e))))
 have aa:CH b d i l (k+1):=Z.move λo e=>P.extBut _ _ (K3 W) (N.extBut _ _ ij (G.extBut _ _ (K3 W) e));have ac:CH c d j m (k+1):=ab.move λo e=>P.extBut _ _ (K3 X) e;have S:z<d.objs.size:=D9 M;show wpAny _ _ (Builtin.SmallTypes.ownedTupleHandOut (.ref z) (.ref d.objs.size) >>= _) _ _ _;refine X6 ?_;unfold Builtin.SmallTypes.ownedTupleHandOut;have Y:IsZip (d.push {cls:=.type "tuple",data:=.seq #[x,y]}) z U O .ellipsis:=B9 _ M;refine X6 (A3a Y A6 λh7 B s7=>?_);replace B:IsZip h7 z U O (rawInt d.objs.size):=B;refine A3a B A6 λH n s8=>?_;replace n:IsZip H z U O (rawInt d.objs.size):=n;have T:∀a o,a≠z->d.get? a=some o->H.get? a=some o:=λa o na e=>s8.extBut _ _ na (s7.extBut _ _ na (B9 _ e));have hT:IsPair H d.objs.size x y:=s8.extBut _ _ (U0 S) (s7.extBut _ _ (U0 S) (D8 _ rfl));have R:H.objs.size=d.objs.size+1:=by rw[s8.1,s7.1,P5]
 rw[sz]at n hT R;refine K1 ⟨_,rfl,?_⟩;show Q (.ref d.objs.size) _;rw[sz];refine fin H n (T _ _ (K3 V) h) (aa.move λo e=>T _ o (K3 zi) e) (ac.move λo e=>T _ o (K3 zj) e) hT R λa o f e=>T a o ?_ (kp a o f e);simp only[B7,D3,A0c,A5d]at f;exact f.1
theorem Zv{b c:Bool}{z U O i j l m:R_}{k:Nat}{xs ys:M_}{p q:S_}{Q:Fin->Shared->Prop}(S:A.handled=none)(D:Yq z U O i j l m)(C:IsZip s.heap z U O .none)(hU:IsPair s.heap U (.ref i) (.ref j))(hO:IsPair s.heap O p q)
  (T:CH b s.heap i l k) (hj:CH c s.heap j m k) (V:Ed b s.heap l xs) (hm:Ed c s.heap m ys) (H:xs[k]?=none\/ys[k]?=none)
  (fin:∀g e,(∀a o,a∉[z,O,i,j]->s.heap.get? a=some o->g.get? a=some o)->(∃o,g.get? e=some o/\o.cls=.type "StopIteration")->E (.ref e) {s with heap:=g}) :
  wpAny (model prog w) A (Builtin.«zip.__next__» ⟨[.ref z],[]⟩) Q E s:=by
 obtain⟨X,nl,nm⟩:=D;simp only[M8,B7,D3,A0c,A5d,Q7,and_true,A4a]at X nl nm;obtain⟨⟨zU,zO,I,zj⟩,⟨UO,Ui,Uj⟩,⟨Oi,Oj⟩,ij⟩:=X;obtain⟨W,lO,li,lj⟩:=nl;obtain⟨mz,mO,mi,mj⟩:=nm;show wpAny _ _ (field (.ref z) 2 >>= _) _ _ _;refine X6 (A2a C rfl (x:=.bool false) rfl ?_);show wpAny _ _ (field (.ref z) 3 >>= _) _ _ _;refine X6 (A2a C rfl (x:=.ref U) rfl (X6 (A2d hU rfl ?_)));show wpAny _ _ (Builtin.SmallTypes.ownedTupleIsFree (.ref z) >>= _) _ _ _;refine X6 ?_;unfold Builtin.SmallTypes.ownedTupleIsFree;refine X6 (A2a C rfl (x:=.none) rfl (K1 ?_));simp only[A4g];refine X6 (wpAny_rule (X6 (A2a C rfl (x:=.ref O) rfl (X6 (A3a C A6 λh1 r u=>?_)))));replace r:IsZip h1 z U O .ellipsis:=r;refine X6 ?_;simp only[List.zipIdx_cons,List.zipIdx_nil,List.forIn_cons,List.forIn_nil];refine X6 (X6 (A7f ?_));show wpAny _ _ (Builtin.SmallTypes.nextOf (.ref i) >>= _) _ _ _;have d:∀{a:R_},a∉[z,O,i,j]->a≠z/\a≠O/\a≠i/\a≠j:=λh=>by simpa only[B7,D3,A0c,A5d] using h
 cases N:xs[k]? with
 |none =>
  refine X6 (GC S (T.move λo e=>u.extBut _ _ (K3 I) e) (V.move λo e=>u.extBut _ _ W e) N λL e v M=>?_);obtain⟨P,f,n⟩:=M;have F:IsZip L z U O .ellipsis:=v _ _ I r;have K:e≠z:=λt=>by subst t;rw[F]at f;cases f;simp at n
  exact A3a F A6 λR _ y=>fin R e (λa o h t=>y.extBut _ _ (d h).1 (v _ _ (d h).2.2.1 (u.extBut _ _ (d h).1 t))) ⟨P,y.extBut _ _ K f,n⟩
 |some x =>
  have hy:ys[k]?=none:=by
   rcases H with t|t
   .rw[N]at t;cases t
   .exact t
  refine X6 (DP (T.move λo e=>u.extBut _ _ (K3 I) e) (V.move λo e=>u.extBut _ _ W e) N λL ab v=>K1 ?_);have B:IsPair L O p q:=v.extBut _ _ Oi (u.extBut _ _ (K3 zO) hO);refine X6 (A2d B rfl (X6 (A7b B λR aa y=>?_)));refine X6 (wpAny_letGo (K1 (X6 (X6 (A7f ?_)))));show wpAny _ _ (Builtin.SmallTypes.nextOf (.ref j) >>= _) _ _ _;refine X6 (GC S (hj.move λo e=>y.extBut _ _ (K3 Oj) (v.extBut _ _ (K3 ij) (u.extBut _ _ (K3 zj) e))) (hm.move λo e=>y.extBut _ _ mO (v.extBut _ _ mi (u.extBut _ _ mz e))) hy λh4 e Y M=>?_);obtain⟨P,f,n⟩:=M;have G:IsZip h4 z U O .ellipsis:=Y _ _ zj (y.extBut _ _ zO (v.extBut _ _ I r));have K:e≠z:=λt=>by subst t;rw[G]at f;cases f;simp at n
  exact A3a G A6 λh5 _ Z=>fin h5 e (λa o h t=>Z.extBut _ _ (d h).1 (Y _ _ (d h).2.2.2 (y.extBut _ _ (d h).2.1 (v.extBut _ _ (d h).2.2.1 (u.extBut _ _ (d h).1 t))))) ⟨P,Z.extBut _ _ K f,n⟩
theorem Zx(b:T_)(n:Nat)(d:b.objs.size=n+2)(i j:S_):∃c,c=((b.push {cls:=.type "tuple",data:=.seq #[i,j]}).push {cls:=.type "tuple",data:=.seq #[.none,.none]}).push
   {cls:=.type "zip",data:=.fields #[.none,.bool false,.bool false,.ref b.objs.size,.ref (b.push {cls:=.type "tuple",data:=.seq #[i,j]}).objs.size]} /\
  IsZip c (n+4) (n+2) (n+3) .none/\IsPair c (n+2) i j/\IsPair c (n+3) .none .none/\(∀a o,b.get? a=some o->c.get? a=some o) /\
  ((b.push {cls:=.type "tuple",data:=.seq #[i,j]}).push {cls:=.type "tuple",data:=.seq #[.none,.none]}).objs.size=n+4:=by
 have f:(b.push {cls:=.type "tuple",data:=.seq #[i,j]}).objs.size=n+3:=by rw[P5,d]
 have g:((b.push {cls:=.type "tuple",data:=.seq #[i,j]}).push {cls:=.type "tuple",data:=.seq #[.none,.none]}).objs.size=n+4:=by rw[P5,f]
 refine⟨_,rfl,?_,?_,?_,λa o e=>B9 _ (B9 _ (B9 _ e)),g⟩
 .have q:=D8 ((b.push {cls:=.type "tuple",data:=.seq #[i,j]}).push {cls:=.type "tuple",data:=.seq #[.none,.none]}) (o:={cls:=.type "zip",data:=.fields #[.none,.bool false,.bool false,.ref b.objs.size,.ref (b.push {cls:=.type "tuple",data:=.seq #[i,j]}).objs.size]}) rfl;rw[g]at q;show _=some _;rw[q,d,f]
 .have q:=B9 {cls:=.type "zip",data:=.fields #[.none,.bool false,.bool false,.ref b.objs.size,.ref (b.push {cls:=.type "tuple",data:=.seq #[i,j]}).objs.size]} (B9 {cls:=.type "tuple",data:=.seq #[.none,.none]} (D8 b (o:={cls:=.type "tuple",data:=.seq #[i,j]}) rfl));rw[<-d];exact q
 .have q:=B9 {cls:=.type "zip",data:=.fields #[.none,.bool false,.bool false,.ref b.objs.size,.ref (b.push {cls:=.type "tuple",data:=.seq #[i,j]}).objs.size]} (D8 (b.push {cls:=.type "tuple",data:=.seq #[i,j]}) (o:={cls:=.type "tuple",data:=.seq #[.none,.none]}) rfl);rw[<-f];exact q
theorem YW{b c:Bool}(l m:R_)(xs ys:M_):Meets (Builtin.«zip.__new__» ⟨[.type "zip",.ref l,.ref m],[]⟩) (λ_ R s=>Ed b s.heap l xs/\Ed c s.heap m ys /\
   ∀g,IsZip g (s.heap.objs.size+4) (s.heap.objs.size+2) (s.heap.objs.size+3) .none->IsPair g (s.heap.objs.size+2) (.ref s.heap.objs.size) (.ref (s.heap.objs.size+1))->IsPair g (s.heap.objs.size+3) .none .none ->
    CH b g s.heap.objs.size l 0->CH c g (s.heap.objs.size+1) m 0->(∀a o,s.heap.get? a=some o->g.get? a=some o)->R (.ok (.ret (.ref (s.heap.objs.size+4)))) {s with heap:=g}) :=
 .of_wp λprog w A R s h=>by
  obtain⟨f,g,d,tk,L⟩:=s;obtain⟨G,H,h⟩:=h;have v:=sub_zip
  wp_walk using Gm G
  intro j I N x;have q:Ed c (Shared.heap ⟨j,g,d,tk,L⟩) m ys:=H.move λo e=>x _ o e
  wp_walk using Gm q
  intro k K O y
  wp_walk
  refine⟨_,rfl,?_⟩;have p:j.objs.size=f.objs.size+1:=N;have D:k.objs.size=f.objs.size+2:=by rw[show k.objs.size=j.objs.size+1 from O,p]
  obtain⟨u,F,z,B,C,t,M⟩:=Zx k f.objs.size D (.ref f.objs.size) (.ref j.objs.size);have n:IsPair u (f.objs.size+2) (.ref f.objs.size) (.ref (f.objs.size+1)):=by rw[<-p];exact B
  have r:CH c k (f.objs.size+1) m 0:=by rw[<-p];exact K
  have i:=h u z n C ((I.move λo e=>y _ o e).move λo e=>t _ o e) (r.move λo e=>t _ o e) λa o e=>t _ _ (y _ _ (x _ _ e));dsimp only at i;rw[F,<-M]at i;exact i
theorem Inv.turnedL{X:Cx}{d:A_}{σ:St}{H:Hp}{s:P_}{g:T_}{tk:Nat}{ch:H_}(I:Inv X d σ H s)(k:∀b o,b∉ch->s.heap.get? b=some o->g.get? b=some o)(a:∀b∈ch,DJ X d H b):Inv X d σ H {s with heap:=g,toks:=tk}:=by
 have h:∀b u,H b=some u->b∉ch:=λb u e z=>by rw[(a b z).1]at e;cases e
 refine I.step (g':=s.gens) (d':=s.drawn) (ch:=ch) (λb i=>⟨(a b i).2.2.2.1,(a b i).2.1,(a b i).2.2.2.2.1,(a b i).2.2.2.2.2⟩) (λb o _ _ f e _=>k b o f e) (λb o _ _ f e _=>⟨o.slots,k b o f e⟩) (λ_ _ _ _ n=>n)
  (λb o f e=>⟨o,k b o f e⟩) (λ_ _ e=>e) (λ_ _ _ e=>e) (λb ps e=>⟨#[],by rw[e];simp⟩) (λm p=>?_) (λb u e=>?_) I.bare
 .obtain⟨o,l,j,t,r⟩:=p;exact⟨o,l,j,k _ o (λz=>(a _ z).2.1 rfl) t,r⟩
 .refine(I.hok b u e).stay (λc v f q=>k c v ?_ q) (λ_ q=>q) λ_ _ q=>q;rcases f with z|z
  .rw[z];exact h b u e
  .exact h c _ z
theorem Inv.pair{X:Cx}{a:A_}{σ:St}{H:Hp}{s:P_}{g:T_}{tk n:Nat}{ch:H_}{x y:V}{u v:S_}(I:Inv X a σ H s)(k:∀b o,b∉ch->s.heap.get? b=some o->g.get? b=some o)(c:∀b∈ch,DJ X a H b)
  (h:Bf x u) (i:Bf y v) (e:g.get? s.heap.objs.size=some {cls:=.type "tuple",data:=.seq #[u,v] n}):H s.heap.objs.size=none/\Inv X a σ (upd H s.heap.objs.size (.tup [x,y])) {s with heap:=g,toks:=tk}:=by
 have f:=I.fpOk (B8 _) I.fresh;refine⟨f.1,(I.turnedL (tk:=tk) k c).track f.1 (O4 I.sz) (O4 (D7 I.ok.bsz I.sz)) (K3 f.2.1) f.2.2.2.2.1 f.2.2.2.2.2 (λb d z=>f.2.2.1 (z▸d)) ?_⟩;exact⟨by show 2<=sizeLine;decide,[u,v],.cons h (.cons i .nil),_,e,rfl,n,rfl⟩
theorem Inv.sq{X:Cx}{d:A_}{σ:St}{H:Hp}{s:P_}{b:Bool}{a:R_}{xs:List V}(I:Inv X d σ H s)(h:SqX X.K b H a xs):∃c:List Value,AS xs c/\Ed b s.heap a c.toArray:=by
 cases b with
 |true =>
  obtain⟨c,r,p,_⟩:=I.tuple h;exact⟨c,r,p⟩
 |false =>
  obtain⟨c,r,p,_⟩:=I.list h;exact⟨c,r,p.isList⟩
theorem Inv.sq_inj{X:Cx}{c:A_}{σ:St}{H:Hp}{s:P_}{b:Bool}{a:R_}{xs ys:List V}(I:Inv X c σ H s)(h:SqX X.K b H a xs)(h':SqX X.K b H a ys):xs=ys:=by
 cases b with
 |true=>exact I.tuple_inj h h'
 |false=>exact I.list_inj h h'
def Itz(K:O_)(b c:Bool)(l m:R_):It :=
 ⟨λi H=>∃xs ys x y,SqX K b H l xs/\SqX K c H m ys/\xs[i]?=some x/\ys[i]?=some y,
  λi H v H'=>∃(T:R_)(x y:V),v=.ref T/\H T=none/\H'=upd H T (.tup [x,y])/\(∀xs,SqX K b H l xs->xs[i]?=some x)/\∀ys,SqX K c H m ys->ys[i]?=some y,
  λi H=>∃xs ys,SqX K b H l xs/\SqX K c H m ys/\(xs.length<=i\/ys.length<=i)⟩
def ZipTn(b c:Bool)(z U O i j l m:R_)(k:Nat)(h:T_):Prop:=IsZip h z U O .none/\IsPair h U (.ref i) (.ref j)/\(∃p q,IsPair h O p q)/\CH b h i l k/\CH c h j m k
theorem ZC{P:N_}{w:Q_}{K:O_}{es:List Expr}{n:Nat}{S:Pos}{b c:Bool}{z U O i j l m:R_}(D:Yq z U O i j l m):QV P w K (.Tuple es n S) (Itz K b c l m) [z,U,O,i,j] z (ZipTn b c z U O i j l m) where
 mem:=by simp
 obj:=λk h B a d=>by
  obtain⟨f,r,⟨p,q,C⟩,G,L⟩:=B;simp only[B7,D3,A0c]at d;rcases d with rfl|rfl|rfl|rfl|rfl
  .exact⟨_,f,λv t=>by cases t⟩
  .exact⟨_,r,λv t=>by cases t⟩
  .exact⟨_,C,λv t=>by cases t⟩
  .exact G.there
  .exact L.there
 keep:=λk h h' B kp=>by
  obtain⟨f,r,⟨p,q,C⟩,G,L⟩:=B;exact⟨kp z A6 _ f,kp U A6 _ r,⟨p,q,kp O A6 _ C⟩,G.move λo e=>kp i A6 o e,L.move λo e=>kp j A6 o e⟩
 item:=by
  intro X hP hw hK hc k M s σ H E I Y B hg;subst hP hw hK;obtain⟨f,r,⟨p,q,C⟩,G,L⟩:=B;obtain⟨xs,ys,x,y,Z,sy,hx,hy⟩:=hg;obtain⟨us,ru,ou⟩:=I.sq Z;obtain⟨vs,rv,ov⟩:=I.sq sy;obtain⟨u,hu,ad⟩:=ru.get hx;obtain⟨v,hv,ae⟩:=rv.get hy;have N:s.TypeIs (.ref z) "zip" := ⟨_,f,rfl⟩
  unfold pyNext;refine X6 (A3h (wpAny_callSpecial?_slot (name:=Str.ofString "__next__") N A6f (A2c A6f N F.entry_zip_next (Zw D f r C G L ou ov (by simpa using hu) (by simpa using hv) λg gZ gO gi gj gT gs gk=>K1 ⟨_,rfl,?_⟩) (F.args_zip_next_1 _))));refine wpAny_letOwnedTupleGo_zip (s:={s with heap:=g}) gZ λg2 ab R=>?_;obtain⟨nd,nl,nm⟩:=D;simp only[M8,B7,D3,A0c,A5d,Q7,and_true,A4a]at nd;obtain⟨⟨zU,zO,zi,zj⟩,⟨UO,Ui,Uj⟩,⟨Oi,Oj⟩,ij⟩:=nd;have V:z<s.heap.objs.size:=D9 f;have kk:∀a o,a∉[z,O,i,j]->s.heap.get? a=some o->g2.get? a=some o:=λa o d e=>(R.2 a (λt=>d (by simp[t]))).trans (gk a o d e);have aa:∀a∈[z,O,i,j],DJ X M H a:=λa d=>Y a (by
   simp only[B7,D3,A0c]at d⊢;rcases d with t|t|t|t<;>simp[t])
  obtain⟨nT,J⟩:=I.pair (tk:=s.toks) kk aa ad ae ((R.2 _ (U0 V)).trans gT);refine⟨.ref s.heap.objs.size,_,J,rfl,⟨_,x,y,rfl,nT,rfl,λaf q'=>by rw[I.sq_inj q' Z];exact hx,λag q'=>by rw[I.sq_inj q' sy];exact hy⟩,⟨ab,kk U _ ?_ r,⟨u,v,(R.2 O (K3 zO)).trans gO⟩,gi.move λo e=>(R.2 i (K3 zi)).trans e,gj.move λo e=>(R.2 j (K3 zj)).trans e⟩,λa d=>?_⟩
  .simp only[B7,D3,A0c,A5d];exact⟨K3 zU,UO,Ui,Uj⟩
  .have e:=(Y a d).1;have lt:a≠s.heap.objs.size:=by
    simp only[B7,D3,A0c]at d;rcases d with t|t|t|t|t<;>subst t
    .exact J6 V
    .exact J6 (D9 r)
    .exact J6 (D9 C)
    .obtain⟨o,e,_⟩:=G.there;exact J6 (D9 e)
    .obtain⟨o,e,_⟩:=L.there;exact J6 (D9 e)
   rw[Ax lt];exact e
 done:=by
  intro X hP hw hK hc k M s σ H E I Y B hg;subst hP hw hK;obtain⟨f,r,⟨p,q,C⟩,G,L⟩:=B;obtain⟨xs,ys,Z,sy,Q⟩:=hg;obtain⟨us,ru,ou⟩:=I.sq Z;obtain⟨vs,rv,ov⟩:=I.sq sy;have lu:=ru.length;have lv:=rv.length;have N:s.TypeIs (.ref z) "zip" := ⟨_,f,rfl⟩
  have he:us.toArray[k]?=none\/vs.toArray[k]?=none:=Q.imp (λt=>by simp;lia) (λt=>by simp;lia);unfold pyNext;refine X6 (A3h (wpAny_callSpecial?_slot (name:=Str.ofString "__next__") N A6f (A2c A6f N F.entry_zip_next (Zv (I.ok.hd hc) D f r C G L ou ov he λg e gk ge=>?_) (F.args_zip_next_1 _))));obtain⟨o,ho,ac⟩:=ge;refine X6 (wpAny_isInstance (T:="StopIteration") (b:=true) ⟨o,ho,ac⟩ isSubtype_stop (K1 ⟨rfl,?_⟩));exact I.turnedL (tk:=s.toks) gk λa d=>Y a (by
   simp only[B7,D3,A0c]at d⊢;rcases d with t|t|t|t<;>simp[t])
 self:=λ_ _ _ _ _ B h=>wpAny_pyIter_zip B.1 h
end
theorem Ed.obj{b:Bool}{h:T_}{l:R_}{vs:M_}(x:Ed b h l vs):∃o,h.get? l=some o:=by
 cases b with
 |true=>obtain⟨o,e,_⟩:=x;exact⟨o,e⟩
 |false=>obtain⟨o,e,_⟩:=x;exact⟨o,e⟩
theorem Zk(b:T_)(n:Nat)(d:b.objs.size=n+1):∃c,c=b.push {cls:=.type "enumerate",data:=.fields #[.none,.bool false,.ref n,rawInt 0,.none,.none]}/\IsEnum c (n+1) n 0 .none/\∀a o,b.get? a=some o->c.get? a=some o:=by
 refine⟨_,rfl,?_,λa o e=>B9 _ e⟩;have q:=D8 b (o:={cls:=.type "enumerate",data:=.fields #[.none,.bool false,.ref n,rawInt 0,.none,.none]}) rfl;rw[d]at q;exact q
set_option maxHeartbeats 1000000 in
theorem VB{b:Bool}(l:R_)(xs:M_):Meets (Builtin.«enumerate.__new__» ⟨[.type "enumerate",.ref l],[]⟩) (λ_ R s=>Ed b s.heap l xs /\
   ∀g,IsEnum g (s.heap.objs.size+1) s.heap.objs.size 0 .none->CH b g s.heap.objs.size l 0->(∀a o,s.heap.get? a=some o->g.get? a=some o)->R (.ok (.ret (.ref (s.heap.objs.size+1)))) {s with heap:=g}) :=
 .of_wp λprog w A R s h=>by
  obtain⟨p,g,d,tk,B⟩:=s;obtain⟨q,h⟩:=h;obtain⟨C,i⟩:=q.obj;have r:=sub_enumerate;have fin:∀f,CH b f p.objs.size l 0->f.objs.size=p.objs.size+1->(∀c o,p.get? c=some o->f.get? c=some o)->∃v,Fin.done (Flow.ret (.ref f.objs.size))=Fin.done (Flow.ret v)/\R (.ok (.ret v)) ⟨f.push {cls:=.type "enumerate",data:=.fields #[.none,.bool false,.ref p.objs.size,rawInt 0,.none,.none]},g,d,tk,B⟩:=λf k j m=>by
   obtain⟨z,y,u,t⟩:=Zk f p.objs.size j;refine⟨_,rfl,?_⟩;have n:=h z u (k.move λo e=>t _ o e) λa o e=>t _ _ (m _ _ e);dsimp only at n;rw[y,<-j]at n;exact n
  wp_walk using AutoSeq1.wpAny_loadPart' i
  refine wpAny_stack_any λD=>K1 ?_;split
  .rename_i x _ _ _ _ _;cases(x==Value.type "enumerate")
   .wp_walk using AutoSeq1.wpAny_loadPart' i,Gm q
    intro f k j m
    wp_walk
    exact fin f k j m
   .wp_walk using AutoSeq1.wpAny_loadPart' i,Gm q
    intro f k j m
    wp_walk
    exact fin f k j m
  .wp_walk using AutoSeq1.wpAny_loadPart' i,Gm q
   intro f k j m
   wp_walk
   exact fin f k j m
theorem Rw{prog:N_}{w:Q_}{A:Around}{b:Bool}(i:A.handled=none)(I l:R_)(ne:l≠I)(vs:M_) :
  Draws prog w A I [I,l] vs.size (λk v=>vs[k]?=some v) (λk h=>CH b h I l k/\Ed b h l vs) where
 live:=λ_ _ a=>let ⟨o,ho,_⟩:=a.1.there;⟨o,ho⟩
 frame:=λ_ _ _ a d=>⟨a.1.move λo e=>d I A6 o e,a.2.move λo e=>d l A6 o e⟩
 item:=λk s Q E c a n=>DP a.1 a.2 (v:=vs[k]) (by simp[c]) λg m f=>n _ g s.toks (by simp[c]) ⟨m,a.2.move λo e=>(f.2 l ne).trans e⟩ f
 done:=λs Q E a j=>GC i a.1 a.2 A6 j
def Ite(K:O_)(b:Bool)(l:R_):It :=
 ⟨λi H=>∃xs x,SqX K b H l xs/\xs[i]?=some x,
  λi H v H'=>∃(T:R_)(x:V),v=.ref T/\H T=none/\H'=upd H T (.tup [.int i,x])/\∀xs,SqX K b H l xs->xs[i]?=some x,
  λi H=>∃xs,SqX K b H l xs/\xs.length=i⟩
theorem Yt{P:N_}{w:Q_}{K:O_}{es:List Expr}{n:Nat}{r:Pos}{b:Bool}{e I l:R_}(D:e≠I)(le:l≠e)(lI:l≠I) :
  QV P w K (.Tuple es n r) (Ite K b l) [e,I] e (λk h=>(∃c,IsEnum h e I k c)/\CH b h I l k) where
 mem:=by simp
 obj:=λk h j a d=>by
  obtain⟨⟨c,f⟩,m⟩:=j;simp only[B7,D3,A0c]at d;rcases d with rfl|rfl
  .exact⟨_,f,λv t=>by cases t⟩
  .exact m.there
 keep:=λk h h' j kp=>by
  obtain⟨⟨c,f⟩,m⟩:=j;exact⟨⟨c,kp e A6 _ f⟩,m.move λo t=>kp I A6 o t⟩
 item:=by
  intro X M S L N k q s σ H E J y j O;subst M S L;obtain⟨⟨c,f⟩,m⟩:=j;obtain⟨xs,x,C,T⟩:=O;obtain⟨us,B,U⟩:=J.sq C;have lu:=B.length;have hk:k<xs.length:=(B5.mp T).1;refine wpAny_pyNext_enum_itemD (Rw (b:=b) (A:=X.A.in1) (J.ok.hd N) I l lI us.toArray) f ⟨m,U⟩ (by simp;lia) D (by simp[D,K3 le]) λu g tk hu gE gS gT gs G=>⟨_,rfl,?_⟩
  obtain⟨u',R,V⟩:=B.get T;have eu:u=u':=by
   have:us[k]?=some u:=by simpa using hu
   rw[R]at this;exact(K4 this).symm
  subst eu;refine wpAny_letOwnedTupleGo_enum (s:={s with heap:=g,toks:=tk+1}) gE λg2 F Y=>?_;have p:e<s.heap.objs.size:=D9 f;have kk:∀a o,a∉[e,I]->s.heap.get? a=some o->g2.get? a=some o:=λa o d t=>(Y.2 a (λz=>d (by simp[z]))).trans (G a o (λz=>d (by simp[z])) (λz=>d (by simp[z])) t);obtain⟨nT,J2⟩:=J.pair (tk:=tk+1) (x:=.int k) (u:=.int k tk) kk y ⟨tk,rfl⟩ V ((Y.2 _ (U0 p)).trans gT);refine⟨.ref s.heap.objs.size,_,J2,rfl,⟨_,x,rfl,nT,rfl,λaa q'=>by rw[J.sq_inj q' C];exact T⟩,⟨⟨_,by simpa using F⟩,gS.1.move λo t=>(Y.2 I (K3 D)).trans t⟩,λa d=>?_⟩;have t:=(y a d).1;have lt:a≠s.heap.objs.size:=by
   simp only[B7,D3,A0c]at d;rcases d with z|z<;>subst z
   .exact J6 p
   .obtain⟨o,t,_⟩:=m.there;exact J6 (D9 t)
  rw[Ax lt];exact t
 done:=by
  intro X M S L N k q s σ H E J y j O;subst M S L;obtain⟨⟨c,f⟩,m⟩:=j;obtain⟨xs,C,Z⟩:=O;obtain⟨us,B,U⟩:=J.sq C;have lu:=B.length;have ek:k=us.toArray.size:=by simp;lia
  refine wpAny_pyNext_enum_endD (Rw (b:=b) (A:=X.A.in1) (J.ok.hd N) I l lI us.toArray) f ⟨ek▸m,U⟩ λg G=>⟨rfl,?_⟩
  exact J.turnedL (tk:=s.toks) (ch:=[e,I]) (λa o d t=>G a o (λz=>d (by simp[z])) t) y
 self:=λA i s Q E j h=>by
  obtain⟨⟨c,f⟩,_⟩:=j;exact wpAny_pyIter_enum f h
section
variable{X:Cx}{es:List Expr}{n:Nat}{tpos p pos:Pos}{e1 e2:Expr}{t:TA}
def iZip(b c:Bool)(K:O_)(t:TA):TI:=fun σ H R=>t σ H λvs H1=>∃(l m:R_),vs=[.ref l,.ref m]/\(∃xs,SqX K b H1 l xs)/\(∃ys,SqX K c H1 m ys)/\R (Itz K b c l m) H1
theorem Ed.lt{b:Bool}{h:T_}{l:R_}{vs:M_}(x:Ed b h l vs):l<h.objs.size:=by
 cases b with
 |true=>obtain⟨o,e,_⟩:=x;exact D9 e
 |false=>obtain⟨o,e,_⟩:=x;exact D9 e
theorem apart5(n l m:Nat)(a:l<n)(b:m<n):Yq (n+4) (n+2) (n+3) n (n+1) l m:=by
 refine⟨(show([n+4,n+2,n+3,n,n+1]:J_).Nodup from ?_),(show l∉([n+4,n+3,n,n+1]:J_)from ?_),(show m∉([n+4,n+3,n,n+1]:J_)from ?_)⟩
 .simp only[M8,B7,D3,A0c,A5d,Q7,and_true,A4a];lia
 .simp only[B7,D3,A0c,A5d];lia
 .simp only[B7,D3,A0c,A5d];lia
theorem pi_zip(b c:Bool)(E:Gl X "zip")(G:X.mg "zip" = none)(j:PA X [e1,e2] t)(L:starEach [e1,e2] X.env=[(false,eval e1 X.env),(false,eval e2 X.env)]:=by rfl)(e:starEach [e2] X.env=[(false,eval e2 X.env)]:=by rfl) :
  PI X (.Tuple es n tpos) (.Call (.Name "zip" p) [e1,e2] [] pos) (iZip b c X.K t):=by
 intro f s σ H R I h;refine Call_ (Lq I E G PyProof.Rows.boot_zip (A1g (thn (j pos f s σ H _ I h) λus i D=>?_) (by rw[L,e]) (by rw[e];rfl)));obtain⟨vs,w,d,P,O⟩:=D;obtain⟨l,m,rfl,⟨xs,T⟩,⟨ys,U⟩,q⟩:=O;obtain⟨u,v,rfl,Q,S⟩:=P.two;cases(show u=Value.ref l from Q);cases(show v=Value.ref m from S);obtain⟨V,_,o⟩:=d.sq T;obtain⟨W,_,r⟩:=d.sq U;refine callType_new F.called_zip A4 (F.typeCall_zip_2 _ _) (F.newCall_zip_2 _ _) (λobj=>F.args_object_init_3 obj _ _) F.entry_zip_new (YW (b:=b) (c:=c) l m V.toArray W.toArray) ⟨o,r,λg k y x z A B=>?_⟩;refine⟨⟨_,k,rfl⟩,wpAny_pyIter_zip (s:={i with heap:=g}) k ?_⟩;have M:=o.lt;have N:=r.lt;have C:=apart5 i.heap.objs.size l m M N;refine⟨i.heap.objs.size+4,_,_,_,w,rfl,d.kept (t':=i.toks) B,ZC C,⟨k,y,⟨_,_,x⟩,z,A⟩,λa j=>?_,q⟩;have le:i.heap.objs.size<=a:=by
  simp only[B7,D3,A0c]at j;rcases j with t|t|t|t|t<;>rw[t]<;>first|exact B8 _|exact V8 _ _
 exact d.fpOk le (d.hok.fresh le)
def iEnum(b:Bool)(K:O_)(t:TA):TI:=fun σ H R=>t σ H λvs H1=>∃(l:R_),vs=[.ref l]/\(∃xs,SqX K b H1 l xs)/\R (Ite K b l) H1
theorem OX(b:Bool)(x:Gl X "enumerate")(y:X.mg "enumerate" = none)(i:PA X [e1] t)(z:starEach [e1] X.env=[(false,eval e1 X.env)]:=by rfl) :
  PI X (.Tuple es n tpos) (.Call (.Name "enumerate" p) [e1] [] pos) (iEnum b X.K t):=by
 intro d s σ H R I h;refine Call_ (Lq I x y PyProof.Rows.boot_enumerate (A1g (thn (i pos d s σ H _ I h) λus c w=>?_) z rfl));obtain⟨vs,o,f,B,A⟩:=w;obtain⟨l,rfl,⟨xs,D⟩,q⟩:=A;obtain⟨u,rfl,C⟩:=B.one;cases(show u=Value.ref l from C);obtain⟨E,_,m⟩:=f.sq D;refine callType_new F.called_enumerate A4 (F.typeCall_enumerate_1 _) (F.newCall_enumerate_1 _) (λobj=>F.args_object_init_2 obj _) F.entry_enumerate_new (VB (b:=b) l E.toArray) ⟨m,λg j r v=>?_⟩;refine⟨⟨_,j,rfl⟩,wpAny_pyIter_enum (s:={c with heap:=g}) j ?_⟩;have k:=m.lt;refine⟨c.heap.objs.size+1,_,_,_,o,rfl,f.kept (t':=c.toks) v,Yt (e:=c.heap.objs.size+1) (I:=c.heap.objs.size) (l:=l) (Nat.succ_ne_self _) (J6 (Z4 k)) (J6 k),⟨⟨_,j⟩,r⟩,λa i=>?_,q⟩;have le:c.heap.objs.size<=a:=by
  simp only[B7,D3,A0c]at i;rcases i with t|t<;>rw[t]<;>first|exact B8 _|exact V8 _ _
 exact f.fpOk le (f.hok.fresh le)
end
section
variable{K:O_}{b c:Bool}{l m:R_}{xs ys:List V}{σ:St}{H:Hp}
theorem Uw{K:O_}{i j:Nat}{T:R_}{x y:V}{σ:St}{H:Hp}{Q:St->Hp->Prop}(h:H T=some (.tup [x,y]))(q:Q ((σ.set i (some x)).set j (some y)) H):gTup K 2 (Uy (Qt i) (Uy (Qt j) gNil)) (.ref T) σ H Q :=
 ⟨T,_,rfl,SqT.of h,rfl,x,_,rfl,y,_,rfl,rfl,q⟩
theorem Nl{g:TG}{n:TS}{D:NB}(a:Nat->St->Hp->Prop)(o:a 0 σ H)(t:∀i σ H,i<=xs.length->a i σ H->SqX K b H l xs)
  (u:∀i x σ H T,xs[i]?=some x->a i σ H->H T=none->g (.ref T) σ (upd H T (.tup [.int i,x])) fun f j=>n {D with nx:=a (i+1),ct:=a (i+1),bk:=D.nx} f j) (r:∀σ H,a xs.length σ H->D.nx σ H) :
  ∃W:Nat->Nat->St->Hp->Prop,(∃m,W 0 m σ H)/\∀i m σ H,W i m σ H ->
   ((Ite K b l).stop i H/\D.nx σ H)\/((Ite K b l).go i H/\∃N:St->Hp->Prop,(∀σ' d,N σ' d->∃k,k<m/\W (i+1) k σ' d)/\∀x d,(Ite K b l).yld i H x d->g x σ d fun f j=>n {D with nx:=N,ct:=N,bk:=D.nx} f j):=by
 refine⟨λi m σ H=>m=xs.length-i/\i<=xs.length/\a i σ H,⟨xs.length,by simp,L8 _,o⟩,?_⟩;rintro i m σ H ⟨rfl,s,p⟩;have q:=t i σ H s p;by_cases h:i<xs.length
 .refine .inr ⟨⟨xs,xs[i],q,by simp[h]⟩,a (i+1),fun σ' d A=>⟨xs.length-(i+1),by lia,rfl,h,A⟩,λx d y=>?_⟩;obtain⟨T,z,rfl,w,rfl,v⟩:=y;exact u i z σ _ T (v xs q) p w
 .have e:i=xs.length:=by lia
  subst e;exact .inl ⟨⟨xs,q,rfl⟩,r σ H p⟩
variable{k:Nat}{cs:J_}{g:TG}{tc:TT}{te:TE}{fin:List V->Hp->Prop}
theorem blk_zip(d:Nat->List V->Hp->Prop)(s:d 0 [] H)(u:∀i a H,d i a H->SqX K b H l xs/\SqX K c H m ys)
  (v:∀i x y a H T,xs[i]?=some x->ys[i]?=some y->d i a H->H T=none->Bt k cs g tc te σ (.ref T) a (upd H T (.tup [x,y])) (d (i+1))) (t:∀a H,d (min xs.length ys.length) a H->fin a H):Ia k cs g tc te (Itz K b c l m) σ H fin:=by
 refine⟨λi n a H=>n=min xs.length ys.length-i/\i<=min xs.length ys.length/\d i a H,⟨min xs.length ys.length,by simp,L8 _,s⟩,?_⟩;rintro i n a H ⟨rfl,F,p⟩;obtain⟨j,o⟩:=u i a H p;by_cases f:i<min xs.length ys.length
 .have A:i<xs.length:=by lia
  have B:i<ys.length:=by lia
  refine .inr ⟨⟨xs,ys,xs[i],ys[i],j,o,by simp[A],by simp[B]⟩,d (i+1),λq r D=>⟨min xs.length ys.length-(i+1),by lia,rfl,f,D⟩,λx r y=>?_⟩;obtain⟨T,z,E,rfl,C,rfl,w,h⟩:=y;exact v i z E a _ T (w xs j) (h ys o) p C
 .have e:i=min xs.length ys.length:=by lia
  subst e;exact .inl ⟨⟨xs,ys,j,o,by lia⟩,t a H p⟩
theorem blk_str{x:Str}(d:Nat->List V->Hp->Prop)(q:d 0 [] H)(s:∀i ch a H,x.cps.toList[i]?=some ch->d i a H->Bt k cs g tc te σ (.str ⟨#[ch]⟩) a H (d (i+1)))(r:∀a H,d x.cps.toList.length a H->fin a H):Ia k cs g tc te (Its x) σ H fin:=by
 have o:x.cps.toList.length=x.cps.size:=by simp
 refine⟨λi m a H=>m=x.cps.size-i/\i<=x.cps.size/\d i a H,⟨x.cps.size,by simp,L8 _,q⟩,?_⟩;rintro i m a H ⟨rfl,u,p⟩;by_cases f:i<x.cps.size
 .refine .inr ⟨f,d (i+1),λj n t=>⟨x.cps.size-(i+1),by lia,rfl,f,t⟩,λv n y=>?_⟩;obtain⟨e,ch,h,rfl⟩:=y;subst e;exact s i ch a _ (by simpa using h) p
 .have e:i=x.cps.size:=by lia
  subst e;exact .inl ⟨rfl,r a H (by rw[o];exact p)⟩
end
theorem PE.or{X:Cx}{e:Expr}{t u:TE}(h:PE X e t)(h':PE X e u):PE X e (fun σ H Q=>t σ H Q\/u σ H Q):=by
 intro a s σ H Q I q;rcases q with q|q
 .exact h a s σ H Q I q
 .exact h' a s σ H Q I q
theorem rm{a b:Nat}{A:Around}(h:Dc b A)(c:a<=b:=by first|decide|lia):Dc a A:=h.mono c
structure Cal(P:N_)(w:Q_)(K:O_)(mg:C_)(base:T_)(CX:CXT)(k:Nat)(x:Str)(ps:K_)(sp:Sp):Prop where
ex:∃(f:R_)(fd:E_),AL P w K mg base CX k f fd ps sp/\mg x=some (.ref f)/\keepIn K (.ref f)=true/\CF K fd ps []
structure Ca(P:N_)(w:Q_)(K:O_)(mg:C_)(base:T_)(CX:CXT)(k:Nat)(C:R_)(m:Str)(ps:K_)(sp:Sp):Prop where
ex:∃(f:R_)(fd:E_),AL P w K mg base CX k f fd ps sp/\QW K C m f/\CF K fd ps []
cl:Cls K C
structure QY(P:N_)(w:Q_)(K:O_)(mg:C_)(base:T_)(CX:CXT)(k:Nat)(x:Str)(C:R_)(ps:K_)(sp:Sp):Prop where
ex:∃(f:R_)(fd:E_),AL P w K mg base CX k f fd ps sp/\Mk K C f/\mg x=some (.ref C)/\CF K fd ps []
section
variable{X:Cx}{CX:CXT}{k:Nat}{C:R_}{ps:K_}{sp:Sp}{E:XK}{x m:Str}{p pos apos:Pos}{e o:Expr}{es:List Expr}{ta:TE}{t:TA}
theorem As(c:Cal X.prog X.w X.K X.mg X.base CX k x ps sp)(n:Dc k X.A)(i:Gl X x)(q:GJ CX X E)(d:PA X (e::es) t)(a:(x==("__debug__" : Str))=false:=by decide)
  (h:starEach (e::es) X.env=(false,eval e X.env)::starEach es X.env:=by rfl) (b:(backTo pos (starEach es X.env)).any (·.1)=false:=by rfl):PE X (.Call (.Name x p) (e::es) [] pos) (tCall sp [] E t):=by
 obtain⟨f,r,F,l,j,g⟩:=c.ex;exact pe_call F n i l j g .nil q d a h b
theorem AK{pl:Sem Bool}(i:PE X o ta)(c:Ca X.prog X.w X.K X.mg X.base CX k C m ps sp)(l:Dc k X.A)(q:GJ CX X E)(g:PA X (e::es) t)
  (b:starEach (e::es) X.env=(false,eval e X.env)::starEach es X.env:=by rfl) (a:(backTo pos (starEach es X.env)).any (·.1)=false:=by rfl)
  (n:eval (.Call (.Attribute o m apos) (e::es) [] pos) X.env=(do
   let d <-eval o X.env;standAt apos.atName;let (f,first) <-holding [d] (getMethod d m pl);callWith pos f first (backTo pos (starEach (e::es) X.env)) (backToKw pos (keywordEach [] X.env))):=by rfl):PE X (.Call (.Attribute o m apos) (e::es) [] pos) (Wh C m sp [] E ta t):=by
 obtain⟨f,r,F,j,h⟩:=c.ex;exact pe_meth i c.cl j F l h .nil q g b a n
theorem GS(c:QY X.prog X.w X.K X.mg X.base CX k x C ps sp)(l:Dc (k+1) X.A)(i:Gl X x)(n:GJ CX X E)(d:PA X (e::es) t)(a:(x==("__debug__" : Str))=false:=by decide)
  (h:starEach (e::es) X.env=(false,eval e X.env)::starEach es X.env:=by rfl) (b:(backTo pos (starEach es X.env)).any (·.1)=false:=by rfl):PE X (.Call (.Name x p) (e::es) [] pos) (Wi C sp [] E t):=by
 obtain⟨f,q,F,M,j,g⟩:=c.ex;exact pe_make M F l i j g .nil n d a h b
theorem pe_calC0(c:QY X.prog X.w X.K X.mg X.base CX k x C ps sp)(h:Dc (k+1) X.A)(d:Gl X x)(i:GJ CX X E)(a:(x==("__debug__" : Str))=false:=by decide):PE X (.Call (.Name x p) [] [] pos) (Wi C sp [] E QC):=by
 obtain⟨f,j,F,M,g,b⟩:=c.ex;exact pe_make0 M F h d g b .nil i a
theorem BX{i:Int}(c:Gl X x)(a:∃tk,X.mg x=some (.int i tk))(b:(x==("__debug__" : Str))=false:=by decide):PE X (.Name x pos) (tC (.int i)):=by
 obtain⟨tk,a⟩:=a;exact Sk c a ⟨tk,rfl⟩ b
theorem Ji{z:Str}(c:Gl X x)(a:∃tk,X.mg x=some (.str z tk))(b:(x==("__debug__" : Str))=false:=by decide):PE X (.Name x pos) (tC (.str z)):=by
 obtain⟨tk,a⟩:=a;exact Sk c a ⟨tk,rfl⟩ b
theorem MV{a:R_}(c:Gl X x)(d:X.mg x=some (.ref a))(b:(x==("__debug__" : Str))=false:=by decide):PE X (.Name x pos) (tC (.ref a)):=Sk c d rfl b
end
def cOk(So:Scope)(No:K_)(scope:Scope)(N:K_)(k:Nat)(cs:J_):Bool :=
 scope.names.all (λy=>y.2 != .cell) && (scope.kind==.function && (scope.names.all (λy=>y.2 != .local || scope.names.lookup y.1==some .local) && (scope.names.all (λy=>y.2 != .free || (So.names.lookup y.1==some .cell || So.names.lookup y.1==some .free)) &&
  (N.length==k+cs.length && (List.range cs.length).all λj=>match N[k+j]?,No[cs.getD j 0]? with
   |some x,some y=>x==y && scope.names.lookup x==some .free
   |_,_=>false))))
theorem Bo.of{X:Cx}{So:Scope}{No:K_}{a:Scope}{N:K_}{k:Nat}{cs:J_}(p:X.env.scope=So)(o:X.N=No)(h:cOk So No a N k cs=true):Bo X a N k cs:=by
 subst p o;unfold cOk at h;simp only[P4,P3,bne_iff_ne,ne_eq,Bool.or_eq_true,A6h,L7]at h;obtain⟨f,g,i,l,m,n⟩:=h;refine⟨f,g,λy b e=>?_,λy b e=>?_,m,λj q=>?_⟩
 .rcases i y b with z|z
  .exact absurd e z
  .exact z
 .rcases l y b with z|z
  .exact absurd e z
  .exact z
 .have z:=n j q;split at z
  .rename_i x y c d;simp only[P4,A6h]at z;obtain⟨r,s⟩:=z;subst r;exact⟨x,c,d,s⟩
  .cases z
theorem FI{σ:St}{H:Hp}{A B:Hp->Prop}(h:A H):tYes σ H λb a=>if b=true then A a else B a:=by
 show if true=true then A H else B H;exact BP h
theorem Ph{d:TE}{σ:St}{H:Hp}{Q:VK}{a b2:Bool}(e:a=true->∀b:VK,b (.bl b2) H->d σ H b)(q:Q (.bl (a && b2)) H):∃c,V.bl a=.bl c/\if c=true then d σ H Q else Q (.bl false) H:=by
 cases a with
 |true=>exact⟨true,rfl,BP (e rfl Q q)⟩
 |false=>exact⟨false,rfl,Bd q⟩
theorem ZD{u:TT}{σ:St}{H:Hp}{Q:Bool->Hp->Prop}{a b2:Bool}(c:a=true->∀b:Bool->Hp->Prop,b b2 H->u σ H b)(q:Q (a && b2) H):if a=true then u σ H Q else Q false H:=by
 cases a with
 |true=>exact BP (c rfl Q q)
 |false=>exact Bd q
section
variable{X:Cx}{scope:Scope}{N:K_}{s:P_}{H:Hp}{ex:H_}{x y:Str}{px py pos:Pos}{k:Nat}
theorem AZ{i:Nat}(b:N.Nodup)(c:N[i]?=some x)(a:(relabel scope X.env).names.lookup x=some .local):PG (cxC X scope N s H ex) (.Name x pos) (Qt i):=BD (X:=cxC X scope N s H ex) b c (.inl a) (.inr a)
theorem pgc_pair{i j:Nat}(b:X.calm=true)(a:N.Nodup)(c:N[i]?=some x)(d:N[j]?=some y)(e:(relabel scope X.env).names.lookup x=some .local)(f:(relabel scope X.env).names.lookup y=some .local) :
  PG (cxC X scope N s H ex) (.Tuple [.Name x px,.Name y py] k pos) (gTup X.K 2 (Uy (Qt i) (Uy (Qt j) gNil))) :=
 PP (X:=cxC X scope N s H ex) b (DF (AZ a c e) (DF (AZ a d f) MU))
end
theorem AS.strs:∀(l:K_)(k:Nat),AS (l.map V.str) (strsFrom k l)
|[],_=>.nil
|x::r,k=>.cons ⟨k,rfl⟩ (AS.strs r (k+1))
section
variable{X:Cx}
theorem Qi:MtR X "str.split" (λx xs H Q=>∃a b,x=.str a/\xs=[.str b]/\(b.length==0)=false/\a.length<=100000/\∀p,H p=none->Q (.ref p) (upd H p (.lst ((Txt.split a b).map V.str)))):=by
 intro g s σ H x xs v us Q I o r h;obtain⟨a,b,rfl,rfl,k,l,q⟩:=h;obtain⟨t,rfl⟩:=o;obtain⟨u,rfl,m⟩:=r.one;obtain⟨j,rfl⟩:=m;have big:a.length+2<=sizeLine:=D7 (Nat.add_le_add_right l 2) A4;have fin:∀(c:F_)(tk:Nat),AS ((Txt.split a b).map V.str) c->EP X g σ Q (.ref s.heap.objs.size) {s with heap:=s.heap.push {cls:=.type "list",data:=.seq c.toArray},toks:=tk}:=λc tk n =>
  ⟨.ref _,_,I.lnew (t':=tk) n (by rw[B4];exact D7 (split_le a b) big),rfl,q _ I.fresh⟩
 by_cases d:(decide (a.length<b.length) || decide (Builtin.Str.strKind a<Builtin.Str.strKind b))=true
 .refine A4c F.slot_str_split (A6d _ _ _) F.entry_str_split (A7g _ _) (meets_str_split_cannot_occur a b t j d) ?_;refine fin _ s.toks ?_;unfold Txt.split;rw[K0 d];exact .cons ⟨t,rfl⟩ .nil
 .have f:=X5.mpr d;by_cases i:(Builtin.Str.occurrences a b 0 a.length (a.length+1)).isEmpty=true
  .refine A4c F.slot_str_split (A6d _ _ _) F.entry_str_split (A7g _ _) (meets_str_split_not_found a b t j f k i) ?_;refine fin _ s.toks ?_;unfold Txt.split;rw[X7 d,K0 i];exact .cons ⟨t,rfl⟩ .nil
  .have e:Txt.split a b=Builtin.Str.partsBetween a (Builtin.Str.occurrences a b 0 a.length (a.length+1)) b.length:=by
    unfold Txt.split;rw[X7 d,X7 i]
   refine A4c F.slot_str_split (A6d _ _ _) F.entry_str_split (A7g _ _) (meets_str_split_sep a b t j f k (X5.mpr i) A0 (by rw[<-e];exact D7 (split_le a b) big)) ?_;refine fin _ _ ?_;rw[e];exact AS.strs _ _
theorem SH:MtR X "str.partition" (λx xs H Q=>∃a b,x=.str a/\xs=[.str b]/\(b.length==0)=false/\a.length<=100000/\∀p,H p=none->Q (.ref p) (upd H p (.tup [.str (Txt.partition a b).1,.str (Txt.partition a b).2.1,.str (Txt.partition a b).2.2]))):=by
 intro d s σ H x xs v us Q I m r h;obtain⟨a,b,rfl,rfl,g,f,q⟩:=h;obtain⟨t,rfl⟩:=m;obtain⟨u,rfl,j⟩:=r.one;obtain⟨n,rfl⟩:=j;have fin:∀(c:F_)(tk:Nat),AS [.str (Txt.partition a b).1,.str (Txt.partition a b).2.1,.str (Txt.partition a b).2.2] c->EP X d σ Q (.ref s.heap.objs.size) {s with heap:=s.heap.push {cls:=.type "tuple",data:=.seq c.toArray},toks:=tk}:=λc tk k =>
  ⟨.ref _,_,I.laid (t':=tk) (o:=.tup [.str (Txt.partition a b).1,.str (Txt.partition a b).2.1,.str (Txt.partition a b).2.2]) (λ_ _ e=>B9 _ e) (B8 _) ⟨by show 3<=sizeLine;decide,c,k,_,D8 _ rfl,rfl,_,rfl⟩,rfl,q _ I.fresh⟩
 refine A4c F.slot_str_partition (A6d _ _ _) F.entry_str_partition (F.args_str_partition_2 _ _) (meets_str_partition a b t n g (D7 f A4)) ?_;show EP X d σ Q _ _;cases e:Builtin.Str.occurrences a b 0 a.length 1 with
 |nil =>
  refine fin _ _ ?_;unfold Txt.partition;rw[e];exact .cons ⟨_,rfl⟩ (.cons ⟨_,rfl⟩ (.cons ⟨_,rfl⟩ .nil))
 |cons i l =>
  refine fin _ _ ?_;unfold Txt.partition;rw[e];exact .cons ⟨_,rfl⟩ (.cons ⟨_,rfl⟩ (.cons ⟨_,rfl⟩ .nil))
theorem AS.tstrs:∀{l:K_}{a:F_},AS (l.map V.str) a->∃b:List (Str×Tok),a=strValues b/\b.map (·.1)=l
|[],_,.nil=>⟨[],rfl,rfl⟩
|x::r,_,.cons ⟨t,e⟩ rr=>by
 obtain⟨b,c,d⟩:=AS.tstrs rr;subst e c;exact⟨(x,t)::b,rfl,by rw[F4,d]⟩
theorem Jt:MtR X "str.join" (λx xs H Q=>∃(a:Str)(p:R_)(l:K_),x=.str a/\xs=[.ref p]/\SqL X.K H p (l.map V.str)/\JoinOk a l=true/\Q (.str (Str.join a l)) H):=by
 intro c s σ H x xs v us Q I j r h;obtain⟨a,p,l,rfl,rfl,d,b,q⟩:=h;obtain⟨t,rfl⟩:=j;obtain⟨u,rfl,f⟩:=r.one;cases(show u=Value.ref p from f);obtain⟨g,i,pl,_⟩:=I.list d;obtain⟨m,rfl,e⟩:=AS.tstrs i;refine SC.join (texts:=l) pl.isList e b λt' k=>⟨.str _,H,I.tok k,⟨t',rfl⟩,?_⟩
 have:Txt.join a l=Str.join a l:=StrLaws.glued_eq_join a l;rw[this];exact q
theorem UD(n:Int):∀{ns:I_}{a:F_},AS (ns.map V.int) a->a.countP (λy=>match y with|.int i _=>i==n|_=>false)=ns.countP (· == n)
|[],_,.nil=>rfl
|x::r,_,.cons ⟨t,e⟩ rr=>by
 subst e;rw[W2,W2,UD n rr]
theorem ZA{ns:I_}{a:F_}(h:AS (ns.map V.int) a){y:S_}(b:y∈a):∃i t,y=.int i t:=by
 induction ns generalizing a with
 |nil=>cases h;simp at b
 |cons n r c =>
  cases h with
  |cons q d =>
   obtain⟨t,e⟩:=q;rcases B7.mp b with z|z
   .exact⟨n,t,z.trans e⟩
   .exact c d z
theorem mt_count:MtR X "list.count" (λx xs H Q=>∃(l:R_)(ns:I_)(n:Int),x=.ref l/\xs=[.int n]/\H l=some (.lst (ns.map V.int))/\Q (.int (ns.countP (· == n):Nat)) H):=by
 intro b s σ H x xs v us Q I j r h;obtain⟨l,ns,n,rfl,rfl,d,q⟩:=h;cases j;obtain⟨u,rfl,f⟩:=r.one;obtain⟨tk,rfl⟩:=f;obtain⟨z,a,k,c,m,e⟩:=I.lstM d;refine A4c F.slot_list_count ⟨_,e,rfl⟩ F.entry_list_count (F.args_list_count_2 _ _) (MeetsSeq.list_count l a.toArray k (.int n tk) (λy=>match y with|.int i _=>i==n|_=>false) (λy g=>?_)) ⟨e,?_⟩
 .obtain⟨i,t,rfl⟩:=ZA c (by simpa using g);exact PySem.MeetsSeq.EqGives.int i n t tk
 .refine⟨.int _,H,I.tok _,⟨_,rfl⟩,?_⟩;have:(List.countP (λy=>match y with|Value.int i _=>i==n|_=>false) a.toArray.toList)=ns.countP (· == n):=UD n (by simpa using c);rw[this];exact q
end
end L2
namespace L2
open PySem
section
variable{X:Cx}{es es':List Expr}{t t':TA}{pos:Pos}
theorem AV{i:Int}{j}(a:PA X es t):PA X (.Constant (.int i) j pos::es) (CO (tC (.int i)) t):=Aa Ae a
theorem PU{z:Str}{j}(a:PA X es t):PA X (.Constant (.str z) j pos::es) (CO (tC (.str z)) t):=Aa Es a
theorem Vi(h:PA X es' t')(a:PA X es t):PA X (.List es' pos::es) (CO (tLst t') t):=Aa (Ce h) a
theorem Bm{x1}(h:PA X es' t')(a:PA X es t):PA X (.Tuple es' x1 pos::es) (CO (ZE t') t):=Aa (Dz h) a
theorem Bn{c:Operator}{r:R2}{a b:Expr}{d e:TE}(h:OpR X (binaryOp c) r)(f:PE X a d)(g:PE X b e)(i:PA X es t):PA X (.BinOp a c b pos::es) (CO (tOp r d e) t):=Aa (AF h f g) i
theorem Jw{K:O_}(h:X.K=K):IxR X (LV K):=h▸Al
theorem ixc_list{K:O_}(h:X.K=K):IxR X (rIxL K):=h▸Ay
end
theorem AN{P:Prop}(h:∀G:Prop,(P->G)->G):P:=h P id
theorem xq1{α:Sort _}{a:α}{P Q:α->Prop}(h:P a)(k:Q a):∃x,P x/\Q x:=⟨a,h,k⟩
theorem xq2{α β:Sort _}{a:α}{b:β}{P Q R:α->β->Prop}(h:P a b)(h':Q a b)(k:R a b):∃x y,P x y/\Q x y/\R x y:=⟨a,b,h,h',k⟩
theorem xq3{α β γ:Sort _}{a:α}{b:β}{c:γ}{P Q R S:α->β->γ->Prop}(h:P a b c)(h':Q a b c)(d:R a b c)(k:S a b c):∃x y z,P x y z/\Q x y z/\R x y z/\S x y z:=⟨a,b,c,h,h',d,k⟩
theorem xq4{α β γ δ:Sort _}{a:α}{b:β}{c:γ}{d:δ}{P Q R S T:α->β->γ->δ->Prop}(h:P a b c d)(h':Q a b c d)(e:R a b c d)(f:S a b c d)(k:T a b c d):∃x y z w,P x y z w/\Q x y z w/\R x y z w/\S x y z w/\T x y z w:=⟨a,b,c,d,h,h',e,f,k⟩
theorem xq5{K:O_}{f:Str}{H:Hp}{a C dx:R_}{fs:List (Str×V)}{v:V}{Q:V->Prop}(h:H a=some (.ins C dx fs))(c:Cls K C)(d:BK K C f)(e:fs.lookup f=some v)(k:Q v):∃b C dx fs w,V.ref a=.ref b/\H b=some (.ins C dx fs)/\Cls K C/\BK K C f/\fs.lookup f=some w/\Q w:=⟨a,C,dx,fs,v,rfl,h,c,d,e,k⟩
theorem xw2{α β:Sort _}{a:α}{b:β}{P:α->Prop}{Q:α->β->Prop}{K:α->β->Prop}(e:P a)(f:Q a b)(k:K a b):∃c,P c/\∃d,Q c d/\K c d:=⟨a,e,b,f,k⟩
theorem xw3{α β γ:Sort _}{a:α}{b:β}{c:γ}{P:α->Prop}{Q:α->β->Prop}{R:α->β->γ->Prop}{K:α->β->γ->Prop}(g:P a)(h:Q a b)(i:R a b c)(k:K a b c):∃d,P d/\∃e,Q d e/\∃f,R d e f/\K d e f:=⟨a,g,b,h,c,i,k⟩
theorem xwb{α β γ:Sort _}{a:α}{b:β}{c:γ}{P:α->Prop}{Q:α->β->γ->Prop}{R:α->β->γ->Prop}{K:α->β->γ->Prop}(g:P a)(h:Q a b c)(i:R a b c)(k:K a b c):∃d,P d/\∃e f,Q d e f/\R d e f/\K d e f:=⟨a,g,b,c,h,i,k⟩
theorem xwm{α β γ δ:Sort _}{a:α}{b:β}{c:γ}{d:δ}{P:α->Prop}{Q:α->β->γ->δ->Prop}{R:α->β->γ->δ->Prop}{S:α->β->γ->δ->Prop}{K:α->β->γ->δ->Prop}(i:P a)(j:Q a b c d)(l:R a b c d)(m:S a b c d)(k:K a b c d):∃e,P e/\∃f g h,Q e f g h/\R e f g h/\S e f g h/\K e f g h:=⟨a,i,b,c,d,j,l,m,k⟩
theorem xwi{α β γ δ ε:Sort _}{a:α}{b:β}{c:γ}{d:δ}{e:ε}{P:α->Prop}{Q:α->β->γ->δ->ε->Prop}{R:α->β->γ->δ->ε->Prop}{S:α->β->γ->δ->ε->Prop}{T:α->β->γ->δ->ε->Prop}{K:α->β->γ->δ->ε->Prop}(l:P a)(m:Q a b c d e)(n:R a b c d e)(o:S a b c d e)(p:T a b c d e)(k:K a b c d e):∃f,P f/\∃g h i j,Q f g h i j/\R f g h i j/\S f g h i j/\T f g h i j/\K f g h i j:=⟨a,l,b,c,d,e,m,n,o,p,k⟩
theorem xwf{α β γ δ ε ζ:Sort _}{a:α}{b:β}{c:γ}{d:δ}{e:ε}{f:ζ}{P:α->Prop}{Q:α->β->γ->δ->ε->ζ->Prop}{R:α->β->γ->δ->ε->ζ->Prop}{S:α->β->γ->δ->ε->ζ->Prop}{T:α->β->γ->δ->ε->ζ->Prop}{U:α->β->γ->δ->ε->ζ->Prop}{K:α->β->γ->δ->ε->ζ->Prop}(n:P a)(o:Q a b c d e f)(p:R a b c d e f)(q:S a b c d e f)(r:T a b c d e f)(s:U a b c d e f)(k:K a b c d e f):∃g,P g/\∃h i j l m,Q g h i j l m/\R g h i j l m/\S g h i j l m/\T g h i j l m/\U g h i j l m/\K g h i j l m:=⟨a,n,b,c,d,e,f,o,p,q,r,s,k⟩
theorem xwn{α β γ δ ε:Sort _}{a:α}{b:β}{c:γ}{d:δ}{e:ε}{P:α->Prop}{Q:α->β->γ->δ->Prop}{R:α->β->γ->δ->Prop}{S:α->β->γ->δ->Prop}{T:α->β->γ->δ->ε->Prop}{K:α->β->γ->δ->ε->Prop}(l:P a)(m:Q a b c d)(n:R a b c d)(o:S a b c d)(p:T a b c d e)(k:K a b c d e):∃f,P f/\∃g h i,Q f g h i/\R f g h i/\S f g h i/\∃j,T f g h i j/\K f g h i j:=⟨a,l,b,c,d,m,n,o,e,p,k⟩
theorem xwj{α β γ δ ε ζ:Sort _}{a:α}{b:β}{c:γ}{d:δ}{e:ε}{f:ζ}{P:α->Prop}{Q:α->β->Prop}{R:α->β->γ->δ->ε->ζ->Prop}{S:α->β->γ->δ->ε->ζ->Prop}{T:α->β->γ->δ->ε->ζ->Prop}{U:α->β->γ->δ->ε->ζ->Prop}{K:α->β->γ->δ->ε->ζ->Prop}(n:P a)(o:Q a b)(p:R a b c d e f)(q:S a b c d e f)(r:T a b c d e f)(s:U a b c d e f)(k:K a b c d e f):∃g,P g/\∃h,Q g h/\∃i j l m,R g h i j l m/\S g h i j l m/\T g h i j l m/\U g h i j l m/\K g h i j l m:=⟨a,n,b,o,c,d,e,f,p,q,r,s,k⟩
theorem BU{A B:TS}{D:NB}{σ:St}{H:Hp}(h:let r:=B D;let s:=σ;∀k:St->Hp->Prop,(∀{σ H},r σ H->k σ H)->let E:NB:={D with nx:=k};A E s H):Yw A B D σ H:=h _ λz=>z
end L2
namespace Nu
open PySem PySem.NumText PyProof.Rows
theorem ext{a b:Str}(h:a.cps.toList=b.cps.toList):a=b:=by
 obtain⟨⟨l⟩⟩:=a;obtain⟨⟨r⟩⟩:=b;cases h;rfl
theorem len(x:Str):x.length=x.cps.toList.length:=by simp[Str.length]
end Nu
namespace Tx
open PySem PySem.Builtin PySem.Builtin.Str PyProof.Rows
theorem Cp(a b:Str):(a++b).cps.toList=a.cps.toList++b.cps.toList:=cps_toList_append a b
def jl(sep:J_):List (List Nat)->List Nat
|[]=>[]
|[x]=>x
|x::y::r=>x++sep++jl sep (y::r)
theorem ED(a:Str):∀b:List Str,(Str.join a b).cps.toList=jl a.cps.toList (b.map λt=>t.cps.toList)
|[]=>rfl
|[x]=>rfl
|x::y::r=>by
 have e:Str.join a (x::y::r)=x++a++Str.join a (y::r):=rfl;rw[e,Cp,Cp,ED a (y::r)];rfl
theorem Tc{c:Nat}:∀{x y A B:J_},c∉x->c∉y->x++c::A=y++c::B->x=y/\A=B
|[],[],A,B,_,_,h=>⟨rfl,by simpa using h⟩
|[],y::ys,A,B,_,hy,h=>by
 simp at h;exact absurd (by rw[h.1];exact C4) hy
|x::xs,[],A,B,hx,_,h=>by
 simp at h;exact absurd (by rw[<-h.1];exact C4) hx
|x::xs,y::ys,A,B,hx,hy,h=>by
 simp at h;obtain⟨e,h⟩:=h;obtain⟨a,b⟩:=Tc (x:=xs) (y:=ys) (λz=>hx (C5 _ z)) (λz=>hy (C5 _ z)) h;exact⟨by rw[e,a],b⟩
theorem VH(c:Nat)(s:J_):∀(as bs:List (List Nat)),as≠[]->bs≠[]->(∀t∈as,c∉t)->(∀t∈bs,c∉t)->jl (c::s) as=jl (c::s) bs->as=bs
|[],_,h,_,_,_,_=>absurd rfl h
|_,[],_,h,_,_,_=>absurd rfl h
|[x],[y],_,_,_,_,e=>by
 have a:x=y:=e;rw[a]
|[x],y::z::r,_,_,ha,_,e=>by
 have a:x=y++c::s++jl (c::s) (z::r):=e;exact absurd (by rw[a];simp) (ha x C4)
|x::z::r,[y],_,_,_,hb,e=>by
 have a:x++c::s++jl (c::s) (z::r)=y:=e;exact absurd (by rw[<-a];simp) (hb y C4)
|x::x2::r,y::y2::r',_,_,ha,hb,e=>by
 have a:x++c::(s++jl (c::s) (x2::r))=y++c::(s++jl (c::s) (y2::r')):=by
  have:x++c::s++jl (c::s) (x2::r)=y++c::s++jl (c::s) (y2::r'):=e
  simpa using this
 obtain⟨d,f⟩:=Tc (ha x C4) (hb y C4) a;have g:=List.append_cancel_left f;rw[d,VH c s (x2::r) (y2::r') A6 A6 (λt b=>ha t (C5 _ b)) (λt b=>hb t (C5 _ b)) g]
theorem Rm {as bs:K_} (h:as.map (λt=>t.cps.toList)=bs.map λt=>t.cps.toList):as=bs:=by
 induction as generalizing bs with
 |nil=>cases bs with|nil=>rfl|cons=>simp at h
 |cons a r c =>
  cases bs with
  |nil=>simp at h
  |cons b q =>
   simp at h;rw[Nu.ext (a:=a) (b:=b) (by simpa using h.1),c (by simpa using h.2)]
theorem Tw(c:Nat)(a:K_)(b:a≠[])(f:∀t∈a,c∉t.cps.toList):Txt.split (Str.join ⟨#[c]⟩ a) ⟨#[c]⟩=a:=by
 refine Rm (VH c [] _ _ ?_ ?_ ?_ ?_ ?_)
 .intro h;have:=split_pos (Str.join ⟨#[c]⟩ a) ⟨#[c]⟩;have g:(Txt.split (Str.join ⟨#[c]⟩ a) ⟨#[c]⟩).length=0:=by simpa using A0g List.length h
  lia
 .simpa using b
 .intro t e;obtain⟨p,d,rfl⟩:=C8.mp e;exact StrLaws.split_free _ c p d
 .intro t e;obtain⟨p,d,rfl⟩:=C8.mp e;exact f p d
 .have h:=A0g (λz:Str=>z.cps.toList) (StrLaws.join_split (Str.join ⟨#[c]⟩ a) ⟨#[c]⟩);rw[ED,ED]at h;exact h
theorem DL(c:Nat)(a b:Str)(h:c∉a.cps.toList):Txt.partition (a++⟨#[c]⟩++b) ⟨#[c]⟩=(a,⟨#[c]⟩,b):=by
 have d:c∈(a++⟨#[c]⟩++b).cps.toList:=by rw[Cp,Cp];simp
 have v:=StrLaws.partition_sum (a++⟨#[c]⟩++b) ⟨#[c]⟩;have s:=partition_head (a++⟨#[c]⟩++b) ⟨#[c]⟩;have g:=StrLaws.found_one (a++⟨#[c]⟩++b) c;rw[X8 d]at g;have f:(Txt.partition (a++⟨#[c]⟩++b) ⟨#[c]⟩).2.1=⟨#[c]⟩:=by
  unfold Txt.partition;cases e:occurrences (a++⟨#[c]⟩++b) ⟨#[c]⟩ 0 (a++⟨#[c]⟩++b).length 1 with
  |nil=>rw[e]at g;simp at g
  |cons i l=>rfl
 have m:c∉(Txt.partition (a++⟨#[c]⟩++b) ⟨#[c]⟩).1.cps.toList:=by
  rcases s with ⟨_,no⟩|⟨i,e,r,no⟩
  .obtain⟨j,t⟩:=F7 d;exact absurd ((StrLaws.subAt_one _ c j).mpr t) (no j)
  .rw[e];exact StrLaws.part_free _ c 0 i (by have:i+1<=_:=r.1;lia) λk _ u=>no k u
 have e:(Txt.partition (a++⟨#[c]⟩++b) ⟨#[c]⟩).1.cps.toList++(Txt.partition (a++⟨#[c]⟩++b) ⟨#[c]⟩).2.1.cps.toList++(Txt.partition (a++⟨#[c]⟩++b) ⟨#[c]⟩).2.2.cps.toList=a.cps.toList++[c]++b.cps.toList:=by
  have n:=A0g (λz:Str=>z.cps.toList) v;rw[Cp,Cp,Cp,Cp]at n;exact n
 rw[f]at e;have o:(Txt.partition (a++⟨#[c]⟩++b) ⟨#[c]⟩).1.cps.toList++c::(Txt.partition (a++⟨#[c]⟩++b) ⟨#[c]⟩).2.2.cps.toList=a.cps.toList++c::b.cps.toList:=by simpa using e
 obtain⟨p,q⟩:=Tc m h o;exact Prod.ext (Nu.ext p) (Prod.ext f (Nu.ext q))
theorem Nq{n:Int}(a:0<=n)(b:n<=9):(Str.ofString (toString n))=(⟨#[48+n.toNat]⟩:Str):=by
 obtain⟨m,rfl⟩:=J3 a;exact(show ∀m:Nat,m<10->(Str.ofString (toString (m:Int)))=(⟨#[48+(m:Int).toNat]⟩:Str) by decide +kernel) m A0
end Tx
namespace Tx
open PySem PySem.Builtin PySem.Builtin.Str PyProof.Rows
theorem SN:∀a:List (List Nat),jl [] a=a.flatten
|[]=>rfl
|[x]=>by simp[jl]
|x::y::r=>by
 show x++[]++jl [] (y::r)=_;rw[SN (y::r)];simp
theorem WU(c:Str)(m:Nat):∀(l:K_)(b:Nat),(∀t∈l,t.length<=m)->l.foldl (λa t=>a+t.length+c.length) b<=b+l.length*(m+c.length)
|[],b,_=>by simp
|t::r,b,h=>by
 have e:=h t C4;have f:=WU c m r (b+t.length+c.length) λz d=>h z (C5 _ d);rw[T5,D6,Z3];lia
theorem Jv{b:Str}{l:K_}(m:Nat)(h:∀t∈l,t.length<=m)(d:l.length*(m+b.length)<=100000):JoinOk b l=true:=by
 unfold JoinOk;have c:=WU b m l 0 h;have e:l.toArray.foldl (λa t=>a+t.length+b.length) 0=l.foldl (λa t=>a+t.length+b.length) 0:=by simp
 rw[e];have:tooLong (l.foldl (λa t=>a+t.length+b.length) 0)=false:=by
  unfold tooLong;refine X9 ?_;have:(100000:Nat)<=sizeLine:=by decide
  lia
 rw[this];rfl
theorem app_len(a b:Str):(a++b).length=a.length+b.length:=by
 rw[Nu.len,Nu.len,Nu.len,Cp,C1]
end Tx
namespace Tx
open PySem PySem.Builtin PySem.Builtin.Str PyProof.Rows
theorem at_two(x:Str)(c d k:Nat)(e:x.cps.toList[k]?=some c)(a:x.cps.toList[k+1]?=some d):StrLaws.At x ⟨#[c,d]⟩ x.length k:=by
 have l:k+1<x.cps.toList.length:=(B5.mp a).1;refine⟨?_,?_⟩
 .show k+2<=x.length;rw[Nu.len];lia
 .rw[StrLaws.subAt_eq];show((x.cps.toList.drop k).take 2==[c,d])=true;have b:x.cps.toList.drop k=c::d::x.cps.toList.drop (k+2):=by
   rw[List.drop_eq_getElem_cons A0,(B5.mp e).2,List.drop_eq_getElem_cons l,(B5.mp a).2]
  rw[b];simp
def Led(c d:Nat)(l:J_):Prop:=∀k:Nat,l[k]?=some c->l[k+1]?=some d
theorem PQ{x:Str}{c d a b:Nat}(l:Led c d x.cps.toList)(m:b<=x.length)(i:∀k,a<=k->k<b->¬StrLaws.At x ⟨#[c,d]⟩ x.length k):c∉(strSub x a b).cps.toList:=by
 intro g;rw[StrLaws.strSub_toList]at g;obtain⟨j,e⟩:=F7 g;have f:j<b-a:=by
  have h:j<((x.cps.toList.drop a).take (b-a)).length:=(B5.mp e).1;rw[J0]at h;lia
 rw[V5 f,List.getElem?_drop]at e;exact i (a+j) A0 A0 (at_two x c d (a+j) e (l _ e))
theorem Ov{x:Str}{c d:Nat}(j:Led c d x.cps.toList):∀(b:J_)(a f:Nat),StrLaws.ChainG x ⟨#[c,d]⟩ x.length a b f->(∀k,f<=k->¬StrLaws.At x ⟨#[c,d]⟩ x.length k)->∀p∈StrLaws.partsFrom x 2 a b,c∉p.cps.toList
|[],a,f,h,hn,p,hp=>by
 have e:f=a:=h;subst e;rw[C7.mp hp];exact PQ j (B8 _) λk l _=>hn k l
|g::r,a,f,h,hn,p,hp=>by
 rcases B7.mp hp with rfl|i
 .exact PQ j (by have:g+2<=_:=h.2.1.1;lia) h.2.2.1
 .exact Ov j r _ f h.2.2.2 hn p i
theorem kind_le(x:Str):¬Builtin.Str.strKind x<Builtin.Str.strKind (⟨#[59,32]⟩:Str):=by
 have e:Builtin.Str.strKind (⟨#[59,32]⟩:Str)=1:=by simp[Builtin.Str.strKind]
 rw[e];unfold Builtin.Str.strKind;split
 .decide
 .split<;>decide
theorem Ty{x:Str}(m:Led 59 32 x.cps.toList):∀p∈Txt.split x ⟨#[59,32]⟩,59∉p.cps.toList:=by
 obtain⟨f,c,l⟩:=StrLaws.occ_tight x ⟨#[59,32]⟩ A4;have a:59∈x.cps.toList->∃k,StrLaws.At x ⟨#[59,32]⟩ x.length k:=λb=>by
  obtain⟨j,i⟩:=F7 b;exact⟨j,at_two x 59 32 j i (m j i)⟩
 unfold Txt.split;split
 .rename_i g;intro p e;rw[C7.mp e];intro b;obtain⟨k,d⟩:=a b;have q:k+2<=x.length:=d.1;rw[Bool.or_eq_true,A7c,A7c]at g;rcases g with h|h
  .have r:x.length<2:=h;lia
  .exact kind_le x h
 .split
  .rename_i n;intro p e;rw[C7.mp e];intro b;obtain⟨k,d⟩:=a b;rw[List.isEmpty_iff.mp n]at c;have o:f=0:=c;exact l k A0 d
  .rw[StrLaws.partsBetween_eq];exact Ov m _ 0 f c l
theorem led_jl{c d:Nat}(a:c≠d):∀b:List (List Nat),(∀t∈b,c∉t)->Led c d (jl [c,d] b)
|[],_=>λk h=>by simp[jl]at h
|[x],hf=>λk h=>absurd (D0 (show x[k]?=some c from h)) (hf x C4)
|x::y::r,hf=>λk h=>by
 have j:=led_jl a (y::r) λt i=>hf t (C5 _ i);have e:jl [c,d] (x::y::r)=x++(c::d::jl [c,d] (y::r)):=by
  show x++[c,d]++jl [c,d] (y::r)=_;simp
 rw[e]at h⊢;by_cases f:k<x.length
 .rw[M0 f]at h;exact absurd (D0 h) (hf x C4)
 .rw[F8 A0]at h;rw[F8 A0];obtain⟨m,g⟩:∃m,k-x.length=m:=⟨_,rfl⟩
  rw[show k+1-x.length=m+1 by lia];rw[g]at h;cases m with
  |zero=>rfl
  |succ m =>
   cases m with
   |zero =>
    have:some d=some c:=h;exact absurd (K4 this).symm a
   |succ m =>
    rw[W1,W1]at h⊢;exact j m h
theorem Tv(a:K_)(d:a≠[])(f:∀t∈a,59∉t.cps.toList):Txt.split (Str.join ⟨#[59,32]⟩ a) ⟨#[59,32]⟩=a:=by
 have e:Led 59 32 (Str.join ⟨#[59,32]⟩ a).cps.toList:=by
  rw[ED];refine led_jl A4 _ λt c=>?_;obtain⟨p,b,rfl⟩:=C8.mp c;exact f p b
 refine Rm (VH 59 [32] _ _ ?_ ?_ ?_ ?_ ?_)
 .intro h;have:=split_pos (Str.join ⟨#[59,32]⟩ a) ⟨#[59,32]⟩;have g:(Txt.split (Str.join ⟨#[59,32]⟩ a) ⟨#[59,32]⟩).length=0:=by simpa using A0g List.length h
  lia
 .simpa using d
 .intro t c;obtain⟨p,b,rfl⟩:=C8.mp c;exact Ty e p b
 .intro t c;obtain⟨p,b,rfl⟩:=C8.mp c;exact f p b
 .have h:=A0g (λz:Str=>z.cps.toList) (StrLaws.join_split (Str.join ⟨#[59,32]⟩ a) ⟨#[59,32]⟩);rw[ED,ED]at h;exact h
end Tx
namespace L2
open PySem PySem.Spec PyProof.Rows
section
variable{κ:Type}[DecidableEq κ]
def Bj(kvs:List (κ×V))(k:κ):Option V:=(kvs.find? λkv=>decide (kv.1=k)).map (·.2)
def Dy(kvs:List (κ×V))(k:κ)(v:V):List (κ×V) :=
 if(kvs.any λkv=>decide (kv.1=k))=true then kvs.map (λkv=>if kv.1=k then(kv.1,v)else kv)else kvs++[(k,v)]
theorem BM{p:κ×V}{r:List (κ×V)}{k:κ}(e:p.1=k):Bj (p::r) k=some p.2:=by simp[Bj,O5,e]
theorem BF{p:κ×V}{r:List (κ×V)}{k:κ}(e:¬p.1=k):Bj (p::r) k=Bj r k:=by simp[Bj,O5,e]
theorem Fn(k:κ):∀kvs:List (κ×V),(kvs.any λa=>decide (a.1=k))=(Bj kvs k).isSome
|[]=>rfl
|p::r=>by
 rw[S7];by_cases e:p.1=k
 .simp only[BM e,X8 e,Bool.true_or,Option.isSome_some]
 .rw[BF e,X9 e,Bool.false_or];exact Fn k r
theorem Tm(k j:κ)(y:V):∀kvs:List (κ×V),Bj (kvs.map λa=>if a.1=k then(a.1,y)else a) j=(Bj kvs j).map λx=>if j=k then y else x
|[]=>rfl
|p::r=>by
 have b:=Tm k j y r;rw[F4];by_cases h:p.1=k
 .rw[K0 h];by_cases e:p.1=j
  .rw[BM (p:=(p.1,y)) e,BM e,W5,K0 (e.symm.trans h)]
  .rw[BF (p:=(p.1,y)) e,BF e,b]
 .rw[X7 h];by_cases e:p.1=j
  .rw[BM (p:=p) e,BM e,W5,X7 (λz=>h (e.trans z))]
  .rw[BF (p:=p) e,BF e,b]
theorem Ra(k j:κ)(y:V):∀kvs:List (κ×V),Bj kvs k=none->Bj (kvs++[(k,y)]) j=if j=k then some y else Bj kvs j
|[],_=>by
 by_cases e:k=j
 .rw[K0 e.symm];exact BM (p:=(k,y)) e
 .rw[X7 (λz=>e z.symm)];exact BF (p:=(k,y)) e
|p::r,hn=>by
 rw[List.cons_append];have a:¬p.1=k:=λz=>by rw[BM z]at hn;cases hn
 rw[BF a]at hn;have b:=Ra k j y r hn;by_cases e:p.1=j
 .rw[BM e,BM e,X7 (λz=>a (e.trans z))]
 .rw[BF e,BF e,b]
theorem Fl(kvs:List (κ×V))(k j:κ)(y:V):Bj (Dy kvs k y) j=if j=k then some y else Bj kvs j:=by
 unfold Dy;by_cases a:(kvs.any λc=>decide (c.1=k))=true
 .rw[K0 a,Tm];rw[Fn]at a;by_cases e:j=k
  .obtain⟨x,b⟩:=V4.mp a;rw[K0 e,e,b,W5,K0 rfl]
  .rw[X7 e];cases Bj kvs j with
   |none=>rfl
   |some x=>rw[W5,X7 e]
 .rw[X7 a];refine Ra k j y kvs ?_;rw[Fn]at a;cases q:Bj kvs k with
  |none=>rfl
  |some x=>rw[q]at a;exact(a rfl).elim
theorem GW(kvs:List (κ×V))(k:κ)(v:V):(Dy kvs k v).length<=kvs.length+1:=by
 unfold Dy;split
 .rw[B4];lia
 .rw[C1,D6,P8];lia
theorem IB{kvs:List (κ×V)}{k:κ}(v:V)(h:Bj kvs k=none):Dy kvs k v=kvs++[(k,v)]:=by
 unfold Dy;rw[Fn,h];exact X7 A4
theorem JK.isSome_eq{o:Option V}{u:Option Value}(r:JK o u):o.isSome=u.isSome:=by
 cases o with
 |none=>cases u with
  |none=>rfl
  |some _=>exact(show False from r).elim
 |some _=>cases u with
  |none=>exact(show False from r).elim
  |some _=>rfl
theorem JK.getD{o:Option V}{u:Option Value}{d:V}{d':S_}(r:JK o u)(a:Bf d d'):Bf (o.getD d) (u.getD d'):=by
 cases o with
 |none=>cases u with
  |none=>exact a
  |some _=>exact(show False from r).elim
 |some _=>cases u with
  |none=>exact(show False from r).elim
  |some _=>exact r
theorem KV.val{kvs:List (κ×V)}{vs:List (κ×Value)}(r:KV kvs vs)(k:κ):JK (Bj kvs k) (valueAt vs k):=by
 unfold KV at r;induction r with
 |nil=>exact True.intro
 |@cons p q ps c h t g =>
  obtain⟨d,f⟩:=h;by_cases e:p.1=k
  .have a:q.1=k:=d.symm.trans e;have b:valueAt (q::c) k=some q.2:=by simp[valueAt,O5,a]
   rw[BM e,b];exact f
  .have a:¬q.1=k:=λz=>e (d.trans z);have b:valueAt (q::c) k=valueAt c k:=by simp[valueAt,O5,a]
   rw[BF e,b];exact g
theorem KV.any{kvs:List (κ×V)}{vs:List (κ×Value)}(r:KV kvs vs)(k:κ):(kvs.any λa=>decide (a.1=k))=vs.any λa=>decide (a.1=k):=by
 unfold KV at r;induction r with
 |nil=>rfl
 |cons h t b=>rw[S7,S7,b,h.1]
theorem KV.repl{kvs:List (κ×V)}{vs:List (κ×Value)}(r:KV kvs vs)(k:κ){y:V}{u:S_}(f:Bf y u) :
  KV (kvs.map λa=>if a.1=k then(a.1,y)else a) (vs.map λa=>if a.1=k then(a.1,u)else a):=by
 unfold KV at r⊢;induction r with
 |nil=>exact .nil
 |@cons p q ps g h t d =>
  rw[F4,F4];refine .cons ?_ d;obtain⟨b,c⟩:=h;by_cases e:p.1=k
  .rw[K0 e,K0 (b.symm.trans e)];exact⟨b,f⟩
  .rw[X7 e,X7 (λz=>e (b.trans z))];exact⟨b,c⟩
theorem KV.put{kvs:List (κ×V)}{vs:List (κ×Value)}(r:KV kvs vs)(k:κ){y:V}{u:S_}(a:Bf y u):KV (Dy kvs k y) (stored vs k u):=by
 unfold Dy stored;rw[r.any k];by_cases e:(vs.any λb=>decide (b.1=k))=true
 .rw[K0 e,K0 e];exact r.repl k a
 .rw[X7 e,X7 e];exact A2b r ⟨rfl,a⟩
theorem KV.length{kvs:List (κ×V)}{vs:List (κ×Value)}(r:KV kvs vs):kvs.length=vs.length:=K9 r
end
theorem Uv{P:N_}{w:Q_}{k:Key}{u:S_}(r:Bf (kV k) u):(CA P w).is k u=true:=by
 cases k with
 |inl i=>obtain⟨t,e⟩:=(show ∃t,u=Value.int i t from r);subst e;exact Us P w i t
 |inr x=>obtain⟨t,e⟩:=(show ∃t,u=Value.str x t from r);subst e;exact Ur P w x t
theorem Rp{P:N_}{w:Q_}:∀{ks:List Key}{us:F_},AS (ks.map kV) us->ItemsAre (CA P w) ks us
|[],_,r=>by rw[Z7]at r;cases r;exact .nil
|k::ks,_,r=>by
 rw[F4]at r;cases r with
 |cons h t=>exact .cons (Uv h) (Rp t)
abbrev KT(H:Hp):List (List Key×V)->List (List Key×Addr×Value)->Prop:=Paired λp q=>p.1=q.1/\H q.2.1=some (.tup (p.1.map kV))/\Bf p.2 q.2.2
theorem KT.val{H:Hp}{kvs:List (List Key×V)}{xs:List (List Key×Addr×Value)}(r:KT H kvs xs)(k:List Key):JK (Bj kvs k) ((atKey xs k).map (·.2)):=by
 induction r with
 |nil=>exact True.intro
 |@cons p q ps c h t g =>
  obtain⟨d,_,f⟩:=h;by_cases e:p.1=k
  .have a:q.1=k:=d.symm.trans e;have b:atKey (q::c) k=some q.2:=by simp[atKey,O5,a]
   rw[BM e,b];exact f
  .have a:¬q.1=k:=λz=>e (d.trans z);have b:atKey (q::c) k=atKey c k:=by simp[atKey,O5,a]
   rw[BF e,b];exact g
theorem KT.repl{H:Hp}{kvs:List (List Key×V)}{xs:List (List Key×Addr×Value)}(r:KT H kvs xs)(k:List Key){y:V}{u:S_}(g:Bf y u) :
  KT H (kvs.map λb=>if b.1=k then(b.1,y)else b) (xs.map (putAt k u)):=by
 induction r with
 |nil=>exact .nil
 |@cons p q ps i h t f =>
  rw[F4,F4];refine .cons ?_ f;obtain⟨a,c,d⟩:=h;unfold putAt;by_cases e:p.1=k
  .rw[K0 e,K0 (a.symm.trans e)];exact⟨a,c,g⟩
  .rw[X7 e,X7 (λz=>e (a.trans z))];exact⟨a,c,d⟩
theorem KT.put{H:Hp}{kvs:List (List Key×V)}{xs:List (List Key×Addr×Value)}(r:KT H kvs xs)(k:List Key){b:R_}{y:V}{u:S_}(c:H b=some (.tup (k.map kV)))(a:Bf y u) :
  KT H (Dy kvs k y) (storedH xs k b u):=by
 have e:(kvs.any λd=>decide (d.1=k))=(atKey xs k).isSome:=by
  rw[Fn,(r.val k).isSome_eq,Option.isSome_map]
 unfold Dy storedH;rw[e];by_cases q:(atKey xs k).isSome=true
 .rw[K0 q,K0 q];exact r.repl k a
 .rw[X7 q,X7 q];exact A2b r ⟨rfl,c,a⟩
theorem KT.keeps{H a:Hp}{kvs:List (List Key×V)}{xs:List (List Key×Addr×Value)}(r:KT H kvs xs)(c:∀b ys,H b=some (.tup ys)->a b=some (.tup ys)):KT a kvs xs :=
 Paired.mapP r λ_ _ z=>⟨z.1,c _ _ z.2.1,z.2.2⟩
section
variable{P:N_}{w:Q_}{H:Hp}{h:T_}{a:R_}
theorem rd_of{u:HO}(ok:HOk P w H h)(e:Rd H a u):BQ P w H h a u:=e.ok ok
theorem Rx{kvs:List (Key×V)}(ok:HOk P w H h)(e:Rd H a (.dK kvs)):kvs.length<=sizeLine/\(a==sysModules)=false/\∃vs,KV kvs vs/\h.DictOf (CA P w) a vs :=
 show BQ P w H h a (.dK kvs)from rd_of ok e
theorem dk_of{kvs:List (Key×V)}(ok:HOk P w H h)(e:H a=some (.dK kvs)):kvs.length<=sizeLine/\(a==sysModules)=false/\∃vs,KV kvs vs/\h.DictOf (CA P w) a vs:=Rx ok (.inl e)
theorem Qq{ks:List Key}(ok:HOk P w H h)(e:H a=some (.tup (ks.map kV))):(tupleKind (CA P w)).is h ks a:=by
 obtain⟨_,b,r,o,c,d,n,f⟩:=(show BQ P w H h a (.tup (ks.map kV))from ok a _ e)
 exact⟨o,b.toArray,n,c,d,f,by simpa using Rp r⟩
theorem Rv{kvs:List (List Key×V)}(ok:HOk P w H h)(e:Rd H a (.dT kvs)):kvs.length<=sizeLine/\(a==sysModules)=false /\
  ∃xs,KT H kvs xs/\h.DictOfH (tupleKind (CA P w)) a xs:=by
 obtain⟨z,y,xs,r,o,f,d,g,i,j,k,n⟩:=(show BQ P w H h a (.dT kvs)from rd_of ok e)
 refine⟨z,y,xs,r,o,f,d,g,i,j,k,λx b=>?_,n⟩;have all:∀{l:List (List Key×V)}{m:List (List Key×Addr×Value)},KT H l m->∀x∈m,(tupleKind (CA P w)).is h x.1 x.2.1:=by
  intro l m q;induction q with
  |nil=>intro x b;exact nomatch b
  |@cons p q ps u c t s =>
   intro x b;rcases B7.mp b with e|b
   .subst e;exact Qq ok (by rw[<-c.1];exact c.2.1)
   .exact s x b
 exact all r x b
theorem dt_of{kvs:List (List Key×V)}(ok:HOk P w H h)(e:H a=some (.dT kvs)):kvs.length<=sizeLine/\(a==sysModules)=false /\
 ∃xs,KT H kvs xs/\h.DictOfH (tupleKind (CA P w)) a xs:=Rv ok (.inl e)
end
def IM(H:Hp)(a:R_)(y:V)(r:Option V):Prop :=
 (∃kvs k,Rd H a (.dK kvs)/\y=kV k/\r=Bj kvs k)\/∃kvs k b,Rd H a (.dT kvs)/\y=.ref b/\H b=some (.tup (k.map kV))/\r=Bj kvs k
def LX(H:Hp)(a:R_)(y v:V)(H':Hp):Prop :=
 (∃kvs k,H a=some (.dK kvs)/\y=kV k/\kvs.length<sizeLine/\H'=upd H a (.dK (Dy kvs k v))) \/
 ∃kvs k b,H a=some (.dT kvs)/\y=.ref b/\H b=some (.tup (k.map kV))/\kvs.length<sizeLine/\H'=upd H a (.dT (Dy kvs k v))
theorem IM.k{H:Hp}{a:R_}{kvs:List (Key×V)}{k:Key}(e:H a=some (.dK kvs)):IM H a (kV k) (Bj kvs k):=.inl ⟨kvs,k,.inl e,rfl,rfl⟩
theorem IM.t{H:Hp}{a b:R_}{kvs:List (List Key×V)}{k:List Key}(e:H a=some (.dT kvs))(c:H b=some (.tup (k.map kV))):IM H a (.ref b) (Bj kvs k):=.inr ⟨kvs,k,b,.inl e,rfl,c,rfl⟩
theorem LX.k{H:Hp}{a:R_}{kvs:List (Key×V)}{k:Key}{v:V}(e:H a=some (.dK kvs))(b:kvs.length<sizeLine):LX H a (kV k) v (upd H a (.dK (Dy kvs k v))):=.inl ⟨kvs,k,e,rfl,b,rfl⟩
theorem LX.t{H:Hp}{a b:R_}{kvs:List (List Key×V)}{k:List Key}{v:V}(e:H a=some (.dT kvs))(c:H b=some (.tup (k.map kV)))(d:kvs.length<sizeLine) :
 LX H a (.ref b) v (upd H a (.dT (Dy kvs k v))):=.inr ⟨kvs,k,b,e,rfl,c,d,rfl⟩
section
variable{X:Cx}{pins:A_}{σ:St}{H:Hp}{s:P_}{a:R_}{y v:V}{u r:S_}{o:Option V}{A:Around}{E:B_}
theorem Inv.big(I:Inv X pins σ H s):sysModules<s.heap.objs.size:=by
 have h:mainGlobals<s.heap.objs.size:=(I.mod.glob.keeps I.bk).lt;exact U1 A4 h
theorem Zm{Q:B_}(D:A.units+1<cLine)(I:Inv X pins σ H s)(g:IM H a y (some v))(q:Bf y u)(h:∀f t,Inv X pins σ H t->Bf v f->Q f t) :
  wpAny (model X.prog X.w) A (getItem (.ref a) u) Q E s:=by
 rcases g with ⟨kvs,k,e,j,l⟩|⟨kvs,k,b,e,j,x,l⟩
 .subst j;obtain⟨z,B,vs,c,i⟩:=Rx I.hok e;obtain⟨f,n,d⟩:=JK.some_of (v:=v) (o:=valueAt vs k) (by rw[l];exact c.val k);exact wpAny_getItem_of (Uv q) i.mapOf n (h f _ (I.tok _) d)
 .subst j;cases(show u=Value.ref b from q);obtain⟨z,B,xs,c,i⟩:=Rv I.hok e;obtain⟨f,n,d⟩:=JK.some_of (v:=v) (o:=(atKey xs k).map (·.2)) (by rw[l];exact c.val k);obtain⟨p,C,m⟩:=C9.mp n;refine wpAny_getItem_heap (A5c D) (Qq I.hok x) i C ?_;rw[m];exact h f _ (I.tok _) d
theorem d_notIn{Q:B_}(p:A.units+1<cLine)(I:Inv X pins σ H s)(g:IM H a y o)(j:Bf y u)(h:∀m,Inv X pins σ H m->Q (.bool (!o.isSome)) m) :
  wpAny (model X.prog X.w) A (compareOp .NotIn u (.ref a)) Q E s:=by
 rcases g with ⟨kvs,k,e,f,l⟩|⟨kvs,k,b,e,f,n,l⟩
 .subst f;obtain⟨z,i,vs,c,d⟩:=Rx I.hok e;refine wpAny_notIn_of (Uv j) i d.mapOf ?_;rw[<-(c.val k).isSome_eq,<-l];exact h _ (I.tok _)
 .subst f;cases(show u=Value.ref b from j);obtain⟨z,i,xs,c,d⟩:=Rv I.hok e;refine wpAny_notIn_heap (A5c p) (Qq I.hok n) i d ?_;have q:=(c.val k).isSome_eq;rw[Option.isSome_map]at q;rw[<-q,<-l];exact h _ (I.tok _)
theorem SX{h':T_}{t':Nat}{c:HO}(I:Inv X pins σ H s)(h:Mut (H a))(g:Heap.SameBut a s.heap h')(f:∃q,h'.get? a=some q)(new:BQ X.prog X.w (upd H a c) h' a c) :
  Inv X pins σ (upd H a c) {s with heap:=h',toks:=t'} :=
 I.write (x:=a) (e:=a) h (.inl rfl) (λb q d z=>(g.2 b d).trans z) f new
theorem dk_new{P:N_}{w:Q_}{c:Hp}{h':T_}{kvs:List (Key×V)}{vs:List (Key×Value)}(z:kvs.length<=sizeLine)(e:(a==sysModules)=false)(b:KV kvs vs)(d:h'.DictOf (CA P w) a vs) :
 BQ P w c h' a (.dK kvs):=⟨z,e,vs,b,d⟩
theorem Zl{C:Hp}{Q:Unit->Shared->Prop}(U:A.units+1<cLine)(I:Inv X pins σ H s)(g:LX H a y v C)(K:Bf y u)(G:Bf v r)(h:∀L,Inv X pins σ C L->Q () L) :
  wpAny (model X.prog X.w) A (setItem (.ref a) u r) Q E s:=by
 rcases g with ⟨kvs,k,e,n,l,m⟩|⟨kvs,k,b,e,n,D,l,m⟩
 .subst n m;obtain⟨z,p,vs,d,j⟩:=dk_of I.hok e;have B:vs.length<=sizeLine:=by rw[<-d.length];exact z
  have t:(Dy kvs k v).length<=sizeLine:=by have:=GW kvs k v;lia
  refine wpAny_setItem_pairs (hsz:=B) (Uv K) j λh' f x=>h _ ?_;have T:∃q,h'.get? a=some q:=let ⟨q,_,_,i,_⟩:=f;⟨q,i⟩;exact SX I (by rw[e];exact True.intro) x T (dk_new t p (d.put k G) f)
 .subst n m;cases(show u=Value.ref b from K);obtain⟨z,p,xs,d,j⟩:=dt_of I.hok e;have B:xs.length<=sizeLine:=by rw[<-K9 d];exact z
  have t:(Dy kvs k v).length<=sizeLine:=by have:=GW kvs k v;lia
  refine wpAny_setItem_heap (hsz:=B) (A5c U) (Qq I.hok D) j λh' f x=>h _ ?_;obtain⟨q,N,M,i,O,P,R,_,S⟩:=f;refine SX I (by rw[e];exact True.intro) x ⟨q,i⟩ ⟨t,p,_,(d.put k D G).keeps λc ys F=>?_,q,N,M,i,O,P,R,S⟩;rw[Ax (AE F e (λz=>nomatch z))];exact F
end
def NoSl(i:Expr):Prop:=∀ov iv,subscripted i false ov iv=operate [ov,iv] (getItem ov iv)
theorem subD_of{prog:N_}{w:Q_}{A:Around}{E:B_}{s:P_}{g:Env}{b a:Expr}{pos:Pos}{T id:String}{Q:B_}
  (m:typeLookup (.type T) "__getitem__" = pure (some (.builtin id))) (n:NoSl a)
  (h:wpAny (model prog w) A (eval b g) (λo e=>wpAny (model prog w) A (eval a g) (λi c=>c.TypeIs o T/\wpAny (model prog w) A (getItem o i) Q E c) E e) E s) :
  wpAny (model prog w) A (eval (.Subscript b a pos) g) Q E s:=by
 refine Subscript_ (A1h h (λo e j=>A1h j (λi c d=>?_) λ_ _ x=>x) λ_ _ x=>x);obtain⟨l,d⟩:=d;unfold subscriptTail;refine X6 ?_;rw[getitemInPython_of_ne l.not_modules];refine X6 (wpAny_specialOf l m ?_);have fin:wpAny (model prog w) A (subscripted a false o i) (λr f=>wpAny (model prog w) A (letTemporaryGo b o r >>= λ_=>pure r) Q E f) E c:=by
  rw[n o i];exact wpAny_operating (A1h d (λr f k=>X6 (wpAny_letTemporaryGo (K1 k))) λ_ _ x=>x)
 first
  |exact K1 (X6 fin)
  |exact X6 (K1 (X6 fin))
  |exact X6 fin
theorem UA{X:Cx}{c:A_}{σ:St}{H:Hp}{s:P_}{a:R_}{y:V}{o:Option V}(I:Inv X c σ H s)(g:IM H a y o):s.TypeIs (.ref a) "dict" := by
 rcases g with ⟨kvs,k,e,_,_⟩|⟨kvs,k,b,e,_,_,_⟩
 .obtain⟨_,_,vs,_,d⟩:=Rx I.hok e;exact d.typeIs
 .obtain⟨_,_,xs,_,d⟩:=Rv I.hok e;exact d.typeIs
def tDGet(td ty:TE):TE:=fun σ H Q=>td σ H λx H1=>ty σ H1 λy H2=>∃a v,x=.ref a/\IM H2 a y (some v)/\Q v H2
def tDNotIn(ty td:TE):TE:=fun σ H Q=>ty σ H λy H1=>td σ H1 λx H2=>∃a o,x=.ref a/\IM H2 a y o/\Q (.bl (!o.isSome)) H2
def sDPut(td ty tv:TE):TS:=λD σ H=>tv σ H λv H1=>td σ H1 λx H2=>ty σ H2 λy H3=>∃a H4,x=.ref a/\LX H3 a y v H4/\D.nx σ H4
section
variable{X:Cx}{o i e value:Expr}{pos pos' tpos:Pos}{td ty tv:TE}
theorem Sm(r:X.A.units+1<cLine)(p:PE X o td)(n:PE X i ty)(q:NoSl i):PE X (.Subscript o i pos) (tDGet td ty):=by
 intro b s σ H Q I h;refine subD_of PySem.F.slot_dict_getitem.lookup q (thn (p b s σ H _ I h) λu C ⟨x,f,k,z,t⟩=>thn (n b C σ f _ k t) λD E ⟨y,j,d,B,a,v,m,g,w⟩=>?_);subst m;obtain rfl:u=Value.ref a:=z;exact⟨UA d g,Zm r d g B λK G l c=>⟨v,j,l,c,w⟩⟩
theorem YF(q:X.A.units+1<cLine)(n:PE X i ty)(p:PE X o td):PC X .NotIn i o (tDNotIn ty td):=by
 intro b s σ H Q I h;refine thn (n b s σ H _ I h) λC B c=>?_;obtain⟨y,d,j,z,t⟩:=c;refine thn (p b B σ d _ j t) λu D c=>?_;obtain⟨x,f,k,w,a,r,m,g,v⟩:=c;subst m;obtain rfl:u=Value.ref a:=w;exact d_notIn q k g z λE l=>⟨.bl (!r.isSome),f,l,rfl,v⟩
theorem FM(w:X.A.units+1<cLine)(q:PE X o td)(p:PE X i ty)(z:PE X value tv)(t:swapsWith value (some (.Subscript o i pos')) pos.line X.env=pure false) :
  PS X (.Assign [.Subscript o i pos'] value pos) (sDPut td ty tv):=by
 intro b s σ H D I h;refine wpAny_Assign_Subscript (thn (z b s σ H _ I h) λr L ⟨v,c,j,F,B⟩=>thn (q b L σ c _ j B) λu M ⟨x,d,k,G,C⟩=>thn (p b M σ d _ k C) λO P ⟨y,N,l,K,a,f,n,g,E⟩=>?_) t;subst n;obtain rfl:u=Value.ref a:=G;exact Zl w l g K F λQ m=>⟨σ,f,m,E⟩
end
theorem dk_empty{P:N_}{w:Q_}{H:Hp}(h:T_)(a:sysModules<h.objs.size):BQ P w H (h.push {cls:=.type "dict",data:=.dict #[]}) h.objs.size (.dK []) :=
 ⟨L8 _,beq_eq_false_iff_ne.mpr (K3 (J6 a)),[],.nil,Heap.DictOf.new h⟩
theorem dt_empty{P:N_}{w:Q_}{H:Hp}(h:T_)(a:sysModules<h.objs.size):BQ P w H (h.push {cls:=.type "dict",data:=.dict #[]}) h.objs.size (.dT []) :=
 ⟨L8 _,beq_eq_false_iff_ne.mpr (K3 (J6 a)),[],.nil,_,#[],0,D8 _ rfl,⟨rfl,rfl,rfl⟩,rfl,rfl,Q7⟩
def tDNewK:TE:=λ_ H Q=>∀p,H p=none->Q (.ref p) (upd H p (.dK []))
def tDNewT:TE:=λ_ H Q=>∀p,H p=none->Q (.ref p) (upd H p (.dT []))
section
variable{X:Cx}{pos:Pos}
theorem IC:PE X (.Dict [] [] pos) tDNewK:=λb s σ H Q I h =>
 wpAny_Dict_empty ⟨.ref s.heap.objs.size,_,I.laid (a:=s.heap.objs.size) (o:=.dK []) (t':=s.toks) (λ_ _ q=>B9 _ q) (B8 _) (dk_empty s.heap I.big),rfl,h _ (I.hok.fresh (B8 _))⟩
theorem MW:PE X (.Dict [] [] pos) tDNewT:=λb s σ H Q I h =>
 wpAny_Dict_empty ⟨.ref s.heap.objs.size,_,I.laid (a:=s.heap.objs.size) (o:=.dT []) (t':=s.toks) (λ_ _ q=>B9 _ q) (B8 _) (dt_empty s.heap I.big),rfl,h _ (I.hok.fresh (B8 _))⟩
end
structure M1(X:Cx)(o:Expr)(m:Str)(apos:Pos)(e:Expr)(cpos:Pos):Prop where
base:attributeBase o m X.env (eval o X.env)=eval o X.env
few:((backTo cpos (starEach [e] X.env)).all (λx=>!x.1) && (backToKw cpos (keywordEach [] X.env)).all (λx=>x.1.isSome)
 && decide (([e]:List Expr).length+([]:List Keyword).length+(if([]:List Keyword).isEmpty then 0 else 1)<30))=true
line:(apos.endLine==cpos.line)=true
trees:backTo cpos (starEach [e] X.env)=[(false,eval e X.env)]
def IsD(H:Hp)(a:R_):Prop:=(∃kvs,Rd H a (.dK kvs))\/∃kvs,Rd H a (.dT kvs)
theorem isD_at{X:Cx}{g:A_}{σ:St}{H:Hp}{s:P_}{a:R_}(I:Inv X g σ H s)(d:IsD H a) :
  s.TypeIs (.ref a) "dict" /\ (∀b,Value.ref a=.ref b->∃c,s.heap.get? b=some c/\c.dict=none)/\(a==sysModules)=false:=by
 rcases d with ⟨kvs,e⟩|⟨kvs,e⟩
 .obtain⟨_,j,vs,_,f⟩:=Rx I.hok e;refine⟨f.typeIs,λb q=>?_,j⟩;cases q;obtain⟨c,_,_,h,i,_⟩:=f;exact⟨c,h,i.2.1⟩
 .obtain⟨_,j,xs,_,f⟩:=Rv I.hok e;refine⟨f.typeIs,λb q=>?_,j⟩;cases q;obtain⟨c,_,_,h,i,_⟩:=f;exact⟨c,h,i.2.1⟩
section
variable{X:Cx}{pins:A_}{σ:St}{H:Hp}{s:P_}{a:R_}{y d:V}{u r:S_}{o:Option V}{A:Around}{E:B_}
theorem d_get1{Q:B_}(t:A.units+1<cLine)(I:Inv X pins σ H s)(g:IM H a y o)(m:Bf y u)(h:∀p n,Inv X pins σ H n->Bf (o.getD .non) p->Q p n) :
  wpAny (model X.prog X.w) A (call (.builtin "dict.get") [.ref a,u]) Q E s:=by
 rcases g with ⟨kvs,k,e,i,l⟩|⟨kvs,k,b,e,i,q,l⟩
 .subst i;obtain⟨z,j,vs,c,f⟩:=Rx I.hok e;refine call_meetsIn A5g f.typeIs PySem.F.entry_dict_get (PySem.F.args_dict_get_2 _ _) (meets_dict_get (CA X.prog X.w) a (Uv m) j) ⟨_,f.mapOf,h _ _ (I.tok _) ?_⟩;rw[l];exact(c.val k).getD rfl
 .subst i;cases(show u=Value.ref b from m);obtain⟨z,j,xs,c,f⟩:=Rv I.hok e;refine call_meetsIn A5g f.typeIs PySem.F.entry_dict_get (PySem.F.args_dict_get_2 _ _) (meetsH_dict_get (tupleKind (CA X.prog X.w)) a b j) ⟨A5c t,k,xs,Qq I.hok q,f,h _ _ (I.tok _) ?_⟩;rw[l];exact(c.val k).getD rfl
end
def tDGet1(td ty:TE):TE:=fun σ H Q=>td σ H λx H1=>∃a,x=.ref a/\IsD H1 a/\ty σ H1 λy H2=>∃o,IM H2 a y o/\Q (o.getD .non) H2
section
variable{X:Cx}{o e f:Expr}{apos cpos:Pos}{td ty tx:TE}
theorem IE(v:X.A.units+1<cLine)(t:PE X o td)(r:PE X e ty)(m:M1 X o "get" apos e cpos):PE X (.Call (.Attribute o "get" apos) [e] [] cpos) (tDGet1 td ty):=by
 intro b s σ H Q I h;refine wpAny_Call_method m.base m.few m.line PySem.F.plainAttrs_dict A5g PySem.F.type_dict_get (thn (t b s σ H _ I h) λu D q=>?_);obtain⟨x,j,i,B,a,p,d,w⟩:=q;subst p;obtain rfl:u=Value.ref a:=B;obtain⟨E,G,_⟩:=isD_at i d;refine⟨E,G,?_⟩;rw[m.trees];refine Calls.callWith_builtin rfl (Calls.evalArgs_plain (Calls.spliced_cons (thn (r b D σ j _ i w) λK M ⟨y,k,l,C,L,g,z⟩=>Calls.spliced_nil ?_)));exact d_get1 v l g C λO N n c=>⟨_,k,n,c,z⟩
end
section
variable{κ:Type}[DecidableEq κ]
theorem ZB{kvs:List (κ×V)}{k:κ}(h:Bj kvs k=none):¬k∈kvs.map (·.1):=by
 intro m;obtain⟨p,a,e⟩:=C8.mp m;have q:(kvs.any λb=>decide (b.1=k))=true:=R8.mpr ⟨p,a,X8 e⟩;rw[Fn,h]at q;exact absurd q A6
theorem WL:∀{l:List κ}{k:κ},l.Nodup->¬k∈l->(l++[k]).Nodup
|[],k,_,_=>by simp
|a::r,k,h,hk=>by
 obtain⟨b,c⟩:=M8.mp h;show(a::(r++[k])).Nodup;refine M8.mpr ⟨λm=>?_,WL c λm=>hk (B7.mpr (Or.inr m))⟩;rcases D4.mp m with q|q
 .exact b q
 .exact hk (B7.mpr (Or.inl (C7.mp q).symm))
theorem nd_putK{kvs:List (κ×V)}{k:κ}(v:V)(a:(kvs.map (·.1)).Nodup)(h:Bj kvs k=none):((Dy kvs k v).map (·.1)).Nodup:=by
 rw[IB v h,C3];exact WL a (ZB h)
end
section
variable{X:Cx}
theorem Sl{K:O_}{e:Expr}{f:Str}{a:TE}{pos:Pos}(b:X.K=K)(d:PE X e a)(c:attributeBase e f X.env (eval e X.env)=eval e X.env):PE X (.Attribute e f pos) (tFld K a f):=b▸AB d c
theorem IJ{ns:I_}{a:F_}(f:AS (ns.map V.int) a):∀(i:Nat) v,a.toArray[i]?=some v->∃t,v=.int (ns.getD i 0) t:=λi v e=>by
 have e:a[i]?=some v:=by simpa using e
 cases c:ns[i]? with
 |none =>
  have:a[i]?=none:=f.none_of (by rw[B6,c];rfl);rw[e]at this;cases this
 |some b =>
  obtain⟨u,d,g⟩:=f.get (i:=i) (x:=V.int b) (by rw[B6,c];rfl);rw[e]at d;cases d;rw[C6,c];obtain⟨t,rfl⟩:=g;exact⟨t,rfl⟩
theorem RB(D:X.calm=true):GY X (.builtin "min") (λxs H Q=>∃(p:R_)(ns:I_),xs=[.ref p]/\SqL X.K H p (ns.map V.int)/\ns≠[]/\∀m∈ns,(∀x∈ns,m<=x)->Q (.int m) H):=by
 intro g s σ H xs us Q I r h;obtain⟨p,ns,rfl,F,ne,q⟩:=h;cases r with
 |cons L M =>
  cases M;cases(show _=Value.ref p from L);obtain⟨a,l,pl,N⟩:=I.list F;have d:p<s.heap.objs.size:=by obtain⟨o,n,e,_⟩:=pl;exact D9 e
  have k:p≠s.heap.objs.size:=J6 d;have len:a.toArray.size=ns.length:=by rw[F0,<-l.length,B4]
  have pos:0<ns.length:=T7.mpr ne;refine call_min_walk (A4f pl.isList ?_);refine⟨s.heap.objs.size,_,_,_,_,_,_,rfl,(Walks.list (A:=X.A.in1) (I.ok.hd D) s.heap.objs.size p k a.toArray),⟨⟨_,D8 _ rfl,rfl,rfl⟩,?_⟩,?_,by rw[len];exact pos,CmpOf.ints_lt (λi=>ns.getD i 0) (IJ l),?_⟩
  .exact pl.isList.at λo e=>B9 _ e
  .intro b c;show b<(s.heap.push _).objs.size;rw[P5];rcases B7.mp c with rfl|c
   .exact V6 _
   .rcases B7.mp c with rfl|c
    .exact Z4 d
    .cases c
  .intro v h' tk w kk;have y:Inv X g σ H {s with heap:=h',toks:=tk}:=I.kept λb o e=>kk b o (by intro z;exact J6 (D9 e) (by simpa using z)) (B9 _ e);obtain⟨t,rfl⟩:=IJ l _ _ w;obtain⟨u,b2⟩:=argBest_lt (λi=>ns.getD i 0) (a.toArray.size-1);generalize argBest (λi j=>decide (ns.getD i 0<ns.getD j 0)) (a.toArray.size-1)=z at u b2 w⊢;rw[len]at u b2;have f:z<ns.length:=by lia
   have C:ns.getD z 0=ns[z]:=by rw[C6,C0 f];rfl
   refine⟨.int _,H,y,⟨t,rfl⟩,q _ (by rw[C];exact Q8 f) λx G=>?_⟩;obtain⟨j,E,e⟩:=Y7.mp G;have:=b2 j A0;have B:ns.getD j 0=x:=by rw[C6,C0 E,<-e];rfl
   rw[<-B];exact this
theorem RD(D:X.calm=true):GY X (.builtin "max") (λxs H Q=>∃(p:R_)(ns:I_),xs=[.ref p]/\SqL X.K H p (ns.map V.int)/\ns≠[]/\∀m∈ns,(∀x∈ns,x<=m)->Q (.int m) H):=by
 intro g s σ H xs us Q I r h;obtain⟨p,ns,rfl,F,ne,q⟩:=h;cases r with
 |cons L M =>
  cases M;cases(show _=Value.ref p from L);obtain⟨a,l,pl,N⟩:=I.list F;have d:p<s.heap.objs.size:=by obtain⟨o,n,e,_⟩:=pl;exact D9 e
  have k:p≠s.heap.objs.size:=J6 d;have len:a.toArray.size=ns.length:=by rw[F0,<-l.length,B4]
  have pos:0<ns.length:=T7.mpr ne;refine call_max_walk (A4f pl.isList ?_);refine⟨s.heap.objs.size,_,_,_,_,_,_,rfl,(Walks.list (A:=X.A.in1) (I.ok.hd D) s.heap.objs.size p k a.toArray),⟨⟨_,D8 _ rfl,rfl,rfl⟩,?_⟩,?_,by rw[len];exact pos,CmpOf.ints_gt (λi=>ns.getD i 0) (IJ l),?_⟩
  .exact pl.isList.at λo e=>B9 _ e
  .intro b c;show b<(s.heap.push _).objs.size;rw[P5];rcases B7.mp c with rfl|c
   .exact V6 _
   .rcases B7.mp c with rfl|c
    .exact Z4 d
    .cases c
  .intro v h' tk w kk;have y:Inv X g σ H {s with heap:=h',toks:=tk}:=I.kept λb o e=>kk b o (by intro z;exact J6 (D9 e) (by simpa using z)) (B9 _ e);obtain⟨t,rfl⟩:=IJ l _ _ w;obtain⟨u,b2⟩:=argBest_gt (λi=>ns.getD i 0) (a.toArray.size-1);generalize argBest (λi j=>decide (ns.getD i 0 > ns.getD j 0)) (a.toArray.size-1)=z at u b2 w⊢;rw[len]at u b2;have f:z<ns.length:=by lia
   have C:ns.getD z 0=ns[z]:=by rw[C6,C0 f];rfl
   refine⟨.int _,H,y,⟨t,rfl⟩,q _ (by rw[C];exact Q8 f) λx G=>?_⟩;obtain⟨j,E,e⟩:=Y7.mp G;have:=b2 j A0;have B:ns.getD j 0=x:=by rw[C6,C0 E,<-e];rfl
   rw[<-B];exact this
end
theorem all_same(ns a:I_):((List.range (min ns.length a.length)).all (λj=>ns.getD j 0==a.getD j 0) && ns.length==a.length)=decide (ns=a):=by
 rw[Q0,P4,P3,A6h,decide_eq_true_iff];constructor
 .rintro⟨b,c⟩;refine List.ext_getElem c λi d e=>?_;have:=b i (L7.mpr A0);rw[A6h,C6,C6,C0 d,C0 e]at this;exact this
 .rintro rfl;exact⟨λx _=>beq_iff_eq.mpr rfl,rfl⟩
section
variable{X:Cx}
theorem Yu{H:Hp}{ns:I_}{a:F_}(i:AS (ns.map V.int) a){A:Around}{s:P_}{d:I_}{b:F_}(c:AS (d.map V.int) b)(j:Nat)(g:j<a.toArray.size)(h:j<b.toArray.size):PySem.SeqAt.EqAt A s a.toArray[j] b.toArray[j] (ns.getD j 0==d.getD j 0):=by
 obtain⟨t,e⟩:=IJ i j _ (R9 g);obtain⟨u,f⟩:=IJ c j _ (R9 h);rw[e,f];exact PySem.SeqAt.EqAt.int_int _ t _ u
theorem YH(r:X.A.units+64<cLine):OpR X (compareOp .Eq) (λx y H Q=>∃(a b:R_)(ns c:I_),x=.ref a/\y=.ref b/\SqT X.K H a (ns.map V.int)/\SqT X.K H b (c.map V.int)/\Q (.bl (decide (ns=c))) H):=by
 intro d s σ H x y v u Q I o p h;obtain⟨a,b,ns,c,rfl,rfl,g,i,q⟩:=h;cases o;cases p;obtain⟨xs,e,m,_⟩:=I.tuple g;obtain⟨ys,f,n,_⟩:=I.tuple i;refine PySem.SeqAt.eq_tupleAt m n A0 (λj k l=>Yu (H:=H) e f j k l) ?_;rw[F0,F0,<-e.length,<-f.length,B4,B4,all_same];exact⟨.bl _,H,I,rfl,q⟩
end
section
variable{prog:N_}{w:Q_}{A:Around}{E:B_}{s:P_}{d it:R_}{o:Obj}{es:Array DictEntry}{ep i:Nat}
theorem TV{Q:B_}(f:(d==sysModules)=false)(b:s.heap.get? d=some o)(e:o.ExactDict)(c:o.data=.dict es ep)
  (q:Q (.ref s.heap.objs.size) {s with heap:=s.heap.push {cls:=.type "dict_keyiterator",data:=.fields #[.ref d,.int 0 0,.int es.size 0,.int ep 0]} }):wpAny (model prog w) A (pyIter (.ref d)) Q E s:=by
 have a:s.TypeIs (.ref d) "dict" := ⟨o,b,e.1⟩
 refine wpAny_pyIter_slot a F.slot_dict_iter (A2c F.slot_dict_iter a F.entry_dict_iter ?_ (F.args_dict_iter_1 _));unfold Builtin.«dict.__iter__»;refine X6 ?_;unfold Builtin.Dict.dictSlotNone;refine X6 (wpAny_notOrdered_dict a ?_);show wpAny _ _ (pure (Value.ref d)) _ _ s;refine K1 ?_;show wpAny _ _ (Builtin.Dict.showsAll d >>= _) _ _ s;unfold Builtin.Dict.showsAll;rw[X7 (by rw[f];exact D5)];refine X6 (K1 ?_);refine X6 (wpAny_dictEntries b c ?_);refine X6 (wpAny_dictEpoch b c ?_);refine X6 (A3e (K1 ⟨_,rfl,"dict_keyiterator",_,⟨_,D8 _ rfl,rfl⟩,F.slot_dict_keyiterator_next.lookup,?_⟩));simpa[rawInt] using q
theorem raw_next{Q:Option Value->Shared->Prop}(hit:s.heap.IsKeyIter it d i es.size ep)(f:s.heap.get? d=some o)(e:o.data=.dict es ep)(g:i<es.size)
  (q:∀h',h'.IsKeyIter it d (i+1) es.size ep->Heap.SameBut it s.heap h'->Q (some es[i].key) {s with heap:=h'}):wpAny (model prog w) A (pyNext (.ref it)) Q E s:=by
 obtain⟨j,b,h,a⟩:=id hit;unfold pyNext;refine X6 (A3h (wpAny_callSpecial?_slot (name:=Str.ofString "__next__") hit.typeIs A3c (A2c A3c hit.typeIs F.entry_dict_keyiterator_next ?_ (F.args_dict_keyiterator_next_1 _))));refine X6 (K1 ?_);refine X6 ?_;refine X6 ?_
 (first|refine X6 (A2g hit.typeIs (K1 ?_))|refine X6 (A4b hit.typeIs (K1 ?_)));refine X6 (wpAny_fieldsOf b a ?_)
 have c:Builtin.Dict_items.ownsTuple "dict_keyiterator" = false:=A4;simp only[c,O2,A3f];show wpAny _ _ (if(Value.ref d==Value.none)=true then _ else _) _ _ s;rw[X7 (show ¬((Value.ref d==Value.none)=true)from D5)];refine X6 (K1 ?_);refine X6 (wpAny_dictEntries f e ?_);rw[X7 A6];refine X6 (K1 ?_);refine X6 (wpAny_dictEpoch f e ?_);rw[X7 A6];refine K1 ?_;simp only[show ¬((i:Int)<0)from by lia,A3f,J7,R9 g];refine X6 ?_
 (first|refine X6 (A2g hit.typeIs (K1 ?_))|refine X6 (A4b hit.typeIs (K1 ?_)));refine X6 (wpAny_isOneOf_keyiter hit.typeIs ?_)
 show wpAny _ _ (setField (.ref it) 1 (rawInt ((i:Int)+1)) >>= _) _ _ s;refine X6 (A7a b a A6 ?_);have next:(s.heap.update it (Obj.mapFields (·.setIfInBounds 1 (rawInt ((i:Int)+1))))).IsKeyIter it d (i+1) es.size ep:=⟨_,W8 _ b (Obj.isFreed_of_fields (A5b a _)),(Obj.cls_mapFields ..).trans h,by rw[A5b a];simp[rawInt]⟩
 refine X6 (A3d ?_);refine X6 (wpAny_isOneOf_keyiter (s:={s with heap:=s.heap.update it (Obj.mapFields (·.setIfInBounds 1 (rawInt ((i:Int)+1))))}) next.typeIs ?_);show wpAny _ _ (pure es[i].key) _ _ _;exact K1 (K1 ⟨_,rfl,K1 (q _ next (A4h ..))⟩)
theorem raw_end{Q:Option Value->Shared->Prop}(j:A.handled=none)(hit:s.heap.IsKeyIter it d i es.size ep)(h:s.heap.get? d=some o)(g:o.data=.dict es ep)(k:es.size<=i)
  (q:∀h',Heap.ExtBut it s.heap h'->Q none {s with heap:=h'}):wpAny (model prog w) A (pyNext (.ref it)) Q E s:=by
 obtain⟨n,c,l,f⟩:=id hit;unfold pyNext;refine X6 (A3h (wpAny_callSpecial?_slot (name:=Str.ofString "__next__") hit.typeIs A3c (A2c A3c hit.typeIs F.entry_dict_keyiterator_next ?_ (F.args_dict_keyiterator_next_1 _))));refine X6 (K1 ?_);refine X6 ?_;refine X6 ?_
 (first|refine X6 (A2g hit.typeIs (K1 ?_))|refine X6 (A4b hit.typeIs (K1 ?_)));refine X6 (wpAny_fieldsOf c f ?_)
 have e:Builtin.Dict_items.ownsTuple "dict_keyiterator" = false:=A4;simp only[e,O2,A3f];show wpAny _ _ (if(Value.ref d==Value.none)=true then _ else _) _ _ s;rw[X7 (show ¬((Value.ref d==Value.none)=true)from D5)];refine X6 (K1 ?_);refine X6 (wpAny_dictEntries h g ?_);rw[X7 A6];refine X6 (K1 ?_);refine X6 (wpAny_dictEpoch h g ?_);rw[X7 A6];refine K1 ?_;simp only[show ¬((i:Int)<0)from by lia,A3f,J7,Array.getElem?_eq_none k];refine X6 ?_
 (first|refine X6 (A2g hit.typeIs (K1 ?_))|refine X6 (A4b hit.typeIs (K1 ?_)))
 show wpAny _ _ (setField (.ref it) 0 .none >>= _) _ _ s;refine X6 (A7a c f A6 ?_);show wpAny _ _ (newExc (.type "StopIteration") [] >>= _) _ _ _;refine X6 ?_;simp only[newExc,newTuple];refine X6 (A3e ?_ (by size_fits));refine X6 (m:=firstArgMember _ _) (wpAny_of_eq (a:=Value.none) (by first|rfl|(simp only[firstArgMember];rfl)) ?_);refine A3e ?_ (by size_fits);simp only[raiseNew];refine X6 (wpAny_handled ?_);rw[show A.in1.handled=none from j];refine X6 (K1 (wpAny_throw ?_));refine X6 (wpAny_isInstance (T:="StopIteration") (b:=true) ⟨_,D8 _ rfl,rfl⟩ isSubtype_stop ?_);exact K1 (q _ (((A4h ..).extBut.push _).push _))
end
def Itd(a:R_)(o:Obj)(kvs:List (List Key×V)):It :=
 ⟨λi H=>H a=some (.frz o (.dT kvs))/\i<kvs.length,λi H x H'=>H'=H/\∃b k v,x=.ref b/\kvs[i]?=some (k,v)/\H b=some (.tup (k.map kV)),λi H=>H a=some (.frz o (.dT kvs))/\kvs.length<=i⟩
theorem frz_dT{P:N_}{w:Q_}{H:Hp}{h:T_}{a:R_}{o:Obj}{kvs:List (List Key×V)}(ok:HOk P w H h)(e:H a=some (.frz o (.dT kvs))) :
  h.get? a=some o/\∃(xs:List (List Key×Addr×Value))(b:Array DictEntry)(c:Nat),KT H kvs xs/\o.data=.dict b c/\b.toList=xs.map (entryOfKey (tupleKind (CA P w))):=by
 obtain⟨d,z,y,xs,r,o',b,c,f,j,g,i,k⟩:=(show BQ P w H h a (.frz o (.dT kvs))from ok a _ e)
 rw[d]at f;cases f;exact⟨d,xs,b,c,r,g,i⟩
theorem KT.at_{H:Hp}:∀{kvs:List (List Key×V)}{xs:List (List Key×Addr×Value)}{i:Nat}{x:List Key×Addr×Value},KT H kvs xs->xs[i]?=some x->∃v,kvs[i]?=some (x.1,v)/\H x.2.1=some (.tup (x.1.map kV)):=by
 intro kvs xs i x r;induction r generalizing i with
 |nil=>intro e;simp at e
 |@cons p q ps g h t f =>
  intro e;cases i with
  |zero =>
   have e:q=x:=by simpa using e
   subst e;obtain⟨a,d,_⟩:=h;exact⟨p.2,by rw[List.getElem?_cons_zero,<-a],by rw[<-a];exact d⟩
  |succ i =>
   obtain⟨v,b,c⟩:=f (i:=i) (by simpa using e);exact⟨v,by simpa using b,c⟩
theorem Pj{P:N_}{w:Q_}{K:O_}{tg:Expr}(a it:R_)(o:Obj)(kvs:List (List Key×V))(n:Array DictEntry)(N:Nat)(t:o.data=.dict n N)(hz:n.size=kvs.length):QV P w K tg (Itd a o kvs) [it] it (λi h=>h.IsKeyIter it a i n.size N) where
 mem:=by simp
 obj:=λi h f b j=>by
  obtain rfl:b=it:=by simpa using j
  obtain⟨o,e,c,d⟩:=f;exact⟨o,e,λv z=>(by rw[d]at z;cases z)⟩
 keep:=λi h h' f k=>f.at λo e=>k it A6 o e
 item:=by
  intro X D L C O i g s σ H E I r f F;subst D L C;obtain⟨G,hi⟩:=F;obtain⟨B,xs,aa,Z,kt,m,M⟩:=frz_dT I.hok G;rw[t]at m;cases m;have l:i<n.size:=by lia
  obtain⟨u,x,f2,y,f4,A⟩:=r it A6;refine raw_next f B t l λh' p sb=>?_;have R:Inv X g σ H {s with heap:=h'}:=I.turned (t':=s.toks) (λb o j e=>(sb.2 b j).trans e) u x y f4 A
  have Q:i<xs.length:=by rw[<-size_of_entries M];exact l
  obtain⟨v,S,T⟩:=KT.at_ kt (C0 Q);have Y:n[i].key=.ref xs[i].2.1:=by
   have:=entry_at M i;rw[R9 l,C0 Q]at this;rw[K4 this];rfl
  obtain⟨q,e,c,d⟩:=id p;exact⟨_,rfl,Ux (s:={s with heap:=h'}) e c d A4 ⟨.ref xs[i].2.1,H,R,Y,⟨rfl,_,_,v,rfl,S,T⟩,p,λb j=>(r b j).1⟩⟩
 done:=by
  intro X D L C O i g s σ H E I r f F;subst D L C;obtain⟨G,hi⟩:=F;obtain⟨B,_⟩:=frz_dT I.hok G;obtain⟨u,x,f2,y,f4,A⟩:=r it A6;exact raw_end (I.ok.hd O) f B t A0 λh' U=>⟨rfl,I.turned (t':=s.toks) (λb o j e=>U b o j e) u x y f4 A⟩
 self:=λ_ _ _ _ _ f h=>wpAny_pyIter_keyiter f h
theorem for_dT{a:R_}{o:Obj}{kvs:List (List Key×V)}{g:TG}{q:TS}{D:NB}{σ:St}{H:Hp}(c:Nat->St->Hp->Prop)(t:c 0 σ H)(y:∀i σ H,i<=kvs.length->c i σ H->H a=some (.frz o (.dT kvs)))
  (A:∀i b k v σ H,kvs[i]?=some (k,v)->H b=some (.tup (k.map kV))->c i σ H->g (.ref b) σ H fun f h=>q {D with nx:=c (i+1),ct:=c (i+1),bk:=D.nx} f h) (u:∀σ H,c kvs.length σ H->D.nx σ H) :
  ∃W:Nat->Nat->St->Hp->Prop,(∃m,W 0 m σ H)/\∀i m σ H,W i m σ H ->
   ((Itd a o kvs).stop i H/\D.nx σ H)\/((Itd a o kvs).go i H/\∃N:St->Hp->Prop,(∀σ' d,N σ' d->∃n,n<m/\W (i+1) n σ' d)/\∀x d,(Itd a o kvs).yld i H x d->g x σ d fun f h=>q {D with nx:=N,ct:=N,bk:=D.nx} f h):=by
 refine⟨λi m σ H=>m=kvs.length-i/\i<=kvs.length/\c i σ H,⟨kvs.length,by simp,L8 _,t⟩,?_⟩;rintro i m σ H ⟨rfl,w,p⟩;have e:=y i σ H w p;by_cases l:i<kvs.length
 .refine .inr ⟨⟨e,l⟩,c (i+1),fun σ' d z=>⟨_,by lia,rfl,by lia,z⟩,?_⟩;rintro x d ⟨rfl,b,k,v,rfl,r,s⟩;exact A i b k v σ _ r s p
 .have j:i=kvs.length:=by lia
  subst j;exact .inl ⟨⟨e,B8 _⟩,u σ H p⟩
section
variable{X:Cx}
def CDivB(i j:Int):Prop:=0<j/\j<2^64
theorem Na:OpR X (binaryOp .FloorDiv) (rI CDivB λi j=>.int (i/j)):=opI λi j _ _ _ _ _ a q=>by
 have c:(0:Int)<j:=a.1;have d:j<2^64:=a.2;refine floordiv_int A0 (by rw[U7 i A0];exact q) (.inl (PyProof.noPylong_of_log2 ?_));have b:j.natAbs<2^64:=by lia
 exact F5 ((Nat.log2_lt A0).mpr b) A4
end
end L2
namespace L2
open PySem PySem.W PyProof.Rows
section
variable{rk:Nat->Int}{n:Nat}
def rkC(rk:Nat->Int)(n i j:Nat)(C:Bool->Shared->Prop)(s:P_):Prop:=i<n/\j<n/\C (decide (rk i<rk j)) s
structure CD(n:Nat)(p:Array Nat):Prop where
sz:p.size=n
pm:p.Perm (List.range n).toArray
def kk(rk:Nat->Int)(p:Array Nat)(i:Nat):Int:=rk (p.getD i 0)
theorem CD.lt{p:Array Nat}(h:CD n p){i:Nat}(b:i<n):p.getD i 0<n:=by
 have a:i<p.size:=by rw[h.sz];exact b
 have e:p.getD i 0=p[i]:=by simp[Array.getD,a]
 have m:p[i]∈p:=Array.getElem_mem a;have:=(Array.Perm.mem_iff h.pm).mp m;rw[e]
 simpa using this
theorem CD.rev{p:Array Nat}(h:CD n p)(i j:Nat):CD n (kas_rev p i j):=⟨(mirror_size _ _ _ _).trans h.sz,(mirror_perm _ _ _ _).trans h.pm⟩
theorem CD.bub{p:Array Nat}(h:CD n p)(i j:Nat):CD n (bubble p i j):=⟨(bubble_size _ _ _).trans h.sz,(bubble_perm _ _ _).trans h.pm⟩
theorem gd(p:Array Nat)(i:Nat):p.getD i 0=p[i]?.getD 0:=by
 simp
theorem SK{p:Array Nat}(h:CD n p){i j:Nat}(a:j<=n)(k:Nat):kk rk (kas_rev p i j) k=if i<=k/\k<j then kk rk p (i+j-1-k)else kk rk p k:=by
 have e:=getElem?_mirror_all (xs:=p) (i:=i) (by rw[h.sz];exact a) k;unfold kk kas_rev;rw[gd,e];split<;>rw[gd]
theorem kk_bub{p:Array Nat}(h:CD n p){a d:Nat}(c:a<n)(b:d<=a)(k:Nat):kk rk (bubble p a d) k=if k=a-d then kk rk p a else if a-d<k/\k<=a then kk rk p (k-1)else kk rk p k:=by
 have e:=getElem?_bubble (xs:=p) (by rw[h.sz];exact c) d b k;unfold kk;rw[gd,e];split
 .rw[gd]
 .split<;>rw[gd]
def Up(rk:Nat->Int)(p:Array Nat)(m:Nat):Prop:=∀i j,i<=j->j<m->kk rk p i<=kk rk p j
def Dn(rk:Nat->Int)(p:Array Nat)(m:Nat):Prop:=∀i j,i<=j->j<m->kk rk p j<=kk rk p i
theorem Up.step{p:Array Nat}{m:Nat}(h:Up rk p m)(c:1<=m)(q:kk rk p (m-1)<=kk rk p m):Up rk p (m+1):=λi j b a=>by
 rcases O3.mp a with z|z
 .exact h i j b z
 .subst z;rcases Z5 i j with y|y
  .exact X4 (h i (j-1) A0 A0) q
  .have:i=j:=by lia
   subst this;exact R7 _
theorem Dn.step{p:Array Nat}{m:Nat}(h:Dn rk p m)(c:1<=m)(q:kk rk p m<=kk rk p (m-1)):Dn rk p (m+1):=λi j b a=>by
 rcases O3.mp a with z|z
 .exact h i j b z
 .subst z;rcases Z5 i j with y|y
  .exact X4 q (h i (j-1) A0 A0)
  .have:i=j:=by lia
   subst this;exact R7 _
theorem VW{p:Array Nat}(a:CD n p):∀{f m:Nat}{s:P_}{Q:Nat->Shared->Prop},1<=m->m+f<=n->Up rk p m->(∀r,m<=r->r<=m+f->Up rk p r->(r<m+f->kk rk p r<kk rk p (r-1))->Q r s)->(kas_asc p f m).kasWp (rkC rk n) Q s
|0,m,s,Q,h1,hf,up,k=>k m (B8 _) (B8 _) up λz=>absurd z (O9 _)
|f+1,m,s,Q,h1,hf,up,k=>by
 refine⟨a.lt A0,a.lt A0,?_⟩;by_cases c:kk rk p m<kk rk p (m-1)
 .rw[X8 (show rk (p.getD m 0)<rk (p.getD (m-1) 0)from c)];dsimp only;rw[K0 rfl];exact k m (B8 _) A0 up λ_=>c
 .rw[X9 (show ¬rk (p.getD m 0)<rk (p.getD (m-1) 0)from c)];dsimp only;rw[X7 A6];exact VW a A0 A0 (up.step h1 A0) λr e g b d=>k r A0 A0 b λz=>d A0
theorem PH{p:Array Nat}(b:CD n p){m q:Nat}(a:m<=n)(c:q+1<=m)(eq:∀i,m-(q+1)<=i->i<m->kk rk p i=kk rk p (m-1))(k:Nat):kk rk (kas_rev p (m-(q+1)) m) k=kk rk p k:=by
 rw[SK b a];split
 .rename_i z;rw[eq _ A0 A0,eq k z.1 z.2]
 .rfl
theorem Pe:∀{f m q:Nat}{p:Array Nat}{s:P_}{Q:Array Nat×Nat×Nat->Shared->Prop},CD n p->q+1<=m->m+f<=n->Dn rk p m->(∀i,m-(q+1)<=i->i<m->kk rk p i=kk rk p (m-1)) ->
 (∀a b h,CD n a->h+1<=b->b<=n->Dn rk a b->(∀i,b-(h+1)<=i->i<b->kk rk a i=kk rk a (b-1))->Q (a,b,h) s)->(kas_desc f p m q).kasWp (rkC rk n) Q s
|0,m,q,p,s,Q,pn,hq,hf,dn,eq,k=>k p m q pn hq hf dn eq
|f+1,m,q,p,s,Q,pn,hq,hf,dn,eq,k=>by
 refine⟨pn.lt A0,pn.lt A0,?_⟩;have one:∀{a:Array Nat},∀i,m+1-(0+1)<=i->i<m+1->kk rk a i=kk rk a (m+1-1):=λi l o=>by
  have:i=m+1-1:=by lia
  rw[this]
 by_cases c:kk rk p m<kk rk p (m-1)
 .rw[X8 (show rk (p.getD m 0)<rk (p.getD (m-1) 0)from c)];dsimp only;rw[K0 rfl];by_cases g:q > 0
  .rw[K0 g];have same:=PH pn A0 hq eq;refine Pe (pn.rev _ _) A0 A0 ?_ one k;refine Dn.step (λi j t r=>?_) A0 ?_
   .rw[same i,same j];exact dn i j t r
   .rw[same m,same (m-1)];lia
  .rw[X7 g];exact Pe pn A0 A0 (dn.step A0 A0) one k
 .rw[X9 (show ¬rk (p.getD m 0)<rk (p.getD (m-1) 0)from c)];dsimp only;rw[X7 A6];refine⟨pn.lt A0,pn.lt A0,?_⟩;by_cases d:kk rk p (m-1)<kk rk p m
  .rw[X8 (show rk (p.getD (m-1) 0)<rk (p.getD m 0)from d)];dsimp only;rw[K0 rfl];exact k p m q pn hq A0 dn eq
  .rw[X9 (show ¬rk (p.getD (m-1) 0)<rk (p.getD m 0)from d)];dsimp only;rw[X7 A6];have e:kk rk p m=kk rk p (m-1):=by lia
   refine Pe pn A0 A0 (dn.step A0 A0) (λi l o=>?_) k;rw[Z2];by_cases z:i=m
   .rw[z]
   .rw[eq i A0 A0,e]
theorem Wg{m:Nat}{p:Array Nat}{s:P_}{Q:Nat×Array Nat->Shared->Prop}(a:CD n p)(e:1<=m)(c:m<=n)(d:Dn rk p m)(k:∀r b,CD n b->r<=n->1<=r->Up rk b r->Q (r,b) s):(kas_tail3 m n p).kasWp (rkC rk n) Q s:=by
 unfold kas_tail3;rw[KasT.kasWp_bind];refine VW (a.rev _ _) e A0 (λi j o l=>?_) λr g h f _=>k r _ (a.rev _ _) A0 A0 f;rw[SK a c,SK a c,K0 ⟨by lia,by lia⟩,K0 ⟨by lia,by lia⟩];exact d _ _ A0 A0
theorem WF{m:Nat}{p:Array Nat}{s:P_}{Q:Nat×Array Nat->Shared->Prop}(l:CD n p)(t:m+1<=n)(f:Dn rk p (m+1))(k:∀r d,CD n d->r<=n->1<=r->Up rk d r->Q (r,d) s):(kas_descPart m n p).kasWp (rkC rk n) Q s:=by
 unfold kas_descPart;rw[KasT.kasWp_bind];refine Pe l A0 A0 f (λi o q=>?_) λd u v b e a c eq=>?_
 .have:i=m+1-1:=by lia
  rw[this]
 .dsimp only;split
  .refine Wg (b.rev _ _) A0 a (λi j h g=>?_) k;rw[PH b a e eq,PH b a e eq];exact c i j h g
  .exact Wg b A0 a c k
theorem count_wp{p:Array Nat}{s:P_}{Q:Nat×Array Nat->Shared->Prop}(d:CD n p)(x:1<=n)(k:∀r m,CD n m->r<=n->1<=r->Up rk m r->Q (r,m) s):(kas_count n p).kasWp (rkC rk n) Q s:=by
 unfold kas_count;rw[KasT.kasWp_bind];have o:Up rk p 1:=λi j t l=>by
  have f:i=0:=by lia
  have g:j=0:=by lia
  rw[f,g];exact R7 _
 refine VW d (B8 _) A0 o λr f g h w=>?_;by_cases e:r=n
 .rw[K0 (by simpa using e)];exact k r p d A0 f h
 .rw[X7 (by simpa using e)];have v:=w A0;by_cases q:r > 1
  .rw[K0 q];refine⟨d.lt A0,d.lt A0,?_⟩;by_cases c:kk rk p 0<kk rk p (r-1)
   .rw[X8 (show rk (p.getD 0 0)<rk (p.getD (r-1) 0)from c)];dsimp only;rw[K0 rfl];exact k r p d A0 f h
   .rw[X9 (show ¬rk (p.getD 0 0)<rk (p.getD (r-1) 0)from c)];dsimp only;rw[X7 A6];have all:∀i,i<r->kk rk p i=kk rk p (r-1):=λi u=>by
     have a:=h 0 i A0 u;have b:=h i (r-1) A0 A0;lia
    have same:∀i,kk rk (kas_rev p 0 r) i=kk rk p i:=λi=>by
     rw[SK d A0];split
     .rw[all _ A0,all i A0]
     .rfl
    refine WF (d.rev _ _) A0 (Dn.step (λi j t l=>?_) A0 ?_) k
    .rw[same,same,all i A0,all j l];exact R7 _
    .rw[same,same];lia
  .rw[X7 q];have:r=1:=by lia
   subst this;refine WF d A0 (Dn.step (λi j t l=>?_) A0 A0) k;have f:i=0:=by lia
   have g:j=0:=by lia
   rw[f,g];exact R7 _
theorem PM{p:Array Nat}{k:Nat}(g:CD n p)(h:k<n):∀{f l r:Nat}{s:P_}{Q:Nat->Shared->Prop},l<=r->r<=k->r<=l+f->Up rk p k->(∀i,i<l->kk rk p i<=kk rk p k)->(∀i,r<=i->i<k->kk rk p k<=kk rk p i) ->
 (∀t,t<=k->(∀i,i<t->kk rk p i<=kk rk p k)->(∀i,t<=i->i<k->kk rk p k<=kk rk p i)->Q t s)->(kas_place p k f l r).kasWp (rkC rk n) Q s
|0,l,r,s,Q,h1,h2,h3,up,a,b,c=>by
 have:l=r:=by lia
 subst this;exact c l h2 a b
|f+1,l,r,s,Q,h1,h2,h3,up,a,b,c=>by
 unfold kas_place;by_cases e:l ≥ r
 .rw[K0 e];have:l=r:=by lia
  subst this;exact c l h2 a b
 .rw[X7 e];refine⟨g.lt h,g.lt A0,?_⟩;by_cases d:kk rk p k<kk rk p ((l+r)/2)
  .rw[X8 (show rk (p.getD k 0)<rk (p.getD ((l+r)/2) 0)from d)];dsimp only;rw[K0 rfl];refine PM g h A0 A0 A0 up a (λi m j=>?_) c;have:=up ((l+r)/2) i m j;lia
  .rw[X9 (show ¬rk (p.getD k 0)<rk (p.getD ((l+r)/2) 0)from d)];dsimp only;rw[X7 A6];refine PM g h A0 A0 A0 up (λi m=>?_) b c;have:=up i ((l+r)/2) A0 A0;lia
theorem bin_wp:∀{f k:Nat}{p:Array Nat}{s:P_}{Q:Array Nat->Shared->Prop},CD n p->k+f=n->Up rk p k->(∀g,CD n g->Up rk g n->Q g s)->(kas_bin f p k).kasWp (rkC rk n) Q s
|0,k,p,s,Q,pn,e,up,c=>c p pn (by rw[<-e];exact up)
|f+1,k,p,s,Q,pn,e,up,c=>by
 unfold kas_bin;rw[KasT.kasWp_bind];refine PM pn A0 (L8 _) (B8 _) A0 up (λi q=>absurd q (L9 _)) (λi u o=>absurd o A0) λt w a b=>?_;refine bin_wp (pn.bub _ _) A0 (λi j r v=>?_) c;rw[kk_bub pn A0 A0,kk_bub pn A0 A0,show k-(k-t)=t by lia];by_cases h:i=t
 .rw[K0 h];by_cases d:j=t
  .rw[K0 d];exact R7 _
  .rw[X7 d,K0 ⟨by lia,by lia⟩];exact b _ A0 A0
 .rw[X7 h];by_cases l:t<i/\i<=k
  .rw[K0 l,X7 A0,K0 ⟨by lia,by lia⟩];exact up _ _ A0 A0
  .rw[X7 l];by_cases d:j=t
   .rw[K0 d];exact a i A0
   .rw[X7 d];by_cases m:t<j/\j<=k
    .rw[K0 m];exact up _ _ A0 A0
    .rw[X7 m];exact up _ _ r A0
theorem sort_wp{s:P_}{Q:Array Nat->Shared->Prop}(e:1<=n)(c:∀a,CD n a->Up rk a n->Q a s):(kas_sort n).kasWp (rkC rk n) Q s:=by
 unfold kas_sort;rw[KasT.kasWp_bind];refine count_wp ⟨by simp,Array.Perm.refl _⟩ e λr a b g f d=>?_;dsimp only;split
 .rw[show max r 1=r by lia];exact bin_wp b A0 d c
 .have:r=n:=by lia
  subst this;exact c a b d
theorem rk_wp{α:Type}{a:Nat->Nat->(Bool->Shared->Prop)->Shared->Prop}{s:P_}(h:∀i j C,i<n->j<n->C (decide (rk i<rk j)) s->a i j C s):∀{t:KasT α}{Q:α->Shared->Prop},t.kasWp (rkC rk n) Q s->t.kasWp a Q s
|.ret _,_,q=>q
|.ask _ _ _,_,⟨h1,h2,h3⟩=>h _ _ _ h1 h2 (rk_wp h h3)
end
end L2
namespace L2
open PySem PySem.W PySem.Spec PyProof.Rows
def Ft:List Int->List Int->Bool
|[],[]=>false
|[],_::_=>true
|_::_,[]=>false
|a::as,b::bs=>if a=b then Ft as bs else decide (a<b)
theorem Qn:∀a,Ft a a=false
|[]=>rfl
|a::as=>by unfold Ft;rw[K0 rfl];exact Qn as
theorem Nh:∀{a b c:I_},Ft a c=true->Ft a b=true\/Ft b c=true
|[],[],_,h=>.inr h
|[],_::_,_,_=>.inl rfl
|_::_,_,[],h=>by cases h
|a::as,[],c::cs,_=>.inr rfl
|a::as,b::bs,c::cs,h=>by
 unfold Ft at h⊢;by_cases e:a=c
 .subst e;rw[K0 rfl]at h;by_cases d:a=b
  .subst d;rw[K0 rfl,K0 rfl];exact Nh h
  .rw[X7 d,X7 (λz=>d z.symm)];rcases Int.lt_or_gt_of_ne d with z|z
   .exact .inl (X8 z)
   .exact .inr (X8 z)
 .rw[X7 e]at h;have h:=A0d h;by_cases d:a=b
  .subst d;rw[X7 e];exact .inr (X8 h)
  .rw[X7 d];by_cases z:a<b
   .exact .inl (X8 z)
   .by_cases f:b=c
    .lia
    .rw[X7 f];exact .inr (X8 A0)
theorem lexI_asy{a b:I_}(h:Ft a b=true):Ft b a=false:=by
 cases e:Ft b a with
 |false=>rfl
 |true =>
  rcases Nh (b:=b) (show Ft a b=true from h)with z|z
  ·
   have:Ft a a=true\/Ft a a=false:=by cases Ft a a<;>simp
   exact absurd (lexI_two h e) A6
  .rw[Qn]at z;cases z
where lexI_two:∀{a b:I_},Ft a b=true->Ft b a=true->false=true
|[],[],h,_=>h
|[],_::_,_,h=>h
|_::_,[],h,_=>h
|a::as,b::bs,h,h'=>by
 unfold Ft at h h';by_cases c:a=b
 .subst c;rw[K0 rfl]at h h';exact lexI_two h h'
 .rw[X7 c]at h;rw[X7 (λz=>c z.symm)]at h';have:=A0d h;have:=A0d h';lia
def rkOf(rows:List (List Int))(i:Nat):Int:=((rows.countP λr=>Ft r (rows.getD i []):Nat):Int)
theorem Ry{α:Type}{p q:α->Bool}:∀{l:List α}{x:α},x∈l->(∀y,p y=true->q y=true)->p x=false->q x=true->l.countP p<l.countP q
|y::l,x,a,h,hp,hq=>by
 rw[W2,W2];have le:l.countP p<=l.countP q:=List.countP_mono_left λz _=>h z;rcases B7.mp a with rfl|a
 .rw[hp,hq];simp only[O2,A3f,A4g];lia
 .have:=Ry a h hp hq;by_cases b:p y=true
  .rw[b,h y b];lia
  .rw[X7 b];split<;>lia
theorem rk_iff{c:List (List Int)}{i j:Nat}(e:i<c.length):decide (rkOf c i<rkOf c j)=Ft (c.getD i []) (c.getD j []):=by
 have mi:c.getD i []∈c:=by
  rw[C6,C0 e];exact Q8 e
 unfold rkOf;generalize c.getD i []=a at *
 generalize c.getD j []=b;cases h:Ft a b with
 |true =>
  refine X8 ?_;have:=Ry (p:=λr=>Ft r a) (q:=λr=>Ft r b) mi (λy d=>?_) (Qn a) h
  .lia
  .rcases Nh (b:=b) d with z|z
   .exact z
   .rw[lexI_asy h]at z;cases z
 |false =>
  refine X9 ?_;have:=List.countP_mono_left (l:=c) (p:=λr=>Ft r b) (q:=λr=>Ft r a) λy _ d=>?_
  .lia
  .rcases Nh (b:=a) d with z|z
   .exact z
   .rw[h]at z;cases z
section
variable{prog:N_}{w:Q_}{A:Around}{E:B_}
theorem WQ{b:Bool}{Q:Bool->Shared->Prop}{s:P_}:∀{xs ys:I_}{us vs:F_}{i:Nat},AS (xs.map V.int) us->AS (ys.map V.int) vs->Q (Ft xs ys) s->KatLex prog w A b (decide (xs.length<ys.length)) Q (us.zip vs) i s
|[],[],_,_,i,.nil,.nil,q=>q
|[],y::ys,_,_,i,.nil,.cons _ _,q=>by
 show Q (decide (0<ys.length+1)) s;rw[X8 (Nat.succ_pos _)];exact q
|x::xs,[],_,_,i,.cons _ _,.nil,q=>by
 show Q (decide (xs.length+1<0)) s;rw[X9 (L9 _)];exact q
|x::xs,y::ys,u::us,v::vs,i,.cons r1 t1,.cons r2 t2,q=>by
 obtain⟨t,rfl⟩:=(show ∃t,u=.int x t from r1)
 obtain⟨t',rfl⟩:=(show ∃t,v=.int y t from r2)
 refine wpAny_eqBool_int ?_;unfold Ft at q;by_cases e:x=y
 .subst e;rw[K0 rfl]at q;simp only[A4e,A4g];have h:=WQ (b:=b) (i:=i+1) t1 t2 q;rw[show decide ((x::xs).length<(x::ys).length)=decide (xs.length<ys.length) by simp];exact h
 .rw[X7 e]at q;have a:(x==y)=false:=by simpa using e
  simp only[a,O2,A3f];cases b && i==0 with
  |true=>exact oneLt_int q
  |false =>
   exact kat_one _ _ (wpAny_lt_int q)
end
section
variable{X:Cx}
theorem Wc{H:Hp}{h:T_}(ok:HOk X.prog X.w H h){a:List (Addr×List Int)}(l:∀q∈a,H q.1=some (.tup (q.2.map V.int))/\q.2≠[]){i:Nat}(f:i<a.length) :
  ∃(b:R_)(o:Obj)(us:F_)(m:Nat),(a.map λq=>Value.ref q.1).getD i Value.none=.ref b/\h.get? b=some o/\o.cls=.type "tuple" /\ o.data=.seq us.toArray m/\AS (((a.map (·.2)).getD i []).map V.int) us:=by
 have k:=Q8 f;obtain⟨j,p⟩:=l _ k;obtain⟨_,g,r,o,e,c,n,d⟩:=(show BQ X.prog X.w H h _ (.tup _)from ok _ _ j)
 refine⟨_,o,g,n,?_,e,c,d,?_⟩
 .rw[C6,B6,C0 f];rfl
 .rw[C6,B6,C0 f];exact r
theorem Ru{H:Hp}{h:T_}(ok:HOk X.prog X.w H h):∀{a:List (Addr×List Int)},(∀q∈a,H q.1=some (.tup (q.2.map V.int))/\q.2≠[])->∃fs:List Value,KatTups h (a.map λq=>Value.ref q.1) fs/\fs.length=a.length/\∀v∈fs,∃x t,v=.int x t
|[],_=>⟨[],.nil,rfl,λv b=>nomatch b⟩
|q::a,hq=>by
 obtain⟨fs,i,j,k⟩:=Ru ok λp f=>hq p (C5 _ f);obtain⟨e,ne⟩:=hq q (C4 ..);obtain⟨_,m,r,o,g,c,n,d⟩:=(show BQ X.prog X.w H h _ (.tup _)from ok _ _ e)
 match l:q.2,ne with
 |x::xs,_ =>
  rw[l]at r;cases r with
  |@cons _ u _ us s y =>
   obtain⟨t,rfl⟩:=(show ∃t,u=.int x t from s)
   refine⟨.int x t::fs,.cons g c d A6 i,by rw[D6,D6,j],λv b=>?_⟩;rcases B7.mp b with rfl|b
   .exact⟨x,t,rfl⟩
   .exact k v b
end
end L2
namespace L2
open PySem PySem.W PySem.Spec PyProof.Rows
def iDictF(tl:TE):TI:=fun σ H R=>tl σ H λx H1=>∃a kvs,x=.ref a/\Rd H1 a (.dT kvs)/\∀o H2,H2 a=some (.frz o (.dT kvs))->(∀b u,H1 b=some u->b≠a->H2 b=some u)->R (Itd a o kvs) H2
theorem pi_dictF{X:Cx}{P l:Expr}{tl:TE}(M:PE X l tl):PI X P l (iDictF tl):=by
 intro g s σ H R I h;refine thn (M g s σ H _ I h) λv d ⟨x,B,j,O,N⟩=>?_;obtain⟨a,kvs,e,f,q⟩:=N;subst e;cases O;rcases f with f|⟨o,f⟩
 .obtain⟨z,y,xs,r,o,k,p,i,t,m,A,K⟩:=(show BQ X.prog X.w B d.heap a (.dT kvs)from j.hok a _ f)
  have F:k.size=kvs.length:=by rw[size_of_entries A,<-K9 r]
  have C:Inv X g σ (upd B a (.frz o (.dT kvs))) d:=SX (t':=d.toks) j (by rw[f];exact True.intro) ⟨rfl,λ_ _=>rfl⟩ ⟨o,i⟩ ⟨i,z,y,xs,KT.keeps r λc ys G=>(by rw[Ax (AE G f (λz=>nomatch z))];exact G),o,k,p,i,t,m,A,K⟩;refine TV y i t m ?_;refine⟨d.heap.objs.size,[d.heap.objs.size],_,_,_,rfl,C.kept (t':=d.toks) λb o e=>B9 _ e,Pj a _ o kvs k p m F,⟨_,D8 _ rfl,rfl,rfl⟩,λb E=>?_,q o _ Af λb u e n=>by rw[Ax n];exact e⟩;obtain rfl:b=d.heap.objs.size:=by simpa using E
  exact C.fpOk (B8 _) (C.hok.fresh (B8 _))
 .obtain⟨i,z,y,xs,r,o',k,p,D,t,m,A,K⟩:=(show BQ X.prog X.w B d.heap a (.frz o (.dT kvs))from j.hok a _ f)
  have L:o=o':=K4 (i.symm.trans D);subst L;have F:k.size=kvs.length:=by rw[size_of_entries A,<-K9 r]
  refine TV y i t m ?_;refine⟨d.heap.objs.size,[d.heap.objs.size],_,_,_,rfl,j.kept (t':=d.toks) λb o e=>B9 _ e,Pj a _ o kvs k p m F,⟨_,D8 _ rfl,rfl,rfl⟩,λb E=>?_,q o _ f λb u e n=>e⟩;obtain rfl:b=d.heap.objs.size:=by simpa using E
  exact j.fpOk (B8 _) (j.hok.fresh (B8 _))
end L2
namespace L2
open PySem PySem.W PySem.Spec PyProof.Rows
def Pk:Sp:=λvs H Q _=>∃(t:R_)(x y:Int)(r:I_),vs=[.ref t]/\H t=some (.tup ((x::y::r).map V.int))/\∀u,H u=none->Q (.ref u) (upd H u (.tup [.int y,.int x]))
structure It3 where
a:Addr
x:Int
y:Int
r:List Int
def It3.ns(q:It3):List Int:=q.x::q.y::q.r
section
variable{X:Cx}{pins:A_}{σ:St}{H H':Hp}{s:P_}{k:Nat}{f b:R_}{fd:E_}{ps:K_}
theorem DJ.stay(fp:DJ X pins H b)(a:H' b=none):DJ X pins H' b:=⟨a,fp.2⟩
theorem DJ.turn{h':T_}{t':Nat}(fp:DJ X pins H b)(I:Inv X pins σ H s)(kp:∀c o,c≠b->s.heap.get? c=some o->h'.get? c=some o):Inv X pins σ H {s with heap:=h',toks:=t'} :=
 I.turned kp fp.1 fp.2.1 fp.2.2.2.1 fp.2.2.2.2.1 fp.2.2.2.2.2
theorem DJ.nost(fp:DJ X pins H b)(I:Inv X pins σ H s):b∉frs X.stack:=λz=>by
 rcases B7.mp (I.stkSub b z)with y|y
 .exact fp.2.1 y
 .exact fp.2.2.1 y
theorem WR{p:Around}{P:PySem.Fin->Shared->Prop}{E:B_}(I:Inv X pins σ H s){a g:R_}{i c:Nat}{ks h:M_}{m:SortSt}(u:DJ X pins H a)(t:DJ X pins H g)(l:g≠a)(y:s.heap.get? g=some (seqObj "list" ks c))(v:s.heap.get? a=some (seqObj "list" #[] i))(n:(arrOf m).map (·.2)=h)(x:failedOf m=none)(z:h.size<=sizeLine)(A:ks.size<=sizeLine)
  (fin:∀(h':T_)(r:Nat),Inv X pins σ H {s with heap:=h'}->h'.get? a=some (seqObj "list" h r)->P (.done (.ret .none)) {s with heap:=h'}):wpAny (model X.prog X.w) p (ksk_tail a false i (.ref g) m) P E s:=by
 unfold ksk_tail;have q:Inv X pins σ H {s with heap:=s.heap.update g (Obj.mapSeq λ_=>#[])}:=t.turn (t':=s.toks) I λb o j e=>by rw[O7 _ _ _ _ j];exact e
 have d:(s.heap.update g (Obj.mapSeq λ_=>#[])).get? a=some (seqObj "list" #[] i):=by rw[O7 _ _ _ _ (K3 l)];exact v
 refine X6 (listUpdate_at y rfl (X6 (wpAny_letGo (X6 (seqEpoch_at d rfl (X6 (listUpdate_at d rfl ?_ (hsz2:=?_))))))) (hsz:=A))
 .rw[x];simp only[bne_self_eq_false,O2,A3f];rw[n];refine K1 (fin _ _ (u.turn (s:={s with heap:=s.heap.update g (Obj.mapSeq λ_=>#[])}) (t':=s.toks) q λb o j e=>by rw[O7 _ _ _ _ j];exact e) (get?_update_seq d _))
 .simp only[O2,A3f];rw[n];exact Nat.le_succ_of_le z
theorem keyTree {A2:Around} {P:PySem.Fin->Shared->Prop} {E:B_} (F:AL X.prog X.w X.K X.mg X.base CX0 k f fd ps Pk) (hb:CF X.K fd ps []) (hr:Dc k A2) (am:∀s H,OM X.prog X.w X.K X.mg X.base X.A X.stack s H->OM X.prog X.w X.K X.mg X.base A2 X.stack s H) (I:Inv X pins σ H s) {a:R_} {d:List It3} {n:Nat} (ho:s.heap.get? a=some (seqObj "list" (d.map λq=>Value.ref q.a).toArray n)) (fa:DJ X pins H a) (hit:∀q∈d,H q.a=some (.tup (q.ns.map V.int))) (ae:d.length<64)
  (fin:∀(p:Array Nat)(H':Hp)(g:P_)(c:Nat),CD d.length p->Inv X pins σ H' g->(∀b u,H b=some u->H' b=some u)->H' a=none->g.heap.get? a=some (seqObj "list" (p.toList.map λi=>(d.map λq=>Value.ref q.a).getD i Value.none).toArray c)->P (.done (.ret .none)) g) :
  wpAny (model X.prog X.w) A2 (ksk_tree a (.ref f) false) P E s:=by
 have len:(d.map λq=>Value.ref q.a).length=d.length:=B4 _;have ln:d.length<=sizeLine:=D7 (U2 ae) A4;unfold ksk_tree;refine X6 (listItems_at ho rfl (X6 (listUpdate_at ho rfl ?_)));have ⟨M,he1⟩:∃M,(s.heap.update a (Obj.mapSeq λ_=>#[])).get? a=some (seqObj "list" #[] M):=⟨_,get?_update_seq ho _⟩
 have I1:Inv X pins σ H {s with heap:=s.heap.update a (Obj.mapSeq λ_=>#[])}:=fa.turn (t':=s.toks) I λc o hc e=>by rw[O7 _ _ _ _ hc];exact e
 generalize s.heap.update a (Obj.mapSeq λ_=>#[])=O at he1 I1⊢;refine X6 (seqEpoch_at he1 rfl (X6 (wpAny_newTuple (X6 (wpAny_newList (A3d ?_))))));have I2:Inv X pins σ H {s with heap:=O.push (seqObj "tuple" (d.map λq=>Value.ref q.a).toArray 0)}:=I1.kept (t':=s.toks) λb o e=>B9 _ e;have ab:=B9 (seqObj "tuple" (d.map λq=>Value.ref q.a).toArray 0) he1;show wpAny (model X.prog X.w) A2 (ksk_rest a (.ref f) false (d.map λq=>Value.ref q.a).toArray M (.ref (O.push (seqObj "tuple" (d.map λq=>Value.ref q.a).toArray 0)).objs.size)) P E {s with heap:=(O.push (seqObj "tuple" (d.map λq=>Value.ref q.a).toArray 0)).push (seqObj "list" #[] 0)};generalize O.push (seqObj "tuple" (d.map λq=>Value.ref q.a).toArray 0)=l at I2 ab⊢;have fS:DJ X pins H l.objs.size:=I2.fpOk (B8 _) (I2.hok.fresh (B8 _));have af:=B9 (seqObj "list" #[] 0) ab;have ac:(l.push (seqObj "list" #[] 0)).get? l.objs.size=some (seqObj "list" #[] 0):=D8 _ rfl;have I3:Inv X pins σ H {s with heap:=l.push (seqObj "list" #[] 0)}:=I2.kept (t':=s.toks) λb o e=>B9 _ e;have U:l.objs.size≠a:=U0 (D9 ab);generalize l.push (seqObj "list" #[] 0)=h3 at af ac I3⊢;generalize l.objs.size=S at fS ac U⊢;unfold ksk_rest;refine X6 (wpAny_rule ?_);rw[List.forIn_toArray];refine X6 (ksk_fold (λj g=>∃(H':Hp)(us:H_)(c:Nat),Inv X pins σ H' g/\(∀b u,H b=some u->H' b=some u)/\H' a=none/\H' S=none/\g.heap.get? S=some (seqObj "list" (us.map Value.ref).toArray c)/\g.heap.get? a=some (seqObj "list" #[] M)/\us.length=j/\∀(i:Nat) u q,us[i]?=some u->d[i]?=some q->H' u=some (.tup ([q.y,q.x].map V.int))) (d.map λq=>Value.ref q.a) 0 _ ⟨H,[],0,I3,λb u e=>e,fa.1,fS.1,ac,af,rfl,λi u q e=>(nomatch e)⟩ ?_ ?_)
 .rintro j x ⟨hp,gn,dr,tk,os⟩ hx ⟨H',us,c,h,kp,na,nk,hk,ha,L,R⟩;have jl:j<d.length:=by have:=(B5.mp hx).1;rw[len]at this;exact this
  rw[B6]at hx;obtain⟨q,eq,rfl⟩:=C9.mp hx;rw[M4]at L⊢;have N:=fa.stay na;have B:=fS.stay nk;have tq:=kp _ _ (hit q (D0 eq));have aj:Pk [V.ref q.a] H' (λv ak=>∃u,v=.ref u/\H' u=none/\ak=upd H' u (.tup [.int q.y,.int q.x])) E0:=⟨q.a,q.x,q.y,q.r,rfl,tq,λu hu=>⟨u,rfl,hu,rfl⟩⟩
  refine X6 (A3h (wpAny_call (A6c (F.run A2 X.stack _ H' ⟨[Value.ref q.a],[]⟩ ([Value.ref q.a]++[]) [V.ref q.a] _ E0 hr (am _ _ h.env0) (hb _ [Value.ref q.a] h.kIn (F.len _ _ _ _ aj)) (show AS [V.ref q.a] [Value.ref q.a]from .cons rfl .nil) aj) λr as hq=>?_)));cases r with
  |error e=>exact hq.elim
  |ok fl =>
   cases fl with
   |next=>exact hq.elim
   |brk=>exact hq.elim
   |cont=>exact hq.elim
   |ret u =>
    obtain⟨v,H2,ar,Z,un,ah,rv,Y,rfl,an,rfl⟩:=hq;obtain⟨hh,g2,d2,t2,aq⟩:=as;obtain rfl:aq=os:=ar;cases(show _=Value.ref Y from rv);have I4:=h.call (h':=hh) (g':=g2) (d':=d2) (t':=t2) (ch:=[]) un ah Z (λb z=>absurd z A6);have ag:hh.get? S=_:=un.keep _ _ hk nk (B.nost h) A6;have al:hh.get? a=_:=un.keep _ _ ha na (N.nost h) A6;have np:∀{b:R_}{o:HO},H' b=some o->upd H' Y (.tup [.int q.y,.int q.x]) b=some o:=λ{b o} e=>by rw[Ax (Aw e an)];exact e
    have ao:upd H' Y (.tup [.int q.y,.int q.x]) a=none:=un.free _ _ ha na A6;have ai:upd H' Y (.tup [.int q.y,.int q.x]) S=none:=un.free _ _ hk nk A6;have ⟨c2,hk5⟩:∃c2,(hh.update S (Obj.mapSeq (·.push (.ref Y)))).get? S=some (seqObj "list" ((us.map Value.ref).toArray.push (.ref Y)) c2):=⟨_,get?_update_seq ag _⟩
    refine X6 (listUpdate_at ag rfl (K1 ⟨rfl,upd H' Y (.tup [.int q.y,.int q.x]),us++[Y],c2,(B.stay ai).turn (t':=t2) I4 λb o hb e=>by rw[O7 _ _ _ _ hb];exact e,λb o e=>np (kp b o e),ao,ai,?_,?_,by rw[C1,L];rfl,λi u2 q2 eu aa=>?_⟩) (hsz2:=?_))
    .show(hh.update S _).get? S=_;rw[hk5];simp
    .show(hh.update S _).get? a=_;rw[O7 _ _ _ _ (K3 U)];exact al
    .by_cases hi:i<j
     .rw[M0 A0]at eu;exact np (R i u2 q2 eu aa)
     .have:i=j:=by
       have:=(B5.mp eu).1;rw[C1,L]at this;have:i<j+1:=this;lia
      subst this;rw[F8 A0,L,T9]at eu;cases eu;rw[eq]at aa;cases aa;exact Af
    .simp;lia
 .rintro⟨hp,gn,dr,tk,os⟩ ⟨H',us,c,h,kp,na,nk,hk,ha,L,R⟩;rw[M4,len]at L;have N:=fa.stay na;have B:=fS.stay nk;have lk:(us.map Value.ref).length=(d.map λq=>Value.ref q.a).length:=by rw[B4,len,L]
  refine X6 (listItems_at hk rfl ?_);unfold ksk_end;dsimp only;simp only[O2,A3f];have sz:(d.map λq=>Value.ref q.a).toArray.size=d.length:=by rw[F0,len]
  by_cases few:(d.map λq=>Value.ref q.a).toArray.size<2
  .rw[K0 few,K0 few];refine X6 (K1 ?_);rw[StateT.run_pure];refine X6 (K1 ?_);dsimp only;have eo:(arrOf (SortSt.mk' general' ((us.map Value.ref).toArray.zip (d.map λq=>Value.ref q.a).toArray) #[] 7 none)).map (·.2)=((List.range d.length).toArray.toList.map λi=>(d.map λq=>Value.ref q.a).getD i Value.none).toArray:=by
    rw[sz]at few;clear hit fin ho R h hk;show((us.map Value.ref).toArray.zip (d.map λq=>Value.ref q.a).toArray).map (·.2)=_
    match d,us,L,few with
    |[],[],_,_=>simp
    |[v],[u],_,_=>simp
   refine WR (c:=c) h N B U hk ha eo rfl (by simp;lia) (by simp;lia) λh' c' I5 h5=>fin (List.range d.length).toArray H' _ c' ⟨by simp,Array.Perm.refl _⟩ I5 kp na h5
  .rw[X7 few,X7 few];have two:2<=d.length:=by lia
   have D:∀q∈(us.zip (d.map λq=>[q.y,q.x])),H' q.1=some (.tup (q.2.map V.int))/\q.2≠[]:=λq hq=>by
    obtain⟨i,hi⟩:=F7 hq;rw[U9,B6]at hi;obtain⟨O,l⟩:=hi;obtain⟨it,M,e2⟩:=C9.mp l;rw[<-e2];exact⟨R i q.1 it O M,by simp⟩
   have z1:((us.zip (d.map λq=>[q.y,q.x])).map λq=>Value.ref q.1)=us.map Value.ref:=by
    show List.map (Value.ref ∘ Prod.fst) _=_;rw[<-M5];rw[List.map_fst_zip (by rw[B4,L];exact B8 _)]
   have zl:(us.zip (d.map λq=>[q.y,q.x])).length=d.length:=by rw[W6,B4,L,Nat.min_self]
   obtain⟨fs,k1,k2,k3⟩:=Ru h.hok D;rw[z1]at k1;refine X6 (kat_kind (T:=.type "int") k1 (by rw[k2,zl];lia) (λv hv=>?_) rfl ?_)
   .obtain⟨x,t,rfl⟩:=k3 v hv;exact .now
   have ad:(us.map Value.ref).toArray.size<=sizeLine:=by simp;lia
   refine X6 (A1h (kat_run (ks:=us.map Value.ref) (vs:=d.map λq=>Value.ref q.a) (κ:=tuples' true) (Q:=λW g=>g={heap:=hp,gens:=gn,drawn:=dr,toks:=tk,os:=os}/\failedOf W=none/\∃p,CD d.length p/\arrOf W=p.map (kas_item ((us.map Value.ref).toArray.zip (d.map λq=>Value.ref q.a).toArray))) (G:=λp g=>g={heap:=hp,gens:=gn,drawn:=dr,toks:=tk,os:=os}/\CD d.length p) lk (by rw[len];exact two) (by rw[len];exact ae) (λp W g O l h3 h4=>⟨h4.1,h3,p,h4.2,l⟩) ?_) ?_ λ_ _ e=>e)
   .rw[len];refine rk_wp (rk:=rkOf (d.map λq=>[q.y,q.x])) (λi j C hi hj cc=>?_) (sort_wp A0 λp' O l=>⟨rfl,O⟩);obtain⟨b,o,au,m,M,e2,e3,e4,e5⟩:=Wc h.hok D (i:=i) (by rw[zl];exact hi);obtain⟨b',o',av,m',f1,f2,f3,f4,f5⟩:=Wc h.hok D (i:=j) (by rw[zl];exact hj);have z2:((us.zip (d.map λq=>[q.y,q.x])).map (·.2))=d.map λq=>[q.y,q.x]:=List.map_snd_zip (by rw[B4,L];exact B8 _);rw[z1]at M f1;rw[z2]at e5 f5;unfold kas_ask;rw[M,f1];refine kat_lt e2 e4 f2 f4 ?_;rw[rk_iff (by rw[B4];exact hi)]at cc;have:=WQ (prog:=X.prog) (w:=X.w) (A:=A2) (b:=true) (i:=0) e5 f5 cc;have l1:=e5.length;have l2:=f5.length;rw[B4]at l1 l2;rw[F0,F0,<-l1,<-l2];exact this
   rintro⟨⟨⟩,W⟩ g ⟨rfl,hf,p,pn,ea⟩;dsimp only at hf ea⊢;have eo:=kat_snds lk ea;refine WR (c:=c) h N B U hk ha eo hf (by simp only[F0,B4,T8,pn.sz];exact ln) ad λh' c' I5 h5=>fin p H' _ c' pn I5 kp na h5
theorem Za {Q:VK} (F:AL X.prog X.w X.K X.mg X.base CX0 k f fd ps Pk) (E:CF X.K fd ps []) (hr:Dc (k+2) X.A) (I:Inv X pins σ H s) {p:R_} {g:List It3} (P:SqL X.K H p (g.map λq=>V.ref q.a)) (hit:∀q∈g,H q.a=some (.tup (q.ns.map V.int))) (t:g.length<64)
  (q:∀(L:R_)(h:List It3)(H':Hp),(∀b u,H b=some u->H' b=some u)->H' L=none->h.Perm g->Q (.ref L) (upd H' L (.lst (h.map λq=>V.ref q.a)))) :
  wpAny (model X.prog X.w) X.A (call (.builtin "sorted") [.ref p] [("key",.ref f)]) (EP X pins σ Q) X.xe s:=by
 obtain⟨B,T,pl,hz⟩:=I.list P;have Z:B=g.map λq=>Value.ref q.a:=by
  clear pl hz q P t hit;induction g generalizing B with
  |nil=>cases T;rfl
  |cons it g G =>
   cases T with
   |cons W Y =>
    cases(show _=Value.ref it.a from W);rw[F4,G _ Y]
 subst Z;have len:(g.map λq=>Value.ref q.a).length=g.length:=B4 _;have M:g.length<=sizeLine:=D7 (U2 t) A4;refine PyProof.Rows.call_function_entry_kw kind_sorted plain_sorted entry_sorted (ksk_s1 _ _) ?_;unfold Builtin.«sorted»;refine X6 (m:=checkCount "sorted" 1 1 _) (K1 (X6 (collect_list pl.isList (X6 (wpAny_newList ?_ (by rw[len];exact M))) (by rw[len];exact M))));have D:((s.heap.push (seqObj "list" #[] 0)).update s.heap.objs.size (Obj.mapSeq (· ++ (g.map λq=>Value.ref q.a).toArray))).objs.size=s.heap.objs.size+1:=by
  rw[Heap.size_update];exact size_push' ..
 have r:(((s.heap.push (seqObj "list" #[] 0)).update s.heap.objs.size (Obj.mapSeq (· ++ (g.map λq=>Value.ref q.a).toArray))).push (seqObj "list" (g.map λq=>Value.ref q.a).toArray 0)).get? (s.heap.objs.size+1)=some (seqObj "list" (g.map λq=>Value.ref q.a).toArray 0):=by
  have:=D8 ((s.heap.push (seqObj "list" #[] 0)).update s.heap.objs.size (Obj.mapSeq (· ++ (g.map λq=>Value.ref q.a).toArray))) (show(seqObj "list" (g.map λq=>Value.ref q.a).toArray 0).isFreed=false from rfl);rw[D]at this;exact this
 have v:∀b o,s.heap.get? b=some o->(((s.heap.push (seqObj "list" #[] 0)).update s.heap.objs.size (Obj.mapSeq (· ++ (g.map λq=>Value.ref q.a).toArray))).push (seqObj "list" (g.map λq=>Value.ref q.a).toArray 0)).get? b=some o:=λb o e =>
  B9 _ (by rw[O7 _ _ _ _ (J6 (D9 e))];exact B9 _ e)
 show wpAny (model X.prog X.w) _ _ _ _ {s with heap:=(((s.heap.push (seqObj "list" #[] 0)).update s.heap.objs.size (Obj.mapSeq (· ++ (g.map λq=>Value.ref q.a).toArray))).push (seqObj "list" (g.map λq=>Value.ref q.a).toArray 0))};rw[D];have N:Inv X pins σ H {s with heap:=(((s.heap.push (seqObj "list" #[] 0)).update s.heap.objs.size (Obj.mapSeq (· ++ (g.map λq=>Value.ref q.a).toArray))).push (seqObj "list" (g.map λq=>Value.ref q.a).toArray 0))}:=I.kept (t':=s.toks) v;have y:DJ X pins H (s.heap.objs.size+1):=I.fpOk (Q9 _) (I.hok.fresh (Q9 _));generalize ((s.heap.push (seqObj "list" #[] 0)).update s.heap.objs.size (Obj.mapSeq (· ++ (g.map λq=>Value.ref q.a).toArray))).push (seqObj "list" (g.map λq=>Value.ref q.a).toArray 0)=h1 at r N⊢;refine X6 (A3d (PyProof.Rows.wpAny_call_entry_kw slot_list_sort ⟨_,r,rfl⟩ entry_list_sort ?_ (ksk_l1 _ _)));rw[ksk_t1];refine keyTree F E hr.in1.in1 (λs H e=>e.in1.in1) N r y hit t λx H' s' c S U kp R ha=>⟨_,rfl,K1 ⟨_,rfl,?_⟩⟩
 have C:x.toList.Perm (List.range g.length):=by simpa using S.pm.toList
 have sz:x.size=g.length:=S.sz;have lt:∀i∈x.toList,i<g.length:=λi n=>by simpa using (C.mem_iff).mp n
 let d:It3:=⟨0,0,0,[]⟩
 have h:(x.toList.map λi=>g.getD i d).Perm g:=by
  refine(C.map _).trans ?_;refine List.Perm.of_eq (List.ext_getElem? λi=>?_);rw[B6];by_cases n:i<g.length
  .rw[O6 n,C0 n];show some (g.getD i d)=_;rw[C6,C0 n];rfl
  .rw[O1 (by simpa using n),O1 A0];rfl
 refine⟨.ref (s.heap.objs.size+1),_,U.track (o:=.lst ((x.toList.map λi=>g.getD i d).map λq=>V.ref q.a)) R (O4 (D7 I.sz (Q9 _))) (O4 (D7 I.ok.bsz (D7 I.sz (Q9 _)))) (K3 y.2.1) y.2.2.2.2.1 y.2.2.2.2.2 (λb E z=>y.2.2.1 (z▸E)) ⟨by rw[B4,B4,T8,sz];exact M,_,c,?_,ha⟩,rfl,q (s.heap.objs.size+1) _ H' kp R h⟩;have:∀{l:J_},(∀i∈l,i<g.length)->AS ((l.map λi=>g.getD i d).map λq=>V.ref q.a) (l.map λi=>(g.map λq=>Value.ref q.a).getD i Value.none):=by
  intro l;induction l with
  |nil=>intro _;exact .nil
  |cons i l G =>
   intro O;refine .cons ?_ (G λj hj=>O j (C5 _ hj));have n:=O i (C4 ..);show Bf (V.ref (g.getD i d).a) ((g.map λq=>Value.ref q.a).getD i Value.none);rw[C6,C6,B6,C0 n];rfl
 exact this lt
def tSortR(K:O_)(t:TA):TE:=fun σ H Q=>t σ H λvs H1=>∃(p:R_)(items:List It3),vs=[.ref p]/\SqL K H1 p (items.map λq=>V.ref q.a)/\items.length<64/\(∀q∈items,H1 q.a=some (.tup (q.ns.map V.int)))/\∀(L:R_)(out:List It3)(H':Hp),(∀b u,H1 b=some u->H' b=some u)->H' L=none->out.Perm items->Q (.ref L) (upd H' L (.lst (out.map λq=>V.ref q.a)))
theorem Vh{a:Str}{e:Expr}{t:TA}{p kp kpos pos:Pos}(c:Cal X.prog X.w X.K X.mg X.base CX0 k a ps Pk)(R:Dc (k+2) X.A)(M:Gl X "sorted")(O:X.mg "sorted" = none)(i:Gl X a)(D:PA X [e] t)(G:(a==("__debug__" : Str))=false:=by decide)
  (L:backTo pos (starEach [e] X.env)=(false,eval e X.env)::backTo pos (starEach [] X.env):=by rfl) (l:(backTo pos (starEach [e] X.env)).any (·.1)=false:=by rfl):PE X (.Call (.Name "sorted" p) [e] [⟨some "key",.Name a kp,kpos⟩] pos) (tSortR X.K t):=by
 intro pins s σ H Q I h;obtain⟨f,fd,F,j,N,E⟩:=c.ex;refine A2h (Lq I M O PyProof.Rows.boot_sorted ?_);refine PyProof.Rows.callWith_kw (thn (D pos pins s σ H _ I h) λus W g=>?_) L l rfl rfl;obtain⟨vs,n,u,U,T⟩:=g;obtain⟨S,m,rfl,P,d,hit,q⟩:=T;refine thn (pk_cons (nm:=some "key") (kpos:=kpos) (MV (pos:=kp) i j G) pk_nil pos pins W σ n (λr o=>r=[.ref f]/\o=n) u ⟨rfl,rfl⟩) λZ Y g=>?_;obtain⟨r,o,v,V,B,C⟩:=g;subst B;subst C;cases U with
 |cons x y =>
  cases y;cases(show _=Value.ref S from x);cases V with
  |cons z b2 =>
   cases b2;cases(show _=Value.ref f from z);exact Za F E R v P hit d q
end
end L2
namespace J
open PySem L2
theorem asI{N P:K_}{c:Scope}(a:c.kind=.function:=by rfl)(b:c.isCoroutine=false:=by rfl)(d:c.isGenerator=false:=by rfl)(e:N.Nodup:=by decide +kernel)(f:N.take P.length=P:=by rfl)(g:∀x∈P,c.names.lookup x=some .local∨c.names.lookup x=some .cell:=by decide +kernel)(h:∀y∈c.names,y.2≠.free:=by decide +kernel):Au N P c:=⟨a,b,d,e,f,g,h⟩
def top(i:Nat):Stmt:=PySem.Challenge.pw_jumpfield_k60_whole_turned_and_moved.main.body.getD i (.Pass ⟨0,0,0,0⟩)
abbrev Ml:Stmt:=top 11
abbrev Vt:List Str:=["thing"]
theorem TH:Au Vt Vt (Ak Ml):=asI
abbrev Mm:Stmt:=top 18
theorem TJ:Au Vt Vt (Ak Mm):=asI
abbrev Sg:Stmt:=top 19
abbrev eE:List Str:=["wanted","state"]
theorem sc_takes:Au eE eE (Ak Sg):=asI
abbrev Fa:Stmt:=top 23
abbrev Mb:List Str:=["text","words","cell","conditions"]
abbrev Ip:List Str:=["text"]
theorem Eg:Au Mb Ip (Ak Fa):=asI
abbrev IT:Stmt:=top 24
abbrev Su:List Str:=["word"]
theorem QF:Au Su Su (Ak IT):=asI
abbrev Ig:Stmt:=top 25
theorem Pr:Au Su Su (Ak Ig):=asI
abbrev EK:Stmt:=top 26
theorem ML:Au Su Su (Ak EK):=asI
abbrev Gd:Stmt:=top 27
abbrev Qb:List Str:=["word","parts"]
theorem JB:Au Qb Su (Ak Gd):=asI
abbrev Gc:Stmt:=top 28
abbrev Qa:List Str:=["signs","numbers","sign"]
abbrev Go:List Str:=["signs"]
theorem Fy:Au Qa Go (Ak Gc):=asI
abbrev EZ:Stmt:=top 29
theorem Ps:Au Su Su (Ak EZ):=asI
abbrev Ie:Stmt:=top 32
abbrev QN:List Str:=["box","dx","dy"]
theorem Pq:Au QN QN (Ak Ie):=asI
abbrev Dg:Stmt:=top 33
abbrev Fs:List Str:=["boxes","left","top","right","bottom"]
abbrev GT:List Str:=["boxes"]
theorem Eh:Au Fs GT (Ak Dg):=asI
abbrev Ih:Stmt:=top 38
abbrev QP:List Str:=["box","limit"]
theorem Pt:Au QP QP (Ak Ih):=asI
abbrev Mi:Stmt:=top 39
abbrev Vr:List Str:=["grove","field"]
theorem TF:Au Vr Vr (Ak Mi):=asI
abbrev IW:Stmt:=top 40
abbrev Sy:List Str:=["grove"]
theorem QG:Au Sy Sy (Ak IW):=asI
abbrev NM:Stmt:=top 41
abbrev YQ:List Str:=["grove","square","level","parts","bare"]
abbrev LG:List Str:=["grove","square"]
theorem IP:Au YQ LG (Ak NM):=asI
abbrev NN:Stmt:=top 42
abbrev YR:List Str:=["grove","square","kept"]
theorem Mg:Au YR LG (Ak NN):=asI
abbrev GP:Stmt:=top 43
abbrev Ow:List Str:=["grove","square","inner"]
theorem MN:Au Ow LG (Ak GP):=asI
abbrev EL:Stmt:=top 44
abbrev NZ:List Str:=["grove","square","bare","place","quarter","part_place","part"]
theorem BR:Au NZ LG (Ak EL):=asI
abbrev Gb:Stmt:=top 45
abbrev PZ:List Str:=["grove","field","box","wide"]
abbrev Et:List Str:=["grove","field","box"]
theorem Fw:Au PZ Et (Ak Gb):=asI
abbrev IR:Stmt:=top 46
abbrev Sr:List Str:=["grove","field","level","wide"]
abbrev Jj:List Str:=["grove","field","level"]
theorem Ic:Au Sr Jj (Ak IR):=asI
abbrev NO:Stmt:=top 47
abbrev YT:List Str:=["grove","field","x","y","state","place","wide","half"]
abbrev NT:List Str:=["grove","field","x","y","state"]
theorem IQ:Au YT NT (Ak NO):=asI
abbrev Mh:Stmt:=top 48
abbrev Vq:List Str:=["grove","square","x","y","state","level","half","parts","place"]
abbrev Gn:List Str:=["grove","square","x","y","state"]
theorem Ea:Au Vq Gn (Ak Mh):=asI
abbrev Mo:Stmt:=top 49
abbrev Vx:List Str:=["grove","cells","field","cell"]
abbrev Mw:List Str:=["grove","cells"]
theorem GO:Au Vx Mw (Ak Mo):=asI
abbrev PD:Stmt:=top 51
abbrev dZ:List Str:=["grove","field","box","reach"]
theorem NI:Au dZ Vr (Ak PD):=asI
abbrev Vf:Stmt:=top 53
abbrev eG:List Str:=["jumps","field","n","tuples"]
abbrev Vk:List Str:=["jumps","field","n"]
theorem Ww:Au eG Vk (Ak Vf):=asI
abbrev Ve:Stmt:=top 54
abbrev eF:List Str:=["jumps","field","n","grove","told","here","rest","e","square","result"]
theorem Ef:Au eF Vk (Ak Ve):=asI
abbrev IV:Stmt:=top 55
abbrev Sx:List Str:=["grove","field","n","box"]
abbrev Jm:List Str:=["grove","field","n"]
theorem LY:Au Sx Jm (Ak IV):=asI
abbrev JQ:Stmt:=top 56
abbrev Uk:List Str:=["grove","field","e","reach","level"]
abbrev Le:List Str:=["grove","field","e"]
theorem FJ:Au Uk Le (Ak JQ):=asI
abbrev Ge:Stmt:=top 63
theorem OB:Au Ip Ip (Ak Ge):=asI
abbrev JO:Stmt:=top 64
abbrev Uh:List Str:=["text","rule"]
theorem MK:Au Uh Ip (Ak JO):=asI
abbrev Mp:Stmt:=top 65
abbrev Vy:List Str:=["rule","cell","around","number","clause"]
abbrev Mx:List Str:=["rule","cell","around"]
theorem JM:Au Vy Mx (Ak Mp):=asI
abbrev NP:Stmt:=top 66
abbrev YU:List Str:=["rule","cell","around","number"]
theorem Pu:Au YU Mx (Ak NP):=asI
abbrev IS:Stmt:=top 67
abbrev Ss:List Str:=["rule"]
theorem QE:Au Ss Ss (Ak IS):=asI
abbrev Id:Stmt:=top 68
theorem Pp:Au Ss Ss (Ak Id):=asI
abbrev Fz:Stmt:=top 69
theorem NH:Au Ss Ss (Ak Fz):=asI
abbrev Do:Stmt:=top 70
abbrev IH:List Str:=["rule","order"]
theorem MJ:Au IH IH (Ak Do):=asI
abbrev CI:Stmt:=top 71
abbrev GD:List Str:=["text","order"]
theorem LU:Au GD GD (Ak CI):=asI
abbrev Dm:Stmt:=top 72
abbrev IG:List Str:=["word","order"]
theorem MI:Au IG IG (Ak Dm):=asI
abbrev IU:Stmt:=top 75
abbrev Sw:List Str:=["grove","square","parts","a","b","c","d"]
theorem CT:Au Sw LG (Ak IU):=asI
abbrev Mn:Stmt:=top 76
abbrev Vv:List Str:=["nine"]
theorem TK:Au Vv Vv (Ak Mn):=asI
abbrev Dx:Stmt:=top 77
abbrev LW:List Str:=["grove","four","parts"]
abbrev Cz:List Str:=["grove","four"]
theorem Fo:Au LW Cz (Ak Dx):=asI
abbrev Mj:Stmt:=top 80
abbrev Vs:List Str:=["grove","field","dx","dy","box","target","wide","size","bare","four"]
abbrev Mv:List Str:=["grove","field","dx","dy"]
theorem Df:Au Vs Mv (Ak Mj):=asI
abbrev LD:Stmt:=top 81
abbrev YS:List Str:=["grove","four","right","down","known","bare","seen","square"]
abbrev FV:List Str:=["grove","four","right","down","known"]
theorem EI:Au YS FV (Ak LD):=asI
abbrev EJ:Stmt:=top 82
abbrev NX:List Str:=["four","right","down","bare"]
theorem MH:Au NX NX (Ak EJ):=asI
abbrev DK:Stmt:=top 83
abbrev OG:List Str:=["grove","four","right","down","known","half","rows","made","place","column","row","inner"]
theorem Bu:Au OG FV (Ak DK):=asI
abbrev DR:Stmt:=top 84
abbrev Mz:List Str:=["grove","four","a","b","c","d"]
theorem BV:Au Mz Cz (Ak DR):=asI
abbrev JN:Stmt:=top 88
theorem Sb:Au Vr Vr (Ak JN):=asI
abbrev PB:Stmt:=top 89
theorem YB:Au Vr Vr (Ak PB):=asI
abbrev FL:Stmt:=top 90
abbrev Nd:List Str:=["grove","square","order","known","level","made","old"]
abbrev Dt:List Str:=["grove","square","order","known"]
theorem CS:Au Nd Dt (Ak FL):=asI
abbrev NQ:Stmt:=top 92
abbrev YV:List Str:=["_law_script","_law_k"]
theorem Vd:Au YV YV (Ak NQ):=asI
abbrev Mq:Stmt:=top 93
abbrev Vz:List Str:=["_law_cell","_law_k","_law_value"]
abbrev Jo:List Str:=["_law_cell","_law_k"]
theorem Ot:Au Vz Jo (Ak Mq):=asI
abbrev FA:Stmt:=top 94
abbrev OI:List Str:=["_law_mains","_law_value"]
theorem NJ:Au OI OI (Ak FA):=asI
abbrev Cy:Stmt:=top 95
abbrev FF:List Str:=["_law_mains","_law_seed","_law_j","_law_wanted","_law_k","_law_value","_law_mask"]
abbrev DA:List Str:=["_law_mains","_law_seed","_law_j"]
theorem BN:Au FF DA (Ak Cy):=asI
abbrev EM:Stmt:=top 96
abbrev Oa:List Str:=["_law_mains","_law_seed","_law_j","_law_taken","_law_conditions","_law_k"]
theorem Cj:Au Oa DA (Ak EM):=asI
abbrev Ja:Stmt:=top 97
abbrev SA:List Str:=["_law_condition","_law_around","_law_k","_law_many","_law_state"]
abbrev Jp:List Str:=["_law_condition","_law_around"]
theorem DD:Au SA Jp (Ak Ja):=asI
abbrev Gf:Stmt:=top 98
abbrev Qd:List Str:=["_law_clauses","_law_cell","_law_around","_law_at_here","_law_fits","_law_condition"]
abbrev Gr:List Str:=["_law_clauses","_law_cell","_law_around"]
theorem CP:Au Qd Gr (Ak Gf):=asI
abbrev Gh:Stmt:=top 99
abbrev Qf:List Str:=["_law_clauses","_law_cell","_law_around","_law_at_here"]
theorem JC:Au Qf Gr (Ak Gh):=asI
abbrev En:Stmt:=top 100
abbrev Nf:List Str:=["_law_script","_law_first","_law_many","_law_mains","_law_clauses","_law_k"]
abbrev Ex:List Str:=["_law_script","_law_first","_law_many"]
theorem Cd:Au Nf Ex (Ak En):=asI
abbrev Fp:Stmt:=top 101
abbrev Lk:List Str:=["_law_condition"]
theorem Sd:Au Lk Lk (Ak Fp):=asI
abbrev GQ:Stmt:=top 102
abbrev Ox:List Str:=["_law_clauses","_law_parts","_law_clause","_law_words"]
abbrev Lg:List Str:=["_law_clauses"]
theorem FK:Au Ox Lg (Ak GQ):=asI
abbrev Gg:Stmt:=top 103
abbrev Qe:List Str:=["_law_cell"]
theorem OC:Au Qe Qe (Ak Gg):=asI
abbrev Ii:Stmt:=top 104
abbrev QQ:List Str:=["_law_states","_law_some","_law_place"]
abbrev Iq:List Str:=["_law_states"]
theorem Ga:Au QQ Iq (Ak Ii):=asI
abbrev JT:Stmt:=top 105
theorem Se:Au Qe Qe (Ak JT):=asI
abbrev JS:Stmt:=top 106
abbrev Ul:List Str:=["_law_script","_law_first","_law_many","_law_left","_law_top","_law_states","_law_k","_law_value","_law_at_here"]
abbrev Lh:List Str:=["_law_script","_law_first","_law_many","_law_left","_law_top"]
theorem Ej:Au Ul Lh (Ak JS):=asI
abbrev IZ:Stmt:=top 107
abbrev Sz:List Str:=["_law_found"]
theorem QH:Au Sz Sz (Ak IZ):=asI
abbrev s_law:Stmt:=top 108
abbrev n_law:List Str:=["_law_script","_law_rule","_law_n","_law_left","_law_many","_law_states","_law_dx","_law_dy","_law_grove","_law_jumps","_law_leftward","_law_glass","_law_field","_law_found"]
abbrev p_law:List Str:=["_law_script"]
theorem Ei:Au n_law p_law (Ak s_law):=asI
abbrev Gj:Stmt:=Be (top 20) 0
abbrev Qh:List Str:=["self","state","numbers"]
theorem OE:Au Qh Qh (Ak Gj):=asI
abbrev FB:Stmt:=Be (top 20) 1
abbrev OJ:List Str:=["self","around"]
theorem NL:Au OJ OJ (Ak FB):=asI
abbrev Ij:Stmt:=Be (top 21) 0
abbrev QR:List Str:=["self","wanted"]
theorem Pw:Au QR QR (Ak Ij):=asI
abbrev Eo:Stmt:=Be (top 21) 1
theorem OD:Au OJ OJ (Ak Eo):=asI
abbrev Il:Stmt:=Be (top 22) 0
abbrev QU:List Str:=["self","cell","conditions","makes"]
theorem Py:Au QU QU (Ak Il):=asI
abbrev Fc:Stmt:=Be (top 22) 1
abbrev Mc:List Str:=["self","cell","around"]
theorem Pz:Au Mc Mc (Ak Fc):=asI
abbrev Jf:Stmt:=Be (top 34) 0
abbrev SG:List Str:=["self","state","level","bare"]
abbrev Js:List Str:=["self"]
theorem EY:Au SG Js (Ak Jf):=asI
abbrev Je:Stmt:=Be (top 34) 1
abbrev SF:List Str:=["self","parts","level","number"]
abbrev FP:List Str:=["self","parts","level"]
theorem LZ:Au SF FP (Ak Je):=asI
abbrev Gi:Stmt:=Be (top 34) 2
abbrev Qg:List Str:=["self","parts","number"]
abbrev AU:List Str:=["self","parts"]
theorem JE:Au Qg AU (Ak Gi):=asI
abbrev Di:Stmt:=Be (top 34) 3
abbrev Lp:List Str:=["self","square"]
theorem JH:Au Lp Lp (Ak Di):=asI
abbrev Jd:Stmt:=Be (top 34) 4
abbrev SE:List Str:=["self","state"]
theorem QK:Au SE SE (Ak Jd):=asI
abbrev EO:Stmt:=Be (top 34) 7
theorem MP:Au Lp Lp (Ak EO):=asI
abbrev EN:Stmt:=Be (top 34) 9
theorem MO:Au Lp Lp (Ak EN):=asI
abbrev PF:Stmt:=Be (top 34) 10
abbrev OF:Stmt:=Be (top 34) 11
abbrev Jc:Stmt:=Be (top 34) 12
theorem QJ:Au Lp Lp (Ak Jc):=asI
abbrev Fb:Stmt:=Be (top 34) 13
abbrev QT:List Str:=["self","square","box"]
theorem Em:Au QT Lp (Ak Fb):=asI
abbrev Dq:Stmt:=Be (top 34) 14
abbrev Od:List Str:=["self","square","level","half","boxes","place","quarter","box"]
theorem BG:Au Od Lp (Ak Dq):=asI
abbrev GR:Stmt:=Be (top 62) 0
abbrev Oy:List Str:=["self","text"]
theorem Sf:Au Oy Oy (Ak GR):=asI
abbrev Jb:Stmt:=Be (top 78) 0
abbrev SB:List Str:=["self","grove","rule"]
theorem QI:Au SB SB (Ak Jb):=asI
abbrev Ep:Stmt:=Be (top 78) 1
abbrev Lo:List Str:=["self","rule","text"]
abbrev Gy:List Str:=["self","rule"]
theorem JD:Au Lo Gy (Ak Ep):=asI
abbrev Ik:Stmt:=Be (top 78) 2
abbrev QS:List Str:=["self","square","e"]
theorem Px:Au QS QS (Ak Ik):=asI
abbrev DS:Stmt:=Be (top 78) 3
abbrev MB:List Str:=["self","square","e","level"]
theorem FE:Au MB QS (Ak DS):=asI
abbrev Dp:Stmt:=Be (top 78) 4
abbrev Ob:List Str:=["self","square","e","result"]
theorem Ek:Au Ob QS (Ak Dp):=asI
abbrev Cu:Stmt:=Be (top 78) 5
abbrev Fk:List Str:=["self","square","e","grove","level","nine"]
theorem El:Au Fk QS (Ak Cu):=asI
abbrev Bv:Stmt:=Be (top 78) 6
abbrev Dk:List Str:=["self","square","e","nine"]
theorem EG:Au Dk QS (Ak Bv):=asI
abbrev Dh:Stmt:=Be (top 78) 7
abbrev Lm:List Str:=["self","square","parts","a","b","c","d"]
theorem Bk:Au Lm Lp (Ak Dh):=asI
abbrev CJ:Stmt:=Be (top 78) 8
abbrev GE:List Str:=["self","leaves","leaf","states"]
abbrev DX:List Str:=["self","leaves"]
theorem Cw:Au GE DX (Ak CJ):=asI
structure Ad where
c_Amounts:Addr
c_Places:Addr
c_Clause:Addr
c_Grove:Addr
c_Rule:Addr
c_Jumps:Addr
k_TURNED_ORDER:Addr
k_MIRRORED_ORDER:Addr
k_LEFT_ORDER:Addr
k_MIRROR_ORDER:Addr
structure Top(K:O_)(mg:C_)(a:Ad):Prop where
b_all:mg "all" = none
b_bool:mg "bool" = none
b_enumerate:mg "enumerate" = none
b_int:mg "int" = none
b_isinstance:mg "isinstance" = none
b_len:mg "len" = none
b_list:mg "list" = none
b_max:mg "max" = none
b_min:mg "min" = none
b_range:mg "range" = none
b_sorted:mg "sorted" = none
b_str:mg "str" = none
b_sum:mg "sum" = none
b_tuple:mg "tuple" = none
b_zip:mg "zip" = none
k_STATES:∃t,mg "STATES" = some (.int 8 t)
k_NEIGHBOURS:∃t,mg "NEIGHBOURS" = some (.int 8 t)
k_STATE_FIGURES:∃t,mg "STATE_FIGURES" = some (.str (Str.ofString "01234567") t)
k_AMOUNT_FIGURES:∃t,mg "AMOUNT_FIGURES" = some (.str (Str.ofString "012345678") t)
k_ANY_SIGN:∃t,mg "ANY_SIGN" = some (.str (Str.ofString "*") t)
k_TOP_LEVEL:∃t,mg "TOP_LEVEL" = some (.int 48 t)
k_LIMIT:∃t,mg "LIMIT" = some (.int 1099511627776 t)
k_LEAST_LEVEL:∃t,mg "LEAST_LEVEL" = some (.int 1 t)
k_CLAUSE_MARK:∃t,mg "CLAUSE_MARK" = some (.str (Str.ofString "; ") t)
k_WORD_MARK:∃t,mg "WORD_MARK" = some (.str (Str.ofString " ") t)
k_LEAST_JUMPED:∃t,mg "LEAST_JUMPED" = some (.int 2 t)
k_TURNED_ORDER:mg "TURNED_ORDER" = some (.ref a.k_TURNED_ORDER)/\∀H:Hp,SqT K H a.k_TURNED_ORDER [.int 2,.int 4,.int 7,.int 1,.int 6,.int 0,.int 3,.int 5]
k_MIRRORED_ORDER:mg "MIRRORED_ORDER" = some (.ref a.k_MIRRORED_ORDER)/\∀H:Hp,SqT K H a.k_MIRRORED_ORDER [.int 2,.int 1,.int 0,.int 4,.int 3,.int 7,.int 6,.int 5]
k_LEFT_ORDER:mg "LEFT_ORDER" = some (.ref a.k_LEFT_ORDER)/\∀H:Hp,SqT K H a.k_LEFT_ORDER [.int 1,.int 3,.int 0,.int 2]
k_MIRROR_ORDER:mg "MIRROR_ORDER" = some (.ref a.k_MIRROR_ORDER)/\∀H:Hp,SqT K H a.k_MIRROR_ORDER [.int 1,.int 0,.int 3,.int 2]
m_Amounts:mg "Amounts" = some (.ref a.c_Amounts)
cl_Amounts:Cls K a.c_Amounts
na_Amounts_state:BK K a.c_Amounts "state"
na_Amounts_numbers:BK K a.c_Amounts "numbers"
m_Places:mg "Places" = some (.ref a.c_Places)
cl_Places:Cls K a.c_Places
na_Places_wanted:BK K a.c_Places "wanted"
m_Clause:mg "Clause" = some (.ref a.c_Clause)
cl_Clause:Cls K a.c_Clause
na_Clause_cell:BK K a.c_Clause "cell"
na_Clause_conditions:BK K a.c_Clause "conditions"
na_Clause_makes:BK K a.c_Clause "makes"
m_Grove:mg "Grove" = some (.ref a.c_Grove)
cl_Grove:Cls K a.c_Grove
na_Grove_levels:BK K a.c_Grove "levels"
na_Grove_parts:BK K a.c_Grove "parts"
na_Grove_numbers:BK K a.c_Grove "numbers"
na_Grove_bares:BK K a.c_Grove "bares"
na_Grove_amounts:BK K a.c_Grove "amounts"
na_Grove_boxes:BK K a.c_Grove "boxes"
m_Rule:mg "Rule" = some (.ref a.c_Rule)
cl_Rule:Cls K a.c_Rule
na_Rule_text:BK K a.c_Rule "text"
na_Rule_clauses:BK K a.c_Rule "clauses"
m_Jumps:mg "Jumps" = some (.ref a.c_Jumps)
cl_Jumps:Cls K a.c_Jumps
na_Jumps_grove:BK K a.c_Jumps "grove"
na_Jumps_memories:BK K a.c_Jumps "memories"
na_Jumps_rule:BK K a.c_Jumps "rule"
na_Jumps_known_squares:BK K a.c_Jumps "known_squares"
na_Jumps_known_cells:BK K a.c_Jumps "known_cells"
seal L2.PA L2.PE L2.PS L2.PSs L2.PT L2.PW
inductive Bc where
|am (s:Int) (ns:I_)
|pl (ws:List (Option Int))
structure AT where
cell:Option Int
conds:List Bc
makes:Int
abbrev AD:=List AT
def Ix:Option Int->V
|none=>.non
|some i=>.int i
def Ct(w:Option Int)(s:Int):Bool:=match w with
|none=>true
|some i=>decide (i=s)
def Bc.holds(ar:I_):Bc->Bool
|.am s ns=>ns.any λn=>decide (n=((ar.countP (· == s):Nat):Int))
|.pl ws=>(ws.zip ar).all λp=>Ct p.1 p.2
def AT.fits(cell:Int)(ar:I_)(c:AT):Bool:=Ct c.cell cell && c.conds.all (Bc.holds ar)
def JJ(r:AD)(cell:Int)(ar:I_):Option Nat:=r.findIdx? (AT.fits cell ar)
def Cs(r:AD)(cell:Int)(ar:I_):Int:=match r.find? (AT.fits cell ar)with
|none=>cell
|some c=>c.makes
def fl1(f:Str)(a:V):List (Str×V):=AY f a []
def fl2(f g:Str)(a b:V):List (Str×V):=AY g b (AY f a [])
def fl3(f g h:Str)(a b c:V):List (Str×V):=AY h c (AY g b (AY f a []))
theorem fl1_1{f:Str}{a:V}:(fl1 f a).lookup f=some a:=by unfold fl1;rw[An,K0 rfl]
theorem SV{f m:Str}{a:V}(h:¬m=f):(fl1 f a).lookup m=none:=by unfold fl1;rw[An,X7 h];rfl
theorem WV{f g:Str}{a b:V}(h:¬f=g):(fl2 f g a b).lookup f=some a:=by unfold fl2;rw[An,X7 h,An,K0 rfl]
theorem fl2_2{f g:Str}{a b:V}:(fl2 f g a b).lookup g=some b:=by unfold fl2;rw[An,K0 rfl]
theorem fl2_no{f g m:Str}{a b:V}(c:¬m=f)(d:¬m=g):(fl2 f g a b).lookup m=none:=by unfold fl2;rw[An,X7 d,An,X7 c];rfl
theorem fl3_1{f g h:Str}{a b c:V}(d:¬f=g)(e:¬f=h):(fl3 f g h a b c).lookup f=some a:=by unfold fl3;rw[An,X7 e,An,X7 d,An,K0 rfl]
theorem fl3_2{f g h:Str}{a b c:V}(d:¬g=h):(fl3 f g h a b c).lookup g=some b:=by unfold fl3;rw[An,X7 d,An,K0 rfl]
theorem fl3_3{f g h:Str}{a b c:V}:(fl3 f g h a b c).lookup h=some c:=by unfold fl3;rw[An,K0 rfl]
theorem fl3_no{f g h m:Str}{a b c:V}(d:¬m=f)(e:¬m=g)(i:¬m=h):(fl3 f g h a b c).lookup m=none:=by unfold fl3;rw[An,X7 i,An,X7 e,An,X7 d];rfl
theorem TX(f:Str)(v:V):∀l:List (Str×V),(AY f v l).length<=l.length+1
|[]=>B8 _
| (g,w)::r=>by
 unfold AY;split
 .exact Q9 _
 .rw[D6,D6];exact Q6 (TX f v r)
theorem Ar{H:Hp}{p:R_}{o:HO}(h:H p=none):Az H (upd H p o):=λb u e=>by
 rw[Ax (Aw e h)];exact e
theorem alc{H a:Hp}{p:R_}{o:HO}(h:H p=none)(e:upd H p o=a):Az H a/\a p=some o:=e▸⟨Ar h,Af⟩
inductive DC(a:Ad)(H:Hp):Addr->Bc->Prop where
|am {p t dx:R_} {s:Int} {ns:I_} (h:H p=some (.ins a.c_Amounts dx (fl2 "state" "numbers" (.int s) (.ref t)))) (ht:H t=some (.tup (ns.map V.int))):DC a H p (.am s ns)
|pl {p t dx:R_} {ws:List (Option Int)} (h:H p=some (.ins a.c_Places dx (fl1 "wanted" (.ref t)))) (ht:H t=some (.tup (ws.map Ix))):DC a H p (.pl ws)
structure Ch(a:Ad)(H:Hp)(p:R_)(c:AT):Prop where
ex:∃(dx t:R_)(cs:H_),H p=some (.ins a.c_Clause dx (fl3 "cell" "conditions" "makes" (Ix c.cell) (.ref t) (.int c.makes)))/\H t=some (.tup (cs.map V.ref))/\Paired (DC a H) cs c.conds
structure Cg(a:Ad)(H:Hp)(p:R_)(x:Str)(r:AD):Prop where
ex:∃(dx t:R_)(cs:H_),H p=some (.ins a.c_Rule dx (fl2 "text" "clauses" (.str x) (.ref t)))/\H t=some (.tup (cs.map V.ref))/\Paired (Ch a H) cs r
theorem Paired.imp{α β:Type}{F G:α->β->Prop}(h:∀x y,F x y->G x y):∀{l:List α}{m:List β},Paired F l m->Paired G l m
|_,_,.nil=>.nil
|_,_,.cons r t=>.cons (h _ _ r) (Paired.imp h t)
theorem Paired.get{α β:Type}{F:α->β->Prop}:∀{l:List α}{m:List β}{i:Nat}{x:α},Paired F l m->l[i]?=some x->∃y,m[i]?=some y/\F x y
|_,_,_,_,.nil,e=>by simp at e
|_,_,0,_,.cons r _,e=>by simp at e;subst e;exact⟨_,rfl,r⟩
|_,_,i+1,x,.cons _ t,e=>by
 obtain⟨y,a,b⟩:=Paired.get (i:=i) (x:=x) t (by simpa using e);exact⟨y,by simpa using a,b⟩
theorem DC.same{a:Ad}{H d:Hp}{p:R_}{c:Bc}(s:Az H d)(h:DC a H p c):DC a d p c:=by
 cases h with
 |am h b=>exact .am (s _ _ h) (s _ _ b)
 |pl h b=>exact .pl (s _ _ h) (s _ _ b)
theorem Ch.same{a:Ad}{H b:Hp}{p:R_}{c:AT}(s:Az H b)(h:Ch a H p c):Ch a b p c:=by
 obtain⟨dx,t,cs,d,e,f⟩:=h.ex;exact⟨dx,t,cs,s _ _ d,s _ _ e,Paired.imp (λ_ _ z=>z.same s) f⟩
theorem Cg.same{a:Ad}{H b:Hp}{p:R_}{x:Str}{r:AD}(s:Az H b)(h:Cg a H p x r):Cg a b p x r:=by
 obtain⟨dx,t,cs,c,d,e⟩:=h.ex;exact⟨dx,t,cs,s _ _ c,s _ _ d,Paired.imp (λ_ _ z=>z.same s) e⟩
theorem SQ(n:Int)(ns:I_):inV (.int n) (ns.map V.int)=ns.any λm=>decide (m=n):=by
 unfold inV;rw[List.any_map];congr 1
theorem Rt(ns:I_):(ns.map V.int).all Nm=true:=by
 rw[Z9];exact P3.mpr λ_ _=>rfl
theorem Jy(i j:Int):decide (V.int i=V.int j)=decide (i=j):=by
 by_cases h:i=j
 .rw[X8 h,X8 (by rw[h])]
 .rw[X9 h,X9 λz=>h (by injection z)]
section
variable{P:N_}{w:Q_}{K:O_}{mg:C_}{base:T_}{a:Ad}
inductive Yd(vs:List V)(H:Hp)(Q:VK):Prop
|mk (x:Option Int) (s:Int) (_:vs=[Ix x,.int s]) (_:Q (.bl (Ct x s)) H):Yd vs H Q
def OP:Sp:=λvs H Q _=>Yd vs H Q
theorem ok_takes(F:Fun K "takes" "takes" Sg f fd):AL P w K mg base CX0 1 f fd eE OP:=by
 refine F.ok sc_takes D_9 λc A b s H vs Q E d h=>?_
 obtain⟨x,s,rfl,k⟩:=h;refine⟨_,(Ah (Av (pe_or (Fe GB (pv 0) Db (AG _)) (Mu (Fe CG (pv 0) (pv 1) (AG _)))))),?_⟩
 try dsimp only[cxK]
 refine xq1 rfl ⟨rfl,(xq1 rfl ?_)⟩;cases x with
 |none=>exact BP k
 |some i =>
  have e:decide (Ix (some i)=V.int s)=Ct (some i) s:=Jy i s;rw[<-e]at k;exact Bd (xw2 rfl rfl ⟨rfl,k⟩)
inductive UP(a:Ad)(vs:List V)(H:Hp)(Q:VK):Prop
|mk (p t dx:R_) (s:Int) (_:vs=[.ref p,.int s,.ref t]) (_:H p=some (.ins a.c_Amounts dx [])) (_:Q .non (upd H p (.ins a.c_Amounts dx (fl2 "state" "numbers" (.int s) (.ref t))))):UP a vs H Q
def Po(a:Ad):Sp:=λvs H Q _=>UP a vs H Q
theorem YL(F:Fun K "__init__" "Amounts.__init__" Gj f fd)(T:Top K mg a):AL P w K mg base CX0 1 f fd Qh (Po a):=by
 refine F.ok OE D_9 λc A b s H vs Q E e h=>?_
 obtain⟨p,t,dx,s,rfl,d,k⟩:=h;refine⟨_,(Ac (CL (pv 0) (pv 1) rfl) (Ah (CL (pv 0) (pv 2) rfl))),?_⟩
 try dsimp only[cxK]
 refine xw2 rfl rfl ⟨p,_,dx,[],rfl,d,T.cl_Amounts,T.na_Amounts_state,B2,(xw2 rfl rfl ⟨p,_,dx,(xq1 rfl ⟨Af,T.cl_Amounts,T.na_Amounts_numbers,B3,?_⟩)⟩)⟩;rw[GM];exact k
inductive UM(a:Ad)(vs:List V)(H:Hp)(Q:VK):Prop
|mk (p t dx:R_) (_:vs=[.ref p,.ref t]) (_:H p=some (.ins a.c_Places dx [])) (_:Q .non (upd H p (.ins a.c_Places dx (fl1 "wanted" (.ref t))))):UM a vs H Q
def Pl(a:Ad):Sp:=λvs H Q _=>UM a vs H Q
theorem YJ(F:Fun K "__init__" "Places.__init__" Ij f fd)(T:Top K mg a):AL P w K mg base CX0 1 f fd QR (Pl a):=by
 refine F.ok Pw D_9 λc A b s H vs Q E e h=>?_
 obtain⟨p,t,dx,rfl,d,k⟩:=h;refine⟨_,(Ah (CL (pv 0) (pv 1) rfl)),?_⟩
 try dsimp only[cxK]
 exact xw2 rfl rfl ⟨p,_,dx,[],rfl,d,T.cl_Places,T.na_Places_wanted,B2,k⟩
inductive UN(a:Ad)(vs:List V)(H:Hp)(Q:VK):Prop
|mk (p t dx:R_) (c:Option Int) (m:Int) (_:vs=[.ref p,Ix c,.ref t,.int m]) (_:H p=some (.ins a.c_Clause dx [])) (_:Q .non (upd H p (.ins a.c_Clause dx (fl3 "cell" "conditions" "makes" (Ix c) (.ref t) (.int m))))):UN a vs H Q
def Pn(a:Ad):Sp:=λvs H Q _=>UN a vs H Q
theorem YK(F:Fun K "__init__" "Clause.__init__" Il f fd)(T:Top K mg a):AL P w K mg base CX0 1 f fd QU (Pn a):=by
 refine F.ok Py D_9 λd A b s H vs Q E g h=>?_
 obtain⟨p,t,dx,c,m,rfl,e,k⟩:=h;refine⟨_,(Ac (CL (pv 0) (pv 1) rfl) (Ac (CL (pv 0) (pv 2) rfl) (Ah (CL (pv 0) (pv 3) rfl)))),?_⟩
 try dsimp only[cxK]
 refine⟨_,rfl,_,rfl,p,_,dx,[],rfl,e,T.cl_Clause,T.na_Clause_cell,B2,_,rfl,_,rfl,p,_,dx,_,rfl,Af,T.cl_Clause,T.na_Clause_conditions,B3,_,rfl,_,rfl,p,_,dx,_,rfl,Af,T.cl_Clause,T.na_Clause_makes,
  F2 (TX _ _ _) (by show 2<1000;decide),?_⟩
 rw[GM,GM];exact k
def NF(a:Ad):Sp:=λvs H Q E=>(∃(p l t dx:R_)(s:Int)(ns ar:I_),vs=[.ref p,.ref l]/\H p=some (.ins a.c_Amounts dx (fl2 "state" "numbers" (.int s) (.ref t)))/\H t=some (.tup (ns.map V.int))/\H l=some (.lst (ar.map V.int))/\Q (.bl (Bc.holds ar (.am s ns))) H)
theorem Vn(F:Fun K "holds" "Amounts.holds" FB f fd)(T:Top K mg a):AL P w K mg base CX0 1 f fd OJ (NF a):=by
 refine F.ok NL (λvs H Q E h=>?_) (λe A b s H vs Q E i h=>?_)
 .obtain⟨p,l,t,dx,s,ns,ar,rfl,_⟩:=h;rfl
 .obtain⟨p,l,t,dx,s,ns,ar,rfl,d,g,c,k⟩:=h;refine⟨_,(Ah (Av (Fe NV (CQ K8 PySem.F.slot_list_count PySem.F.type_list_count mt_count (pv 1) (Aa (AB (pv 0) rfl) Ab)) (AB (pv 0) rfl) rfl))),?_⟩
  try dsimp only[cxK]
  refine xq1 rfl ⟨.inl ⟨rfl,_,SqL.of c⟩,(xwf rfl rfl d T.cl_Amounts T.na_Amounts_state (WV A1) ⟨l,ar,s,rfl,rfl,c,(xwf rfl rfl d T.cl_Amounts T.na_Amounts_numbers fl2_2 ⟨t,(xq1 rfl ⟨.inr (SqT.of g),rfl,Rt ns,?_⟩)⟩)⟩)⟩;show Q (.bl (inV _ _)) H;rw[SQ];exact k
inductive RM(a:Ad)(vs:List V)(H:Hp)(Q:VK):Prop
|mk (p l t dx:R_) (ws:List (Option Int)) (ar:I_) (_:vs=[.ref p,.ref l]) (_:H p=some (.ins a.c_Places dx (fl1 "wanted" (.ref t)))) (_:H t=some (.tup (ws.map Ix))) (_:H l=some (.lst (ar.map V.int))) (_:ws.length<=100) (_:∀H',Az H H'->Q (.bl (Bc.holds ar (.pl ws))) H'):RM a vs H Q
def ND(a:Ad):Sp:=λvs H Q _=>RM a vs H Q
theorem Vm(F:Fun K "holds" "Places.holds" Eo f fd)(T:Top K mg a)(C:Cal P w K mg base CX0 1 "takes" eE OP):AL P w K mg base CX0 2 f fd OJ (ND a):=by
 refine F.ok OD D_9 λD A g s H vs Q E O h=>?_
 obtain⟨p,l,t,dx,b,ar,rfl,M,u,r,R,k⟩:=h;refine⟨_,(Ah (Av (AX (UI rfl) rfl T.b_all PyProof.Rows.boot_all (Aa (BL rfl (Bo.of (So:=Ak Eo) (No:=OJ) (N:=["one","state"]) (k:=2) (cs:=[]) rfl rfl A1) (pi_zip true false rfl T.b_zip (Aa (AB (pv 0) rfl) (Aa (pv 1) Ab))) (λ_ _ _=>(pgc_pair (i:=0) (j:=1) rfl A1 rfl rfl rfl rfl)) (λ_ _ _=>BC) (λ_ _ _=>(As C (rm O) rfl Ao (Aa (pv 0) (Aa (pv 1) Ab))))) Ab)))),?_⟩
 try dsimp only[cxK]
 refine xwf rfl rfl M T.cl_Places T.na_Places_wanted fl1_1 (xq1 rfl ⟨t,l,rfl,⟨_,SqT.of u⟩,⟨_,SqL.of r⟩,?_⟩);refine blk_zip (xs:=b.map Ix) (ys:=ar.map V.int) (λi c d=>Az H d/\c=(((b.zip ar).take i).map λp=>V.bl (Ct p.1 p.2))) ⟨Az.refl H,rfl⟩ (λi c d z=>⟨SqT.of (z.1 _ _ u),SqL.of (z.1 _ _ r)⟩) ?_ ?_
 .rintro i x y c d W v B ⟨n,rfl⟩ S;rw[B6]at v B;obtain⟨o,I,rfl⟩:=C9.mp v;obtain⟨m,G,rfl⟩:=C9.mp B;have L:(b.zip ar)[i]?=some (o,m):=by rw[U9];exact⟨I,G⟩
  refine Uw Af ⟨⟨[some (Ix o),some (.int m)],rfl,rfl⟩,?_,?_⟩
  .have:((((b.zip ar).take i).map λp=>V.bl (Ct p.1 p.2))).length<=b.length:=by
    rw[B4,J0,W6];omega
   exact F2 (D7 this R) A4
  .refine FI ?_;refine xw2 rfl rfl ⟨o,m,rfl,n.trans (Ar S),?_⟩;rw[F3,L,C3];rfl
 .rintro c d ⟨n,rfl⟩ q U;have len:min (b.map Ix).length (ar.map V.int).length=(b.zip ar).length:=by rw[B4,B4,W6]
  rw[len,F6];refine⟨q,(b.zip ar).map (λp=>Ct p.1 p.2),rfl,SqL.of (by rw[Af,M5];rfl),?_⟩;have e:((b.zip ar).map (λp=>Ct p.1 p.2)).all id=Bc.holds ar (.pl b):=by rw[Z9];rfl
  rw[e];exact k _ (n.trans (Ar U))
inductive SpFits(a:Ad)(vs:List V)(H:Hp)(Q:VK):Prop
|mk (p l:R_) (c:AT) (cell:Int) (ar:I_) (_:vs=[.ref p,.int cell,.ref l]) (_:Ch a H p c) (_:c.conds.length<=100) (_:(∀d∈c.conds,∀ws,d=Bc.pl ws->ws.length<=100)) (_:H l=some (.lst (ar.map V.int))) (_:∀H',Az H H'->Q (.bl (c.fits cell ar)) H'):SpFits a vs H Q
def Va(a:Ad):Sp:=λvs H Q _=>SpFits a vs H Q
theorem ok_Fits(F:Fun K "fits" "Clause.fits" Fc f fd)(T:Top K mg a)(Y:Cal P w K mg base CX0 1 "takes" eE OP)(o:Ca P w K mg base CX0 1 a.c_Amounts "holds" OJ (NF a))(r:Ca P w K mg base CX0 2 a.c_Places "holds" OJ (ND a)) :
 AL P w K mg base CX0 3 f fd Mc (Va a):=by
 refine F.ok Pz D_9 λZ A G s H vs Q E D h=>?_
 obtain⟨p,l,c,cell,ar,rfl,hC,hn,C,R,k⟩:=h;obtain⟨dx,t,cs,S,U,v⟩:=hC.ex;refine⟨_,(Ah (Av (JY (As Y (rm D) rfl Ao (Aa (AB (pv 0) rfl) (Aa (pv 1) Ab))) (Mu (AX (UI rfl) rfl T.b_all PyProof.Rows.boot_all (Aa (BL rfl (Bo.of (So:=Ak Fc) (No:=Mc) (N:=["condition","around"]) (k:=1) (cs:=[2]) rfl rfl A1) (PN (AB (pv 0) rfl)) (λ_ _ _=>(AZ (i:=0) A1 rfl rfl)) (λ_ _ _=>BC) (λ_ _ _=>(PE.or (AK (pv 0) o (rm D) Ao (Aa (pv 1) Ab)) (AK (pv 0) r (rm D) Ao (Aa (pv 1) Ab))))) Ab)))))),?_⟩
 try dsimp only[cxK]
 refine xwf rfl rfl S T.cl_Clause T.na_Clause_cell (fl3_1 A1 A1) (xq1 rfl ⟨c.cell,cell,rfl,Ct c.cell cell,rfl,?_⟩);cases O:Ct c.cell cell with
 |false =>
  refine Bd ?_;have:=k H (Az.refl H);unfold AT.fits at this;rw[O]at this;exact this
 |true =>
  refine BP ?_;have ln:cs.length=c.conds.length:=K9 v;refine xwf rfl rfl S T.cl_Clause T.na_Clause_conditions (fl3_2 A1) ⟨t,rfl,⟨_,SqT.of U⟩,?_⟩;refine Ny (xs:=cs.map V.ref) (λi g j=>Az H j/\g=((c.conds.take i).map λd=>V.bl (Bc.holds ar d))) ⟨Az.refl H,rfl⟩ (λi g j _ z=>SqT.of (z.1 _ _ U)) ?_ ?_
  .rintro i x g j W ⟨m,rfl⟩;rw[B6]at W;obtain⟨q,eq,rfl⟩:=C9.mp W;obtain⟨d,M,hd⟩:=Paired.get v eq;have B:=hd.same m;refine⟨⟨[some (.ref q)],rfl,rfl⟩,?_,?_⟩
   .have:((c.conds.take i).map λd=>V.bl (Bc.holds ar d)).length<=c.conds.length:=by
     rw[B4,J0];omega
    exact F2 (D7 this hn) A4
   .refine FI ?_;have nx:∀n,Az j n->Az H n/\((c.conds.take i).map λd=>V.bl (Bc.holds ar d))++[V.bl (Bc.holds ar d)]=((c.conds.take (i+1)).map λd=>V.bl (Bc.holds ar d)):=λn I=>⟨m.trans I,by
     rw[F3,M,C3];rfl⟩
    have md:d∈c.conds:=D0 M;cases B with
    |@am L b s ns u y=>exact .inl ⟨_,rfl,q,b,_,rfl,u,fl2_no A1 A1,_,rfl,q,l,L,b,s,ns,ar,rfl,u,y,m _ _ R,nx j (Az.refl j)⟩
    |@pl L b X u y=>exact .inr ⟨_,rfl,q,b,_,rfl,u,SV A1,_,rfl,q,l,L,b,X,ar,rfl,u,y,m _ _ R,C _ md X rfl,λn I=>nx n I⟩
  .rintro g j ⟨m,rfl⟩ q nq;rw[B4,ln,F6];refine⟨q,c.conds.map (Bc.holds ar),rfl,SqL.of (by rw[Af,M5];rfl),?_⟩;have e:(c.conds.map (Bc.holds ar)).all id=c.fits cell ar:=by
    unfold AT.fits;rw[O,Z9];rfl
   rw[e];exact k _ (m.trans (Ar nq))
def ROk(r:AD):Prop:=r.length<=5000/\∀c∈r,c.conds.length<=100/\∀d∈c.conds,∀ws,d=Bc.pl ws->ws.length<=100
def decV(o:Option Nat):V:=match o with
|none=>.non
|some n=>.int n
inductive SpDec(a:Ad)(vs:List V)(H:Hp)(Q:VK):Prop
|mk (p l:R_) (z:Str) (r:AD) (cell:Int) (ar:I_) (_:vs=[.ref p,.int cell,.ref l]) (_:Cg a H p z r) (_:ROk r) (_:H l=some (.lst (ar.map V.int))) (_:∀H',Az H H'->Q (decV (JJ r cell ar)) H'):SpDec a vs H Q
def ZY(a:Ad):Sp:=λvs H Q _=>SpDec a vs H Q
theorem ok_dec(F:Fun K "deciding" "deciding" Mp f fd)(T:Top K mg a)(W:Ca P w K mg base CX0 3 a.c_Clause "fits" Mc (Va a)):AL P w K mg base CX0 4 f fd Mx (ZY a):=by
 refine F.ok JM D_9 λX A D s H vs Q E hr h=>?_
 obtain⟨p,l,z,r,cell,ar,rfl,hR,M,hl,k⟩:=h;obtain⟨dx,t,cs,hp,N,n⟩:=hR.ex;have ln:cs.length=r.length:=K9 n;refine⟨_,(Ac (CK K7 rfl (OX true rfl T.b_enumerate (Aa (AB (pv 0) rfl) Ab)) (PP rfl (DF (BD (i:=3) JM.nd rfl O_9) (DF (BD (i:=4) JM.nd rfl O_9) MU))) (Ah (AO (DT (AK (pv 4) W (rm hr) Ao (Aa (pv 1) (Aa (pv 2) Ab)))) (Ah (Av (pv 3))) AC))) (Ah (Av Db))),?_⟩
 try dsimp only[cxK]
 refine xwf rfl rfl hp T.cl_Rule T.na_Rule_clauses fl2_2 ⟨t,rfl,⟨_,SqT.of N⟩,?_⟩;refine Nl (b:=true) (xs:=cs.map V.ref) (λi σ g=>Az H g/\(∃u v,σ=[some (.ref p),some (.int cell),some (.ref l),u,v])/\∀c∈r.take i,c.fits cell ar=false) ⟨Az.refl H,⟨none,none,rfl⟩,λc C=>by simp at C⟩ (λi σ g _ q=>SqT.of (q.1 _ _ N)) ?_ ?_
 .rintro i x σ g T' O ⟨G,⟨u,v,rfl⟩,no⟩ nT;rw[B6]at O;obtain⟨q,eq,rfl⟩:=C9.mp O;obtain⟨c,y,C⟩:=Paired.get n eq;have B:=G.trans (Ar (o:=.tup [.int i,.ref q]) nT);have m:=C.same B;obtain⟨Z,t2,Y,h1,_⟩:=m.ex;refine Uw Af ?_;have R:=D0 y;refine xwn rfl rfl h1 (fl3_no A1 A1 A1) rfl (xq1 rfl ⟨q,l,c,cell,ar,rfl,m,(M.2 c R).1,(M.2 c R).2,B _ _ hl,λU S=>(xq1 rfl ?_)⟩);cases I:c.fits cell ar with
  |true =>
   refine BP ?_;refine xq1 rfl ?_;have e:JJ r cell ar=some i:=by
    unfold JJ;rw[S3];have hi:i<r.length:=(B5.mp y).1;refine⟨hi,?_,λj hj=>?_⟩
    .rw[(B5.mp y).2];exact I
    .have:=no r[j] (List.mem_take_iff_getElem.mpr ⟨j,by omega,rfl⟩);rw[this];exact D5
   have:=k U (B.trans S);rw[e]at this;exact this
  |false =>
   refine Bd ⟨B.trans S,⟨_,_,rfl⟩,λd L=>?_⟩;rw[F3,y]at L;rcases D4.mp L with z|z
   .exact no d z
   .have:d=c:=by simpa using z
    rw[this];exact I
 .rintro σ g ⟨G,⟨u,v,rfl⟩,no⟩;rw[B4,ln,F6]at no;have e:JJ r cell ar=none:=by
   unfold JJ;rw[V0];exact no
  have:=k g G;rw[e]at this;exact this
inductive SpBec(a:Ad)(vs:List V)(H:Hp)(Q:VK):Prop
|mk (p l:R_) (z:Str) (r:AD) (cell:Int) (ar:I_) (_:vs=[.ref p,.int cell,.ref l]) (_:Cg a H p z r) (_:ROk r) (_:H l=some (.lst (ar.map V.int))) (_:∀H',Az H H'->Q (.int (Cs r cell ar)) H'):SpBec a vs H Q
def Wu(a:Ad):Sp:=λvs H Q _=>SpBec a vs H Q
theorem NA{r:AD}{cell:Int}{ar:I_}(h:JJ r cell ar=none):Cs r cell ar=cell:=by
 unfold JJ at h;rw[V0]at h;unfold Cs;rw[List.find?_eq_none.mpr λc b=>by rw[h c b];exact D5]
theorem Nz{r:AD}{cell:Int}{ar:I_}{i:Nat}(h:JJ r cell ar=some i):∃c,r[i]?=some c/\Cs r cell ar=c.makes:=by
 unfold JJ at h;rw[S3]at h;obtain⟨b,d,e⟩:=h;refine⟨r[i],C0 b,?_⟩;unfold Cs;have:r.find? (AT.fits cell ar)=some r[i]:=by
  rw[List.find?_eq_some_iff_getElem];exact⟨d,i,b,rfl,λj f=>by simpa using e j f⟩
 rw[this]
theorem ok_bec(F:Fun K "becomes" "becomes" NP f fd)(T:Top K mg a)(u:Cal P w K mg base CX0 4 "deciding" Mx (ZY a)):AL P w K mg base CX0 5 f fd Mx (Wu a):=by
 refine F.ok Pu D_9 λv A j s H vs Q E M h=>?_
 obtain⟨p,l,z,r,cell,ar,rfl,o,I,G,k⟩:=h;refine⟨_,(Ac (Aq (i:=3) Pu.nd rfl O_9 (As u (rm M) rfl Ao (Aa (pv 0) (Aa (pv 1) (Aa (pv 2) Ab))))) (Ac (AO (AA GB (pv 3) Db (AG _)) (Ah (Av (pv 1))) AC) (Ah (Av (AB (Aj Al (AB (pv 0) rfl) (pv 3) R_9) rfl))))),?_⟩
 try dsimp only[cxK]
 refine xw3 rfl rfl rfl ⟨p,l,z,r,cell,ar,rfl,o,I,G,λm g=>?_⟩;refine xq1 rfl ⟨rfl,(xq1 rfl ?_)⟩;cases e:JJ r cell ar with
 |none =>
  refine BP (xq1 rfl ?_);have:=k m g;rw[NA e]at this;exact this
 |some i =>
  obtain⟨c,n,B⟩:=Nz e;obtain⟨dx,t,cs,L,N,d⟩:=o.ex;obtain⟨q,eq⟩:∃q,cs[i]?=some q:=by
   have O:cs.length=r.length:=K9 d;have:i<cs.length:=by rw[O];exact(B5.mp n).1
   exact⟨_,C0 this⟩
  obtain⟨R,b,D⟩:=Paired.get d eq;rw[n]at b;cases b;obtain⟨y,S,x,C,_⟩:=(D.same g).ex;refine Bd (xwf rfl rfl (g _ _ L) T.cl_Rule T.na_Rule_clauses fl2_2 (xwi rfl rfl rfl (SqT.of (g _ _ N)) (Ai (by rw[B6,eq];rfl)) (xq5 C T.cl_Clause T.na_Clause_makes fl3_3 ?_)));have:=k m g;rw[B]at this;exact this
end
def sgD(d:Int):Str:=⟨#[48+d.toNat]⟩
def wC:Option Int->Nat
|none=>42
|some d=>48+d.toNat
def wS(x:Option Int):Str:=⟨#[wC x]⟩
def DH(ns:I_):Str:=⟨(ns.map λn=>48+n.toNat).toArray⟩
def AR:Bc->Str
|.am s ns=>sgD s++⟨#[61]⟩++DH ns
|.pl ws=>⟨(ws.map wC).toArray⟩
def Ba(c:AT):Str:=Str.join ⟨#[32]⟩ (wS c.cell::(c.conds.map AR++[sgD c.makes]))
def Oz:Str:=⟨#[59,32]⟩
def De(r:AD):Str:=Str.join Oz (r.map Ba)
def JG(d:Int):Prop:=0<=d/\d<8
def wOk:Option Int->Prop
|none=>True
|some d=>JG d
def Bc.ok:Bc->Prop
|.am s ns=>JG s/\ns≠[]/\(∀n∈ns,0<=n/\n<=8)/\ns.Pairwise (· < ·)
|.pl ws=>ws.length=8/\∀w∈ws,wOk w
structure AT.ok(c:AT):Prop where
cell:wOk c.cell
makes:JG c.makes
few:c.conds.length<=50
conds:∀d∈c.conds,d.ok
theorem eight{d:Int}(h:JG d):d=0\/d=1\/d=2\/d=3\/d=4\/d=5\/d=6\/d=7:=by
 obtain⟨m,rfl⟩:=J3 h.1;have a:=h.2;exact(show ∀m:Nat,m<8->((m:Int)=0\/(m:Int)=1\/(m:Int)=2\/(m:Int)=3\/(m:Int)=4\/(m:Int)=5\/(m:Int)=6\/(m:Int)=7) by decide) m A0
abbrev figs8:Str:=Str.ofString "01234567"
abbrev figs9:Str:=Str.ofString "012345678"
theorem ZJ{d:Int}(h:JG d):PySem.intText? (sgD d)=some d/\(!(Builtin.Str.occurrences figs8 (sgD d) 0 figs8.length 1).isEmpty)=true:=by
 rcases eight h with rfl|rfl|rfl|rfl|rfl|rfl|rfl|rfl<;>exact⟨by decide +kernel,by decide +kernel⟩
theorem nine{d:Int}(a:0<=d)(b:d<=8):d=0\/d=1\/d=2\/d=3\/d=4\/d=5\/d=6\/d=7\/d=8:=by
 obtain⟨m,rfl⟩:=J3 a;exact(show ∀m:Nat,m<9->((m:Int)=0\/(m:Int)=1\/(m:Int)=2\/(m:Int)=3\/(m:Int)=4\/(m:Int)=5\/(m:Int)=6\/(m:Int)=7\/(m:Int)=8) by decide) m A0
theorem am_facts{d:Int}(a:0<=d)(b:d<=8):PySem.intText? (⟨#[48+d.toNat]⟩:Str)=some d/\(!(Builtin.Str.occurrences figs9 (⟨#[48+d.toNat]⟩:Str) 0 figs9.length 1).isEmpty)=true:=by
 rcases nine a b with rfl|rfl|rfl|rfl|rfl|rfl|rfl|rfl|rfl<;>exact⟨by decide +kernel,by decide +kernel⟩
theorem star_no{d:Int}(h:JG d):decide (V.str (wS (some d))=V.str (Str.ofString "*"))=false:=by
 rcases eight h with rfl|rfl|rfl|rfl|rfl|rfl|rfl|rfl<;>decide +kernel
theorem Pi{x:Option Int}(h:wOk x):wC x≠61/\wC x≠32/\wC x≠59:=by
 cases x with
 |none=>exact⟨by decide,by decide,by decide⟩
 |some d =>
  have:=h.1;have:=h.2;show 48+d.toNat≠61/\48+d.toNat≠32/\48+d.toNat≠59;refine⟨?_,?_,?_⟩<;>lia
theorem Rz{d:Bc}(h:d.ok):32∉(AR d).cps.toList/\59∉(AR d).cps.toList:=by
 cases d with
 |am s ns =>
  obtain⟨⟨g,i⟩,_,c,_⟩:=h;have e:(AR (.am s ns)).cps.toList=(48+s.toNat)::61::ns.map λn=>48+n.toNat:=by
   show(sgD s++⟨#[61]⟩++DH ns).cps.toList=_;rw[Tx.Cp,Tx.Cp];rfl
  rw[e];constructor
  .intro z;rcases B7.mp z with z|z
   .lia
   .rcases B7.mp z with z|z
    .lia
    .obtain⟨n,a,e⟩:=C8.mp z;have:=c n a;lia
  .intro z;rcases B7.mp z with z|z
   .lia
   .rcases B7.mp z with z|z
    .lia
    .obtain⟨n,a,e⟩:=C8.mp z;have:=c n a;lia
 |pl f =>
  have e:(AR (.pl f)).cps.toList=f.map wC:=rfl;rw[e];constructor
  .intro z;obtain⟨x,b,e⟩:=C8.mp z;exact(Pi (h.2 x b)).2.1 e
  .intro z;obtain⟨x,b,e⟩:=C8.mp z;exact(Pi (h.2 x b)).2.2 e
theorem Pg:∀(ns:I_)(lo:Int),lo<=9->(∀n∈ns,lo<=n/\n<=8)->ns.Pairwise (· < ·)->(ns.length:Int)<=9-lo
|[],lo,h,_,_=>by show(0:Int)<=9-lo;lia
|n::r,lo,_,hn,hp=>by
 have b:=hn n C4;have c:=Pg r (n+1) A0 (λm a=>⟨by have:=(List.pairwise_cons.mp hp).1 m a;lia,(hn m (C5 _ a)).2⟩) (List.pairwise_cons.mp hp).2;rw[D6];lia
theorem Lw{d:Bc}(h:d.ok):(AR d).length<=11:=by
 cases d with
 |am s ns =>
  obtain⟨_,_,a,b⟩:=h;have e:=Pg ns 0 A4 a b;rw[Nu.len];show(sgD s++⟨#[61]⟩++DH ns).cps.toList.length<=11;rw[Tx.Cp,Tx.Cp,C1,C1];show 1+1+(ns.map λn=>48+n.toNat).length<=11;rw[B4];lia
 |pl c =>
  rw[Nu.len];show(c.map wC).length<=11;rw[B4,h.1];decide
section
variable{P:N_}{w:Q_}{K:O_}{mg:C_}{base:T_}{a:Ad}
theorem Wl(K:O_):kitOne K (.type "str") (.type "str")=some true:=by kernel_rfl
inductive SpRS(vs:List V)(H:Hp)(Q:VK):Prop
|mk (d:Int) (_:vs=[.str (sgD d)]) (_:JG d) (_:Q (.int d) H):SpRS vs H Q
def ZP:Sp:=λvs H Q _=>SpRS vs H Q
theorem ok_rs(F:Fun K "read_state" "read_state" IT f fd)(T:Top K mg a):AL P w K mg base CX0 1 f fd Su ZP:=by
 refine F.ok QF D_9 λc A b s H vs Q E j h=>?_
 obtain⟨d,rfl,i,k⟩:=h;obtain⟨e,g⟩:=ZJ i;refine⟨_,(Ac (AO (PW.pt (PL (AA GV (AX FS rfl T.b_len A1a (Aa (pv 0) Ab)) Ae (AG _)) (Ms (AA MY (pv 0) (Ji rfl T.k_STATE_FIGURES) rfl)))) (Ah Bl) AC) (Ah (Av (Bw Iz rfl T.b_int A2e (Aa (pv 0) Ab))))),?_⟩
 try dsimp only[cxK]
 refine xw2 rfl rfl ⟨S_1,rfl,(xq1 rfl ?_)⟩;refine Qr rfl (xwb rfl rfl rfl (xq1 rfl ?_));rw[g];exact Bd (xq1 rfl ⟨_,d,rfl,e,(by show 1<=640;decide),k⟩)
inductive SpRW(vs:List V)(H:Hp)(Q:VK):Prop
|mk (x:Option Int) (_:vs=[.str (wS x)]) (_:wOk x) (_:Q (Ix x) H):SpRW vs H Q
def spRW:Sp:=λvs H Q _=>SpRW vs H Q
theorem ok_rw(F:Fun K "read_wanted" "read_wanted" Ig f fd)(T:Top K mg a)(e:Cal P w K mg base CX0 1 "read_state" Su ZP):AL P w K mg base CX0 2 f fd Su spRW:=by
 refine F.ok Pr D_9 λg A b s H vs Q E i h=>?_
 obtain⟨x,rfl,c,k⟩:=h;refine⟨_,(Ac (AO (AA CG (pv 0) (Ji rfl T.k_ANY_SIGN) (AG _)) (Ah (Av Db)) AC) (Ah (Av (As e (rm i) rfl Ao (Aa (pv 0) Ab))))),?_⟩
 try dsimp only[cxK]
 refine xq1 rfl ⟨rfl,(xq1 rfl ?_)⟩;cases x with
 |none=>exact BP k
 |some d =>
  rw[star_no c];exact Bd (xq1 rfl ⟨d,rfl,c,k⟩)
inductive SpRN(vs:List V)(H:Hp)(Q:VK):Prop
|mk (ns:I_) (_:vs=[.str (DH ns)]) (_:ns≠[]) (_:ns.length<=100) (_:(∀n∈ns,0<=n/\n<=8)) (_:ns.Pairwise (· < ·)) (_:∀(t:R_)(H':Hp),Az H H'->H' t=some (.tup (ns.map V.int))->Q (.ref t) H'):SpRN vs H Q
def spRN:Sp:=λvs H Q _=>SpRN vs H Q
theorem ok_rn(F:Fun K "read_numbers" "read_numbers" Gc f fd)(T:Top K mg a):AL P w K mg base CX0 1 f fd Go spRN:=by
 refine F.ok Fy D_9 λI A q s H vs Q E X h=>?_
 obtain⟨ns,rfl,o,B,D,R,k⟩:=h;have M:(DH ns).length=ns.length:=by rw[Nu.len];show(ns.map _).length=_;rw[B4]
 have r:(DH ns).cps.toList=ns.map λn=>48+n.toNat:=rfl;have pos:0<ns.length:=T7.mpr o;refine⟨_,(Ac (AO (AA CG (AX FS rfl T.b_len A1a (Aa (pv 0) Ab)) Ae (AG _)) (Ah Bl) AC) (Ac (Aq (i:=1) Fy.nd rfl O_9 (Ce Ab)) (Ac (CK K7 rfl (pi_str (pv 0)) (BD (i:=2) Fy.nd rfl O_9) (Ac (AO (AA MY (pv 2) (Ji rfl T.k_AMOUNT_FIGURES) rfl) (Ah Bl) AC) (Ac (AO (PW.pt (Mt (AA Ri (AX Cr rfl T.b_len A1a (Aa (pv 1) Ab)) Ae (AG _)) (Jg (AA MZ (Bw Iz rfl T.b_int A2e (Aa (pv 2) Ab)) (Aj Ay (pv 1) (JX FY Ae) R_9) (AG _))))) (Ah Bl) AC) (Ah (BW (CQ K8 A0a A0b Cc (pv 1) (Aa (Bw Iz rfl T.b_int A2e (Aa (pv 2) Ab)) Ab))))))) (Ah (Av (Bw BE rfl T.b_tuple A0f (Aa (pv 1) Ab))))))),?_⟩
 try dsimp only[cxK]
 refine xw2 rfl rfl ⟨(by rw[M];exact D7 B A4),rfl,(xq1 rfl ?_)⟩;have W:decide (V.int ((DH ns).length:Int)=V.int 0)=false:=X9 λz=>by
  injection z with z
  lia
 rw[W];refine Bd ⟨S_0,λl m=>?_⟩;refine xw2 rfl rfl ?_;refine for_str (λi σ c=>∃v,σ=[some (.str (DH ns)),some (.ref l),v]/\c=upd H l (.lst ((ns.take i).map V.int))) ⟨none,rfl,rfl⟩ ?_ ?_
 .rintro i ch σ c j ⟨v,rfl,rfl⟩;have b:(ns.map λn=>48+n.toNat)[i]?=some ch:=by rw[<-r];simpa using j
  rw[B6]at b;obtain⟨n,d,rfl⟩:=C9.mp b;have G:=D0 d;obtain⟨u,N⟩:=am_facts (D n G).1 (D n G).2;have y:i<ns.length:=(B5.mp d).1;have tl:(ns.take i).length=i:=by rw[J0];lia
  refine xwb rfl rfl rfl (xq1 rfl ?_);rw[N];refine Bd (xq1 rfl ⟨l,(xq1 rfl ⟨.inl (SqL.of Af),(xq2 rfl rfl (xq1 rfl ?_))⟩)⟩);have nx:∃v,([some (V.str (DH ns)),some (.ref l),some (.str ⟨#[48+n.toNat]⟩)]:St)=[some (.str (DH ns)),some (.ref l),v]/\upd (upd H l (.lst ((ns.take i).map V.int))) l (.lst ((ns.take i).map V.int++[V.int n]))=upd H l (.lst ((ns.take (i+1)).map V.int)):=by
   refine xq1 rfl ?_;rw[GM,F3,d,C3];rfl
  have app:tDrop (tBM K "list" WE (GZ 1) (CO (tCB (λxs H Q=>∃x n,xs=[.str x]/\PySem.intText? x=some n/\x.length<=640/\Q (.int n) H) (CO (GZ 2) QC)) QC))
    {nx:=fun σ c=>∃v,σ=[some (.str (DH ns)),some (.ref l),v]/\c=upd H l (.lst ((ns.take (i+1)).map V.int)),rt:=Q,bk:=λ_ _=>False,ct:=fun σ c=>∃v,σ=[some (.str (DH ns)),some (.ref l),v]/\c=upd H l (.lst ((ns.take (i+1)).map V.int))}
    [some (.str (DH ns)),some (.ref l),some (.str ⟨#[48+n.toNat]⟩)] (upd H l (.lst ((ns.take i).map V.int))) :=
   ⟨_,rfl,.inl ⟨rfl,_,SqL.of Af⟩,_,rfl,_,n,rfl,u,(by show 1<=640;decide),l,_,_,rfl,rfl,Af,(by rw[B4,tl];exact F5 y (D7 B A4)),nx⟩
  by_cases U:i=0
  .subst U;exact Bd app
  .have Y:0<i:=by lia
   have p:decide ((0:Int)<(((ns.take i).map V.int).length:Int))=true:=X8 (by rw[B4,tl];lia);rw[p];have C:i-1<ns.length:=by lia
   have O:ns[i-1]<n:=by
    have:=List.pairwise_iff_getElem.mp R (i-1) i C y A0;rw[(B5.mp d).2]at this;exact this
   have g:atI ((ns.take i).map V.int) (-1)=some (V.int ns[i-1]):=by
    have:((ns.take i).map V.int)[i-1]?=some (V.int ns[i-1]):=by
     rw[B6,V5 A0,C0 C];rfl
    have L:((ns.take i).map V.int).length=i:=by rw[B4,tl]
    unfold atI ixN;rw[L,X7 A4,K0 A0];show((ns.take i).map V.int)[((-1:Int)+(i:Nat)).toNat]?=_;rw[show((-1:Int)+(i:Nat)).toNat=i-1 by lia];exact this
   refine BP (xq1 rfl ⟨_,n,rfl,u,(by show 1<=640;decide),(xw2 rfl rfl ⟨l,_,(xq2 rfl rfl ⟨SqL.of Af,g,(xq2 rfl rfl (xq1 rfl ?_))⟩)⟩)⟩);rw[X9 (by lia:¬n<=ns[i-1])];exact Bd app
 .rintro σ c ⟨v,rfl,rfl⟩;have e:(DH ns).cps.size=ns.length:=by
   have:(DH ns).cps.toList.length=ns.length:=by rw[r,B4]
   simpa using this
  rw[e,F6];refine xq1 rfl ⟨l,(xq1 rfl (.inl ⟨SqL.of Af,λt S=>?_⟩))⟩;exact k t _ ((Ar m).trans (Ar S)) Af
theorem eq_in(x:Str):(!(Builtin.Str.occurrences x (Str.ofString "=") 0 x.length 1).isEmpty)=decide (61∈x.cps.toList):=by
 have:Str.ofString "=" = (⟨#[61]⟩:Str):=by decide +kernel
 rw[this];exact StrLaws.found_one x 61
inductive Yg(a:Ad)(vs:List V)(H:Hp)(Q:VK):Prop
|mk (d:Bc) (_:vs=[.str (AR d)]) (_:d.ok) (_:∀(p:R_)(H':Hp),Az H H'->DC a H' p d->Q (.ref p) H'):Yg a vs H Q
def RS(a:Ad):Sp:=λvs H Q _=>Yg a vs H Q
inductive SpRAm(a:Ad)(vs:List V)(H:Hp)(Q:VK):Prop
|mk (s:Int) (ns:I_) (_:vs=[.str (AR (.am s ns))]) (_:(Bc.am s ns).ok) (_:∀(p:R_)(H':Hp),Az H H'->DC a H' p (.am s ns)->Q (.ref p) H'):SpRAm a vs H Q
def ZR(a:Ad):Sp:=λvs H Q _=>SpRAm a vs H Q
theorem ok_ram(F:Fun K "read_amounts" "read_amounts" Gd f fd)(T:Top K mg a)(C:Cal P w K mg base CX0 1 "read_state" Su ZP)(D:Cal P w K mg base CX0 1 "read_numbers" Go spRN)
 (I:QY P w K mg base CX0 1 "Amounts" a.c_Amounts Qh (Po a)):AL P w K mg base CX0 3 f fd Su (ZR a):=by
 refine F.ok JB D_9 λG A o s H vs Q E l h=>?_
 obtain⟨d,ns,rfl,u,k⟩:=h;have q:=Lw u;obtain⟨p,j,r,v⟩:=u;have O:=Pg ns 0 A4 r v;have g:Str.ofString "=" = (⟨#[61]⟩:Str):=by decide +kernel
 have L:Txt.partition (AR (.am d ns)) (Str.ofString "=")=(sgD d,⟨#[61]⟩,DH ns):=by
  rw[g];refine Tx.DL 61 (sgD d) (DH ns) ?_;intro z;have:61=48+d.toNat:=by simpa[sgD] using z
  have:=p.2;lia
 refine⟨_,(Ac (Aq (i:=1) JB.nd rfl O_9 (CQ A0e PySem.F.slot_str_partition PySem.F.type_str_partition SH (pv 0) (PU Ab))) (Ah (Av (GS I (rm l) rfl Ao (Aa (As C (rm l) rfl Ao (Aa (Aj Al (pv 1) Ae R_9) Ab)) (Aa (As D (rm l) rfl Ao (Aa (Aj Al (pv 1) Ae R_9) Ab)) Ab)))))),?_⟩
 try dsimp only[cxK]
 refine xq1 rfl ⟨rfl,(xq2 rfl rfl ⟨A1,A0,λt M=>?_⟩)⟩;rw[L];refine xq1 rfl ⟨t,_,0,(xq1 rfl ⟨rfl,SqT.of Af,rfl,d,rfl,p,(xq1 rfl ⟨t,_,2,(xq1 rfl ⟨rfl,SqT.of Af,rfl,ns,rfl,j,by lia,r,v,λB b N m=>?_⟩)⟩)⟩)⟩;intro x dx nx c e;have R:Az b (upd (upd b dx (.own x)) x (.ins a.c_Amounts dx [])):=(Ar c).trans (Ar (by rw[Ax (K3 e)];exact nx));refine⟨x,B,dx,d,rfl,Af,rfl,?_⟩;have n:(upd b dx (.own x)) x=none:=by rw[Ax (K3 e)];exact nx
 rw[GM];have y:Az b (upd (upd b dx (.own x)) x (.ins a.c_Amounts dx (fl2 "state" "numbers" (.int d) (.ref B)))):=(Ar c).trans (Ar n);exact k x _ (((Ar M).trans N).trans y) (.am Af (y _ _ m))
inductive SpRPl(a:Ad)(vs:List V)(H:Hp)(Q:VK):Prop
|mk (ws:List (Option Int)) (_:vs=[.str (AR (.pl ws))]) (_:(Bc.pl ws).ok) (_:∀(p:R_)(H':Hp),Az H H'->DC a H' p (.pl ws)->Q (.ref p) H'):SpRPl a vs H Q
def ZQ(a:Ad):Sp:=λvs H Q _=>SpRPl a vs H Q
theorem ok_rpl(F:Fun K "read_places" "read_places" EZ f fd)(T:Top K mg a)(B:Cal P w K mg base CX0 2 "read_wanted" Su spRW)
 (D:QY P w K mg base CX0 1 "Places" a.c_Places QR (Pl a)):AL P w K mg base CX0 3 f fd Su (ZQ a):=by
 refine F.ok Ps D_9 λC A n s H vs Q E y h=>?_
 obtain⟨b,rfl,v,k⟩:=h;have g:=Lw v;obtain⟨u,L⟩:=v;have G:(AR (.pl b)).length=8:=by rw[Nu.len];show(b.map wC).length=8;rw[B4,u]
 have p:(AR (.pl b)).cps.toList=b.map wC:=rfl;refine⟨_,(Ac (AO (AA GV (AX FS rfl T.b_len A1a (Aa (pv 0) Ab)) (BX rfl T.k_NEIGHBOURS) (AG _)) (Ah Bl) AC) (Ah (Av (GS D (rm y) rfl Ao (Aa (Bw BE rfl T.b_tuple A0f (Aa (BL rfl (Bo.of (So:=Ak EZ) (No:=Su) (N:=["sign"]) (k:=1) (cs:=[]) rfl rfl A1) (pi_str (pv 0)) (λ_ _ _=>(AZ (i:=0) A1 rfl rfl)) (λ_ _ _=>BC) (λ_ _ _=>(As B (rm y) rfl Ao (Aa (pv 0) Ab)))) Ab)) Ab))))),?_⟩
 try dsimp only[cxK]
 refine xw2 rfl rfl ⟨D7 g A4,rfl,(xq1 rfl ?_)⟩;rw[G];refine Qr rfl (xw2 rfl rfl ?_);refine blk_str (λi d c=>c=H/\d=(b.take i).map Ix) ⟨rfl,rfl⟩ ?_ ?_
 .rintro i ch d c e ⟨rfl,rfl⟩;rw[p,B6]at e;obtain⟨x,r,rfl⟩:=C9.mp e;refine⟨⟨[some (.str ⟨#[wC x]⟩)],rfl,rfl⟩,?_,?_⟩
  .rw[B4,J0];exact F2 (N5 _ _) (by rw[u];decide)
  .refine FI (xq1 rfl ⟨x,rfl,L x (D0 r),rfl,?_⟩);rw[F3,r,C3];rfl
 .rintro d c ⟨rfl,rfl⟩ q M;rw[p,B4,F6];refine⟨q,(xq1 rfl (.inl ⟨SqL.of Af,λt I=>?_⟩))⟩;intro x dx nx j l;have m:∀o,(upd (upd (upd c q (.lst (b.map Ix))) t (.tup (b.map Ix))) dx o) x=none:=λo=>by rw[Ax (K3 l)];exact nx
  refine⟨x,t,dx,rfl,Af,rfl,?_⟩;rw[GM];have O:Az c (upd (upd c q (.lst (b.map Ix))) t (.tup (b.map Ix))):=(Ar M).trans (Ar I);have z:Az (upd (upd c q (.lst (b.map Ix))) t (.tup (b.map Ix))) (upd (upd (upd (upd c q (.lst (b.map Ix))) t (.tup (b.map Ix))) dx (.own x)) x (.ins a.c_Places dx (fl1 "wanted" (.ref t)))):=(Ar j).trans (Ar (m _));exact k x _ (O.trans z) (.pl Af (z _ _ Af))
theorem ok_rcond(F:Fun K "read_condition" "read_condition" EK f fd)(T:Top K mg a)(j:Cal P w K mg base CX0 3 "read_amounts" Su (ZR a))(l:Cal P w K mg base CX0 3 "read_places" Su (ZQ a)) :
 AL P w K mg base CX0 4 f fd Su (RS a):=by
 refine F.ok ML D_9 λn A c s H vs Q E i h=>?_
 obtain⟨d,rfl,b,k⟩:=h;refine⟨_,(Ac (AO (AA Rh Es (pv 0) rfl) (Ah (Av (As j (rm i) rfl Ao (Aa (pv 0) Ab)))) AC) (Ah (Av (As l (rm i) rfl Ao (Aa (pv 0) Ab))))),?_⟩
 try dsimp only[cxK]
 refine xwb rfl rfl rfl (xq1 rfl ?_);rw[eq_in];cases d with
 |am s ns =>
  have m:61∈(AR (.am s ns)).cps.toList:=by
   show 61∈(sgD s++⟨#[61]⟩++DH ns).cps.toList;rw[Tx.Cp,Tx.Cp];simp
  rw[X8 m];exact BP (xq1 rfl ⟨s,ns,rfl,b,k⟩)
 |pl g =>
  have m:¬61∈(AR (.pl g)).cps.toList:=λz=>by
   obtain⟨x,o,e⟩:=C8.mp (show 61∈g.map wC from z);exact(Pi (b.2 x o)).1 e
  rw[X9 m];exact Bd (xq1 rfl ⟨g,rfl,b,k⟩)
inductive SpRC(a:Ad)(vs:List V)(H:Hp)(Q:VK):Prop
|mk (c:AT) (_:vs=[.str (Ba c)]) (_:c.ok) (_:∀(p:R_)(H':Hp),Az H H'->Ch a H' p c->Q (.ref p) H'):SpRC a vs H Q
def spRC(a:Ad):Sp:=λvs H Q _=>SpRC a vs H Q
theorem GG{c:AT}(h:c.ok):(Ba c).length<=1000:=by
 have j:=StrLaws.join_length_le ⟨#[32]⟩ (wS c.cell::(c.conds.map AR++[sgD c.makes]));have b:∀l:List Bc,(∀d∈l,d.ok)->((l.map AR).map (·.length)).sum<=11*l.length:=by
  intro l;induction l with
  |nil=>intro _;exact L8 _
  |cons d r k =>
   intro f;have q:=Lw (f d C4);have s:=k λe i=>f e (C5 _ i);simp only[F4,P0,D6];lia
 have p:=b c.conds h.conds;have g:=h.few;simp only[F4,C3,Z7,P0,List.sum_append,List.sum_nil,D6,C1,P8,B4]at j;have m:(wS c.cell).length=1:=rfl;have n:(sgD c.makes).length=1:=rfl;have o:(⟨#[32]⟩:Str).length=1:=rfl;rw[m,n,o]at j;unfold Ba;lia
theorem LQ(x:Option Int)(h:wOk x):32∉(wS x).cps.toList/\59∉(wS x).cps.toList:=by
 have:=Pi h;constructor
 .intro z;have:32=wC x:=by simpa[wS] using z
  exact(Pi h).2.1 this.symm
 .intro z;have:59=wC x:=by simpa[wS] using z
  exact(Pi h).2.2 this.symm
theorem Nt{c:AT}(h:c.ok):Txt.split (Ba c) (Str.ofString " ")=wS c.cell::(c.conds.map AR++[sgD c.makes]):=by
 have e:Str.ofString " " = (⟨#[32]⟩:Str):=by decide +kernel
 rw[e];refine Tx.Tw 32 _ A6 λt b=>?_;rcases B7.mp b with rfl|b
 .exact(LQ _ h.cell).1
 .rcases D4.mp b with b|b
  .obtain⟨d,f,rfl⟩:=C8.mp b;exact(Rz (h.conds d f)).1
  .rw[C7.mp b];exact(LQ (some c.makes) h.makes).1
theorem cut_mid(x z:V)(ys:List V):VQ (x::(ys++[z])) (some 1) (some (-1))=ys:=by
 have n:(x::(ys++[z])).length=ys.length+2:=by simp
 unfold VQ;rw[n];have b:HT.sIx (ys.length+2) 0 (some 1)=1:=by
  show(if(1:Int)<0 then((1:Int)+((ys.length+2:Nat):Int)).toNat else min (1:Int).toNat (ys.length+2))=1;rw[X7 A4];show min 1 (ys.length+2)=1;lia
 have c:HT.sIx (ys.length+2) (ys.length+2) (some (-1))=ys.length+1:=by
  show(if(-1:Int)<0 then((-1:Int)+((ys.length+2:Nat):Int)).toNat else min (-1:Int).toNat (ys.length+2))=ys.length+1;rw[K0 A4];lia
 rw[b,c];show(ys++[z]).take (ys.length+1-1)=ys;rw[Z2,List.take_left' rfl]
theorem at_last(x:V)(ys:List V)(z:V):atI (x::(ys++[z])) (-1)=some z:=by
 have n:(x::(ys++[z])).length=ys.length+2:=by simp
 unfold atI ixN;rw[n,X7 A4,K0 A0];show(x::(ys++[z]))[((-1:Int)+((ys.length+2:Nat):Int)).toNat]?=some z;rw[show((-1:Int)+((ys.length+2:Nat):Int)).toNat=ys.length+1 by lia,W1,F8 (B8 _),T9];rfl
theorem ok_rc(F:Fun K "read_clause" "read_clause" Fa f fd)(T:Top K mg a)(aN:Cal P w K mg base CX0 1 "read_state" Su ZP)(aY:Cal P w K mg base CX0 2 "read_wanted" Su spRW)
 (bF:Cal P w K mg base CX0 4 "read_condition" Su (RS a)) (dL:QY P w K mg base CX0 1 "Clause" a.c_Clause QU (Pn a)):AL P w K mg base CX0 5 f fd Ip (spRC a):=by
 refine F.ok Eg D_9 λab A Y s H vs Q E G h=>?_
 obtain⟨c,rfl,u,k⟩:=h;have aa:=GG u;have I:=u.few;refine⟨_,(Ac (AO (Er (DT (AX IK rfl T.b_isinstance A1b (Aa (pv 0) (Aa (LE (v:=.ty "str") rfl T.b_str A2f rfl) Ab))))) (Ah Bl) AC) (Ac (Aq (i:=1) Eg.nd rfl O_9 (CQ A0e A5e A5f Qi (pv 0) (PU Ab))) (Ac (AO (AA JF (AX Cr rfl T.b_len A1a (Aa (pv 1) Ab)) Ae (AG _)) (Ah Bl) AC) (Ac (Aq (i:=2) Eg.nd rfl O_9 (As aY (rm G) rfl Ao (Aa (Aj Ay (pv 1) Ae R_9) Ab))) (Ac (Aq (i:=3) Eg.nd rfl O_9 (Bw BE rfl T.b_tuple A0f (Aa (BL rfl (Bo.of (So:=Ak Fa) (No:=Mb) (N:=["word"]) (k:=1) (cs:=[]) rfl rfl A1) (BS (Ua Wv (pv 1) (Sj Ae) (Sj (JX FY Ae)))) (λ_ _ _=>(AZ (i:=0) A1 rfl rfl)) (λ_ _ _=>BC) (λ_ _ _=>(As bF (rm G) rfl Ao (Aa (pv 0) Ab)))) Ab))) (Ah (Av (GS dL (rm G) rfl Ao (Aa (pv 2) (Aa (pv 3) (Aa (As aN (rm G) rfl Ao (Aa (Aj Ay (pv 1) (JX FY Ae) R_9) Ab)) Ab))))))))))),?_⟩
 try dsimp only[cxK]
 refine xq1 rfl ⟨_,_,_,.type "str",true,rfl,rfl,.of (.str _),Wl K,true,rfl,?_⟩;refine Bd (xq1 rfl ⟨rfl,(xq2 rfl rfl ⟨A1,A0,λl hl=>?_⟩)⟩);rw[Nt u];have eW:((wS c.cell::(c.conds.map AR++[sgD c.makes])).map V.str)=V.str (wS c.cell)::((c.conds.map λd=>V.str (AR d))++[V.str (sgD c.makes)]):=by
  rw[F4,C3,M5];rfl
 rw[eW];have hL:∀o,upd H l o l=some o:=λo=>Af;refine xq1 rfl ⟨l,(xq1 rfl ⟨.inl (SqL.of Af),(xq2 rfl rfl (xq1 rfl ?_))⟩)⟩;rw[X9 (by simp;lia:¬((((V.str (wS c.cell)::((c.conds.map λd=>V.str (AR d))++[V.str (sgD c.makes)])).length:Nat):Int)<2))];refine Bd (xwi rfl rfl rfl (SqL.of Af) (Ai (j:=0) rfl) ⟨c.cell,rfl,u.cell,?_⟩);refine xw3 rfl rfl rfl (xq1 rfl ⟨l,(xq1 rfl ⟨SqL.of Af,λq M=>⟨q,rfl,⟨_,SqL.of Af⟩,?_⟩⟩)⟩);rw[cut_mid];have s0:Az H (upd (upd H l (.lst (V.str (wS c.cell)::((c.conds.map λd=>V.str (AR d))++[V.str (sgD c.makes)])))) q (.lst (c.conds.map λd=>V.str (AR d)))):=(Ar hl).trans (Ar M);have W:l≠q:=λz=>by rw[<-z,Af]at M;cases M
 generalize g:upd (upd H l (.lst (V.str (wS c.cell)::((c.conds.map λd=>V.str (AR d))++[V.str (sgD c.makes)])))) q (.lst (c.conds.map λd=>V.str (AR d)))=B;rw[g]at s0;have O:B q=some (.lst (c.conds.map λd=>V.str (AR d))):=by rw[<-g];exact Af
 have L:B l=some (.lst (V.str (wS c.cell)::((c.conds.map λd=>V.str (AR d))++[V.str (sgD c.makes)]))):=by rw[<-g,Ax W];exact Af
 refine CC (xs:=c.conds.map λd=>V.str (AR d)) (λi b e=>∃ps:List Addr,b=ps.map V.ref/\Az B e/\Paired (DC a e) ps (c.conds.take i)) ⟨[],rfl,Az.refl B,.nil⟩ (λi b e _ ⟨ps,_,D,_⟩=>SqL.of (D _ _ O)) ?_ ?_
 .rintro i x b e hx ⟨ps,rfl,D,C⟩;rw[B6]at hx;obtain⟨d,ed,rfl⟩:=C9.mp hx;refine⟨⟨[some (.str (AR d))],rfl,rfl⟩,?_,?_⟩
  .have e1:=K9 C;rw[J0]at e1;rw[B4,e1];exact F2 (N5 _ _) (F2 I A4)
  .refine FI (xq1 rfl ⟨d,rfl,u.conds d (D0 ed),λp n y hp=>⟨ps++[p],by rw[C3];rfl,D.trans y,?_⟩⟩);rw[F3,ed];exact A2b (Paired.imp (λ_ _ z=>z.same y) C) hp
 .rintro b e ⟨ps,rfl,D,C⟩ r nr;rw[B4,F6]at C;refine⟨r,(xq1 rfl (.inl ⟨SqL.of Af,λt ht=>?_⟩))⟩;have y:Az B (upd (upd e r (.lst (ps.map V.ref))) t (.tup (ps.map V.ref))):=(D.trans (Ar nr)).trans (Ar ht);generalize m:upd (upd e r (.lst (ps.map V.ref))) t (.tup (ps.map V.ref))=n;have R:n t=some (.tup (ps.map V.ref)):=by rw[<-m];exact Af
  have Z:Az e n:=by rw[<-m];exact(Ar nr).trans (Ar ht)
  rw[m]at y;refine xw3 rfl rfl rfl (xq1 rfl ⟨l,_,(xq2 rfl rfl ⟨SqL.of (y _ _ L),at_last _ _ _,c.makes,rfl,u.makes,?_⟩)⟩);intro x dx nx S U;have X:∀o,(upd n dx o) x=none:=λo=>by rw[Ax (K3 U)];exact nx
  refine⟨x,t,dx,c.cell,c.makes,rfl,Af,rfl,?_⟩;rw[GM];have s4:Az n (upd (upd n dx (.own x)) x (.ins a.c_Clause dx (fl3 "cell" "conditions" "makes" (Ix c.cell) (.ref t) (.int c.makes)))):=(Ar S).trans (Ar (X _));exact k x _ ((s0.trans y).trans s4) ⟨dx,t,ps,Af,s4 _ _ R,Paired.imp (λ_ _ z=>(z.same Z).same s4) C⟩
theorem UE{c:AT}(h:c.ok):59∉(Ba c).cps.toList:=by
 intro z;unfold Ba at z;rw[PyProof.Rows.mem_join]at z;rcases z with ⟨t,b,z⟩|⟨_,z⟩
 .rcases B7.mp b with rfl|b
  .exact(LQ _ h.cell).2 z
  .rcases D4.mp b with b|b
   .obtain⟨d,e,rfl⟩:=C8.mp b;exact(Rz (h.conds d e)).2 z
   .rw[C7.mp b]at z;exact(LQ (some c.makes) h.makes).2 z
 .have:59=32:=by simpa using z
  lia
end
structure FT(r:AD):Prop where
few:r.length<=50
ok:∀c∈r,c.ok
theorem FT.rok{r:AD}(h:FT r):ROk r:=⟨D7 h.few A4,λc a=>⟨D7 (h.ok c a).few A4,λd b f e=>by
 subst e;rw[((h.ok c a).conds _ b).1];decide⟩⟩
theorem TM{r:AD}(h:FT r):(De r).length<=60000:=by
 have j:=StrLaws.join_length_le Oz (r.map Ba);have b:∀l:List AT,(∀c∈l,c.ok)->((l.map Ba).map (·.length)).sum<=1000*l.length:=by
  intro l;induction l with
  |nil=>intro _;exact L8 _
  |cons d r i =>
   intro a;have n:=GG (a d C4);have o:=i λe g=>a e (C5 _ g);simp only[F4,P0,D6];omega
 have m:=b r h.ok;have f:=h.few;have k:Oz.length=2:=rfl;rw[k,B4]at j;unfold De;omega
theorem rule_ne{r:AD}(h:r≠[]):decide (V.str (De r)=V.str (Str.ofString ""))=false:=by
 refine X9 λz=>?_;injection z with z
 obtain⟨c,b⟩:=List.exists_mem_of_ne_nil r h;have d:=PySem.join_mem_le Oz (r.map Ba) (Ba c) (C8.mpr ⟨c,b,rfl⟩);have e:=PySem.join_mem_le ⟨#[32]⟩ (wS c.cell::(c.conds.map AR++[sgD c.makes])) (wS c.cell) C4;have f:(wS c.cell).length=1:=rfl;have a:(De r).length=0:=by rw[z];decide +kernel
 unfold De at a;have g:(Ba c).length=(Str.join ⟨#[32]⟩ (wS c.cell::(c.conds.map AR++[sgD c.makes]))).length:=rfl;omega
theorem DC.put{a:Ad}{H:Hp}{p q:R_}{o u:HO}{c:Bc}(h:DC a H q c)(i:H p=some u)(n:∀C d fs,u=HO.ins C d fs->fs.lookup ("state" : Str)=none/\fs.lookup ("wanted" : Str)=none/\fs.lookup ("makes" : Str)=none)(nt:∀xs,u≠.tup xs):DC a (upd H p o) q c:=by
 have f:∀{b v},H b=some v->v≠u->upd H p o b=some v:=λ{b v} e d=>by rw[Ax (AE e i d)];exact e
 cases h with
 |am h g =>
  refine .am (f h λz=>?_) (f g λz=>nt _ z.symm);have:=(n _ _ _ z.symm).1;rw[WV A1]at this;cases this
 |pl h g =>
  refine .pl (f h λz=>?_) (f g λz=>nt _ z.symm);have:=(n _ _ _ z.symm).2.1;rw[fl1_1]at this;cases this
theorem Ch.put{a:Ad}{H:Hp}{p q:R_}{o u:HO}{c:AT}(h:Ch a H q c)(g:H p=some u)(n:∀C d fs,u=HO.ins C d fs->fs.lookup ("state" : Str)=none/\fs.lookup ("wanted" : Str)=none/\fs.lookup ("makes" : Str)=none)(nt:∀xs,u≠.tup xs):Ch a (upd H p o) q c:=by
 have f:∀{b v},H b=some v->v≠u->upd H p o b=some v:=λ{b v} e d=>by rw[Ax (AE e g d)];exact e
 obtain⟨dx,t,cs,i,j,k⟩:=h.ex;refine⟨dx,t,cs,f i λz=>?_,f j λz=>nt _ z.symm,Paired.imp (λ_ _ z=>z.put g n nt) k⟩;have:=(n _ _ _ z.symm).2.2;rw[fl3_3]at this;cases this
section
variable{P:N_}{w:Q_}{K:O_}{mg:C_}{base:T_}{a:Ad}
inductive SpCT(vs:List V)(H:Hp)(Q:VK):Prop
|mk (r:AD) (_:vs=[.str (De r)]) (_:FT r) (_:∀(l:R_)(H':Hp),Az H H'->H' l=some (.lst (r.map λc=>V.str (Ba c)))->Q (.ref l) H'):SpCT vs H Q
def spCT:Sp:=λvs H Q _=>SpCT vs H Q
theorem ok_ct(F:Fun K "clause_texts" "clause_texts" Ge f fd)(T:Top K mg a):AL P w K mg base CX0 1 f fd Ip spCT:=by
 refine F.ok OB D_9 λm A g s H vs Q E q h=>?_
 obtain⟨r,rfl,j,k⟩:=h;have i:=TM j;refine⟨_,(Ac (AO (AA CG (pv 0) Es (AG _)) (Ah (Av (Ce Ab))) AC) (Ah (Av (CQ A0e A5e A5f Qi (pv 0) (Aa (Ji rfl T.k_CLAUSE_MARK) Ab))))),?_⟩
 try dsimp only[cxK]
 refine xq1 rfl ⟨rfl,(xq1 rfl ?_)⟩;by_cases b:r=[]
 .subst b;refine BP ⟨S_0,λl d=>?_⟩;exact k l _ (Ar d) Af
 .rw[rule_ne b];refine Bd (xq1 rfl ⟨rfl,(xq2 rfl rfl ⟨A1,(by omega),λl d=>?_⟩)⟩);have n:Str.ofString "; " = (⟨#[59,32]⟩:Str):=by decide +kernel
  have e:Txt.split (De r) (Str.ofString "; ")=r.map Ba:=by
   rw[n];refine Tx.Tv _ (by simpa using b) λt p=>?_;obtain⟨c,o,rfl⟩:=C8.mp p;exact UE (j.ok c o)
  rw[e,M5];exact k l _ (Ar d) Af
inductive SpRI(a:Ad)(vs:List V)(H:Hp)(Q:VK):Prop
|mk (p dx:R_) (r:AD) (_:vs=[.ref p,.str (De r)]) (_:H p=some (.ins a.c_Rule dx [])) (_:FT r) (_:∀H',(∀b o,H b=some o->b≠p->H' b=some o)->Cg a H' p (De r) r->Q .non H'):SpRI a vs H Q
def spRI(a:Ad):Sp:=λvs H Q _=>SpRI a vs H Q
theorem ok_ri(F:Fun K "__init__" "Rule.__init__" GR f fd)(T:Top K mg a)(aU:Cal P w K mg base CX0 1 "clause_texts" Ip spCT)(bY:Cal P w K mg base CX0 5 "read_clause" Ip (spRC a)) :
 AL P w K mg base CX0 6 f fd Oy (spRI a):=by
 refine F.ok Sf D_9 λab A W s H vs Q E hr h=>?_
 obtain⟨p,dx,r,rfl,hp,O,k⟩:=h;have aa:=TM O;have S:=O.few;refine⟨_,(Ac (CL (pv 0) (pv 1) rfl) (Ah (CL (pv 0) (Bw BE rfl T.b_tuple A0f (Aa (BL rfl (Bo.of (So:=Ak GR) (No:=Oy) (N:=["part"]) (k:=1) (cs:=[]) rfl rfl A1) (BS (As aU (rm hr) rfl Ao (Aa (pv 1) Ab))) (λ_ _ _=>(AZ (i:=0) A1 rfl rfl)) (λ_ _ _=>BC) (λ_ _ _=>(As bY (rm hr) rfl Ao (Aa (pv 0) Ab)))) Ab)) rfl))),?_⟩
 try dsimp only[cxK]
 refine xw2 rfl rfl ⟨p,_,dx,[],rfl,hp,T.cl_Rule,T.na_Rule_text,B2,?_⟩;generalize B:upd H p (.ins a.c_Rule dx (AY "text" (.str (De r)) []))=R;have v:R p=some (.ins a.c_Rule dx (AY "text" (.str (De r)) [])):=by rw[<-B];exact Af
 have k1:∀b o,H b=some o->b≠p->R b=some o:=λb o e n=>by rw[<-B,Ax n];exact e
 refine xq1 rfl ⟨r,rfl,O,λl X s2 hl=>⟨l,rfl,⟨_,SqL.of hl⟩,?_⟩⟩;refine CC (xs:=r.map λc=>V.str (Ba c)) (λi g u=>∃ps:List Addr,g=ps.map V.ref/\Az X u/\Paired (Ch a u) ps (r.take i)) ⟨[],rfl,Az.refl X,.nil⟩ (λi g u _ ⟨ps,_,M,_⟩=>SqL.of (M _ _ hl)) ?_ ?_
 .rintro i x g u hx ⟨ps,rfl,M,G⟩;rw[B6]at hx;obtain⟨c,Z,rfl⟩:=C9.mp hx;refine⟨⟨[some (.str (Ba c))],rfl,rfl⟩,?_,?_⟩
  .have Y:=K9 G;rw[J0]at Y;rw[B4,Y];exact F2 (N5 _ _) (F2 S A4)
  .refine FI (xq1 rfl ⟨c,rfl,O.ok c (D0 Z),λq m s4 hq=>⟨ps++[q],by rw[C3];rfl,M.trans s4,?_⟩⟩);rw[F3,Z];exact A2b (Paired.imp (λ_ _ z=>z.same s4) G) hq
 .rintro g u ⟨ps,rfl,M,G⟩ q nq;rw[B4,F6]at G;refine⟨q,(xq1 rfl (.inl ⟨SqL.of Af,λt ht=>?_⟩))⟩;generalize D:upd (upd u q (.lst (ps.map V.ref))) t (.tup (ps.map V.ref))=m;have L:Az u m:=by rw[<-D];exact(Ar nq).trans (Ar ht)
  have y:m t=some (.tup (ps.map V.ref)):=by rw[<-D];exact Af
  have j:Az R m:=(s2.trans M).trans L;have U:t≠p:=λz=>by rw[z,j _ _ v]at y;cases y
  refine xq1 rfl ⟨p,_,dx,(xq1 rfl ⟨j _ _ v,T.cl_Rule,T.na_Rule_clauses,B3,?_⟩)⟩;have up:∀b o,m b=some o->b≠p->upd m p (.ins a.c_Rule dx (fl2 "text" "clauses" (.str (De r)) (.ref t))) b=some o:=λb o e n=>by rw[Ax n];exact e
  have cl:∀I c,Ch a m I c->Ch a (upd m p (.ins a.c_Rule dx (fl2 "text" "clauses" (.str (De r)) (.ref t)))) I c:=λI c hc=>by
   exact hc.put (j _ _ v) (λC d fs e=>by
    cases e;exact⟨SV A1,SV A1,SV A1⟩) (λxs z=>by cases z)
  exact k _ (λb o e n=>up _ _ (j _ _ (k1 b o e n)) n) ⟨dx,t,ps,Af,up _ _ y U,Paired.imp (λI c z=>cl I c (z.same L)) G⟩
def BI:List Int:=[0,0,0,0,0,0,0,0]
inductive SpRR(a:Ad)(vs:List V)(H:Hp)(Q:VK):Prop
|mk (r:AD) (_:vs=[.str (De r)]) (_:FT r) (_:Cs r 0 BI=0) (_:∀(p:R_)(H':Hp),Az H H'->Cg a H' p (De r) r->Q (.ref p) H'):SpRR a vs H Q
def spRR(a:Ad):Sp:=λvs H Q _=>SpRR a vs H Q
theorem ok_rr(F:Fun K "read_rule" "read_rule" JO f fd)(T:Top K mg a)(D:QY P w K mg base CX0 6 "Rule" a.c_Rule Oy (spRI a))(B:Cal P w K mg base CX0 5 "becomes" Mx (Wu a)) :
 AL P w K mg base CX0 8 f fd Ip (spRR a):=by
 refine F.ok MK D_9 λC A g s H vs Q E t h=>?_
 obtain⟨r,rfl,q,G,k⟩:=h;refine⟨_,(Ac (AO (Er (DT (AX IK rfl T.b_isinstance A1b (Aa (pv 0) (Aa (LE (v:=.ty "str") rfl T.b_str A2f rfl) Ab))))) (Ah Bl) AC) (Ac (Aq (i:=1) MK.nd rfl O_9 (GS D (rm t) rfl Ao (Aa (pv 0) Ab))) (Ac (AO (AA GV (As B (rm t) rfl Ao (Aa (pv 1) (AV (Bn op_rep (Ce (AV Ab)) (BX rfl T.k_NEIGHBOURS) Ab)))) Ae (AG _)) (Ah Bl) AC) (Ah (Av (pv 1)))))),?_⟩
 try dsimp only[cxK]
 refine xq1 rfl ⟨_,_,_,.type "str",true,rfl,rfl,.of (.str _),Wl K,true,rfl,?_⟩;refine Bd (xq1 rfl ?_);intro x dx nx d I;refine⟨x,dx,r,rfl,Af,q,λy kp j=>⟨rfl,?_⟩⟩;have L:Az H y:=λb o e=>kp b o (by rw[Ax (Aw e nx),Ax (Aw e d)];exact e) (Aw e nx);refine xq1 rfl ⟨S_1,λl n=>?_⟩;refine⟨l,8,(xq1 rfl ⟨rfl,Af,A4,A4,A4,λm p=>?_⟩)⟩;have M:=(L.trans (Ar (o:=.lst [.int 0]) n)).trans (Ar (o:=.lst (BI.map V.int)) p);have c:=(Ar (o:=.lst [.int 0]) n).trans (Ar (o:=.lst (BI.map V.int)) p);refine⟨x,m,_,r,0,BI,rfl,j.same c,q.rok,Af,λz u=>?_⟩;refine⟨rfl,(xq1 rfl ?_)⟩;rw[G];refine Qr rfl (xq1 rfl ?_);exact k x z (M.trans u) ((j.same c).same u)
end
end J
namespace J
open PySem L2
structure Sq where
parts:List Int
lev:Int
abbrev Gv:=List Sq
structure GA where
p:Addr
dx:Addr
lv:Addr
pt:Addr
nm:Addr
br:Addr
am:Addr
bx:Addr
def fl6(g:GA):List (Str×V):=AY "boxes" (.ref g.bx) (AY "amounts" (.ref g.am) (AY "bares" (.ref g.br) (AY "numbers" (.ref g.nm) (AY "parts" (.ref g.pt) (AY "levels" (.ref g.lv) [])))))
theorem EC(g:GA):(fl6 g).lookup ("levels" : Str)=some (V.ref g.lv):=by
 unfold fl6;rw[An,X7 A1,An,X7 A1,An,X7 A1,An,X7 A1,An,X7 A1,An,K0 rfl]
theorem BY(g:GA):(fl6 g).lookup ("parts" : Str)=some (V.ref g.pt):=by
 unfold fl6;rw[An,X7 A1,An,X7 A1,An,X7 A1,An,X7 A1,An,K0 rfl]
theorem fl6_nm(g:GA):(fl6 g).lookup ("numbers" : Str)=some (V.ref g.nm):=by
 unfold fl6;rw[An,X7 A1,An,X7 A1,An,X7 A1,An,K0 rfl]
theorem GF(g:GA):(fl6 g).lookup ("bares" : Str)=some (V.ref g.br):=by
 unfold fl6;rw[An,X7 A1,An,X7 A1,An,K0 rfl]
theorem fl6_am(g:GA):(fl6 g).lookup ("amounts" : Str)=some (V.ref g.am):=by
 unfold fl6;rw[An,X7 A1,An,K0 rfl]
theorem fl6_bx(g:GA):(fl6 g).lookup ("boxes" : Str)=some (V.ref g.bx):=by
 unfold fl6;rw[An,K0 rfl]
theorem Jx(g:GA){m:Str}(a:¬m=("boxes" : Str))(b:¬m=("amounts" : Str))(c:¬m=("bares" : Str))(d:¬m=("numbers" : Str))(e:¬m=("parts" : Str))(f:¬m=("levels" : Str)):(fl6 g).lookup m=none:=by
 unfold fl6;rw[An,X7 a,An,X7 b,An,X7 c,An,X7 d,An,X7 e,An,X7 f];rfl
theorem Sn(g:GA):(fl6 g).lookup ("kept" : Str)=none:=Jx g A1 A1 A1 A1 A1 A1
theorem BJ(g:GA):(fl6 g).lookup ("linked" : Str)=none:=Jx g A1 A1 A1 A1 A1 A1
theorem Ue(g:GA):(fl6 g).lookup ("check_square" : Str)=none:=Jx g A1 A1 A1 A1 A1 A1
theorem WI(g:GA):(fl6 g).lookup ("leaf" : Str)=none:=Jx g A1 A1 A1 A1 A1 A1
theorem DY(g:GA):(fl6 g).lookup ("level_of" : Str)=none:=Jx g A1 A1 A1 A1 A1 A1
theorem Vp(g:GA):(fl6 g).lookup ("state_of" : Str)=none:=Jx g A1 A1 A1 A1 A1 A1
def kOf(ps:I_):List Key:=ps.map Sum.inl
theorem kOf_v(ps:I_):(kOf ps).map kV=ps.map V.int:=by unfold kOf;rw[M5];rfl
theorem LI:∀{ps a:I_},kOf ps=kOf a->ps=a
|[],[],_=>rfl
|[],_::_,h=>by cases h
|_::_,[],h=>by cases h
|x::r,y::t,h=>by
 have h:Sum.inl x::kOf r=(Sum.inl y:Key)::kOf t:=h;injection h with h1 h2
 injection h1 with h1
 rw[h1,LI h2]
def Lr:Nat->Gv->List (List Key×V)
|_,[]=>[]
|n,q::r=>(kOf q.parts,.int (n:Int))::Lr (n+1) r
theorem Uu:∀(G:Gv)(n:Nat),(Lr n G).length=G.length
|[],_=>rfl
|q::r,n=>by show(Lr (n+1) r).length+1=r.length+1;rw[Uu r]
theorem Rn(q:Sq):∀(G:Gv)(n:Nat),Lr n (G++[q])=Lr n G++[(kOf q.parts,.int ((n+G.length:Nat):Int))]
|[],_=>rfl
|p::r,n=>by
 show(kOf p.parts,V.int (n:Int))::Lr (n+1) (r++[q])=_;rw[Rn q r (n+1)];show _=(kOf p.parts,V.int (n:Int))::(Lr (n+1) r++[(kOf q.parts,V.int ((n+(r.length+1):Nat):Int))]);rw[show n+1+r.length=n+(r.length+1) by lia]
theorem SJ(ps:I_):∀(G:Gv)(n:Nat),(∃(i:Nat)(q:Sq),G[i]?=some q/\q.parts=ps/\Bj (Lr n G) (kOf ps)=some (.int ((n+i:Nat):Int)))\/(Bj (Lr n G) (kOf ps)=none/\∀q∈G,q.parts≠ps)
|[],n=>.inr ⟨rfl,λq a=>by simp at a⟩
|p::r,n=>by
 by_cases e:p.parts=ps
 .exact .inl ⟨0,p,rfl,e,BM (by rw[e])⟩
 .have ne:¬(kOf p.parts,V.int (n:Int)).1=kOf ps:=λz=>e (LI z);rcases SJ ps r (n+1)with ⟨i,q,h1,h2,h3⟩|⟨h1,h2⟩
  .refine .inl ⟨i+1,q,h1,h2,?_⟩;show Bj ((kOf p.parts,V.int (n:Int))::Lr (n+1) r) (kOf ps)=_;rw[BF ne,h3,show n+1+i=n+(i+1) by lia]
  .refine .inr ⟨?_,λq a=>?_⟩
   .show Bj ((kOf p.parts,V.int (n:Int))::Lr (n+1) r) (kOf ps)=_;rw[BF ne,h1]
   .rcases B7.mp a with rfl|a
    .exact e
    .exact h2 q a
def TupAt(H:Hp)(t:R_)(q:Sq):Prop:=H t=some (.tup (q.parts.map V.int))
structure AM(a:Ad)(H:Hp)(g:GA)(G:Gv):Prop where
hp:H g.p=some (.ins a.c_Grove g.dx (fl6 g))
lv:H g.lv=some (.lst (G.map λq=>.int q.lev))
pt:∃ts:List Addr,H g.pt=some (.lst (ts.map V.ref))/\Paired (TupAt H) ts G
nm:H g.nm=some (.dT (Lr 0 G))
ne:g.lv≠g.pt
def Fr(g:GA)(H H':Hp):Prop:=∀b o,H b=some o->b≠g.lv->b≠g.pt->b≠g.nm->H' b=some o
theorem Fr.refl(g:GA)(H:Hp):Fr g H H:=λ_ _ e _ _ _=>e
theorem Fr.trans{g:GA}{a c d:Hp}(h:Fr g a c)(k:Fr g c d):Fr g a d:=λb o e f i j=>k b o (h b o e f i j) f i j
theorem Az.fr{g:GA}{a c:Hp}(h:Az a c):Fr g a c:=λb o e _ _ _=>h b o e
theorem PairedM.imp{α β:Type}{F G:α->β->Prop}(h:∀x y,F x y->G x y):∀{l:List α}{m:List β},Paired F l m->Paired G l m
|_,_,.nil=>.nil
|_,_,.cons r t=>.cons (h _ _ r) (PairedM.imp h t)
theorem PairedM.get{α β:Type}{F:α->β->Prop}:∀{l:List α}{m:List β}{i:Nat}{y:β},Paired F l m->m[i]?=some y->∃x,l[i]?=some x/\F x y
|_,_,_,_,.nil,e=>by simp at e
|_,_,0,_,.cons r _,e=>by simp at e;subst e;exact⟨_,rfl,r⟩
|_,_,i+1,y,.cons _ t,e=>by
 obtain⟨x,a,b⟩:=PairedM.get (i:=i) (y:=y) t (by simpa using e);exact⟨x,by simpa using a,b⟩
theorem AJ{H:Hp}{p:R_}{o:HO}(h:H p=none):Az H (upd H p o):=λb u e=>by
 rw[Ax (Aw e h)];exact e
theorem AM.same{a:Ad}{H b:Hp}{g:GA}{G:Gv}(s:Az H b)(h:AM a H g G):AM a b g G:=by
 obtain⟨c,d,⟨k,e,f⟩,i,j⟩:=h;exact⟨s _ _ c,s _ _ d,⟨k,s _ _ e,PairedM.imp (λt q z=>s _ _ z) f⟩,s _ _ i,j⟩
theorem AM.put{a:Ad}{H:Hp}{g:GA}{G:Gv}{l:R_}{xs:List V}{o:HO}(p:H l=some (.lst xs))(r:l≠g.lv)(s:l≠g.pt)(h:AM a H g G):AM a (upd H l o) g G:=by
 obtain⟨d,f,⟨u,i,j⟩,k,m⟩:=h;have c:∀{b v},H b=some v->v≠.lst xs->upd H l o b=some v:=λ{b v} e n=>by rw[Ax (AE e p n)];exact e
 exact⟨c d A3,by rw[Ax (K3 r)];exact f,⟨u,by rw[Ax (K3 s)];exact i,PairedM.imp (λt q z=>c z A3) j⟩,c k A3,m⟩
def Am(G:Gv)(x:Nat)(l:Int):Prop:=∃q,G[x]?=some q/\q.lev=l
structure GOk(G:Gv):Prop where
leaf:∀s:Nat,s<8->G[s]?=some ⟨[(s:Int)],0⟩
node:∀(i:Nat) q,G[i]?=some q->8<=i->∃x y z w:Nat,q.parts=[(x:Int),(y:Int),(z:Int),(w:Int)]/\(Am G x (q.lev-1)/\Am G y (q.lev-1)/\Am G z (q.lev-1)/\Am G w (q.lev-1))/\1<=q.lev/\q.lev<=48
nd:(G.map Sq.parts).Nodup
theorem Am.lt{G:Gv}{x:Nat}{l:Int}(h:Am G x l):x<G.length:=by
 obtain⟨q,h,_⟩:=h;exact(B5.mp h).1
theorem LJ{G r:Gv}{x:Nat}{q:Sq}(h:G[x]?=some q):(G++r)[x]?=some q:=by
 rw[M0 (B5.mp h).1];exact h
theorem Am.app{G r:Gv}{x:Nat}{l:Int}(h:Am G x l):Am (G++r) x l:=by
 obtain⟨q,h,e⟩:=h;exact⟨q,LJ h,e⟩
theorem GOk.lev{G:Gv}(h:GOk G){i:Nat}{q:Sq}(e:G[i]?=some q):0<=q.lev/\q.lev<=48:=by
 by_cases b:i<8
 .rw[h.leaf i b]at e;cases e;exact⟨R7 0,by show(0:Int)<=48;decide⟩
 .obtain⟨x,y,z,w,_,_,c,a⟩:=h.node i q e A0;exact⟨by lia,a⟩
theorem GOk.snoc{G:Gv}(h:GOk G){x y z w:Nat}{l:Int}(B:Am G x l)(C:Am G y l)(D:Am G z l)(A:Am G w l)(n:l<=47)(new:∀q∈G,q.parts≠[(x:Int),(y:Int),(z:Int),(w:Int)]):GOk (G++[⟨[(x:Int),(y:Int),(z:Int),(w:Int)],l+1⟩]) where
 leaf:=λs v=>LJ (h.leaf s v)
 node:=λi q e o=>by
  by_cases r:i<G.length
  .rw[M0 r]at e;obtain⟨x,y,z,w,k,⟨c,d,f,g⟩,m⟩:=h.node i q e o;exact⟨x,y,z,w,k,⟨c.app,d.app,f.app,g.app⟩,m⟩
  .rw[F8 A0]at e;have:i-G.length=0:=by
    by_cases z:i-G.length=0
    .exact z
    .rw[O1 (by rw[P6];lia)]at e;cases e
   rw[this]at e;cases e;obtain⟨H,b,E⟩:=B;have:=(h.lev b).1;have j:l+1-1=l:=by lia
   refine⟨x,y,z,w,rfl,?_,?_,?_⟩
   .show Am _ x (l+1-1)/\Am _ y (l+1-1)/\Am _ z (l+1-1)/\Am _ w (l+1-1);rw[j];exact⟨Am.app ⟨H,b,E⟩,C.app,D.app,A.app⟩
   .show 1<=l+1;lia
   .show l+1<=48;lia
 nd:=by
  rw[C3,R6];refine⟨h.nd,by simp,λp t F a=>?_⟩;obtain⟨q,u,rfl⟩:=C8.mp t;rw[show F=[(x:Int),(y:Int),(z:Int),(w:Int)] by simpa using a];exact new q u
theorem GOk.one{G:Gv}(h:GOk G){i j:Nat}{p q:Sq}(a:G[i]?=some p)(b:G[j]?=some q)(e:p.parts=q.parts):i=j:=by
 have d:=(B5.mp a).1;have f:=(B5.mp b).1;have c:(G.map Sq.parts)[i]'(by rw[B4];exact d)=(G.map Sq.parts)[j]'(by rw[B4];exact f):=by
  rw[List.getElem_map,List.getElem_map,(B5.mp a).2,(B5.mp b).2,e]
 exact(List.getElem_inj h.nd).mp c
seal L2.PA L2.PE L2.PS L2.PSs L2.PT L2.PW
theorem FG{n:Nat}(h:n<10000000):n<sizeLine:=F5 h A4
theorem kit_w(K:O_):kitOne K (.type "int") (.type "int")=some true/\kitOne K (.type "int") (.type "bool")=some false:=⟨by kernel_rfl,by kernel_rfl⟩
section
variable{P:N_}{w:Q_}{K:O_}{mg:C_}{base:T_}{a:Ad}
inductive SpIW(vs:List V)(H:Hp)(Q:VK):Prop
|mk (i:Int) (_:vs=[.int i]) (_:Q (.bl true) H):SpIW vs H Q
def Yz:Sp:=λvs H Q _=>SpIW vs H Q
theorem ok_iw(F:Fun K "is_whole" "is_whole" Ml f fd)(T:Top K mg a):AL P w K mg base CX0 1 f fd Vt Yz:=by
 refine F.ok TH D_9 λc A b s H vs Q E d h=>?_
 obtain⟨i,rfl,k⟩:=h;exact⟨_,(Ah (Av (JY (AX IK rfl T.b_isinstance A1b (Aa (pv 0) (Aa (LE (v:=.ty "int") rfl T.b_int A2e rfl) Ab))) (Mu (pe_not (AX IK rfl T.b_isinstance A1b (Aa (pv 0) (Aa (LE (v:=.ty "bool") rfl T.b_bool PyProof.Rows.boot_bool rfl) Ab)))))))),(xq1 rfl ⟨_,_,_,.type "int",true,rfl,rfl,.of (.int i),(kit_w K).1,true,rfl,BP (xq1 rfl ⟨_,_,_,.type "int",false,rfl,rfl,.of (.int i),(kit_w K).2,false,rfl,k⟩)⟩)⟩
inductive SpIS(vs:List V)(H:Hp)(Q:VK):Prop
|mk (i:Int) (_:vs=[.int i]) (_:0<=i) (_:i<8) (_:Q (.bl true) H):SpIS vs H Q
def spIS:Sp:=λvs H Q _=>SpIS vs H Q
theorem ok_is(F:Fun K "is_state" "is_state" Mm f fd)(T:Top K mg a)(c:Cal P w K mg base CX0 1 "is_whole" Vt Yz):AL P w K mg base CX0 2 f fd Vt spIS:=by
 refine F.ok TJ D_9 λd A b s H vs Q E j h=>?_
 obtain⟨i,rfl,e,g,k⟩:=h;refine⟨_,(Ah (Av (JY (As c (rm j) rfl Ao (Aa (pv 0) Ab)) (Mu (pe_chain MZ JF Ae (pv 0) (BX rfl T.k_STATES)))))),?_⟩
 try dsimp only[cxK]
 refine xq1 rfl ⟨i,rfl,true,rfl,BP (xwb rfl rfl rfl (xq1 rfl ?_))⟩;rw[X8 e];refine BP (xq2 rfl rfl ?_);show Q (.bl (decide (i<8))) H;rw[X8 g];exact k
inductive SpKept(a:Ad)(vs:List V)(H:Hp)(Q:VK):Prop
|mk (g:GA) (G:Gv) (t:R_) (ps:I_) (l:Int) (_:vs=[.ref g.p,.ref t,.int l]) (_:AM a H g G) (_:H t=some (.tup (ps.map V.int))) (_:(∀q∈G,q.parts≠ps)) (_:G.length<9000000) (_:∀H',Fr g H H'->AM a H' g (G++[⟨ps,l⟩])->Q (.int (G.length:Int)) H'):SpKept a vs H Q
def RW(a:Ad):Sp:=λvs H Q _=>SpKept a vs H Q
theorem ok_kept(F:Fun K "kept" "Grove.kept" Je f fd)(T:Top K mg a):AL P w K mg base CX0 1 f fd FP (RW a):=by
 refine F.ok LZ D_9 λaa A Y s H vs Q E hr h=>?_
 obtain⟨g,G,t,ps,l,rfl,hg,ht,new,few,k⟩:=h;obtain⟨d,r,⟨S,O,Z⟩,y,U⟩:=hg;have lt:S.length=G.length:=K9 Z;refine⟨_,(Ac (Aq (i:=3) LZ.nd rfl O_9 (AX Cr rfl T.b_len A1a (Aa (AB (pv 0) rfl) Ab))) (Ac (FM (EB hr) (AB (pv 0) rfl) (pv 1) (pv 3) rfl) (Ac (BW (CQ K8 A0a A0b Cc (AB (pv 0) rfl) (Aa (pv 2) Ab))) (Ac (BW (CQ K8 A0a A0b Cc (AB (pv 0) rfl) (Aa (pv 1) Ab))) (Ah (Av (pv 3))))))),?_⟩
 try dsimp only[cxK]
 refine xwf rfl rfl d T.cl_Grove T.na_Grove_levels (EC g) ⟨g.lv,(xq1 rfl ⟨.inl (SqL.of r),?_⟩)⟩;rw[B4];have j:g.p≠g.nm:=AE d y A3;have m:g.lv≠g.nm:=AE r y A3;have I:g.pt≠g.nm:=AE O y A3;have L:g.p≠g.lv:=AE d r A3;have X:g.p≠g.pt:=AE d O A3;have vn:Bj (Lr 0 G) (kOf ps)=none:=by
  rcases SJ ps G 0 with ⟨i,q,e1,e2,_⟩|⟨e,_⟩
  .exact absurd e2 (new q (D0 e1))
  .exact e
 refine xw2 rfl rfl (xq5 d T.cl_Grove T.na_Grove_numbers (fl6_nm g) (xq1 rfl ⟨g.nm,(xq1 rfl ⟨LX.t (k:=kOf ps) y (by rw[kOf_v];exact ht) (by rw[Uu];exact FG A0),?_⟩)⟩));rw[IB _ vn];have e5:Lr 0 G++[(kOf ps,V.int (G.length:Int))]=Lr 0 (G++[⟨ps,l⟩]):=by rw[Rn,M4]
 rw[e5];generalize B:upd H g.nm (.dT (Lr 0 (G++[⟨ps,l⟩])))=M;have u:∀b o,H b=some o->b≠g.nm->M b=some o:=λb o e n=>by rw[<-B,Ax n];exact e
 have n1:M g.nm=some (.dT (Lr 0 (G++[⟨ps,l⟩]))):=by rw[<-B];exact Af
 refine xwf rfl rfl (u _ _ d j) T.cl_Grove T.na_Grove_levels (EC g) ⟨.inl ⟨rfl,_,SqL.of (u _ _ r m)⟩,(xq1 rfl ⟨g.lv,(xq2 rfl rfl ⟨u _ _ r m,by rw[B4];exact FG A0,?_⟩)⟩)⟩;generalize C:upd M g.lv (.lst ((G.map λq=>V.int q.lev)++[.int l]))=N;have R:∀b o,M b=some o->b≠g.lv->N b=some o:=λb o e n=>by rw[<-C,Ax n];exact e
 have n2:N g.lv=some (.lst ((G++[(⟨ps,l⟩:Sq)]).map λq=>V.int q.lev)):=by rw[<-C,Af,C3];rfl
 have x:=R _ _ (u _ _ O I) (K3 U);refine xwf rfl rfl (R _ _ (u _ _ d j) L) T.cl_Grove T.na_Grove_parts (BY g) ⟨.inl ⟨rfl,_,SqL.of x⟩,(xq1 rfl ⟨g.pt,(xq2 rfl rfl ⟨x,by rw[B4,lt];exact FG A0,?_⟩)⟩)⟩;generalize D:upd N g.pt (.lst (S.map V.ref++[.ref t]))=v;have W:∀b o,N b=some o->b≠g.pt->v b=some o:=λb o e n=>by rw[<-D,Ax n];exact e
 have n3:v g.pt=some (.lst ((S++[t]).map V.ref)):=by rw[<-D,Af,C3];rfl
 have fr:Fr g H v:=λb o e m1 m2 m3=>W _ _ (R _ _ (u _ _ e m3) m1) m2;have tp:∀(c:R_)(xs:List V),H c=some (.tup xs)->v c=some (.tup xs):=λc xs e=>fr _ _ e (AE e r A3) (AE e O A3) (AE e y A3);refine xq1 rfl (k v fr ⟨fr _ _ d L X j,W _ _ n2 U,⟨S++[t],n3,A2b (PairedM.imp (λc q z=>tp c _ z) Z) (tp t _ ht)⟩,W _ _ (R _ _ n1 (K3 m)) (K3 I),U⟩)
structure AH(G G':Gv)(n:Nat):Prop where
ok:GOk G'
pre:∃r,G'=G++r
few:G'.length<=G.length+n
theorem AH.refl{G:Gv}(h:GOk G):AH G G 0:=⟨h,⟨[],by simp⟩,B8 _⟩
theorem AH.trans{G d b:Gv}{n m:Nat}(h:AH G d n)(c:AH d b m):AH G b (n+m):=by
 obtain⟨r,e⟩:=h.pre;obtain⟨t,f⟩:=c.pre;have g:=h.few;have i:=c.few;exact⟨c.ok,⟨r++t,by rw[f,e,Q5]⟩,by lia⟩
theorem AH.get{G b:Gv}{n x:Nat}{q:Sq}(h:AH G b n)(e:G[x]?=some q):b[x]?=some q:=by
 obtain⟨r,c⟩:=h.pre;rw[c];exact LJ e
theorem AH.lev{G b:Gv}{n x:Nat}{l:Int}(h:AH G b n)(e:Am G x l):Am b x l:=by
 obtain⟨q,e,z⟩:=e;exact⟨q,h.get e,z⟩
inductive VY(a:Ad)(vs:List V)(H:Hp)(Q:VK):Prop
|mk (g:GA) (G:Gv) (t:R_) (x y z w:Nat) (l:Int) (_:vs=[.ref g.p,.ref t]) (_:AM a H g G) (_:GOk G) (_:H t=some (.tup [.int x,.int y,.int z,.int w])) (_:(Am G x l/\Am G y l/\Am G z l/\Am G w l)) (_:l<=47) (_:G.length<9000000) (_:∀(n:Nat)(G':Gv)(H':Hp),Fr g H H'->AM a H' g G'->AH G G' 1->G'[n]?=some ⟨[(x:Int),(y:Int),(z:Int),(w:Int)],l+1⟩->Q (.int n) H'):VY a vs H Q
def DQ(a:Ad):Sp:=λvs H Q _=>VY a vs H Q
theorem ok_link(F:Fun K "linked" "Grove.linked" Gi f fd)(T:Top K mg a)(R:Ca P w K mg base CX0 1 a.c_Grove "kept" FP (RW a)):AL P w K mg base CX0 2 f fd AU (DQ a):=by
 refine F.ok JE D_9 λS A v s H vs Q E I h=>?_
 obtain⟨g,G,t,x,y,z,w,l,rfl,D,ok,r,⟨u,Z,hz,Y⟩,o,few,k⟩:=h;have d:=D;obtain⟨n,W,⟨ts,h3,h4⟩,C,h6⟩:=D;refine⟨_,(Ac (Aq (i:=2) JE.nd rfl O_9 (IE (EB I) (AB (pv 0) rfl) (pv 1) ⟨rfl,rfl,rfl,rfl⟩)) (Ac (AO (AA GB (pv 2) Db (AG _)) (Ah (Av (AK (pv 0) R (rm I) Ao (Aa (pv 1) (Bn AQ (Aj Ay (AB (pv 0) rfl) (Aj Al (pv 1) Ae R_9) R_9) Ae Ab))))) AC) (Ah (Av (pv 2))))),?_⟩
 try dsimp only[cxK]
 refine xwf rfl rfl n T.cl_Grove T.na_Grove_numbers (fl6_nm g) ⟨g.nm,rfl,.inr ⟨_,.inl C⟩,(xq1 rfl ⟨_,IM.t (k:=kOf [(x:Int),(y:Int),(z:Int),(w:Int)]) C (by rw[kOf_v];exact r),?_⟩)⟩;rcases SJ [(x:Int),(y:Int),(z:Int),(w:Int)] G 0 with ⟨i,q,c,b,U⟩|⟨e,new⟩
 .rw[U];refine xq1 rfl ⟨rfl,(xq1 rfl (Bd (xq1 rfl ?_)))⟩;rw[M4];refine k i G H (Fr.refl g H) d ⟨ok,⟨[],by simp⟩,by lia⟩ ?_;have X:8<=i:=by
   refine P1 λM=>?_;rw[ok.leaf i M]at c;cases c;cases b
  obtain⟨x',y',M,w',p1,⟨L,_⟩,_⟩:=ok.node i q c X;have m:x'=x:=by
   rw[p1]at b;injection b with b _
   exact K2 b
  rw[m]at L;obtain⟨qa,O,a2⟩:=L;obtain⟨qb,B,b2⟩:=u;rw[O]at B;cases B;have V:q.lev=l+1:=by lia
  rw[c];cases q with
  |mk pp ll=>cases b;cases V;rfl
 .rw[e];refine xq1 rfl ⟨rfl,(xq1 rfl (BP ?_))⟩;obtain⟨q,c,b⟩:=id u;refine xwn rfl rfl n (Sn g) rfl (xwf rfl rfl n T.cl_Grove T.na_Grove_levels (EC g) (xwi rfl rfl rfl (SqT.of r) (Ai (j:=0) rfl) (xq4 rfl rfl (SqL.of W) (Ai (by rw[B6,c];rfl)) (xq2 rfl rfl ?_))));refine⟨g,G,t,[(x:Int),(y:Int),(z:Int),(w:Int)],l+1,by rw[<-b];rfl,d,r,new,few,λN fr p=>?_⟩;refine k G.length _ N fr p ⟨ok.snoc u Z hz Y o new,⟨_,rfl⟩,by rw[C1];exact B8 _⟩ ?_;rw[F8 (B8 _),T9];rfl
inductive SpChk(a:Ad)(vs:List V)(H:Hp)(Q:VK):Prop
|mk (g:GA) (G:Gv) (i:Nat) (_:vs=[.ref g.p,.int i]) (_:AM a H g G) (_:i<G.length) (_:Q .non H):SpChk a vs H Q
def Ws(a:Ad):Sp:=λvs H Q _=>SpChk a vs H Q
theorem ok_chk(F:Fun K "check_square" "Grove.check_square" Di f fd)(T:Top K mg a)(d:Cal P w K mg base CX0 1 "is_whole" Vt Yz):AL P w K mg base CX0 2 f fd Lp (Ws a):=by
 refine F.ok JH D_9 λe A b s H vs Q E j h=>?_
 obtain⟨g,G,i,rfl,c,l,k⟩:=h;refine⟨_,(Ah (AO (PW.pt (PL (Er (DT (As d (rm j) rfl Ao (Aa (pv 1) Ab)))) (Ms (Er (TY MZ JF Ae (pv 1) (AX Cr rfl T.b_len A1a (Aa (AB (pv 0) rfl) Ab))))))) (Ah Bl) AC)),?_⟩
 try dsimp only[cxK]
 refine⟨_,rfl,_,rfl,true,rfl,Bd ⟨_,rfl,_,_,rfl,rfl,_,rfl,?_⟩⟩;rw[X8 (by lia:(0:Int)<=(i:Int))];refine BP (xwf rfl rfl c.hp T.cl_Grove T.na_Grove_levels (EC g) ⟨g.lv,(xq1 rfl ⟨.inl (SqL.of c.lv),(xq2 rfl rfl (xq1 rfl ?_))⟩)⟩);rw[B4,X8 (by lia:(i:Int)<(G.length:Int))];exact Bd k
inductive SpLeaf(a:Ad)(vs:List V)(H:Hp)(Q:VK):Prop
|mk (p:R_) (i:Int) (_:vs=[.ref p,.int i]) (_:0<=i) (_:i<8) (_:Q (.int i) H):SpLeaf a vs H Q
def RV(a:Ad):Sp:=λvs H Q _=>SpLeaf a vs H Q
theorem ok_leaf(F:Fun K "leaf" "Grove.leaf" Jd f fd)(T:Top K mg a)(c:Cal P w K mg base CX0 2 "is_state" Vt spIS):AL P w K mg base CX0 3 f fd SE (RV a):=by
 refine F.ok QK D_9 λd A b s H vs Q E l h=>?_
 obtain⟨g,i,rfl,e,j,k⟩:=h;exact⟨_,(Ac (AO (Er (DT (As c (rm l) rfl Ao (Aa (pv 1) Ab)))) (Ah Bl) AC) (Ah (Av (pv 1)))),(xq1 rfl ⟨i,rfl,e,j,true,rfl,Bd (xq1 rfl k)⟩)⟩
inductive SpLev(a:Ad)(vs:List V)(H:Hp)(Q:VK):Prop
|mk (g:GA) (G:Gv) (i:Nat) (q:Sq) (_:vs=[.ref g.p,.int i]) (_:AM a H g G) (_:G[i]?=some q) (_:Q (.int q.lev) H):SpLev a vs H Q
def MF(a:Ad):Sp:=λvs H Q _=>SpLev a vs H Q
theorem ok_lev(F:Fun K "level_of" "Grove.level_of" EO f fd)(T:Top K mg a)(e:Ca P w K mg base CX0 2 a.c_Grove "check_square" Lp (Ws a)):AL P w K mg base CX0 3 f fd Lp (MF a):=by
 refine F.ok MP D_9 λj A c s H vs Q E l h=>?_
 obtain⟨g,G,i,q,rfl,b,d,k⟩:=h;refine⟨_,(Ac (BW (AK (pv 0) e (rm l) Ao (Aa (pv 1) Ab))) (Ah (Av (Aj Ay (AB (pv 0) rfl) (pv 1) R_9)))),?_⟩
 try dsimp only[cxK]
 refine xwn rfl rfl b.hp (Ue g) rfl ⟨g,G,i,rfl,b,(B5.mp d).1,?_⟩;exact xwf rfl rfl b.hp T.cl_Grove T.na_Grove_levels (EC g) (xwi rfl rfl rfl (SqL.of b.lv) (Ai (by rw[B6,d];rfl)) k)
inductive SpSta(a:Ad)(vs:List V)(H:Hp)(Q:VK):Prop
|mk (g:GA) (G:Gv) (i:Nat) (q:Sq) (_:vs=[.ref g.p,.int i]) (_:AM a H g G) (_:G[i]?=some q) (_:q.lev=0) (_:Q (.int i) H):SpSta a vs H Q
def ZL(a:Ad):Sp:=λvs H Q _=>SpSta a vs H Q
theorem ok_sta(F:Fun K "state_of" "Grove.state_of" EN f fd)(T:Top K mg a)(d:Ca P w K mg base CX0 3 a.c_Grove "level_of" Lp (MF a)):AL P w K mg base CX0 4 f fd Lp (ZL a):=by
 refine F.ok MO D_9 λe A b s H vs Q E m h=>?_
 obtain⟨g,G,i,q,rfl,c,l,j,k⟩:=h;refine⟨_,(Ac (AO (AA GV (AK (pv 0) d (rm m) Ao (Aa (pv 1) Ab)) Ae (AG _)) (Ah Bl) AC) (Ah (Av (pv 1)))),?_⟩
 try dsimp only[cxK]
 refine xwn rfl rfl c.hp (DY g) rfl ⟨g,G,i,q,rfl,c,l,rfl,(xq1 rfl ?_)⟩;rw[j];exact Qr rfl (xq1 rfl k)
end
end J
namespace J
open PySem L2
def bareN:Nat->Nat
|0=>0
|j+1=>8+j
def Eb(n:Nat):Gv:=(List.range n).map λ(s:Nat)=>(⟨[(s:Int)],0⟩:Sq)
def GI(n:Nat):Gv:=(List.range n).map λ(j:Nat)=>(⟨[(bareN j:Int),(bareN j:Int),(bareN j:Int),(bareN j:Int)],(j:Int)+1⟩:Sq)
def G0:Gv:=Eb 8++GI 48
theorem VF(n:Nat):Eb (n+1)=Eb n++[⟨[(n:Int)],0⟩]:=by unfold Eb;rw[S2,C3];rfl
theorem Qz(n:Nat):GI (n+1)=GI n++[⟨[(bareN n:Int),(bareN n:Int),(bareN n:Int),(bareN n:Int)],(n:Int)+1⟩]:=by unfold GI;rw[S2,C3];rfl
theorem FW(n:Nat):(Eb n).length=n:=by unfold Eb;rw[B4,M9]
theorem RK(n:Nat):(GI n).length=n:=by unfold GI;rw[B4,M9]
theorem Zq{i j:Nat}(h:bareN i=bareN j):i=j:=by
 cases i<;>cases j
 .rfl
 .have:0=8+_:=h;lia
 .have:8+_=0:=h;lia
 .have:8+_=8+_:=h;lia
theorem YZ(n:Nat):∀q∈Eb n,q.parts≠[(n:Int)]:=λq a z=>by
 obtain⟨s,b,rfl⟩:=C8.mp a;have:=L7.mp b;injection z with z _
 have:s=n:=K2 z;lia
theorem RJ(n:Nat):∀q∈Eb 8++GI n,q.parts≠[(bareN n:Int),(bareN n:Int),(bareN n:Int),(bareN n:Int)]:=λq a z=>by
 rcases D4.mp a with a|a
 .obtain⟨s,b,rfl⟩:=C8.mp a;cases z
 .obtain⟨s,b,rfl⟩:=C8.mp a;have:=L7.mp b;injection z with z _
  have:=Zq (K2 z);lia
theorem MD:G0.length=56:=by unfold G0;rw[C1,FW,RK]
theorem Nj(j:Nat)(h:j<48):G0[8+j]?=some ⟨[(bareN j:Int),(bareN j:Int),(bareN j:Int),(bareN j:Int)],(j:Int)+1⟩:=by
 unfold G0;rw[F8 (by rw[FW];lia),FW,show 8+j-8=j by lia];unfold GI;rw[B6,O6 h];rfl
theorem SS(s:Nat)(h:s<8):G0[s]?=some ⟨[(s:Int)],0⟩:=by
 unfold G0;rw[M0 (by rw[FW];exact h)];unfold Eb;rw[B6,O6 h];rfl
theorem g0_lev(j:Nat)(h:j<=48):Am G0 (bareN j) (j:Int):=by
 cases j with
 |zero=>exact⟨_,SS 0 A4,rfl⟩
 |succ j=>exact⟨_,Nj j A0,rfl⟩
theorem g0_nd:∀n,((Eb 8++GI n).map Sq.parts).Nodup
|0=>by decide
|n+1=>by
 rw[Qz,<-Q5,C3,R6];refine⟨g0_nd n,by simp,λp b d a=>?_⟩;obtain⟨q,c,rfl⟩:=C8.mp b;rw[show d=[(bareN n:Int),(bareN n:Int),(bareN n:Int),(bareN n:Int)] by simpa using a];exact RJ n q c
theorem g0_ok:GOk G0 where
 leaf:=SS
 node:=λi q e a=>by
  have b:i<56:=by rw[<-MD];exact(B5.mp e).1
  obtain⟨j,rfl⟩:∃j,i=8+j:=⟨i-8,by lia⟩
  rw[Nj j A0]at e;cases e;have:=g0_lev j A0;refine⟨bareN j,bareN j,bareN j,bareN j,rfl,?_,?_,?_⟩
  .show Am G0 _ ((j:Int)+1-1)/\Am G0 _ ((j:Int)+1-1)/\Am G0 _ ((j:Int)+1-1)/\Am G0 _ ((j:Int)+1-1);rw[show(j:Int)+1-1=(j:Int) by lia];exact⟨this,this,this,this⟩
  .show 1<=(j:Int)+1;lia
  .show(j:Int)+1<=48;lia
 nd:=g0_nd 48
def amK(n:Nat):List (Key×V):=(List.range n).map λ(s:Nat)=>(Sum.inl (s:Int),V.int (if(1:Int)<(s:Int)then 1 else(s:Int)))
theorem UK(n:Nat):amK (n+1)=amK n++[(Sum.inl (n:Int),V.int (if(1:Int)<(n:Int)then 1 else(n:Int)))]:=by unfold amK;rw[S2,C3];rfl
theorem amK_len(n:Nat):(amK n).length=n:=by unfold amK;rw[B4,M9]
theorem RO{κ:Type}[DecidableEq κ]{k:κ}:∀{l m:List (κ×V)},Bj l k=none->Bj (l++m) k=Bj m k
|[],_,_=>rfl
|p::r,m,h=>by
 by_cases e:p.1=k
 .rw[BM e]at h;cases h
 .rw[BF e]at h;show Bj (p::(r++m)) k=_;rw[BF e];exact RO h
theorem UL(n:Nat):∀m,n<=m->Bj (amK n) (Sum.inl (m:Int))=none:=by
 induction n with
 |zero=>intro m _;rfl
 |succ n a =>
  intro m b;rw[UK,RO (a m A0),BF (by intro z;injection z with z;have:=K2 z;lia)];rfl
def Dl(n:Nat):List Int:=(List.range (n+1)).map λj=>((bareN j:Nat):Int)
theorem QA(n:Nat):Dl (n+1)=Dl n++[((bareN (n+1):Nat):Int)]:=by unfold Dl;rw[S2,C3];rfl
theorem VV(n:Nat):(Dl n).getLast?=some ((bareN n:Nat):Int):=by
 cases n with
 |zero=>rfl
 |succ n=>rw[QA,List.getLast?_append];rfl
theorem at_lastV{xs:List V}{x:V}(h:xs.getLast?=some x):atI xs (-1)=some x:=by
 obtain⟨ys,rfl⟩:=List.getLast?_eq_some_iff.mp h;unfold atI ixN;rw[X7 A4,K0 (by rw[C1,P6];lia)];show(ys++[x])[((-1:Int)+((ys++[x]).length:Nat)).toNat]?=some x;rw[C1,P6,show((-1:Int)+((ys.length+1:Nat):Int)).toNat=ys.length by lia,F8 (B8 _),T9];rfl
seal L2.PA L2.PE L2.PS L2.PSs L2.PT L2.PW
structure UQ(a:Ad)(H H':Hp)(g:GA)(G:Gv)(B:I_)(am:List (Key×V)):Prop where
kp:∀b o,H b=some o->b≠g.p->H' b=some o
at':AM a H' g G
br:H' g.br=some (.lst (B.map V.int))
am:H' g.am=some (.dK am)
bx:H' g.bx=some (.dK [])
fresh:H g.lv=none/\H g.pt=none/\H g.nm=none/\H g.br=none/\H g.am=none/\H g.bx=none
n1:g.br≠g.lv
n2:g.br≠g.pt
n3:g.am≠g.bx
section
variable{P:N_}{w:Q_}{K:O_}{mg:C_}{base:T_}{a:Ad}
inductive Yk(a:Ad)(vs:List V)(H:Hp)(Q:VK):Prop
|mk (p dx:R_) (_:vs=[.ref p]) (_:H p=some (.ins a.c_Grove dx [])) (_:∀(g:GA)(H':Hp),g.p=p->UQ a H H' g G0 (Dl 48) (amK 8)->Q .non H'):Yk a vs H Q
def RZ(a:Ad):Sp:=λvs H Q _=>Yk a vs H Q
theorem ok_ginit(F:Fun K "__init__" "Grove.__init__" Jf f fd)(T:Top K mg a)(aW:Ca P w K mg base CX0 1 a.c_Grove "kept" FP (RW a)):AL P w K mg base CX0 2 f fd Js (RZ a):=by
 refine F.ok EY D_9 λav A as s H vs Q E hr h=>?_
 obtain⟨p,dx,rfl,hp,k⟩:=h;refine⟨_,(Ac (CL (pv 0) (Ce Ab) rfl) (Ac (CL (pv 0) (Ce Ab) rfl) (Ac (CL (pv 0) MW rfl) (Ac (CL (pv 0) (Ce (AV Ab)) rfl) (Ac (CL (pv 0) IC rfl) (Ac (CL (pv 0) IC rfl) (Ac (CK K7 rfl (CU rfl T.b_range (Aa (BX rfl T.k_STATES) Ab)) (BD (i:=1) EY.nd rfl O_9) (Ac (BW (AK (pv 0) aW (rm hr) Ao (Bm (Aa (pv 1) Ab) (AV Ab)))) (Ah (FM (EB hr) (AB (pv 0) rfl) (pv 1) (AX (RC rfl) rfl T.b_min A4d (Aa (pv 1) (AV Ab))) rfl)))) (Ah (CK K7 rfl (YE rfl T.b_range (AV (Bn AQ (BX rfl T.k_TOP_LEVEL) Ae Ab))) (BD (i:=2) EY.nd rfl O_9) (Ac (Aq (i:=3) EY.nd rfl O_9 (Aj Ay (AB (pv 0) rfl) (JX FY Ae) R_9)) (Ah (BW (CQ K8 A0a A0b Cc (AB (pv 0) rfl) (Aa (AK (pv 0) aW (rm hr) Ao (Bm (Aa (pv 3) (Aa (pv 3) (Aa (pv 3) (Aa (pv 3) Ab)))) (Aa (pv 2) Ab))) Ab)))))))))))))),?_⟩
 try dsimp only[cxK]
 have stp:∀{u:Hp}{x:R_}{o:HO}{fs fs':List (Str×V)},u p=some (.ins a.c_Grove dx fs)->u x=none->(∀b v,u b=some v->b≠p->upd (upd u x o) p (.ins a.c_Grove dx fs') b=some v)/\upd (upd u x o) p (.ins a.c_Grove dx fs') x=some o/\upd (upd u x o) p (.ins a.c_Grove dx fs') p=some (.ins a.c_Grove dx fs')/\upd u x o p=some (.ins a.c_Grove dx fs):=λ{u x o fs fs'} e1 e2=>by
  have n:x≠p:=λz=>by rw[z,e1]at e2;cases e2
  exact⟨λb v e nb=>by rw[Ax nb,Ax (Aw e e2)];exact e,by rw[Ax n];exact Af,Af,by rw[Ax (K3 n)];exact e1⟩
 refine BU ?_;intro L M Y m G;refine⟨S_0,λD aa=>?_⟩;obtain⟨k1,x1,p1,q1⟩:=stp (o:=.lst []) (fs':=AY "levels" (.ref D) []) hp aa;refine xq1 rfl ⟨p,_,dx,[],rfl,q1,T.cl_Grove,T.na_Grove_levels,B2,?_⟩;show Y _ _;generalize upd (upd H D _) p _=H1 at k1 x1 p1⊢;refine m ?_;refine BU ?_;intro L M Y m G;refine⟨S_0,λpt X=>?_⟩;obtain⟨k2,x2,p2,q2⟩:=stp (o:=.lst []) (fs':=AY "parts" (.ref pt) (AY "levels" (.ref D) [])) p1 X;refine xq1 rfl ⟨p,_,dx,(xq1 rfl ⟨q2,T.cl_Grove,T.na_Grove_parts,B3,?_⟩)⟩;show Y _ _;generalize upd (upd H1 pt _) p _=H2 at k2 x2 p2⊢;refine m ?_;refine BU ?_;intro L M Y m G;intro nm ab;obtain⟨k3,x3,p3,q3⟩:=stp (o:=.dT []) (fs':=AY "numbers" (.ref nm) (AY "parts" (.ref pt) (AY "levels" (.ref D) []))) p2 ab;refine xq1 rfl ⟨p,_,dx,(xq1 rfl ⟨q3,T.cl_Grove,T.na_Grove_numbers,(by show 2<1000;decide),?_⟩)⟩;show Y _ _;generalize upd (upd H2 nm _) p _=H3 at k3 x3 p3⊢;refine m ?_;refine BU ?_;intro L M Y m G;refine⟨S_1,λO l=>?_⟩;obtain⟨k4,x4,p4,q4⟩:=stp (o:=.lst [.int 0]) (fs':=AY "bares" (.ref O) (AY "numbers" (.ref nm) (AY "parts" (.ref pt) (AY "levels" (.ref D) [])))) p3 l;refine xq1 rfl ⟨p,_,dx,(xq1 rfl ⟨q4,T.cl_Grove,T.na_Grove_bares,(by show 3<1000;decide),?_⟩)⟩;show Y _ _;generalize upd (upd H3 O _) p _=H4 at k4 x4 p4⊢;refine m ?_;refine BU ?_;intro L M Y m G;intro U I;obtain⟨k5,x5,p5,q5⟩:=stp (o:=.dK []) (fs':=AY "amounts" (.ref U) (AY "bares" (.ref O) (AY "numbers" (.ref nm) (AY "parts" (.ref pt) (AY "levels" (.ref D) []))))) p4 I;refine xq1 rfl ⟨p,_,dx,(xq1 rfl ⟨q5,T.cl_Grove,T.na_Grove_amounts,(by show 4<1000;decide),?_⟩)⟩;show Y _ _;generalize upd (upd H4 U _) p _=H5 at k5 x5 p5⊢;refine m ?_;refine BU ?_;intro L M Y m G;intro Z C;obtain⟨k6,x6,p6,q6⟩:=stp (o:=.dK []) (fs':=fl6 ⟨p,dx,D,pt,nm,O,U,Z⟩) p5 C;refine xq1 rfl ⟨p,_,dx,(xq1 rfl ⟨q6,T.cl_Grove,T.na_Grove_boxes,(by show 5<1000;decide),?_⟩)⟩;show Y _ (upd (upd H5 Z (.dK [])) p (.ins a.c_Grove dx (fl6 ⟨p,dx,D,pt,nm,O,U,Z⟩)));generalize upd (upd H5 Z _) p _=H6 at k6 x6 p6⊢;refine m ?_;have aj:∀b v,H1 b=some v->b≠p->H6 b=some v:=λb v e n=>k6 _ _ (k5 _ _ (k4 _ _ (k3 _ _ (k2 _ _ e n) n) n) n) n;have ak:∀b v,H2 b=some v->b≠p->H6 b=some v:=λb v e n=>k6 _ _ (k5 _ _ (k4 _ _ (k3 _ _ e n) n) n) n;have al:∀b v,H3 b=some v->b≠p->H6 b=some v:=λb v e n=>k6 _ _ (k5 _ _ (k4 _ _ e n) n) n;have an:∀b v,H4 b=some v->b≠p->H6 b=some v:=λb v e n=>k6 _ _ (k5 _ _ e n) n;have np:∀{u:Hp}{x:R_}{fs:List (Str×V)},u p=some (.ins a.c_Grove dx fs)->u x=none->x≠p:=λ{u x fs} e1 e2 z=>by rw[z,e1]at e2;cases e2
 have no:∀{u Hm:Hp}{x y:R_}{v:HO},u x=some v->u y=none->x≠y:=λ{u Hm x y v} e1 e2=>Aw e1 e2;have ac:=np hp aa;have ad:=np p1 X;have ah:=np p2 ab;have ag:=np p3 l;have af:=np p4 I;have aq:=np p5 C;have y1:=aj _ _ x1 ac;have y2:=ak _ _ x2 ad;have y3:=al _ _ x3 ah;have y4:=an _ _ x4 ag;have y5:=k6 _ _ x5 af;have B:∀{u:Hp}{x:R_},(∀b v,H b=some v->b≠p->u b=some v)->x≠p->u x=none->H x=none:=λ{u x} kp n e=>by
  cases h:H x with
  |none=>rfl
  |some v=>rw[kp _ _ h n]at e;cases e
 have c2:∀b v,H b=some v->b≠p->H2 b=some v:=λb v e n=>k2 _ _ (k1 _ _ e n) n;have c3:∀b v,H b=some v->b≠p->H3 b=some v:=λb v e n=>k3 _ _ (c2 _ _ e n) n;have c4:∀b v,H b=some v->b≠p->H4 b=some v:=λb v e n=>k4 _ _ (c3 _ _ e n) n;have c5:∀b v,H b=some v->b≠p->H5 b=some v:=λb v e n=>k5 _ _ (c4 _ _ e n) n;have c6:∀b v,H b=some v->b≠p->H6 b=some v:=λb v e n=>k6 _ _ (c5 _ _ e n) n;have d1:D≠pt:=Aw x1 X;have d2:O≠D:=K3 (Aw (k3 _ _ (k2 _ _ x1 ac) ac) l);have d3:O≠pt:=K3 (Aw (k3 _ _ x2 ad) l);have d4:U≠Z:=Aw x5 C;have N0:UQ a H H6 ⟨p,dx,D,pt,nm,O,U,Z⟩ (Eb 0) (Dl 0) (amK 0):=⟨c6,⟨p6,y1,⟨[],y2,.nil⟩,y3,d1⟩,y4,y5,x6,⟨aa,B k1 ad X,B c2 ah ab,B c3 ag l,B c4 af I,B c5 aq C⟩,d2,d3,d4⟩
 have k':=k ⟨p,dx,D,pt,nm,O,U,Z⟩;have gp:(⟨p,dx,D,pt,nm,O,U,Z⟩:GA).p=p:=rfl;generalize (⟨p,dx,D,pt,nm,O,U,Z⟩:GA)=g at N0 k' gp;subst gp;clear k p6 q6 q5 q4 q3 q2 q1 y1 y2 y3 y4 y5 x6 c6 c5 c4 c3 c2 aj ak al an k1 k2 k3 k4 k5 k6 x1 x2 x3 x4 x5 p1 p2 p3 p4 p5 d1 d2 d3 d4 ac ad ah ag af aq C I l ab X aa B no np stp;refine⟨8,rfl,by decide,by decide,?_⟩;refine Dv (n:=8) (λi σ H7=>∃u1:Option V,σ=[some (.ref g.p),u1,none,none]/\UQ a H H7 g (Eb i) (Dl 0) (amK i)) ⟨none,rfl,N0⟩ ?_ ?_
 .rintro i σ H7 hi ⟨u1,rfl,N⟩;obtain⟨kp,at',l,I,C,fresh,n1,n2,n3⟩:=N;have cl:(i:Int)=0+(i:Int):=(U4 _).symm;refine xq1 rfl ⟨g.p,g.dx,(xq1 rfl ⟨at'.hp,Sn g,(xq1 rfl ⟨S_1,λt ht=>?_⟩)⟩)⟩;have s1:=AJ (o:=.tup [.int (0+(i:Int))]) ht;refine⟨g,Eb i,t,[0+(i:Int)],0,rfl,at'.same s1,Af,by rw[<-cl];exact YZ i,by rw[FW];lia,λS fr r=>?_⟩;rw[<-cl,<-VF]at r;have R:Fr g H7 S:=(Az.fr s1).trans fr;obtain⟨ts,h3,h4⟩:=at'.pt;have kd:∀(b:R_)(kvs:List (Key×V)),H7 b=some (.dK kvs)->S b=some (.dK kvs):=λb kvs e=>R _ _ e (AE e at'.lv A3) (AE e h3 A3) (AE e at'.nm A3);have ae:=kd _ _ I;refine xq1 rfl ⟨_,_,rfl,(xwf rfl rfl r.hp T.cl_Grove T.na_Grove_amounts (fl6_am g) (xq1 rfl ⟨g.am,(xq1 rfl ⟨LX.k (k:=Sum.inl (0+(i:Int))) ae (by rw[amK_len];exact FG A0),?_⟩)⟩))⟩;rw[<-cl,IB _ (UL i i (B8 _)),<-UK];have d:∀{b:R_}{v:HO},S b=some v->b≠g.am->upd S g.am (.dK (amK (i+1))) b=some v:=λ{b v} e n=>by rw[Ax n];exact e
  have na:∀{b:R_}{v:HO},S b=some v->v≠.dK (amK i)->b≠g.am:=λ{b v} e n=>AE e ae n;obtain⟨au,ao,ar⟩:=r.pt;refine xq1 rfl ⟨?_,⟨d r.hp (na r.hp A3),d r.lv (na r.lv A3),⟨au,d ao (na ao A3),PairedM.imp (λc q z=>d z (na z A3)) ar⟩,d r.nm (na r.nm A3),r.ne⟩,?_,Af,?_,fresh,n1,n2,n3⟩
  .intro b v e nb;have e8:S b=some v:=R _ _ (kp _ _ e nb) (Aw e fresh.1) (Aw e fresh.2.1) (Aw e fresh.2.2.1);exact d e8 (Aw e fresh.2.2.2.2.1)
  .have e8:S g.br=_:=R _ _ l n1 n2 (AE l at'.nm A3);exact d e8 (na e8 A3)
  .exact d (kd _ _ C) (K3 n3)
 .rintro σ H7 ⟨u1,rfl,N⟩;refine xq2 rfl rfl ⟨1,49,rfl,⟨by decide,by decide,by decide,by decide⟩,?_⟩;have N0:UQ a H H7 g (Eb 8++GI 0) (Dl 0) (amK 8):=by rw[show Eb 8++GI 0=Eb 8 from P9 _];exact N
  clear N;refine Dv (lo:=1) (n:=48) (λj σ S=>∃u2 u3:Option V,σ=[some (.ref g.p),u1,u2,u3]/\UQ a H S g (Eb 8++GI j) (Dl j) (amK 8)) ⟨none,none,rfl,N0⟩ ?_ ?_
  .rintro j σ S hj ⟨u2,u3,rfl,N⟩;obtain⟨kp,at',l,I,C,fresh,n1,n2,n3⟩:=N;refine xwf rfl rfl at'.hp T.cl_Grove T.na_Grove_bares (GF g) (xwi rfl rfl rfl (SqL.of l) (at_lastV (by rw[List.getLast?_map,VV];rfl)) ?_);refine xwf rfl rfl at'.hp T.cl_Grove T.na_Grove_bares (GF g) ⟨.inl ⟨rfl,_,SqL.of l⟩,(xq1 rfl ⟨g.p,g.dx,(xq1 rfl ⟨at'.hp,Sn g,(xw3 rfl rfl rfl (xq1 rfl ⟨S_4,λt ht=>(xq1 rfl ?_)⟩))⟩)⟩)⟩;have s1:=AJ (o:=.tup [.int (bareN j:Int),.int (bareN j:Int),.int (bareN j:Int),.int (bareN j:Int)]) ht;have ln:(Eb 8++GI j).length=8+j:=by rw[C1,FW,RK]
   refine⟨g,Eb 8++GI j,t,[(bareN j:Int),(bareN j:Int),(bareN j:Int),(bareN j:Int)],1+(j:Int),rfl,at'.same s1,Af,RJ j,by rw[ln];lia,λH9 fr ai=>?_⟩;rw[show(1:Int)+(j:Int)=(j:Int)+1 by lia,Q5,<-Qz]at ai;have R:Fr g S H9:=(Az.fr s1).trans fr;obtain⟨ts,h3,h4⟩:=at'.pt;have kd:∀(b:R_)(kvs:List (Key×V)),S b=some (.dK kvs)->H9 b=some (.dK kvs):=λb kvs e=>R _ _ e (AE e at'.lv A3) (AE e h3 A3) (AE e at'.nm A3);have W:H9 g.br=_:=R _ _ l n1 n2 (AE l at'.nm A3);refine⟨g.br,(xq2 rfl rfl ⟨W,by rw[B4];unfold Dl;rw[B4,M9];exact FG A0,?_⟩)⟩;have eb:(Dl j).map V.int++[V.int ((Eb 8++GI j).length:Int)]=(Dl (j+1)).map V.int:=by rw[QA,C3,ln];rfl
   rw[eb];have d:∀{b:R_}{v:HO},H9 b=some v->v≠.lst ((Dl j).map V.int)->upd H9 g.br (.lst ((Dl (j+1)).map V.int)) b=some v:=λ{b v} e n=>by rw[Ax (AE e W n)];exact e
   refine⟨_,_,rfl,?_,ai.put W n1 n2,Af,d (kd _ _ I) A3,d (kd _ _ C) A3,fresh,n1,n2,n3⟩;intro b v e nb;rw[Ax (Aw e fresh.2.2.2.1)];exact R _ _ (kp _ _ e nb) (Aw e fresh.1) (Aw e fresh.2.1) (Aw e fresh.2.2.1)
  .rintro σ S ⟨u2,u3,rfl,N⟩;exact k' S rfl N
end
end J
namespace J
open PySem L2
theorem Am.uniq{G:Gv}{i:Nat}{l m:Int}(h:Am G i l)(b:Am G i m):l=m:=by
 obtain⟨q,e,z⟩:=h;obtain⟨p,a,c⟩:=b;rw[e]at a;cases a;exact z.symm.trans c
theorem leaf_of{G:Gv}(ok:GOk G){i:Nat}(h:Am G i 0):i<8:=by
 obtain⟨q,e,z⟩:=h;refine V7 λn=>?_;obtain⟨_,_,_,_,_,_,a,_⟩:=ok.node i q e n;lia
structure EF(G:Gv)(n i:Nat)(q:Sq)(x y z w:Nat):Prop where
g:G[i]?=some q
ps:q.parts=[(x:Int),(y:Int),(z:Int),(w:Int)]
lev:q.lev=(n:Int)+1
hx:Am G x n
hy:Am G y n
hz:Am G z n
hw:Am G w n
theorem Bp{G:Gv}(ok:GOk G){n i:Nat}(h:Am G i ((n+1:Nat):Int)):∃q x y z w,EF G n i q x y z w:=by
 obtain⟨q,e,f⟩:=h;have l:8<=i:=by
  refine P1 λk=>?_;rw[ok.leaf i k]at e;cases e;have:(0:Int)=((n+1:Nat):Int):=f;lia
 obtain⟨x,y,z,w,j,⟨b,c,d,a⟩,_,_⟩:=ok.node i q e l;have g:q.lev-1=(n:Int):=by lia
 rw[g]at b c d a;exact⟨q,x,y,z,w,e,j,by lia,b,c,d,a⟩
theorem EF.app{G a:Gv}{k n i:Nat}{q:Sq}{x y z w:Nat}(go:AH G a k)(h:EF G n i q x y z w):EF a n i q x y z w:=⟨go.get h.g,h.ps,h.lev,go.lev h.hx,go.lev h.hy,go.lev h.hz,go.lev h.hw⟩
def DZ(G:Gv):Nat->Nat->Int
|0,i=>if i=0 then 0 else 1
|n+1,i=>match G[i]? with
 |some q=>(q.parts.map λp=>DZ G n p.toNat).sum
 |none=>0
theorem LO{G:Gv}{n i:Nat}{q:Sq}{x y z w:Nat}(h:EF G n i q x y z w):DZ G (n+1) i=([x,y,z,w].map λk=>DZ G n k).sum:=by
 rw[show DZ G (n+1) i=(match G[i]? with|some q=>(q.parts.map λ(p:Int)=>DZ G n p.toNat).sum|none=>0)from rfl,h.g];show(q.parts.map λ(p:Int)=>DZ G n p.toNat).sum=_;rw[h.ps];rfl
theorem Lx{G a:Gv}{k:Nat}(ok:GOk G)(go:AH G a k):∀(n i:Nat),Am G i (n:Int)->DZ a n i=DZ G n i
|0,i,_=>rfl
|n+1,i,h=>by
 obtain⟨q,x,y,z,w,b⟩:=Bp ok h;rw[LO b,LO (b.app go)];show DZ a n x+(DZ a n y+(DZ a n z+(DZ a n w+0)))=_;rw[Lx ok go n x b.hx,Lx ok go n y b.hy,Lx ok go n z b.hz,Lx ok go n w b.hw];rfl
theorem FR(G:Gv):∀(n i:Nat),0<=DZ G n i
|0,i=>by
 show 0<=if i=0 then(0:Int)else 1;split<;>lia
|n+1,i=>by
 unfold DZ;split
 .rename_i q _;have:∀l:List Int,0<=(l.map λp=>DZ G n p.toNat).sum:=by
   intro l;induction l with
   |nil=>exact R7 0
   |cons p r a=>rw[F4,P0];have:=FR G n p.toNat;lia
  exact this _
 .exact R7 0
theorem LK:∀(n:Nat)(l:J_),l.Nodup->(∀x∈l,x<n)->l.length<=n
|0,l,_,h=>by
 cases l with
 |nil=>exact B8 0
 |cons x r=>exact absurd (h x C4) (L9 _)
|n+1,l,nd,h=>by
 by_cases c:n∈l
 .have:=LK n (l.erase n) (nd.erase n) λx a=>by
   have b:=(nd.mem_erase_iff).mp a;have:=h x b.2;have:=b.1;lia
  rw[List.length_erase_of_mem c]at this;lia
 .have:=LK n l nd λx a=>by
   have:=h x a;have:x≠n:=λz=>c (z▸a);lia
  lia
structure GK(G:Gv)(ks:List (Key×V)):Prop where
nd:(ks.map Prod.fst).Nodup
lt:∀k∈ks.map Prod.fst,∃i:Nat,i<G.length/\k=Sum.inl (i:Int)
theorem GK.len{G:Gv}{ks:List (Key×V)}(h:GK G ks):ks.length<=G.length:=by
 let f:Key->Nat:=λk=>match k with|.inl i=>i.toNat|.inr _=>0
 have:=LK G.length ((ks.map Prod.fst).map f) (by
  rw[O0,V3];refine A5a (λ{a b} d e c z=>c ?_) (O0.mp h.nd);obtain⟨i,_,rfl⟩:=h.lt a d;obtain⟨j,_,rfl⟩:=h.lt b e;have:(i:Int).toNat=(j:Int).toNat:=z;rw[J7,J7]at this;rw[this]) (λx m=>by
  obtain⟨k,l,rfl⟩:=C8.mp m;obtain⟨i,g,rfl⟩:=h.lt k l;show(i:Int).toNat<_;rw[J7];exact g)
 rw[B4,B4]at this;exact this
theorem GK.app{G a:Gv}{ks:List (Key×V)}(le:G.length<=a.length)(h:GK G ks):GK a ks:=⟨h.nd,λk b=>by
 obtain⟨i,c,e⟩:=h.lt k b;exact⟨i,by lia,e⟩⟩
theorem GK.put{G:Gv}{ks:List (Key×V)}(h:GK G ks){i:Nat}(j:i<G.length)(v:V):GK G (Dy ks (Sum.inl (i:Int)) v):=by
 unfold Dy;by_cases a:(ks.any λb=>decide (b.1=Sum.inl (i:Int)))=true
 .rw[K0 a];have e:(ks.map λb=>if b.1=Sum.inl (i:Int)then(b.1,v)else b).map Prod.fst=ks.map Prod.fst:=by
   rw[M5];refine T6 λb _=>?_;show(if b.1=Sum.inl (i:Int)then(b.1,v)else b).1=b.1;split<;>rfl
  exact⟨by rw[e];exact h.nd,by rw[e];exact h.lt⟩
 .rw[X7 a];refine⟨?_,λk c=>?_⟩
  .rw[C3,R6];refine⟨h.nd,by simp,λk c l d z=>a ?_⟩;have:l=Sum.inl (i:Int):=by simpa using d
   subst this;subst z;obtain⟨b,f,g⟩:=C8.mp c;exact R8.mpr ⟨b,f,X8 g⟩
  .rw[C3]at c;rcases D4.mp c with z|z
   .exact h.lt k z
   .exact⟨i,j,by simpa using z⟩
structure AmOk(G:Gv)(ks:List (Key×V)):Prop where
keys:GK G ks
leaf:∀s:Nat,s<8->∃v,Bj ks (Sum.inl (s:Int))=some v
val:∀(i:Nat) v,Bj ks (Sum.inl (i:Int))=some v->∃l:Nat,Am G i l/\v=.int (DZ G l i)
theorem AmOk.app{G a:Gv}{k:Nat}{ks:List (Key×V)}(ok:GOk G)(go:AH G a k)(h:AmOk G ks):AmOk a ks:=⟨h.keys.app (by obtain⟨r,e⟩:=go.pre;rw[e,C1];lia),h.leaf,λi v e=>by
 obtain⟨l,b,c⟩:=h.val i v e;exact⟨l,go.lev b,by rw[Lx ok go l i b];exact c⟩⟩
theorem am0:AmOk G0 (amK 8) where
 keys:=⟨by decide +kernel,λk c=>by
  obtain⟨p,d,rfl⟩:=C8.mp c;obtain⟨s,a,rfl⟩:=C8.mp d;have:=L7.mp a;exact⟨s,by rw[MD];lia,rfl⟩⟩
 leaf:=λs a=>by
  match s,a with
  |0,_=>exact⟨_,rfl⟩
  |1,_=>exact⟨_,rfl⟩
  |2,_=>exact⟨_,rfl⟩
  |3,_=>exact⟨_,rfl⟩
  |4,_=>exact⟨_,rfl⟩
  |5,_=>exact⟨_,rfl⟩
  |6,_=>exact⟨_,rfl⟩
  |7,_=>exact⟨_,rfl⟩
 val:=λi v e=>by
  have b:i<8:=by
   refine V7 λz=>?_;rw[UL 8 i z]at e;cases e
  refine⟨0,⟨_,SS i b,rfl⟩,?_⟩
  match i,b with
  |0,_=>cases e;rfl
  |1,_=>cases e;rfl
  |2,_=>cases e;rfl
  |3,_=>cases e;rfl
  |4,_=>cases e;rfl
  |5,_=>cases e;rfl
  |6,_=>cases e;rfl
  |7,_=>cases e;rfl
structure Bx where
l:Int
t:Int
w:Int
h:Int
def Bx.ns(b:Bx):List Int:=[b.l,b.t,b.w,b.h]
def shB(half:Int)(k:Nat)(b:Bx):Bx:=⟨b.l+half*((k:Int)%2),b.t+half*((k:Int)/2),b.w,b.h⟩
def Ee(half:Int):Nat->List (Option Bx)->List Bx
|_,[]=>[]
|k,none::r=>Ee half (k+1) r
|k,some b::r=>shB half k b::Ee half (k+1) r
def mnL(l:I_):Int:=l.min?.getD 0
def mxL(l:I_):Int:=l.max?.getD 0
def Qp(bs:List Bx):Bx:=⟨mnL (bs.map (·.l)),mnL (bs.map (·.t)),mxL (bs.map λb=>b.l+b.w)-mnL (bs.map (·.l)),mxL (bs.map λb=>b.t+b.h)-mnL (bs.map (·.t))⟩
def QL(half:Int)(obs:List (Option Bx)):Option Bx:=match Ee half 0 obs with
|[]=>none
|b::r=>some (Qp (b::r))
def BZ(G:Gv):Nat->Nat->Option Bx
|0,i=>if i=0 then none else some ⟨0,0,1,1⟩
|n+1,i=>match G[i]? with
 |some q=>QL (2^n) (q.parts.map λ(p:Int)=>BZ G n p.toNat)
 |none=>none
theorem mnL_of{l:I_}{m:Int}(h:m∈l)(a:∀x∈l,m<=x):m=mnL l:=by
 unfold mnL;rw[List.min?_eq_some_iff.mpr ⟨h,a⟩];rfl
theorem mxL_of{l:I_}{m:Int}(h:m∈l)(a:∀x∈l,x<=m):m=mxL l:=by
 unfold mxL;rw[List.max?_eq_some_iff.mpr ⟨h,a⟩];rfl
theorem FX{G:Gv}{n i:Nat}{q:Sq}{x y z w:Nat}(h:EF G n i q x y z w):BZ G (n+1) i=QL (2^n) [BZ G n x,BZ G n y,BZ G n z,BZ G n w]:=by
 rw[show BZ G (n+1) i=(match G[i]? with|some q=>QL (2^n) (q.parts.map λ(p:Int)=>BZ G n p.toNat)|none=>none)from rfl,h.g];show QL (2^n) (q.parts.map λ(p:Int)=>BZ G n p.toNat)=_;rw[h.ps];rfl
theorem GH{G b:Gv}{k:Nat}(ok:GOk G)(go:AH G b k):∀(n i:Nat),Am G i (n:Int)->BZ b n i=BZ G n i
|0,i,_=>rfl
|n+1,i,h=>by
 obtain⟨q,x,y,z,w,a⟩:=Bp ok h;rw[FX a,FX (a.app go),GH ok go n x a.hx,GH ok go n y a.hy,GH ok go n z a.hz,GH ok go n w a.hw]
theorem Rg{half:Int}:∀{a:List (Option Bx)},QL half a=none ↔ ∀o∈a,o=none:=by
 intro a;have g:∀(a:List (Option Bx))(k:Nat),Ee half k a=[] ↔ ∀o∈a,o=none:=by
  intro a;induction a with
  |nil=>intro k;exact⟨λ_ o c=>by simp at c,λ_=>rfl⟩
  |cons o r d =>
   intro k;cases o with
   |none =>
    rw[show Ee half k (none::r)=Ee half (k+1) r from rfl,d (k+1)];exact⟨λh o c=>by rcases B7.mp c with z|z;exact z;exact h o z,λh o c=>h o (C5 _ c)⟩
   |some b=>exact⟨λh=>(by cases h),λh=>(by cases h (some b) C4)⟩
 rw[<-g a 0];unfold QL;constructor
 .intro h;split at h
  .assumption
  .cases h
 .intro h;rw[h]
theorem LS{G:Gv}(ok:GOk G):∀(n i:Nat),Am G i (n:Int)->(BZ G n i=none↔DZ G n i=0)
|0,i,_=>by
 show(if i=0 then none else some (⟨0,0,1,1⟩:Bx))=none↔(if i=0 then(0:Int)else 1)=0;split
 .exact⟨λ_=>rfl,λ_=>rfl⟩
 .exact⟨λh=>(by cases h),λh=>A0⟩
|n+1,i,h=>by
 obtain⟨q,x,y,z,w,a⟩:=Bp ok h;rw[FX a,LO a,Rg];show _↔DZ G n x+(DZ G n y+(DZ G n z+(DZ G n w+0)))=0;have c:=LS ok n x a.hx;have d:=LS ok n y a.hy;have e:=LS ok n z a.hz;have b:=LS ok n w a.hw;have nx:=FR G n x;have g:=FR G n y;have j:=FR G n z;have nw:=FR G n w;constructor
 .intro h;rw[c.mp (h _ A6),d.mp (h _ A6),e.mp (h _ A6),b.mp (h _ A6)];rfl
 .intro h o f;simp only[B7,D3,A0c]at f;rcases f with rfl|rfl|rfl|rfl
  .exact c.mpr A0
  .exact d.mpr A0
  .exact e.mpr A0
  .exact b.mpr A0
theorem VM{G r:Gv}(e:G=G0++r)(j:Nat)(h:j<48):G[8+j]?=some ⟨[(bareN j:Int),(bareN j:Int),(bareN j:Int),(bareN j:Int)],(j:Int)+1⟩:=by
 rw[e];exact LJ (Nj j h)
theorem Lz{G:Gv}(ok:GOk G){r:Gv}(e:G=G0++r):∀(n i:Nat),n<=48->Am G i (n:Int)->(BZ G n i=none↔i=bareN n)
|0,i,_,_=>by
 show(if i=0 then none else some (⟨0,0,1,1⟩:Bx))=none↔i=0;split
 .rename_i z;exact⟨λ_=>z,λ_=>rfl⟩
 .rename_i z;exact⟨λh=>(by cases h),λh=>absurd h z⟩
|n+1,i,hn,h=>by
 obtain⟨q,x,y,z,w,a⟩:=Bp ok h;rw[FX a,Rg];have c:=Lz ok e n x A0 a.hx;have d:=Lz ok e n y A0 a.hy;have f:=Lz ok e n z A0 a.hz;have b:=Lz ok e n w A0 a.hw;have j:=VM e n A0;constructor
 .intro h;have m:=c.mp (h _ A6);have s:=d.mp (h _ A6);have t:=f.mp (h _ A6);have l:=b.mp (h _ A6);show i=8+n;refine ok.one a.g j ?_;rw[a.ps,m,s,t,l]
 .intro h;have h:i=8+n:=h;have g:=a.g;rw[h,j]at g;cases g;have p:=a.ps;have p:[(bareN n:Int),(bareN n:Int),(bareN n:Int),(bareN n:Int)]=[(x:Int),(y:Int),(z:Int),(w:Int)]:=p;injection p with p1 p
  injection p with p2 p
  injection p with p3 p
  injection p with p4 p
  intro o k;simp only[B7,D3,A0c]at k;rcases k with rfl|rfl|rfl|rfl
  .exact c.mpr (K2 p1).symm
  .exact d.mpr (K2 p2).symm
  .exact f.mpr (K2 p3).symm
  .exact b.mpr (K2 p4).symm
structure BxOk(G:Gv)(H:Hp)(ks:List (Key×V)):Prop where
keys:GK G ks
val:∀(i:Nat) v,Bj ks (Sum.inl (i:Int))=some v->∃(l:Nat)(b:Bx)(t:R_),Am G i l/\BZ G l i=some b/\v=.ref t/\H t=some (.tup (b.ns.map V.int))
structure AW(a:Ad)(H:Hp)(g:GA)(G:Gv):Prop where
at':AM a H g G
ok:GOk G
g0:∃r,G=G0++r
br:H g.br=some (.lst ((Dl 48).map V.int))
am:∃ks,H g.am=some (.dK ks)/\AmOk G ks
bx:∃ks,H g.bx=some (.dK ks)/\BxOk G H ks
n1:g.br≠g.lv
n2:g.br≠g.pt
n3:g.am≠g.bx
theorem AW.new{a:Ad}{H b:Hp}{g:GA}(h:UQ a H b g G0 (Dl 48) (amK 8)):AW a b g G0:=⟨h.at',g0_ok,⟨[],by simp⟩,h.br,⟨_,h.am,am0⟩,⟨_,h.bx,⟨by simp,λk c=>by simp at c⟩,λi v e=>by cases e⟩,h.n1,h.n2,h.n3⟩
theorem AW.ne_am{a:Ad}{H:Hp}{g:GA}{G:Gv}(h:AW a H g G){b:R_}{o:HO}(e:H b=some o)(n:∀ks,o≠.dK ks):b≠g.am/\b≠g.bx:=by
 obtain⟨ks,c,_⟩:=h.am;obtain⟨f,d,_⟩:=h.bx;exact⟨AE e c (n _),AE e d (n _)⟩
theorem AW.same{a:Ad}{H d:Hp}{g:GA}{G:Gv}(s:Az H d)(h:AW a H g G):AW a d g G:=by
 obtain⟨at',ok,p,j,⟨ks,q,r⟩,⟨c,u,f⟩,w,x,y⟩:=h;refine⟨at'.same s,ok,p,s _ _ j,⟨ks,s _ _ q,r⟩,⟨c,s _ _ u,f.keys,λi v e=>?_⟩,w,x,y⟩;obtain⟨l,b,t,k,m,n,o⟩:=f.val i v e;exact⟨l,b,t,k,m,n,s _ _ o⟩
theorem AH.le{G a:Gv}{k:Nat}(go:AH G a k):G.length<=a.length:=by
 obtain⟨r,e⟩:=go.pre;rw[e,C1];lia
theorem AW.fr{a:Ad}{H c:Hp}{g:GA}{G d:Gv}{m:Nat}(h:AW a H g G)(f:Fr g H c)(j:AM a c g d)(go:AH G d m):AW a c g d:=by
 obtain⟨at',ok,⟨r,C⟩,n,⟨ks,D,E⟩,⟨k,F,q⟩,s,u,K⟩:=h;obtain⟨us,I,_⟩:=at'.pt;have keep:∀{b:R_}{o:HO},H b=some o->(∀l,o≠.lst l)->(∀l,o≠.dT l)->c b=some o:=λ{b o} e w L=>f _ _ e (AE e at'.lv (w _)) (AE e I (w _)) (AE e at'.nm (L _));obtain⟨t,B⟩:=go.pre;refine⟨j,go.ok,⟨r++t,by rw[B,C,Q5]⟩,f _ _ n s u (AE n at'.nm A3),⟨ks,keep D (by intro l z;cases z) (by intro l z;cases z),E.app ok go⟩,⟨k,keep F (by intro l z;cases z) (by intro l z;cases z),q.keys.app go.le,λi v e=>?_⟩,s,u,K⟩;obtain⟨l,b,t,p,x,y,A⟩:=q.val i v e;exact⟨l,b,t,go.lev p,by rw[GH ok go l i p];exact x,y,keep A (by intro l z;cases z) (by intro l z;cases z)⟩
theorem AW.put{a:Ad}{H:Hp}{g:GA}{G:Gv}{l:R_}{xs:List V}{o:HO}(h:AW a H g G)(k:H l=some (.lst xs))(m1:l≠g.lv)(m2:l≠g.pt)(y:l≠g.br):AW a (upd H l o) g G:=by
 obtain⟨at',ok,s,f,⟨ks,u,w⟩,⟨d,x,j⟩,z,A,B⟩:=h;have c:∀{b v},H b=some v->v≠.lst xs->upd H l o b=some v:=λ{b v} e n=>by rw[Ax (AE e k n)];exact e
 refine⟨at'.put k m1 m2,ok,s,by rw[Ax (K3 y)];exact f,⟨ks,c u A3,w⟩,⟨d,c x A3,j.keys,λi v e=>?_⟩,z,A,B⟩;obtain⟨l,b,t,m,p,q,r⟩:=j.val i v e;exact⟨l,b,t,m,p,q,c r A3⟩
def FrQ(g:GA)(H H':Hp):Prop:=∀b o,H b=some o->b≠g.am->b≠g.bx->H' b=some o
theorem FrQ.refl(g:GA)(H:Hp):FrQ g H H:=λ_ _ e _ _=>e
theorem FrQ.trans{g:GA}{a c d:Hp}(h:FrQ g a c)(j:FrQ g c d):FrQ g a d:=λb o e f i=>j b o (h b o e f i) f i
theorem Az.frq{g:GA}{a c:Hp}(h:Az a c):FrQ g a c:=λb o e _ _=>h b o e
theorem AM.dict{a:Ad}{H:Hp}{g:GA}{G:Gv}{d:R_}{ks:List (Key×V)}{o:HO}(p:H d=some (.dK ks))(h:AM a H g G):AM a (upd H d o) g G:=by
 obtain⟨f,i,⟨r,j,k⟩,l,m⟩:=h;have c:∀{b v},H b=some v->v≠.dK ks->upd H d o b=some v:=λ{b v} e n=>by rw[Ax (AE e p n)];exact e
 exact⟨c f A3,c i A3,⟨r,c j A3,PairedM.imp (λt q z=>c z A3) k⟩,c l A3,m⟩
theorem AW.bx_put{a:Ad}{H:Hp}{g:GA}{G:Gv}{ks ks2:List (Key×V)}(h:AW a H g G)(e:H g.bx=some (.dK ks))(j:BxOk G H ks2):AW a (upd H g.bx (.dK ks2)) g G/\FrQ g H (upd H g.bx (.dK ks2)):=by
 obtain⟨at',ok,u,m,⟨f,w,x⟩,⟨_,_,_⟩,y,z,k⟩:=h;have c:∀{b v},H b=some v->v≠.dK ks->upd H g.bx (.dK ks2) b=some v:=λ{b v} d n=>by rw[Ax (AE d e n)];exact d
 refine⟨⟨at'.dict e,ok,u,c m A3,⟨f,by rw[Ax k];exact w,x⟩,⟨_,Af,j.keys,λi v e=>?_⟩,y,z,k⟩,λb o d _ m1=>by rw[Ax m1];exact d⟩;obtain⟨l,b,t,p,q,r,s⟩:=j.val i v e;exact⟨l,b,t,p,q,r,c s A3⟩
theorem Uf(g:GA):(fl6 g).lookup ("boxed" : Str)=none:=Jx g A1 A1 A1 A1 A1 A1
theorem Ud(g:GA):(fl6 g).lookup ("measured" : Str)=none:=Jx g A1 A1 A1 A1 A1 A1
theorem no_span(g:GA):(fl6 g).lookup ("span" : Str)=none:=Jx g A1 A1 A1 A1 A1 A1
seal L2.PA L2.PE L2.PS L2.PSs L2.PT L2.PW
theorem EF.mem{G:Gv}{n i:Nat}{q:Sq}{x y z w:Nat}(h:EF G n i q x y z w){j:Nat}{v:V}(e:(q.parts.map V.int)[j]?=some v):∃k:Nat,v=.int k/\Am G k n/\q.parts[j]?=some (k:Int):=by
 rw[B6]at e;obtain⟨p,a,rfl⟩:=C9.mp e;have b:=D0 a;rw[h.ps]at b;simp only[B7,D3,A0c]at b;rcases b with rfl|rfl|rfl|rfl
 .exact⟨x,rfl,h.hx,a⟩
 .exact⟨y,rfl,h.hy,a⟩
 .exact⟨z,rfl,h.hz,a⟩
 .exact⟨w,rfl,h.hw,a⟩
theorem Qs(half:Int):∀(l r:List (Option Bx))(k:Nat),Ee half k (l++r)=Ee half k l++Ee half (k+l.length) r
|[],r,k=>rfl
|none::l,r,k=>by
 show Ee half (k+1) (l++r)=Ee half (k+1) l++Ee half (k+(l.length+1)) r;rw[Qs half l r (k+1),show k+1+l.length=k+(l.length+1) by lia]
|some b::l,r,k=>by
 show shB half k b::Ee half (k+1) (l++r)=shB half k b::(Ee half (k+1) l++Ee half (k+(l.length+1)) r);rw[Qs half l r (k+1),show k+1+l.length=k+(l.length+1) by lia]
theorem Ni(half:Int):∀(l:List (Option Bx))(k:Nat),(Ee half k l).length<=l.length
|[],k=>B8 _
|none::l,k=>D7 (Ni half l (k+1)) (Q9 _)
|some b::l,k=>Q6 (Ni half l (k+1))
theorem PairedM.getL{α β:Type}{F:α->β->Prop}:∀{l:List α}{m:List β}{i:Nat}{x:α},Paired F l m->l[i]?=some x->∃y,m[i]?=some y/\F x y
|_,_,_,_,.nil,e=>by simp at e
|_,_,0,_,.cons r _,e=>by simp at e;subst e;exact⟨_,rfl,r⟩
|_,_,i+1,x,.cons _ t,e=>by
 obtain⟨y,a,b⟩:=PairedM.getL (i:=i) (x:=x) t (by simpa using e);exact⟨y,by simpa using a,b⟩
def Op(H:Hp)(t:R_)(b:Bx):Prop:=H t=some (.tup (b.ns.map V.int))
theorem Pf{β:Type}{K:O_}{k:Nat}{cs:J_}{g:TG}{tc:TT}{l:TE}{σ:St}{H:Hp}{fin:List V->Hp->Prop}{D:Addr->β->Prop}{L:R_}{e:H_}{bs:List β}(c:β->Int)(o:H L=some (.lst (e.map V.ref)))(i:Paired D e bs)(few:e.length<1000)
  (q:∀t b a N,D t b->a.length<sizeLine->N (a++[.int (c b)]) H->Bt k cs g tc l σ (.ref t) a H N) (p:fin ((bs.map c).map V.int) H):Ia k cs g tc l (Itl K L) σ H fin:=by
 have r:e.length=bs.length:=K9 i;refine CC (xs:=e.map V.ref) (λj a f=>H=f/\a=((bs.take j).map c).map V.int) ⟨rfl,rfl⟩ (λj a f _ z=>z.1▸SqL.of o) ?_ ?_
 .rintro j v a f h ⟨rfl,rfl⟩;rw[B6]at h;obtain⟨t,n,rfl⟩:=C9.mp h;obtain⟨b,m,d⟩:=PairedM.getL i n;refine q t b _ _ d (by rw[B4,B4,J0];exact FG A0) ⟨rfl,?_⟩;rw[F3,m,C3,C3];rfl
 .rintro a f ⟨rfl,rfl⟩;rw[B4,r,F6];exact p
section
variable{P:N_}{w:Q_}{K:O_}{mg:C_}{base:T_}{a:Ad}
inductive Ye(vs:List V)(H:Hp)(Q:VK):Prop
|mk (t:R_) (b:Bx) (dx dy:Int) (_:vs=[.ref t,.int dx,.int dy]) (_:Op H t b) (_:∀t',H t'=none->Q (.ref t') (upd H t' (.tup [.int (b.l+dx),.int (b.t+dy),.int b.w,.int b.h]))):Ye vs H Q
def LC:Sp:=λvs H Q _=>Ye vs H Q
theorem ok_shift(F:Fun K "shifted_box" "shifted_box" Ie f fd)(T:Top K mg a):AL P w K mg base CX0 1 f fd QN LC:=by
 refine F.ok Pq D_9 λe A d s H vs Q E i h=>?_
 obtain⟨t,b,dx,g,rfl,c,k⟩:=h;have c:H t=some (.tup [.int b.l,.int b.t,.int b.w,.int b.h]):=c;refine⟨_,(Ah (Av (Dz (Bn AQ (Aj Al (pv 0) Ae R_9) (pv 1) (Bn AQ (Aj Al (pv 0) Ae R_9) (pv 2) (Aa (Aj Al (pv 0) Ae R_9) (Aa (Aj Al (pv 0) Ae R_9) Ab))))))),?_⟩
 try dsimp only[cxK]
 refine xwi rfl rfl rfl (SqT.of c) (Ai (j:=0) rfl) (xwb rfl rfl rfl (xwi rfl rfl rfl (SqT.of c) (Ai (j:=1) rfl) (xwb rfl rfl rfl (xwi rfl rfl rfl (SqT.of c) (Ai (j:=2) rfl) (xwi rfl rfl rfl (SqT.of c) (Ai (j:=3) rfl) ⟨S_4,λt' n=>k t' n⟩)))))
inductive Yi(vs:List V)(H:Hp)(Q:VK):Prop
|mk (L:R_) (ts:H_) (bs:List Bx) (_:vs=[.ref L]) (_:H L=some (.lst (ts.map V.ref))) (_:Paired (Op H) ts bs) (_:bs≠[]) (_:ts.length<1000) (_:∀t' H',Az H H'->Op H' t' (Qp bs)->Q (.ref t') H'):Yi vs H Q
def OQ:Sp:=λvs H Q _=>Yi vs H Q
theorem ok_least(F:Fun K "least_box" "least_box" Dg f fd)(T:Top K mg a):AL P w K mg base CX0 1 f fd GT OQ:=by
 refine F.ok Eh D_9 λaa A S s H vs Q E hr h=>?_
 obtain⟨L,Y,bs,rfl,n,u,ne,few,k⟩:=h;have c:∀m:Bx->Int,bs.map m≠[]:=λm z=>ne (S1.mp z);refine⟨_,(Ac (Aq (i:=1) Eh.nd rfl O_9 (AX (RB rfl) rfl T.b_min A4d (Aa (BL rfl (Bo.of (So:=Ak Dg) (No:=Fs) (N:=["box"]) (k:=1) (cs:=[]) rfl rfl A1) (BS (pv 0)) (λ_ _ _=>(AZ (i:=0) A1 rfl rfl)) (λ_ _ _=>BC) (λ_ _ _=>(Aj (Jw (K:=K) rfl) (pv 0) Ae R_9))) Ab))) (Ac (Aq (i:=2) Eh.nd rfl O_9 (AX (RB rfl) rfl T.b_min A4d (Aa (BL rfl (Bo.of (So:=Ak Dg) (No:=Fs) (N:=["box"]) (k:=1) (cs:=[]) rfl rfl A1) (BS (pv 0)) (λ_ _ _=>(AZ (i:=0) A1 rfl rfl)) (λ_ _ _=>BC) (λ_ _ _=>(Aj (Jw (K:=K) rfl) (pv 0) Ae R_9))) Ab))) (Ac (Aq (i:=3) Eh.nd rfl O_9 (AX (RD rfl) rfl T.b_max A5h (Aa (BL rfl (Bo.of (So:=Ak Dg) (No:=Fs) (N:=["box"]) (k:=1) (cs:=[]) rfl rfl A1) (BS (pv 0)) (λ_ _ _=>(AZ (i:=0) A1 rfl rfl)) (λ_ _ _=>BC) (λ_ _ _=>(AF AQ (Aj (Jw (K:=K) rfl) (pv 0) Ae R_9) (Aj (Jw (K:=K) rfl) (pv 0) Ae R_9)))) Ab))) (Ac (Aq (i:=4) Eh.nd rfl O_9 (AX (RD rfl) rfl T.b_max A5h (Aa (BL rfl (Bo.of (So:=Ak Dg) (No:=Fs) (N:=["box"]) (k:=1) (cs:=[]) rfl rfl A1) (BS (pv 0)) (λ_ _ _=>(AZ (i:=0) A1 rfl rfl)) (λ_ _ _=>BC) (λ_ _ _=>(AF AQ (Aj (Jw (K:=K) rfl) (pv 0) Ae R_9) (Aj (Jw (K:=K) rfl) (pv 0) Ae R_9)))) Ab))) (Ah (Av (Dz (Aa (pv 1) (Aa (pv 2) (Bn Cv (pv 3) (pv 1) (Bn Cv (pv 4) (pv 2) Ab))))))))))),?_⟩
 try dsimp only[cxK]
 refine xq1 rfl ⟨L,rfl,⟨_,SqL.of n⟩,Pf (·.l) n u few (λt b e N d g nx=>⟨⟨[some (.ref t)],rfl,rfl⟩,g,FI (xwi rfl rfl rfl (SqT.of d) (Ai (j:=0) rfl) nx)⟩) λq1 h1=>?_⟩;refine⟨q1,(xq1 rfl ⟨SqL.of Af,c _,λm1 B I=>?_⟩)⟩;obtain rfl:=mnL_of B I;have v:=AJ (o:=.lst ((bs.map (·.l)).map V.int)) h1;generalize upd H q1 (.lst ((bs.map (·.l)).map V.int))=Z at v⊢;have p:=v _ _ n;have U:Paired (Op Z) Y bs:=PairedM.imp (λt b z=>v _ _ z) u;refine xq1 rfl ⟨L,rfl,⟨_,SqL.of p⟩,Pf (·.t) p U few (λt b e N d g nx=>⟨⟨[some (.ref t)],rfl,rfl⟩,g,FI (xwi rfl rfl rfl (SqT.of d) (Ai (j:=1) rfl) nx)⟩) λq2 h2=>?_⟩;refine⟨q2,(xq1 rfl ⟨SqL.of Af,c _,λm2 C M=>?_⟩)⟩;obtain rfl:=mnL_of C M;have x:=v.trans (AJ (o:=.lst ((bs.map (·.t)).map V.int)) h2);generalize upd Z q2 (.lst ((bs.map (·.t)).map V.int))=H2 at x⊢;have q:=x _ _ n;have W:Paired (Op H2) Y bs:=PairedM.imp (λt b z=>x _ _ z) u;refine xq1 rfl ⟨L,rfl,⟨_,SqL.of q⟩,Pf (λb=>b.l+b.w) q W few (λt b e N d g nx=>⟨⟨[some (.ref t)],rfl,rfl⟩,g,FI (xwi rfl rfl rfl (SqT.of d) (Ai (j:=0) rfl) (xwi rfl rfl rfl (SqT.of d) (Ai (j:=2) rfl) (xq2 rfl rfl nx)))⟩) λq3 h3=>?_⟩;refine⟨q3,(xq1 rfl ⟨SqL.of Af,c _,λm3 D O=>?_⟩)⟩;obtain rfl:=mxL_of D O;have y:=x.trans (AJ (o:=.lst ((bs.map λb=>b.l+b.w).map V.int)) h3);generalize upd H2 q3 (.lst ((bs.map λb=>b.l+b.w).map V.int))=H3 at y⊢;have r:=y _ _ n;have X:Paired (Op H3) Y bs:=PairedM.imp (λt b z=>y _ _ z) u;refine xq1 rfl ⟨L,rfl,⟨_,SqL.of r⟩,Pf (λb=>b.t+b.h) r X few (λt b e N d g nx=>⟨⟨[some (.ref t)],rfl,rfl⟩,g,FI (xwi rfl rfl rfl (SqT.of d) (Ai (j:=1) rfl) (xwi rfl rfl rfl (SqT.of d) (Ai (j:=3) rfl) (xq2 rfl rfl nx)))⟩) λq4 h4=>?_⟩;refine⟨q4,(xq1 rfl ⟨SqL.of Af,c _,λm4 G R=>?_⟩)⟩;obtain rfl:=mxL_of G R;have s4:=y.trans (AJ (o:=.lst ((bs.map λb=>b.t+b.h).map V.int)) h4);generalize upd H3 q4 (.lst ((bs.map λb=>b.t+b.h).map V.int))=H4 at s4⊢;exact xw3 rfl rfl rfl (xwb rfl rfl rfl (xw2 rfl rfl (xq2 rfl rfl ⟨S_4,λt5 h5=>k t5 _ (s4.trans (AJ h5)) Af⟩)))
inductive SpBox(a:Ad)(n:Nat)(vs:List V)(H:Hp)(Q:VK):Prop
|mk (g:GA) (G:Gv) (i l:Nat) (_:vs=[.ref g.p,.int i]) (_:AW a H g G) (_:Am G i l) (_:l<n) (_:G.length<9000000) (_:(BZ G l i=none->∀H',FrQ g H H'->AW a H' g G->Q .non H')) (_:∀b,BZ G l i=some b->∀t H',FrQ g H H'->AW a H' g G->Op H' t b->Q (.ref t) H'):SpBox a n vs H Q
def TB(a:Ad)(n:Nat):Sp:=λvs H Q _=>SpBox a n vs H Q
inductive SpMea(a:Ad)(n:Nat)(vs:List V)(H:Hp)(Q:VK):Prop
|mk (g:GA) (G:Gv) (i l:Nat) (b:Bx) (_:vs=[.ref g.p,.int i]) (_:AW a H g G) (_:Am G i l) (_:l<n) (_:G.length<9000000) (_:BZ G l i=some b) (_:∀t H',FrQ g H H'->AW a H' g G->Op H' t b->Q (.ref t) H'):SpMea a n vs H Q
def spMea(a:Ad)(n:Nat):Sp:=λvs H Q _=>SpMea a n vs H Q
theorem RP(m:Nat){l:Int}(e:l=(m:Int)+1):(1:Int)*2^(l-1).toNat=2^m:=by
 rw[e,Int.one_mul,show((m:Int)+1-1).toNat=m by lia]
theorem ok_mea{n d:Nat}(F:Fun K "measured" "Grove.measured" Dq f fd)(T:Top K mg a)(hd:1<=d)(a9:Cal P w K mg base CX0 1 "shifted_box" QN LC)(bA:Cal P w K mg base CX0 1 "least_box" GT OQ)(b7:Ca P w K mg base CX0 d a.c_Grove "boxed" Lp (TB a n)):AL P w K mg base CX0 (d+1) f fd Lp (spMea a (n+1)):=by
 refine F.ok BG (λvs H Q E h=>?_) (λan A am s H vs Q E hr h=>?_)
 .obtain⟨g,G,i,l,b,rfl,_⟩:=h;rfl
 .obtain⟨g,G,i,l,b,rfl,N,hl,ln,few,eb,k⟩:=h;obtain⟨q0,e0,l0⟩:=id hl;refine⟨_,(Ac (Aq (i:=2) BG.nd rfl O_9 (Aj Ay (AB (pv 0) rfl) (pv 1) R_9)) (Ac (AO (AA CG (pv 2) Ae (AG _)) (Ah (Av (Dz (AV (AV (AV (AV Ab))))))) AC) (Ac (Aq (i:=3) BG.nd rfl O_9 (AF NU Ae (AF Cv (pv 2) Ae))) (Ac (Aq (i:=4) BG.nd rfl O_9 (Ce Ab)) (Ac (CK K7 rfl (OX true rfl T.b_enumerate (Aa (Aj Ay (AB (pv 0) rfl) (pv 1) R_9) Ab)) (PP rfl (DF (BD (i:=5) BG.nd rfl O_9) (DF (BD (i:=6) BG.nd rfl O_9) MU))) (Ac (Aq (i:=7) BG.nd rfl O_9 (AK (pv 0) b7 (rm hr) Ao (Aa (pv 6) Ab))) (Ah (AO (AA WG (pv 7) Db (AG _)) (Ah (BW (CQ K8 A0a A0b Cc (pv 4) (Aa (As a9 (rm hr) rfl Ao (Aa (pv 7) (Bn EW (pv 3) (AF Bq (pv 5) Ae) (Bn EW (pv 3) (AF Ey (pv 5) Ae) Ab)))) Ab)))) AC)))) (Ah (Av (As bA (rm hr) rfl Ao (Aa (pv 4) Ab))))))))),?_⟩
  try dsimp only[cxK]
  refine⟨_,rfl,g.p,_,g.dx,_,_,rfl,N.at'.hp,T.cl_Grove,T.na_Grove_levels,EC g,_,rfl,g.lv,_,(i:Int),.int q0.lev,rfl,rfl,SqL.of N.at'.lv,Ai (by rw[B6,e0];rfl),?_⟩;cases l with
  |zero =>
   rw[l0];refine xq1 rfl ⟨rfl,(xq1 rfl (BP ⟨S_4,λt Z=>?_⟩))⟩;have e:b=⟨0,0,1,1⟩:=by
    have eb:(if i=0 then none else some (⟨0,0,1,1⟩:Bx))=some b:=eb;split at eb
    .cases eb
    .cases eb;rfl
   subst e;have sm:=AJ (o:=.tup [.int 0,.int 0,.int 1,.int 1]) Z;exact k t _ (Az.frq sm) (N.same sm) Af
  |succ m =>
   have al:q0.lev=(m:Int)+1:=by rw[l0];lia
   refine xq1 rfl ⟨rfl,(xq1 rfl ?_)⟩;rw[X9 (by intro z;injection z with z;lia)];obtain⟨q,x,y,z,w,I⟩:=Bp N.ok hl;obtain⟨ts,h3,h4⟩:=N.at'.pt;obtain⟨t,et,Z⟩:=PairedM.get h4 I.g;have Z:H t=some (.tup (q.parts.map V.int)):=Z;have nt:=N.ne_am Z (by intro l z;cases z);refine Bd (xwb rfl rfl rfl (xq2 rfl rfl ⟨⟨by lia,by have:=(N.ok.lev e0).2;lia,by decide⟩,?_⟩));rw[show(λ(i j:Int)=>V.int (i*2^j.toNat)) 1 (q0.lev-1)=V.int (2^m)from A0g V.int (RP m al)];refine⟨S_0,λL hL=>?_⟩;have m1:L≠g.lv:=K3 (Aw N.at'.lv hL);have m2:L≠g.pt:=K3 (Aw h3 hL);have m3:L≠g.br:=K3 (Aw N.br hL);have s1:=AJ (o:=.lst []) hL;have ad:upd H L (.lst []) L=some (.lst []):=Af;generalize upd H L (.lst [])=H1 at s1 ad⊢;have ab:=N.same s1;have ai:=s1 _ _ h3;have aj:=s1 _ _ Z;generalize C:[BZ G m x,BZ G m y,BZ G m z,BZ G m w]=r;have D:r.length=4:=by rw[<-C];rfl
   have aa:BZ G (m+1) i=QL (2^m) r:=by rw[FX I,C]
   have ac:∀(j k:Nat),q.parts[j]?=some (k:Int)->r[j]?=some (BZ G m k):=by
    intro j k e;rw[I.ps]at e;rw[<-C]
    match j,e with
    |0,e=>have e:some (x:Int)=some (k:Int):=e;rw[show x=k from K2 (K4 e)];rfl
    |1,e=>have e:some (y:Int)=some (k:Int):=e;rw[show y=k from K2 (K4 e)];rfl
    |2,e=>have e:some (z:Int)=some (k:Int):=e;rw[show z=k from K2 (K4 e)];rfl
    |3,e=>have e:some (w:Int)=some (k:Int):=e;rw[show w=k from K2 (K4 e)];rfl
    |j+4,e=>simp at e
   refine xwf rfl rfl ab.at'.hp T.cl_Grove T.na_Grove_parts (BY g) (xwi rfl rfl rfl (SqL.of ai) (Ai (by rw[B6,et];rfl)) ⟨t,rfl,⟨_,SqT.of aj⟩,?_⟩);refine Nl (b:=true) (xs:=q.parts.map V.int) (λj σ S=>∃(us:H_)(u5 u6 u7:Option V),σ=[some (.ref g.p),some (.int i),some (.int q0.lev),some (.int (2^m)),some (.ref L),u5,u6,u7]/\FrQ g H S/\AW a S g G/\S L=some (.lst (us.map V.ref))/\Paired (Op S) us (Ee (2^m) 0 (r.take j))) ⟨[],none,none,none,rfl,Az.frq s1,ab,ad,.nil⟩ (λj σ S _ ⟨_,_,_,_,_,fr,_⟩=>SqT.of (fr _ _ Z nt.1 nt.2)) ?_ ?_
   .rintro j v σ S T' ev ⟨us,u5,u6,u7,rfl,fr,U,X,pr⟩ nT;obtain⟨k',rfl,hk,ek⟩:=I.mem ev;have eo:=ac j k' ek;have hj:j<4:=by rw[<-D];exact(B5.mp eo).1
    have lu:us.length<=4:=by
     rw[K9 pr];have:=Ni (2^m) (r.take j) 0;rw[J0]at this;lia
    have s2:=AJ (o:=.tup [.int j,.int k']) nT;refine Uw Af ?_;generalize upd S T' (.tup [.int j,.int k'])=H3 at s2⊢;have R:=U.same s2;have ge:Ee (2^m) 0 (r.take (j+1))=Ee (2^m) 0 (r.take j)++Ee (2^m) j [BZ G m k']:=by
     rw[F3,eo,R0,Qs,J0,D,M4,Nat.min_eq_left A0]
    have nL:∀{B:Hp},FrQ g H3 B->B L=some (.lst (us.map V.ref)):=λ{B} f4=>by
     have:=s2 _ _ X;have n:=R.ne_am this (by intro l z;cases z);exact f4 _ _ this n.1 n.2
    have nP:∀{B:Hp},FrQ g H3 B->Paired (Op B) us (Ee (2^m) 0 (r.take j)):=λ{B} f4=>PairedM.imp (λt b z=>by
     have:=s2 _ _ z;have n:=R.ne_am this (by intro l z;cases z);exact f4 _ _ this n.1 n.2) pr
    refine xq1 rfl ⟨g.p,g.dx,(xq1 rfl ⟨R.at'.hp,Uf g,(xq1 rfl ⟨g,G,k',m,rfl,R,hk,by lia,few,λen B f4 W=>?_,λu ag t4 B f4 W ak=>?_⟩)⟩)⟩
    .refine xq1 rfl ⟨rfl,(xq1 rfl (Bd ⟨us,_,_,_,rfl,(fr.trans (Az.frq s2)).trans f4,W,nL f4,?_⟩))⟩;rw[ge,en];show Paired _ us (_++[]);rw[P9];exact nP f4
    .refine xq1 rfl ⟨rfl,(xq1 rfl (BP ?_))⟩;refine xq1 rfl ⟨.inl ⟨rfl,_,SqL.of (nL f4)⟩,(xw3 rfl rfl rfl (xq2 rfl rfl ⟨(by show(0:Int)<2;decide),(xq2 rfl rfl ⟨.inr ⟨by lia,by lia⟩,(xw2 rfl rfl (xq2 rfl rfl ⟨⟨by decide,by decide⟩,(xq2 rfl rfl ⟨.inr ⟨by lia,by lia⟩,?_⟩)⟩))⟩)⟩))⟩;refine⟨t4,u,_,_,rfl,ak,λt5 h5=>?_⟩;have s5:=AJ (o:=.tup [.int (u.l+2^m*((j:Int)%2)),.int (u.t+2^m*((j:Int)/2)),.int u.w,.int u.h]) h5;have af:Op (upd B t5 (.tup [.int (u.l+2^m*((j:Int)%2)),.int (u.t+2^m*((j:Int)/2)),.int u.w,.int u.h])) t5 (shB (2^m) j u):=Af;generalize upd B t5 (.tup [.int (u.l+2^m*((j:Int)%2)),.int (u.t+2^m*((j:Int)/2)),.int u.w,.int u.h])=H5 at s5 af⊢;have Y:=s5 _ _ (nL f4);have ah:=W.same s5;refine⟨L,(xq2 rfl rfl ⟨Y,by rw[B4];exact FG A0,?_⟩)⟩;have M:∀{c:R_}{l:List V},H5 c=some (.tup l)->upd H5 L (.lst (us.map V.ref++[.ref t5])) c=some (.tup l):=λ{c l} e=>by rw[Ax (AE e Y A3)];exact e
     refine⟨us++[t5],_,_,_,rfl,?_,ah.put Y m1 m2 m3,by rw[Af,C3];rfl,?_⟩
     .intro c o e n1 n2;have e5:=s5 _ _ (((fr.trans (Az.frq s2)).trans f4) _ _ e n1 n2);rw[Ax (Aw e hL)];exact e5
     .rw[ge,ag];exact A2b (PairedM.imp (λc b z=>M (s5 _ _ z)) (nP f4)) (M af)
   .rintro σ S ⟨us,u5,u6,u7,rfl,fr,U,X,pr⟩;rw[B4,show q.parts.length=r.length by rw[I.ps,D];rfl,F6]at pr;have O:QL (2^m) r=some b:=by rw[<-aa];exact eb
    have lu:us.length<=4:=by
     rw[K9 pr];have:=Ni (2^m) r 0;lia
    have e3:Ee (2^m) 0 r≠[]/\Qp (Ee (2^m) 0 r)=b:=by
     unfold QL at O;split at O
     .cases O
     .rename_i b1 r1 eg;rw[eg];exact⟨A3,K4 O⟩
    refine xq1 rfl ⟨L,us,_,rfl,X,pr,e3.1,by lia,λt' H' s' ae=>?_⟩;rw[e3.2]at ae;exact k t' H' (fr.trans (Az.frq s')) (U.same s') ae
theorem bareL_at{l:Nat}(h:l<=48):((Dl 48).map V.int)[l]?=some (.int (bareN l:Int)):=by
 unfold Dl;rw[B6,B6,O6 A0];rfl
theorem ok_boxS{n d:Nat}(F:Fun K "boxed" "Grove.boxed" Fb f fd)(T:Top K mg a)(Y:Ca P w K mg base CX0 d a.c_Grove "measured" Lp (spMea a n)):AL P w K mg base CX0 (d+1) f fd Lp (TB a n):=by
 refine F.ok Em D_9 λZ A S s H vs Q E R h=>?_
 obtain⟨g,G,i,l,rfl,c,x,ln,few,k1,X⟩:=h;obtain⟨q0,V,l0⟩:=id x;have I:l<=48:=by have:=(c.ok.lev V).2;lia
 obtain⟨ks,D,y⟩:=c.bx;have lk:=y.keys.len;obtain⟨r,eg⟩:=c.g0;have U:=Lz c.ok eg l i I x;refine⟨_,(Ac (AO (AA CG (pv 1) (Aj Ay (AB (pv 0) rfl) (Aj Ay (AB (pv 0) rfl) (pv 1) R_9) R_9) (AG _)) (Ah (Av Db)) AC) (Ac (Aq (i:=2) Em.nd rfl O_9 (IE (EB R) (AB (pv 0) rfl) (pv 1) ⟨rfl,rfl,rfl,rfl⟩)) (Ac (AO (AA GB (pv 2) Db (AG _)) (Ac (Aq (i:=2) Em.nd rfl O_9 (AK (pv 0) Y (rm R) Ao (Aa (pv 1) Ab))) (Ah (FM (EB R) (AB (pv 0) rfl) (pv 1) (pv 2) rfl))) AC) (Ah (Av (pv 2)))))),?_⟩
 try dsimp only[cxK]
 refine xw2 rfl rfl (xq5 c.at'.hp T.cl_Grove T.na_Grove_bares (GF g) (xwf rfl rfl c.at'.hp T.cl_Grove T.na_Grove_levels (EC g) (xwi rfl rfl rfl (SqL.of c.at'.lv) (Ai (by rw[B6,V];rfl)) (xq4 rfl rfl (SqL.of c.br) (by rw[l0];exact Ai (bareL_at I)) ⟨rfl,(xq1 rfl ?_)⟩))));refine JI (λN=>?_) (λN=>?_)
 .have ei:i=bareN l:=by
   have:=A0d N;injection this with this
   exact K2 this
  exact k1 (U.mpr ei) H (FrQ.refl g H) c
 .have ne:¬i=bareN l:=λz=>N (by rw[z];exact X8 rfl);obtain⟨b,B⟩:∃b,BZ G l i=some b:=by
   cases e:BZ G l i with
   |none=>exact absurd (U.mp e) ne
   |some b=>exact⟨b,rfl⟩
  refine xwf rfl rfl c.at'.hp T.cl_Grove T.na_Grove_boxes (fl6_bx g) ⟨g.bx,rfl,.inl ⟨_,.inl D⟩,(xq1 rfl ⟨_,IM.k (k:=Sum.inl (i:Int)) D,?_⟩)⟩;cases e:Bj ks (Sum.inl (i:Int))with
  |some v =>
   obtain⟨l',b',t,O,C,rfl,ht⟩:=y.val i v e;have el:l'=l:=K2 (O.uniq x);subst el;rw[B]at C;cases C;exact xq1 rfl ⟨rfl,(xq1 rfl (Bd (xq1 rfl (X b B t H (FrQ.refl g H) c ht))))⟩
  |none =>
   refine xq1 rfl ⟨rfl,(xq1 rfl (BP (xq1 rfl ⟨g.p,g.dx,(xq1 rfl ⟨c.at'.hp,Ud g,(xq1 rfl ⟨g,G,i,l,b,rfl,c,x,ln,few,B,λt H2 f2 o u=>?_⟩)⟩)⟩)))⟩;obtain⟨ks2,q,m⟩:=o.bx;have aa:=m.keys.len;obtain⟨M,W⟩:=o.bx_put q (ks2:=Dy ks2 (Sum.inl (i:Int)) (.ref t)) ⟨m.keys.put x.lt _,λj v L=>by
    rw[Fl]at L;split at L
    .rename_i z;injection z with z
     have:j=i:=K2 z;subst this;cases L;exact⟨l,b,t,x,B,rfl,u⟩
    .exact m.val j v L⟩
   have nt:=o.ne_am u (by intro l z;cases z);exact xw2 rfl rfl (xq5 o.at'.hp T.cl_Grove T.na_Grove_boxes (fl6_bx g) (xq1 rfl ⟨g.bx,(xq1 rfl ⟨LX.k (k:=Sum.inl (i:Int)) q (FG A0),(xq1 rfl (X b B t _ (f2.trans W) M (W _ _ u nt.1 nt.2)))⟩)⟩))
theorem ok_box{f:R_}{j:E_}{k:R_}{b:E_}(F:Fun K "boxed" "Grove.boxed" Fb f j)(q:Fun K "measured" "Grove.measured" Dq k b)(T:Top K mg a)(r:QW K a.c_Grove "boxed" f)(p:CF K j Lp [])(e:QW K a.c_Grove "measured" k)(c:CF K b Lp [])
 (t:Cal P w K mg base CX0 1 "shifted_box" QN LC) (u:Cal P w K mg base CX0 1 "least_box" GT OQ):∀n,AL P w K mg base CX0 (2*n+2) f j Lp (TB a n)
|0=>by
 refine F.ok Em (λvs H Q E h=>?_) (λv A o s H vs Q E x h=>?_)
 .obtain⟨g,G,i,l,rfl,_,_,m,_⟩:=h;exact absurd m (L9 _)
 .obtain⟨g,G,i,l,rfl,_,_,m,_⟩:=h;exact absurd m (L9 _)
|n+1=>ok_boxS F T ⟨⟨k,b,ok_mea (d:=2*n+2) q T A0 t u ⟨⟨f,j,ok_box F q T r p e c t u n,r,p⟩,T.cl_Grove⟩,e,c⟩,T.cl_Grove⟩
inductive SpSpan(a:Ad)(vs:List V)(H:Hp)(Q:VK):Prop
|mk (g:GA) (G:Gv) (i l:Nat) (_:vs=[.ref g.p,.int i]) (_:AW a H g G) (_:Am G i l) (_:G.length<9000000) (_:(BZ G l i=none->∀H',FrQ g H H'->AW a H' g G->Q .non H')) (_:∀b,BZ G l i=some b->∀t H',FrQ g H H'->AW a H' g G->Op H' t b->Q (.ref t) H'):SpSpan a vs H Q
def UW(a:Ad):Sp:=λvs H Q _=>SpSpan a vs H Q
theorem ok_span(F:Fun K "span" "Grove.span" Jc f fd)(T:Top K mg a)(m:Ca P w K mg base CX0 2 a.c_Grove "check_square" Lp (Ws a))(n:Ca P w K mg base CX0 100 a.c_Grove "boxed" Lp (TB a 49)):AL P w K mg base CX0 101 f fd Lp (UW a):=by
 refine F.ok QJ D_9 λo A j s H vs Q E k h=>?_
 obtain⟨g,G,i,l,rfl,b,c,few,r,t⟩:=h;refine⟨_,(Ac (BW (AK (pv 0) m (rm k) Ao (Aa (pv 1) Ab))) (Ah (Av (AK (pv 0) n (rm k) Ao (Aa (pv 1) Ab))))),?_⟩
 try dsimp only[cxK]
 have d:l<49:=by
  obtain⟨q,e,u⟩:=id c;have:=(b.ok.lev e).2;lia
 refine xq1 rfl ⟨g.p,g.dx,(xq1 rfl ⟨b.at'.hp,Ue g,(xq1 rfl ⟨g,G,i,rfl,b.at',c.lt,?_⟩)⟩)⟩;exact xq1 rfl ⟨g.p,g.dx,(xq1 rfl ⟨b.at'.hp,Uf g,(xq1 rfl ⟨g,G,i,l,rfl,b,c,d,few,r,t⟩)⟩)⟩
end
def atN(ns:I_)(k:Int):Int:=ns.getD k.toNat 0
theorem kit_ii(K:O_):kitOne K (.type "int") (.type "int")=some true/\kitOne K (.type "int") (.type "bool")=some false:=⟨by kernel_rfl,by kernel_rfl⟩
section
variable{P:N_}{w:Q_}{K:O_}{mg:C_}{base:T_}{a:Ad}
inductive SpAt(K:O_)(vs:List V)(H:Hp)(Q:VK):Prop
|mk (l:R_) (ns:I_) (k:Int) (_:vs=[.ref l,.int k]) (_:SqL K H l (ns.map V.int)) (_:0<=k) (_:Q (.int (atN ns k)) H):SpAt K vs H Q
def spAt(K:O_):Sp:=λvs H Q _=>SpAt K vs H Q
theorem ok_at(F:Fun K "_law_at" "_law_at" NQ f fd)(T:Top K mg a):AL P w K mg base CX0 1 f fd YV (spAt K):=by
 refine F.ok Vd D_9 λi A d s H vs Q E m h=>?_
 obtain⟨l,ns,k,rfl,g,j,q⟩:=h;refine⟨_,(Ac (AO (AA JF (pv 1) (AX Cr rfl T.b_len A1a (Aa (pv 0) Ab)) (AG _)) (Ah (Av (Aj Ay (pv 0) (pv 1) R_9))) AC) (Ah (Av Ae))),?_⟩
 try dsimp only[cxK]
 refine⟨_,rfl,_,rfl,l,_,rfl,.inl g,_,_,rfl,rfl,_,rfl,?_⟩;obtain⟨n,rfl⟩:=J3 j;refine JI (λc=>?_) (λc=>?_)
 .have b:n<ns.length:=by
   have:=A0d c;rw[B4]at this;lia
  refine⟨_,rfl,_,rfl,l,_,n,.int ns[n],rfl,rfl,g,Ai (by rw[B6,C0 b];rfl),?_⟩;have e:atN ns (n:Int)=ns[n]:=by
   unfold atN;rw[J7,C6,C0 b];rfl
  rw[e]at q;exact q
 .have b:ns.length<=n:=by
   have:¬(n:Int)<((ns.map V.int).length:Int):=λz=>c (X8 z);rw[B4]at this;lia
  have e:atN ns (n:Int)=0:=by
   unfold atN;rw[J7,C6,O1 b];rfl
  rw[e]at q;exact q
end
inductive SpLaw(K:O_)(vs:List V)(H:Hp)(Q:VK):Prop
|mk (a:R_) (ns:I_) (_:vs=[.ref a]) (_:SqL K H a (ns.map V.int)) (_:ns.length<=63) (_:∀H',Q (.bl true) H'):SpLaw K vs H Q
def Wr(K:O_):Sp:=λvs H Q _=>SpLaw K vs H Q
end J
namespace J
open PySem L2
def Ap(g:GA)(x:R_):Prop:=x≠g.lv/\x≠g.pt/\x≠g.nm
theorem Ap.new{a:Ad}{H:Hp}{g:GA}{G:Gv}(h:AM a H g G){x:R_}(n:H x=none):Ap g x:=by
 obtain⟨c,b,_⟩:=h.pt;exact⟨K3 (Aw h.lv n),K3 (Aw b n),K3 (Aw h.nm n)⟩
theorem Fr.get{g:GA}{H a:Hp}{x:R_}{o:HO}(f:Fr g H a)(p:Ap g x)(e:H x=some o):a x=some o:=f _ _ e p.1 p.2.1 p.2.2
theorem Fr.tup{a:Ad}{g:GA}{G:Gv}{H b:Hp}{x:R_}{l:List V}(f:Fr g H b)(h:AM a H g G)(e:H x=some (.tup l)):b x=some (.tup l):=by
 obtain⟨us,c,_⟩:=h.pt;exact f _ _ e (AE e h.lv A3) (AE e c A3) (AE e h.nm A3)
theorem AH.mono{G a:Gv}{n m:Nat}(h:AH G a n)(e:n<=m):AH G a m:=⟨h.ok,h.pre,D7 h.few A0⟩
theorem OW(l:Nat):(0:Int)<2^l:=Int.pow_pos A4
theorem pow2_lt{l:Nat}(h:l<64):(2:Int)^l<2^64:=by
 have:(2:Nat)^l<2^64:=W9 A4 h
 exact_mod_cast this
seal L2.PA L2.PE L2.PS L2.PSs L2.PT L2.PW
theorem NG{d:Int}(a:0<=d)(b:d<=9):d.natAbs.log2<1920:=by
 obtain⟨m,rfl⟩:=J3 a;exact(show ∀m:Nat,m<10->(m:Int).natAbs.log2<1920 by decide +kernel) m (by omega)
theorem FQ{n:Nat}(h:n<=100000):n<=sizeLine:=D7 h A4
abbrev Tu:Str:=Str.ofString "01234567*"
theorem Wm:∀m:Nat,m<9->Tu.cps.toList[m]?=some (if m=8 then 42 else 48+m):=by decide +kernel
def Md(n:Int)(k:Nat):Bool:=decide (V.int (Builtin.bitAnd (n/2^k) 1)=V.int 1)
def Lj(n:Int):List Int:=((List.range 9).filter (Md n)).map λ(k:Nat)=>(k:Int)
theorem nums_ne:∀m:Nat,m<511->Lj ((m:Int)+1)≠[]:=by decide +kernel
theorem nums_asc(n:Int):(Lj n).Pairwise (· < ·):=by
 unfold Lj;rw[V3];have:((List.range 9).filter (Md n)).Pairwise (· < ·):=List.pairwise_lt_range.sublist List.filter_sublist;exact this.imp λh=>by omega
theorem nums_in(n:Int):∀m∈Lj n,0<=m/\m<=8:=λm b=>by
 obtain⟨k,a,rfl⟩:=C8.mp b;have:=L7.mp (T4.mp a).1;omega
abbrev amT:Str:=Str.ofString "amount"
abbrev plT:Str:=Str.ofString "places"
def unO:Option Int->Int
|none=>8
|some d=>d
inductive CN(H:Hp):Addr->Bc->Prop where
|am {q l:R_} {s:Int} {ns:I_} (h:H q=some (.tup [.str amT,.int s,.ref l])) (hl:H l=some (.lst (ns.map V.int))):CN H q (.am s ns)
|pl {q l:R_} {ws:List (Option Int)} (h:H q=some (.tup [.str plT,.ref l])) (hl:H l=some (.lst (ws.map λw=>V.int (unO w)))):CN H q (.pl ws)
structure RN(H:Hp)(q:R_)(c:AT):Prop where
ex:∃(l:R_)(ds:H_),H q=some (.tup [.int (unO c.cell),.ref l,.int c.makes])/\H l=some (.lst (ds.map V.ref))/\Paired (CN H) ds c.conds
structure OA(H:Hp)(q:R_)(r:AD):Prop where
ex:∃cs:List Addr,H q=some (.lst (cs.map V.ref))/\Paired (RN H) cs r
theorem CN.same{H b:Hp}{q:R_}{d:Bc}(s:Az H b)(h:CN H q d):CN b q d:=by
 cases h with
 |am h a=>exact .am (s _ _ h) (s _ _ a)
 |pl h a=>exact .pl (s _ _ h) (s _ _ a)
theorem RN.same{H a:Hp}{q:R_}{c:AT}(s:Az H a)(h:RN H q c):RN a q c:=by
 obtain⟨l,ds,b,d,e⟩:=h.ex;exact⟨l,ds,s _ _ b,s _ _ d,Paired.imp (λ_ _ z=>z.same s) e⟩
theorem OA.same{H a:Hp}{q:R_}{r:AD}(s:Az H a)(h:OA H q r):OA a q r:=by
 obtain⟨cs,b,c⟩:=h.ex;exact⟨cs,s _ _ b,Paired.imp (λ_ _ z=>z.same s) c⟩
theorem unO_le{x:Option Int}(h:wOk x):0<=unO x/\unO x<=8:=by
 cases x with
 |none=>exact⟨by decide,by decide⟩
 |some d=>exact⟨h.1,Int.le_of_lt h.2⟩
theorem ZI{x:Option Int}(h:wOk x):atI Tu.cps.toList (unO x)=some (wC x):=by
 cases x with
 |none=>exact Ai (Wm 8 A4)
 |some d =>
  obtain⟨n,b⟩:=J3 h.1;have c:=h.2;have a:n≠8:=by lia
  show atI Tu.cps.toList d=some (48+d.toNat);rw[b,J7];have:=Wm n A0;rw[X7 a]at this;exact Ai this
theorem To{x:Option Int}(h:wOk x)(y:Int):Ct x y=(decide (unO x=8) || decide (unO x=y)):=by
 cases x with
 |none=>rfl
 |some d =>
  have:=h.2;show decide (d=y)=(decide (d=8) || decide (d=y))
  rw[X9 (by lia:¬d=8),Bool.false_or]
theorem join_w(a:List (Option Int)):Str.join (Str.ofString "") (a.map λw=>(⟨#[wC w]⟩:Str))=AR (.pl a):=by
 have b:Str.ofString "" = (⟨#[]⟩:Str):=by decide +kernel
 rw[b];refine Nu.ext ?_;rw[Tx.ED,Tx.SN,M5];show(a.map _).flatten=a.map wC;induction a with
 |nil=>rfl
 |cons x r c=>rw[F4,Q4,c,F4];rfl
theorem join_d{ns:I_}(h:∀m∈ns,0<=m/\m<=8):Str.join (Str.ofString "") (ns.map λn=>Str.ofString (toString n))=DH ns:=by
 have a:Str.ofString "" = (⟨#[]⟩:Str):=by decide +kernel
 rw[a];refine Nu.ext ?_;rw[Tx.ED,Tx.SN,M5];show(ns.map _).flatten=ns.map λn=>48+n.toNat;induction ns with
 |nil=>rfl
 |cons n r d =>
  have b:=h n C4;rw[F4,Q4,d λm c=>h m (C5 _ c)];show(Str.ofString (toString n)).cps.toList++_=_;rw[Tx.Nq b.1 A0];rfl
theorem SW{d:Int}(a:0<=d)(b:d<=9):(Str.ofString (toString d)).length=1:=by rw[Tx.Nq a b];rfl
section
variable{P:N_}{w:Q_}{K:O_}{mg:C_}{base:T_}{a:Ad}
inductive SpMix(vs:List V)(H:Hp)(Q:VK):Prop
|mk (c k:Int) (_:vs=[.int c,.int k]) (_:0<=k) (_:k<=1000000) (_:∀i:Int,0<=i->Q (.int i) H):SpMix vs H Q
def Wp:Sp:=λvs H Q _=>SpMix vs H Q
theorem ok_mix(F:Fun K "_law_mix" "_law_mix" Mq f fd):AL P w K mg base CX0 1 f fd Jo Wp:=by
 refine F.ok Ot D_9 λd A b s H vs Q E j h=>?_
 obtain⟨c,k,rfl,e,g,q⟩:=h;refine⟨_,(Ac (Aq (i:=2) Ot.nd rfl O_9 (AF Bq (AF EW (AF AQ (AF AQ (AF Bq (pv 0) Ae) (AF EW Ae (pv 1))) Ae) (AF AQ Ae (AF EW Ae (pv 1)))) Ae)) (Ah (Av (AF Ey (AF Bq (AF EW (AF AQ (AF Ey (pv 2) Ae) (pv 1)) Ae) Ae) Ae)))),?_⟩
 try dsimp only[cxK]
 refine xwb rfl rfl rfl ⟨(by show(0:Int)<998244353;decide),(xwb rfl rfl rfl ⟨.inl ⟨by decide,by decide⟩,(xq2 rfl rfl (xq2 rfl rfl (xwb rfl rfl rfl ⟨.inl ⟨by decide,by decide⟩,(xq2 rfl rfl (xq2 rfl rfl ⟨.inr ⟨by lia,by lia⟩,(xq2 rfl rfl ⟨(by show(0:Int)<2147483647;decide),?_⟩)⟩))⟩)))⟩)⟩;refine xwb rfl rfl rfl ⟨⟨by decide,by decide⟩,(xwb rfl rfl rfl (xq2 rfl rfl ⟨.inr ⟨by decide,by decide⟩,(xq2 rfl rfl ⟨(by show(0:Int)<2147483629;decide),(xq2 rfl rfl ⟨⟨by decide,by decide⟩,?_⟩)⟩)⟩))⟩;exact q _ A0
inductive SpSt(vs:List V)(H:Hp)(Q:VK):Prop
|mk (m:R_) (x y v:Int) (_:vs=[.ref m,.int v]) (_:H m=some (.tup [.int x,.int y])) (_:JG x) (_:JG y) (_:∀d:Int,JG d->Q (.int d) H):SpSt vs H Q
def spSt:Sp:=λvs H Q _=>SpSt vs H Q
theorem ok_st(F:Fun K "_law_state_by" "_law_state_by" FA f fd):AL P w K mg base CX0 1 f fd OI spSt:=by
 refine F.ok NJ D_9 λd A b s H vs Q E n h=>?_
 obtain⟨m,x,y,v,rfl,c,k,l,q⟩:=h;refine⟨_,(Ac (AO (AA JF (AF Bq (pv 1) Ae) Ae (AG _)) (Ah (Av (Aj Al (pv 0) (AF Bq (pv 1) Ae) R_9))) AC) (Ah (Av (AF Bq (AF Ey (pv 1) Ae) Ae)))),?_⟩
 try dsimp only[cxK]
 refine xwb rfl rfl rfl ⟨B1,(xq2 rfl rfl (xq1 rfl ?_))⟩;refine JI (λg=>?_) (λ_=>?_)
 .have i:v%3<2:=A0d g;rcases(show v%3=0\/v%3=1 by lia)with e|e
  .exact xw2 rfl rfl (xq2 rfl rfl ⟨B1,(xq4 rfl rfl (SqT.of c) (by rw[e];exact Ai (j:=0) rfl) (q x k))⟩)
  .exact xw2 rfl rfl (xq2 rfl rfl ⟨B1,(xq4 rfl rfl (SqT.of c) (by rw[e];exact Ai (j:=1) rfl) (q y l))⟩)
 .exact xwb rfl rfl rfl ⟨⟨by decide,by decide⟩,(xq2 rfl rfl ⟨(by show(0:Int)<8;decide),q _ ⟨by lia,by lia⟩⟩)⟩
def Zs(H:Hp)(m:R_):Prop:=∃x y:Int,H m=some (.tup [.int x,.int y])/\JG x/\JG y
theorem Zs.same{H b:Hp}{m:R_}(s:Az H b)(h:Zs H m):Zs b m:=by
 obtain⟨x,y,c,d⟩:=h;exact⟨x,y,s _ _ c,d⟩
inductive SpCo(vs:List V)(H:Hp)(Q:VK):Prop
|mk (m:R_) (sd j:Int) (_:vs=[.ref m,.int sd,.int j]) (_:Zs H m) (_:0<=j) (_:j<=900000) (_:∀(q:R_)(d:Bc)(H':Hp),Az H H'->CN H' q d->d.ok->Q (.ref q) H'):SpCo vs H Q
def spCo:Sp:=λvs H Q _=>SpCo vs H Q
theorem ok_co(F:Fun K "_law_condition_by" "_law_condition_by" Cy f fd)(T:Top K mg a)(M:Cal P w K mg base CX0 1 "_law_mix" Jo Wp)(aH:Cal P w K mg base CX0 1 "_law_state_by" OI spSt) :
 AL P w K mg base CX0 2 f fd DA spCo:=by
 refine F.ok BN D_9 λae A aa s H vs Q E B h=>?_
 obtain⟨m,u,j,rfl,⟨mx,my,hm,C,R⟩,h0,h1,k⟩:=h;refine⟨_,(Ac (AO (AA CG (AF Bq (As M (rm B) rfl Ao (Aa (pv 1) (Aa (pv 2) Ab))) Ae) Ae (AG _)) (Ac (Aq (i:=3) BN.nd rfl O_9 (Ce Ab)) (Ac (CK K7 rfl (CU rfl T.b_range (AV Ab)) (BD (i:=4) BN.nd rfl O_9) (Ac (Aq (i:=5) BN.nd rfl O_9 (As M (rm B) rfl Ao (Aa (pv 1) (Bn AQ (AF AQ (pv 2) Ae) (pv 4) Ab)))) (Ah (AO (AA CG (AF Bq (AF Ey (pv 5) Ae) Ae) Ae (AG _)) (Ah (BW (CQ K8 A0a A0b Cc (pv 3) (Aa (As aH (rm B) rfl Ao (Aa (pv 0) (Aa (pv 5) Ab))) Ab)))) (Ah (BW (CQ K8 A0a A0b Cc (pv 3) (AV Ab)))))))) (Ah (Av (Dz (PU (Aa (pv 3) Ab))))))) AC) (Ac (Aq (i:=6) BN.nd rfl (Or.inr rfl) (AF AQ (AF Bq (As M (rm B) rfl Ao (Aa (pv 1) (Bn AQ (pv 2) Ae Ab))) Ae) Ae)) (Ah (Av (Dz (PU (Aa (As aH (rm B) rfl Ao (Aa (pv 0) (Aa (As M (rm B) rfl Ao (Aa (pv 1) (Bn AQ (pv 2) Ae Ab))) Ab))) (Aa (BL rfl (Bo.of (So:=Ak Cy) (No:=FF) (N:=["_law_k","_law_mask"]) (k:=1) (cs:=[6]) rfl rfl A1) (CU rfl T.b_range (AV Ab)) (λ_ _ _=>(AZ (i:=0) A1 rfl rfl)) (λ_ _ _=>(pts_one (AA CG (AF op_and (AF op_shr (pv 1) (pv 0)) Ae) Ae (AG _)))) (λ_ _ _=>(pv 0))) Ab)))))))),?_⟩
 try dsimp only[cxK]
 refine xw2 rfl rfl ⟨u,j,rfl,h0,by lia,λv hv=>(xq2 rfl rfl ⟨B1,rfl,(xq1 rfl ?_)⟩)⟩;refine JI (λ_=>?_) (λ_=>?_)
 .refine⟨S_0,λl O=>?_⟩;refine⟨8,rfl,by decide,by decide,Dv (n:=8) (λi σ g=>∃(c:List (Option Int))(u5 D G:Option V),σ=[some (.ref m),some (.int u),some (.int j),some (.ref l),u5,D,G]/\g=upd H l (.lst (c.map λw=>V.int (unO w)))/\c.length=i/\∀x∈c,wOk x) ⟨[],none,none,none,rfl,rfl,rfl,λx C=>by simp at C⟩ ?_ ?_⟩
  .rintro i σ g W ⟨c,u5,D,G,rfl,rfl,t,Z⟩;have lt:(c.map λw=>V.int (unO w)).length<sizeLine:=by rw[B4,t];exact F5 W A4
   have X:upd H l (.lst (c.map λw=>V.int (unO w))) m=some (.tup [.int mx,.int my]):=Ar O _ _ hm;refine xq1 rfl (xq1 rfl (xq2 rfl rfl (xq1 rfl (xq2 rfl rfl ⟨u,_,rfl,by lia,by lia,λb Y=>?_⟩))));have app:∀x:Option Int,wOk x->∀D G,∃(z:List (Option Int))(ab ac ad:Option V),([some (.ref m),some (.int u),some (.int j),some (.ref l),some (.int (0+(i:Int))),D,G]:St)=[some (.ref m),some (.int u),some (.int j),some (.ref l),ab,ac,ad] /\
     upd (upd H l (.lst (c.map λw=>V.int (unO w)))) l (.lst ((c.map λw=>V.int (unO w))++[V.int (unO x)]))=upd H l (.lst (z.map λw=>V.int (unO w)))/\z.length=i+1/\∀x∈z,wOk x:=λx C D G =>
    ⟨c++[x],_,_,_,rfl,by rw[GM,C3];rfl,by rw[C1,t];rfl,λy R=>by
     rcases D4.mp R with q|q
     .exact Z y q
     .rw[C7.mp q];exact C⟩
   refine xwb rfl rfl rfl ⟨⟨by decide,by decide⟩,(xq2 rfl rfl ⟨B1,rfl,(xq1 rfl ?_)⟩)⟩;refine JI (λ_=>?_) (λ_=>?_)
   .exact xq1 rfl ⟨.inl ⟨rfl,_,SqL.of Af⟩,(xw2 rfl rfl ⟨m,mx,my,b,rfl,X,C,R,λd U=>⟨l,(xq2 rfl rfl ⟨Af,lt,app (some d) U _ _⟩)⟩⟩)⟩
   .exact xq1 rfl ⟨.inl ⟨rfl,_,SqL.of Af⟩,l,(xq2 rfl rfl ⟨Af,lt,app none trivial _ _⟩)⟩
  .rintro σ g ⟨c,u5,D,G,rfl,rfl,t,Z⟩;refine xq1 rfl ⟨S_2,λq L=>?_⟩;have s2:=(Ar (o:=.lst (c.map λw=>V.int (unO w))) O).trans (Ar (o:=.tup [.str plT,.ref l]) L);exact k q (.pl c) _ s2 (.pl Af (Ar L _ _ Af)) ⟨t,Z⟩
 .refine xq1 rfl (xq1 rfl (xq2 rfl rfl ⟨u,_,rfl,by lia,by lia,λb Y=>(xq2 rfl rfl ⟨(by show(0:Int)<511;decide),_,_,rfl,rfl,?_⟩)⟩));have r:∃n:Nat,n<511/\b%511+1=(n:Int)+1:=by
   obtain⟨n,t⟩:=J3 (show 0<=b%511 by lia);exact⟨n,by lia,by lia⟩
  refine xq1 rfl (xq1 rfl (xq1 rfl (xq2 rfl rfl ⟨u,_,rfl,by lia,by lia,λv3 af=>⟨m,mx,my,v3,rfl,hm,C,R,λd U=>?_⟩⟩)));refine⟨9,rfl,by decide,by decide,?_⟩;refine RE (n:=9) (λi p g=>H=g/\p=(((List.range i).filter (Md (b%511+1))).map λ(k:Nat)=>V.int (k:Int))) ⟨rfl,rfl⟩ ?_ ?_
  .rintro i p g W ⟨rfl,rfl⟩;have lt:(((List.range i).filter (Md (b%511+1))).map λ(k:Nat)=>V.int (k:Int)).length<sizeLine:=by
    rw[B4];have:=List.length_filter_le (Md (b%511+1)) (List.range i);rw[M9]at this;exact F2 (D7 this (U2 W)) A4
   refine⟨⟨[some (.int (0+(i:Int)))],rfl,rfl⟩,lt,?_⟩;refine xw2 rfl rfl (xq2 rfl rfl ⟨(by show(0:Int)<=0+(i:Int);lia),(xq2 rfl rfl ⟨rfl,(xq1 rfl ?_)⟩)⟩);have ei:(0+(i:Int)).toNat=i:=by lia
   have e:(List.range (i+1)).filter (Md (b%511+1))=(List.range i).filter (Md (b%511+1))++if Md (b%511+1) i=true then [i]else []:=by
    rw[S2,List.filter_append,List.filter_cons,List.filter_nil]
   rw[ei];show if Md (b%511+1) i=true then _ else _;refine JI (λS=>?_) (λS=>?_)
   .refine xq1 rfl ⟨rfl,?_⟩;rw[e,K0 S,C3];show _++[V.int (0+(i:Int))]=_++[V.int (i:Int)]
    rw[U4]
   .refine⟨rfl,?_⟩;rw[e,X7 S,P9]
  .rintro p g ⟨rfl,rfl⟩ l O;have I:(((List.range 9).filter (Md (b%511+1))).map λ(k:Nat)=>V.int (k:Int))=(Lj (b%511+1)).map V.int:=by
    unfold Lj;rw[M5];rfl
   rw[I];refine⟨S_3,λq L=>?_⟩;have s2:=(Ar (o:=.lst ((Lj (b%511+1)).map V.int)) O).trans (Ar (o:=.tup [.str amT,.int d,.ref l]) L);refine k q (.am d (Lj (b%511+1))) _ s2 (.am Af (Ar L _ _ Af)) ⟨U,?_,nums_in _,nums_asc _⟩;obtain⟨n,t,e⟩:=r;rw[e];exact nums_ne n t
end
theorem pl_am:decide (V.str amT=V.str (Str.ofString "places"))=false:=by decide +kernel
theorem pl_pl:decide (V.str plT=V.str (Str.ofString "places"))=true:=by decide +kernel
section
variable{P:N_}{w:Q_}{K:O_}{mg:C_}{base:T_}{a:Ad}
inductive SpWd(vs:List V)(H:Hp)(Q:VK):Prop
|mk (q:R_) (d:Bc) (_:vs=[.ref q]) (_:CN H q d) (_:d.ok) (_:∀H',Az H H'->Q (.str (AR d)) H'):SpWd vs H Q
def spWd:Sp:=λvs H Q _=>SpWd vs H Q
theorem ok_wd(F:Fun K "_law_word" "_law_word" Fp f fd)(T:Top K mg a):AL P w K mg base CX0 1 f fd Lk spWd:=by
 refine F.ok Sd D_9 λX A R s H vs Q E hr h=>?_
 obtain⟨q,d,rfl,hd,D,k⟩:=h;have W:(Str.ofString "").length=0:=by decide +kernel
 refine⟨_,(Ac (AO (AA CG (Aj Al (pv 0) Ae R_9) Es (AG _)) (Ah (Av (CQ A0e A1d A1e Jt Es (Aa (BL rfl (Bo.of (So:=Ak Fp) (No:=Lk) (N:=["_law_state"]) (k:=1) (cs:=[]) rfl rfl A1) (BS (Aj Al (pv 0) Ae R_9)) (λ_ _ _=>(AZ (i:=0) A1 rfl rfl)) (λ_ _ _=>BC) (λ_ _ _=>(Aj VI Es (pv 0) R_9))) Ab)))) AC) (Ah (Av (AF PX (AF PX (Bw Jz rfl T.b_str A2f (Aa (Aj Al (pv 0) Ae R_9) Ab)) Es) (CQ A0e A1d A1e Jt Es (Aa (BL rfl (Bo.of (So:=Ak Fp) (No:=Lk) (N:=["_law_k"]) (k:=1) (cs:=[]) rfl rfl A1) (BS (Aj Al (pv 0) Ae R_9)) (λ_ _ _=>(AZ (i:=0) A1 rfl rfl)) (λ_ _ _=>BC) (λ_ _ _=>(Bw Jz rfl T.b_str A2f (Aa (pv 0) Ab)))) Ab)))))),?_⟩
 try dsimp only[cxK]
 cases hd with
 |@pl l S h B =>
  refine xwi rfl rfl rfl (SqT.of h) (Ai (j:=0) rfl) ⟨rfl,(xq1 rfl ?_)⟩;rw[pl_pl];refine BP ⟨rfl,(xwi rfl rfl rfl (SqT.of h) (Ai (j:=1) rfl) ⟨l,rfl,⟨_,SqL.of B⟩,?_⟩)⟩;refine CC (xs:=S.map λw=>V.int (unO w)) (λi b m=>H=m/\b=((S.take i).map λx=>(⟨#[wC x]⟩:Str)).map V.str) ⟨rfl,rfl⟩ (λi b m _ z=>z.1▸SqL.of B) ?_ ?_
  .rintro i x b m C ⟨rfl,rfl⟩;rw[B6]at C;obtain⟨n,v,rfl⟩:=C9.mp C;have u:=D.2 n (D0 v);refine⟨⟨[some (.int (unO n))],rfl,rfl⟩,?_,FI (xq1 rfl ⟨Tu,_,wC n,rfl,rfl,A1,ZI u,rfl,?_⟩)⟩
   .rw[B4,B4,J0,D.1];exact F2 (N5 _ _) A4
   .rw[F3,v,C3,C3];rfl
  .rintro b m ⟨rfl,rfl⟩ p M;rw[B4,F6];have c:JoinOk (Str.ofString "") (S.map λx=>(⟨#[wC x]⟩:Str))=true:=by
    refine Tx.Jv 1 (λt O=>?_) ?_
    .obtain⟨n,u,rfl⟩:=C8.mp O;exact B8 1
    .rw[B4,W,D.1];decide
   refine⟨_,p,(xq1 rfl ⟨rfl,SqL.of Af,c,?_⟩)⟩;rw[join_w];exact k _ (Ar M)
 |@am l G ns h B =>
  obtain⟨g,_,u,y⟩:=D;have U:=Pg ns 0 A4 u y;have r:G<=9:=by have:=g.2;lia
  refine xwi rfl rfl rfl (SqT.of h) (Ai (j:=0) rfl) ⟨rfl,(xq1 rfl ?_)⟩;rw[pl_am];refine Bd (xwi rfl rfl rfl (SqT.of h) (Ai (j:=1) rfl) ⟨G,rfl,NG g.1 r,(xq2 rfl rfl ⟨FQ (by erw [SW g.1 r];decide),rfl,(xwi rfl rfl rfl (SqT.of h) (Ai (j:=2) rfl) ⟨l,rfl,⟨_,SqL.of B⟩,?_⟩)⟩)⟩);refine CC (xs:=ns.map V.int) (λi b m=>H=m/\b=((ns.take i).map λn=>Str.ofString (toString n)).map V.str) ⟨rfl,rfl⟩ (λi b m _ z=>z.1▸SqL.of B) ?_ ?_
  .rintro i x b m C ⟨rfl,rfl⟩;rw[B6]at C;obtain⟨n,v,rfl⟩:=C9.mp C;have I:=u n (D0 v);refine⟨⟨[some (.int n)],rfl,rfl⟩,?_,FI (xq1 rfl ⟨n,rfl,NG I.1 A0,rfl,?_⟩)⟩
   .rw[B4,B4,J0];exact F2 (N5 _ _) (F2 (show _<=9 by lia) A4)
   .rw[F3,v,C3,C3];rfl
  .rintro b m ⟨rfl,rfl⟩ p M;rw[B4,F6];have c:JoinOk (Str.ofString "") (ns.map λn=>Str.ofString (toString n))=true:=by
    refine Tx.Jv 1 (λt O=>?_) ?_
    .obtain⟨n,L,rfl⟩:=C8.mp O;have:=u n L;rw[SW this.1 A0];decide
    .rw[B4,W];lia
   refine⟨_,p,(xq1 rfl ⟨rfl,SqL.of Af,c,(xq2 rfl rfl ⟨FQ ?_,?_⟩)⟩)⟩
   .rw[join_d u];have Y:(DH ns).length=ns.length:=by rw[Nu.len];show(ns.map _).length=_;rw[B4]
    have Z:(Str.ofString "=").length=1:=by decide +kernel
    rw[Tx.app_len,Y,Z]
    erw [SW g.1 r]
    lia
   .have e:Str.ofString (toString G)++Str.ofString "=" ++ Str.join (Str.ofString "") (ns.map λn=>Str.ofString (toString n))=AR (.am G ns):=by
     rw[join_d u,Tx.Nq g.1 r,show Str.ofString "=" = (⟨#[61]⟩:Str) by decide +kernel];rfl
    have:=k _ (Ar (o:=.lst ((ns.map λn=>Str.ofString (toString n)).map V.str)) M);rw[<-e]at this;exact this
inductive SpTx(vs:List V)(H:Hp)(Q:VK):Prop
|mk (q:R_) (r:AD) (_:vs=[.ref q]) (_:OA H q r) (_:FT r) (_:∀H',Az H H'->Q (.str (De r)) H'):SpTx vs H Q
def spTx:Sp:=λvs H Q _=>SpTx vs H Q
theorem ok_tx(F:Fun K "_law_text" "_law_text" GQ f fd)(T:Top K mg a)(cO:Cal P w K mg base CX0 1 "_law_word" Lk spWd):AL P w K mg base CX0 2 f fd Lg spTx:=by
 refine F.ok FK D_9 λak A aj s H vs Q E hr h=>?_
 obtain⟨q,r,rfl,hR,ho,k⟩:=h;obtain⟨cs,hq,S⟩:=hR.ex;have ln:cs.length=r.length:=K9 S;have ad:=ho.few;refine⟨_,(Ac (Aq (i:=1) FK.nd rfl O_9 (Ce Ab)) (Ac (CK K7 rfl (BS (pv 0)) (BD (i:=2) FK.nd rfl O_9) (Ac (Aq (i:=3) FK.nd rfl O_9 (AF Vl (Ce (Aa (Aj VI Es (Aj Al (pv 2) Ae R_9) R_9) Ab)) (BL rfl (Bo.of (So:=Ak GQ) (No:=Ox) (N:=["_law_condition"]) (k:=1) (cs:=[]) rfl rfl A1) (BS (Aj Al (pv 2) Ae R_9)) (λ_ _ _=>(AZ (i:=0) A1 rfl rfl)) (λ_ _ _=>BC) (λ_ _ _=>(As cO (rm hr) rfl Ao (Aa (pv 0) Ab)))))) (Ah (BW (CQ K8 A0a A0b Cc (pv 1) (Aa (CQ A0e A1d A1e Jt Es (Bn Vl (pv 3) (Ce (Aa (Bw Jz rfl T.b_str A2f (Aa (Aj Al (pv 2) Ae R_9) Ab)) Ab)) Ab)) Ab)))))) (Ah (Av (CQ A0e A1d A1e Jt Es (Aa (pv 1) Ab)))))),?_⟩
 try dsimp only[cxK]
 refine⟨S_0,λpt I=>?_⟩;have ae:∀o,upd H pt o q=some (.lst (cs.map V.ref)):=λo=>Ar I _ _ hq;refine xq1 rfl ⟨q,rfl,⟨_,SqL.of (ae _)⟩,Nk (xs:=cs.map V.ref) (λi σ m=>∃u2 u3:Option V,σ=[some (.ref q),some (.ref pt),u2,u3]/\Az H m/\m pt=some (.lst ((r.take i).map λc=>V.str (Ba c)))) ⟨none,none,rfl,Ar I,Af⟩ (λi σ m _ ⟨_,_,_,R,_⟩=>SqL.of (R _ _ hq)) ?_ ?_⟩
 .rintro i x σ m X ⟨u2,u3,rfl,R,l⟩;rw[B6]at X;obtain⟨cq,ab,rfl⟩:=C9.mp X;obtain⟨c,ec,hc⟩:=Paired.get S ab;have mc:=D0 ec;have G:=ho.ok c mc;have aa:=G.few;obtain⟨cl,ds,h1,h2,h3⟩:=(hc.same R).ex;have Y:c.makes<=9:=by have:=G.makes.2;lia
  have un:=unO_le G.cell;refine xwi rfl rfl rfl (SqT.of h1) (Ai (j:=0) rfl) ⟨Tu,_,wC c.cell,rfl,rfl,A1,ZI G.cell,S_1,λw1 af=>?_⟩;have O:=Ar (o:=.lst [.str ⟨#[wC c.cell]⟩]) af;refine xwi rfl rfl rfl (SqT.of (O _ _ h1)) (Ai (j:=1) rfl) ⟨cl,rfl,⟨_,SqL.of (O _ _ h2)⟩,?_⟩;have u:upd m w1 (.lst [.str ⟨#[wC c.cell]⟩]) w1=some (.lst [.str ⟨#[wC c.cell]⟩]):=Af;generalize upd m w1 (.lst [.str ⟨#[wC c.cell]⟩])=H3 at O u⊢;refine CC (xs:=ds.map V.ref) (λj n M=>Az H3 M/\n=((c.conds.take j).map AR).map V.str) ⟨Az.refl H3,rfl⟩ (λj n M _ z=>SqL.of (z.1 _ _ (O _ _ h2))) ?_ ?_
  .rintro j x n M X ⟨s4,rfl⟩;rw[B6]at X;obtain⟨dq,ac,rfl⟩:=C9.mp X;obtain⟨d,ed,hd⟩:=Paired.get h3 ac;refine⟨⟨[some (.ref dq)],rfl,rfl⟩,?_,FI (xq1 rfl ⟨dq,d,rfl,(hd.same O).same s4,G.conds d (D0 ed),λH5 Z=>⟨s4.trans Z,?_⟩⟩)⟩
   .rw[B4,B4,J0];exact F2 (N5 _ _) (F2 aa A4)
   .rw[F3,ed,C3,C3];rfl
  .rintro n M ⟨s4,rfl⟩ w2 ag;have ld:ds.length=c.conds.length:=K9 h3;rw[B4,ld,F6];have Z:=s4.trans (Ar (o:=.lst ((c.conds.map AR).map V.str)) ag);have v:upd M w2 (.lst ((c.conds.map AR).map V.str)) w2=some (.lst ((c.conds.map AR).map V.str)):=Af;generalize upd M w2 (.lst ((c.conds.map AR).map V.str))=H5 at Z v⊢;refine⟨w1,w2,(xq2 rfl rfl ⟨Z _ _ u,v,FQ (by simp only[D6,P8,B4];lia),λw3 ah=>?_⟩)⟩;have s6:=Z.trans (Ar (o:=.lst ([.str ⟨#[wC c.cell]⟩]++(c.conds.map AR).map V.str)) ah);have y:upd H5 w3 (.lst ([.str ⟨#[wC c.cell]⟩]++(c.conds.map AR).map V.str)) w3=some (.lst ([.str ⟨#[wC c.cell]⟩]++(c.conds.map AR).map V.str)):=Af;generalize upd H5 w3 (.lst ([.str ⟨#[wC c.cell]⟩]++(c.conds.map AR).map V.str))=H6 at s6 y⊢;have L:Az m H6:=O.trans s6;refine xq1 rfl ⟨.inl ⟨rfl,_,SqL.of (L _ _ l)⟩,rfl,(xwj rfl rfl rfl rfl (SqT.of (L _ _ h1)) (Ai (j:=2) rfl) ⟨c.makes,rfl,NG G.makes.1 Y,S_1,λw4 W=>?_⟩)⟩;have s7:=L.trans (Ar (o:=.lst [.str (Str.ofString (toString c.makes))]) W);have C:upd H6 w4 (.lst [.str (Str.ofString (toString c.makes))]) w4=some (.lst [.str (Str.ofString (toString c.makes))]):=Af;have B:=Ar (o:=.lst [.str (Str.ofString (toString c.makes))]) W _ _ y;generalize upd H6 w4 (.lst [.str (Str.ofString (toString c.makes))])=H7 at s7 C B⊢;refine⟨w3,w4,(xq2 rfl rfl ⟨B,C,FQ (by simp only[C1,D6,P8,B4];lia),λw5 ai=>?_⟩)⟩;have eL:([.str ⟨#[wC c.cell]⟩]++(c.conds.map AR).map V.str)++[.str (Str.ofString (toString c.makes))]=(wS c.cell::(c.conds.map AR++[sgD c.makes])).map V.str:=by
    rw[Tx.Nq G.makes.1 Y,F4,C3];rfl
   rw[eL];have s8:=s7.trans (Ar (o:=.lst ((wS c.cell::(c.conds.map AR++[sgD c.makes])).map V.str)) ai);have D:upd H7 w5 (.lst ((wS c.cell::(c.conds.map AR++[sgD c.makes])).map V.str)) w5=some (.lst ((wS c.cell::(c.conds.map AR++[sgD c.makes])).map V.str)):=Af;generalize upd H7 w5 (.lst ((wS c.cell::(c.conds.map AR++[sgD c.makes])).map V.str))=H8 at s8 D⊢;have lb:(Str.ofString " ").length=1:=by decide +kernel
   have g:JoinOk (Str.ofString " ") (wS c.cell::(c.conds.map AR++[sgD c.makes]))=true:=by
    refine Tx.Jv 11 (λt p=>?_) ?_
    .rcases B7.mp p with rfl|p
     .show 1<=11;decide
     .rcases D4.mp p with p|p
      .obtain⟨d,hd,rfl⟩:=C8.mp p;exact Lw (G.conds d hd)
      .rw[C7.mp p];show 1<=11;decide
    .rw[lb,D6,C1,B4,D6,P8];lia
   refine⟨_,w5,(xq1 rfl ⟨rfl,SqL.of D,g,?_⟩)⟩;have eC:Str.join (Str.ofString " ") (wS c.cell::(c.conds.map AR++[sgD c.makes]))=Ba c:=by
    rw[show Str.ofString " " = (⟨#[32]⟩:Str) by decide +kernel];rfl
   rw[eC];refine⟨pt,(xq2 rfl rfl ⟨s8 _ _ l,?_,?_⟩)⟩
   .rw[B4,J0];exact F2 (N5 _ _) (F2 ad A4)
   .refine⟨_,_,rfl,λb o e=>?_,?_⟩
    .have ne:b≠pt:=Aw e I;rw[Ax ne];exact s8 _ _ (R _ _ e)
    .rw[Af,F3,ec,C3];rfl
 .rintro σ m ⟨u2,u3,rfl,R,l⟩;rw[B4,ln,F6]at l;have U:m pt=some (.lst ((r.map Ba).map V.str)):=by rw[l,M5];rfl
  have em:Str.ofString "; " = Oz:=by decide +kernel
  have g:JoinOk (Str.ofString "; ") (r.map Ba)=true:=by
   refine Tx.Jv 1000 (λt p=>?_) ?_
   .obtain⟨c,hc,rfl⟩:=C8.mp p;exact GG (ho.ok c hc)
   .rw[B4,em,show Oz.length=2 from rfl];lia
  refine⟨rfl,(xq1 rfl ⟨_,pt,(xq1 rfl ⟨rfl,SqL.of U,g,?_⟩)⟩)⟩;rw[em];exact k m R
inductive SpHo(vs:List V)(H:Hp)(Q:VK):Prop
|mk (q m:R_) (d:Bc) (ar:I_) (_:vs=[.ref q,.ref m]) (_:CN H q d) (_:d.ok) (_:H m=some (.lst (ar.map V.int))) (_:ar.length=8) (_:Q (.bl (d.holds ar)) H):SpHo vs H Q
def spHo:Sp:=λvs H Q _=>SpHo vs H Q
theorem ok_ho(F:Fun K "_law_holds" "_law_holds" Ja f fd)(T:Top K mg a):AL P w K mg base CX0 1 f fd Jp spHo:=by
 refine F.ok DD D_9 λN A B s H vs Q E hr h=>?_
 obtain⟨q,m,d,ar,rfl,S,U,u,Y,k⟩:=h;refine⟨_,(Ac (AO (AA CG (Aj Al (pv 0) Ae R_9) Es (AG _)) (Ac (CK K7 rfl (CU rfl T.b_range (AV Ab)) (BD (i:=2) DD.nd rfl O_9) (Ah (AO (PW.pt (Mt (AA GV (Aj Ay (Aj Al (pv 0) Ae R_9) (pv 2) R_9) Ae (AG _)) (Jg (AA GV (Aj Ay (Aj Al (pv 0) Ae R_9) (pv 2) R_9) (Aj Ay (pv 1) (pv 2) R_9) (AG _))))) (Ah (Av Ou)) AC))) (Ah (Av Ou))) AC) (Ac (Aq (i:=3) DD.nd rfl O_9 Ae) (Ac (CK K7 rfl (BS (pv 1)) (BD (i:=4) DD.nd rfl O_9) (Ah (AO (AA CG (pv 4) (Aj Al (pv 0) Ae R_9) (AG _)) (Ah (Aq (i:=3) DD.nd rfl O_9 (AF AQ (pv 3) Ae))) AC))) (Ah (Av (Fe NV (pv 3) (Aj Al (pv 0) Ae R_9) rfl)))))),?_⟩
 try dsimp only[cxK]
 cases S with
 |@pl l b h r =>
  obtain⟨w8,W⟩:=U;refine xwi rfl rfl rfl (SqT.of h) (Ai (j:=0) rfl) ⟨rfl,(xq1 rfl ?_)⟩;rw[pl_pl];refine BP ⟨8,rfl,by decide,by decide,Dv (n:=8) (λi σ c=>H=c/\(∃v,σ=[some (.ref q),some (.ref m),v,none,none])/\∀p∈(b.zip ar).take i,Ct p.1 p.2=true) ⟨rfl,⟨none,rfl⟩,λp o=>by simp at o⟩ ?_ ?_⟩
  .rintro i σ c Z ⟨rfl,⟨v,rfl⟩,no⟩;have y:i<b.length:=by lia
   have M:i<ar.length:=by lia
   have C:atI (b.map λw=>V.int (unO w)) (0+(i:Int))=some (V.int (unO b[i])):=by rw[U4];exact Ai (by rw[B6,C0 y];rfl)
   have O:atI (ar.map V.int) (0+(i:Int))=some (V.int ar[i]):=by rw[U4];exact Ai (by rw[B6,C0 M];rfl)
   have D:(b.zip ar)[i]?=some (b[i],ar[i]):=by rw[U9];exact⟨C0 y,C0 M⟩
   have tk:=To (W b[i] (Q8 y)) ar[i];refine xwi rfl rfl rfl (SqT.of h) (Ai (j:=1) rfl) (xwi rfl rfl rfl (SqL.of r) C ⟨rfl,(xq1 rfl ?_)⟩);rw[Jy];have nx:Ct b[i] ar[i]=true->(∃v,([some (.ref q),some (.ref m),some (.int (0+(i:Int))),none,none]:St)=[some (.ref q),some (.ref m),v,none,none])/\∀p∈(b.zip ar).take (i+1),Ct p.1 p.2=true:=λh=>⟨⟨_,rfl⟩,λp o=>by
    rw[F3,D]at o;rcases D4.mp o with z|z
    .exact no p z
    .have:p=(b[i],ar[i]):=by simpa using z
     rw[this];exact h⟩
   by_cases G:unO b[i]=8
   .rw[X8 G]at tk⊢;exact Bd (Bd ⟨rfl,nx (by rw[tk];rfl)⟩)
   .rw[X9 G]at tk⊢;refine BP (xwi rfl rfl rfl (SqT.of h) (Ai (j:=1) rfl) (xwi rfl rfl rfl (SqL.of r) C (xwj rfl rfl rfl rfl (SqL.of u) O ⟨rfl,(xq1 rfl ?_)⟩)));rw[Jy];by_cases I:unO b[i]=ar[i]
    .rw[X8 I]at tk⊢;exact Bd ⟨rfl,nx (by rw[tk];rfl)⟩
    .rw[X9 I]at tk⊢;refine BP ?_;have e:Bc.holds ar (.pl b)=false:=by
      show(b.zip ar).all _=false;rw[List.all_eq_false];exact⟨_,D0 D,by rw[tk];exact D5⟩
     rw[e]at k;exact k
  .rintro σ c ⟨rfl,⟨v,rfl⟩,no⟩;have e:Bc.holds ar (.pl b)=true:=by
    show(b.zip ar).all _=true;rw[P3];intro p o;have X:(b.zip ar).length=8:=by rw[W6];lia
    rw[<-X,F6]at no;exact no p o
   rw[e]at k;exact k
 |@am l g ns h r =>
  refine xwi rfl rfl rfl (SqT.of h) (Ai (j:=0) rfl) ⟨rfl,(xq1 rfl ?_)⟩;rw[pl_am];refine Bd ?_;refine xq1 rfl ⟨m,rfl,⟨_,SqL.of u⟩,Nk (xs:=ar.map V.int) (λi σ c=>H=c/\∃v,σ=[some (.ref q),some (.ref m),none,some (.int (((ar.take i).countP (· == g):Nat):Int)),v]) ⟨rfl,none,rfl⟩ (λi σ c _ z=>z.1▸SqL.of u) ?_ ?_⟩
  .rintro i x σ c L ⟨rfl,v,rfl⟩;rw[B6]at L;obtain⟨n,R,rfl⟩:=C9.mp L;have e:(((ar.take (i+1)).countP (· == g):Nat):Int)=(((ar.take i).countP (· == g):Nat):Int)+(if n=g then 1 else 0):=by
    rw[F3,R,List.countP_append];by_cases h:n=g<;>simp[h]
   refine xwj rfl rfl rfl rfl (SqT.of h) (Ai (j:=1) rfl) ⟨rfl,(xq1 rfl ?_)⟩;refine JI (λt=>?_) (λt=>?_)
   .have:n=g:=by
     have:=A0d t;injection this
    refine xwb rfl rfl rfl ⟨rfl,some (.int n),?_⟩;rw[e,K0 this];rfl
   .have:¬n=g:=λz=>t (X8 (by rw[z]));refine⟨rfl,some (.int n),?_⟩;rw[e,X7 this,Int.add_zero];rfl
  .rintro σ c ⟨rfl,v,rfl⟩;rw[B4,F6];refine xwj rfl rfl rfl rfl (SqT.of h) (Ai (j:=2) rfl) ⟨l,(xq1 rfl ⟨.inl (SqL.of r),rfl,Rt _,?_⟩)⟩;show Q (.bl (inV _ _)) H;rw[SQ];exact k
inductive SpDe(vs:List V)(H:Hp)(Q:VK):Prop
|mk (q m:R_) (r:AD) (cell:Int) (ar:I_) (_:vs=[.ref q,.int cell,.ref m]) (_:OA H q r) (_:FT r) (_:H m=some (.lst (ar.map V.int))) (_:ar.length=8) (_:∀H',Az H H'->Q (decV (JJ r cell ar)) H'):SpDe vs H Q
def spDe:Sp:=λvs H Q _=>SpDe vs H Q
theorem ok_de(F:Fun K "_law_decides" "_law_decides" Gf f fd)(T:Top K mg a)(cJ:Cal P w K mg base CX0 1 "_law_holds" Jp spHo):AL P w K mg base CX0 2 f fd Gr spDe:=by
 refine F.ok CP D_9 λaa A O s H vs Q E hr h=>?_
 obtain⟨q,m,r,cell,ar,rfl,hR,ho,hm,a8,k⟩:=h;obtain⟨cs,N,u⟩:=hR.ex;have ln:cs.length=r.length:=K9 u;have ab:=ho.few;refine⟨_,(Ac (CK K7 rfl (CU rfl T.b_range (Aa (AX Cr rfl T.b_len A1a (Aa (pv 0) Ab)) Ab)) (BD (i:=3) CP.nd rfl O_9) (Ac (Aq (i:=4) CP.nd rfl O_9 (Fe NV (Aj Al (Aj Ay (pv 0) (pv 3) R_9) Ae R_9) (Ce (Aa (pv 1) (AV Ab))) rfl)) (Ac (CK K7 rfl (BS (Aj Al (Aj Ay (pv 0) (pv 3) R_9) Ae R_9)) (BD (i:=5) CP.nd rfl O_9) (Ah (Aq (i:=4) CP.nd rfl O_9 (JY (pv 4) (Mu (As cJ (rm hr) rfl Ao (Aa (pv 5) (Aa (pv 2) Ab)))))))) (Ah (AO (DT (pv 4)) (Ah (Av (pv 3))) AC))))) (Ah (Av Db))),?_⟩
 try dsimp only[cxK]
 refine xq1 rfl ⟨q,(xq1 rfl ⟨.inl (SqL.of N),(xq1 rfl ⟨by rw[B4];lia,by rw[B4];lia,?_⟩)⟩)⟩;rw[show(((cs.map V.ref).length:Nat):Int).toNat=cs.length by rw[B4,J7]];refine Dv (n:=cs.length) (λi σ l=>Az H l/\(∃R S D:Option V,σ=[some (.ref q),some (.int cell),some (.ref m),R,S,D])/\∀c∈r.take i,c.fits cell ar=false) ⟨Az.refl H,⟨none,none,none,rfl⟩,λc L=>by simp at L⟩ ?_ ?_
 .rintro i σ l M ⟨g,⟨R,S,D,rfl⟩,no⟩;have p:cs[i]?=some cs[i]:=C0 M;obtain⟨c,B,L⟩:=Paired.get u p;have oc:=ho.ok c (D0 B);obtain⟨cl,ds,Z,h2,h3⟩:=(L.same g).ex;have W:atI (cs.map V.ref) (0+(i:Int))=some (.ref cs[i]):=by rw[U4];exact Ai (by rw[B6,p];rfl)
  refine xwj rfl rfl rfl rfl (SqL.of (g _ _ N)) W (xq4 rfl rfl (SqT.of Z) (Ai (j:=0) rfl) (xq1 rfl ⟨S_2,λt ht=>⟨t,(xq1 rfl ⟨.inl (SqL.of Af),rfl,rfl,?_⟩)⟩⟩));have b:=Ar (o:=.lst [.int cell,.int 8]) ht;have eb:inV (.int (unO c.cell)) [.int cell,.int 8]=Ct c.cell cell:=by
   have:=SQ (unO c.cell) [cell,8];rw[show([cell,8]:I_).map V.int=[V.int cell,V.int 8]from rfl]at this;rw[this,To oc.cell];simp only[S7,List.any_nil,Bool.or_false];rw[show decide (cell=unO c.cell)=decide (unO c.cell=cell)from decide_eq_decide.mpr eq_comm,show decide (8=unO c.cell)=decide (unO c.cell=8)from decide_eq_decide.mpr eq_comm,Bool.or_comm]
  show(Yw _ _) _ _ _;rw[eb];generalize upd l t (.lst [.int cell,.int 8])=G at b⊢;refine xwj rfl rfl rfl rfl (SqL.of (b _ _ (g _ _ N))) W (xq4 rfl rfl (SqT.of (b _ _ Z)) (Ai (j:=1) rfl) ⟨cl,rfl,⟨_,SqL.of (b _ _ h2)⟩,?_⟩);refine Nk (xs:=ds.map V.ref) (λj σ y=>G=y/\∃v,σ=[some (.ref q),some (.int cell),some (.ref m),some (.int (0+(i:Int))),some (.bl (Ct c.cell cell && (c.conds.take j).all (Bc.holds ar))),v]) ⟨rfl,D,by rw[List.take_zero,List.all_nil,Bool.and_true];rfl⟩ (λj σ y _ z=>z.1▸SqL.of (b _ _ h2)) ?_ ?_
  .rintro j x σ y hx ⟨rfl,v,rfl⟩;rw[B6]at hx;obtain⟨U,I,rfl⟩:=C9.mp hx;obtain⟨d,X,C⟩:=Paired.get h3 I;refine xq1 rfl ?_;refine Ph (b2:=Bc.holds ar d) (λ_ Q' q'=>(xw2 rfl rfl ⟨U,m,d,ar,rfl,C.same b,oc.conds d (D0 X),b _ _ (g _ _ hm),a8,q'⟩)) ?_;refine⟨rfl,some (.ref U),?_⟩;rw[F3,X,List.all_append,Bool.and_assoc];show _=[_,_,_,_,some (V.bl (Ct c.cell cell && ((c.conds.take j).all (Bc.holds ar) && (Bc.holds ar d && true)))),_]
   rw[Bool.and_true];rfl
  .rintro σ y ⟨rfl,v,rfl⟩;have ld:ds.length=c.conds.length:=K9 h3;rw[B4,ld,F6];refine xw2 rfl rfl ?_;show if c.fits cell ar=true then _ else _;cases Y:c.fits cell ar with
   |true =>
    refine BP (xq1 rfl ?_);have e:JJ r cell ar=some i:=by
     unfold JJ;rw[S3];have M:i<r.length:=(B5.mp B).1;refine⟨M,?_,λj hj=>?_⟩
     .rw[(B5.mp B).2];exact Y
     .have:=no r[j] (List.mem_take_iff_getElem.mpr ⟨j,by lia,rfl⟩);rw[this];exact D5
    have:=k G (g.trans b);rw[e]at this;show Q (.int (0+(i:Int))) G;rw[U4];exact this
   |false =>
    refine Bd ⟨g.trans b,⟨_,_,_,rfl⟩,λd C=>?_⟩;rw[F3,B]at C;rcases D4.mp C with z|z
    .exact no d z
    .have:d=c:=by simpa using z
     rw[this];exact Y
 .rintro σ l ⟨g,⟨R,S,D,rfl⟩,no⟩;rw[ln,F6]at no;have e:JJ r cell ar=none:=by
   unfold JJ;rw[V0];exact no
  have:=k l g;rw[e]at this;exact this
inductive SpBe(vs:List V)(H:Hp)(Q:VK):Prop
|mk (q m:R_) (r:AD) (cell:Int) (ar:I_) (_:vs=[.ref q,.int cell,.ref m]) (_:OA H q r) (_:FT r) (_:H m=some (.lst (ar.map V.int))) (_:ar.length=8) (_:∀H',Az H H'->Q (.int (Cs r cell ar)) H'):SpBe vs H Q
def spBe:Sp:=λvs H Q _=>SpBe vs H Q
theorem ok_be(F:Fun K "_law_becomes" "_law_becomes" Gh f fd)(T:Top K mg a)(v:Cal P w K mg base CX0 2 "_law_decides" Gr spDe):AL P w K mg base CX0 3 f fd Gr spBe:=by
 refine F.ok JC D_9 λx A l s H vs Q E I h=>?_
 obtain⟨q,m,r,cell,ar,rfl,t,D,C,u,k⟩:=h;refine⟨_,(Ac (Aq (i:=3) JC.nd rfl O_9 (As v (rm I) rfl Ao (Aa (pv 0) (Aa (pv 1) (Aa (pv 2) Ab))))) (Ac (AO (AA GB (pv 3) Db (AG _)) (Ah (Av (pv 1))) AC) (Ah (Av (Aj Al (Aj Ay (pv 0) (pv 3) R_9) Ae R_9))))),?_⟩
 try dsimp only[cxK]
 refine xw3 rfl rfl rfl ⟨q,m,r,cell,ar,rfl,t,D,C,u,λo n=>?_⟩;refine xq1 rfl ⟨rfl,(xq1 rfl ?_)⟩;cases e:JJ r cell ar with
 |none =>
  refine BP (xq1 rfl ?_);have:=k o n;rw[NA e]at this;exact this
 |some i =>
  obtain⟨c,p,y⟩:=Nz e;obtain⟨cs,G,g⟩:=(t.same n).ex;obtain⟨cq,d⟩:∃cq,cs[i]?=some cq:=by
   have L:cs.length=r.length:=K9 g;have:i<cs.length:=by rw[L];exact(B5.mp p).1
   exact⟨_,C0 this⟩
  obtain⟨M,b,B⟩:=Paired.get g d;rw[p]at b;cases b;obtain⟨cl,ds,z,_⟩:=B.ex;refine Bd (xwj rfl rfl rfl rfl (SqL.of G) (Ai (by rw[B6,d];rfl)) (xq4 rfl rfl (SqT.of z) (Ai (j:=2) rfl) ?_));have:=k o n;rw[y]at this;exact this
end
theorem WD{ds:H_}{vs:I_}(h:vs≠[]):ds.map V.ref≠vs.map V.int:=λz=>by
 cases vs with
 |nil=>exact h rfl
 |cons v r =>
  cases ds with
  |nil=>simp at z
  |cons d q=>simp at z
theorem CN.put{H:Hp}{l q:R_}{ds:H_}{o:HO}{d:Bc}(i:H l=some (.lst (ds.map V.ref)))(h:CN H q d)(ok:d.ok):CN (upd H l o) q d:=by
 have a:∀{b v},H b=some v->v≠.lst (ds.map V.ref)->upd H l o b=some v:=λ{b v} e n=>by rw[Ax (AE e i n)];exact e
 cases h with
 |@am j s ns h c=>exact .am (a h A3) (a c λz=>WD ok.2.1 (HO.lst.inj z).symm)
 |@pl j f h c =>
  refine .pl (a h A3) (a c λz=>?_);have g:=(HO.lst.inj z).symm;rw[show(f.map λw=>V.int (unO w))=(f.map unO).map V.int by rw[M5];rfl]at g;refine WD (ds:=ds) (λq=>?_) g;have:=A0g List.length q;rw[B4,ok.1]at this;cases this
theorem Paired.impMem{α β:Type}{F G:α->β->Prop}:∀{l:List α}{m:List β},(∀x y,y∈m->F x y->G x y)->Paired F l m->Paired G l m
|_,_,_,.nil=>.nil
|_,_,h,.cons r t=>.cons (h _ _ C4 r) (Paired.impMem (λx y a=>h x y (C5 _ a)) t)
def QX(l0:R_)(H:Hp)(q:R_)(c:AT):Prop:=∃(l:R_)(ds:H_),l≠l0/\H q=some (.tup [.int (unO c.cell),.ref l,.int c.makes])/\H l=some (.lst (ds.map V.ref))/\Paired (CN H) ds c.conds
theorem QX.at{a:R_}{H:Hp}{q:R_}{c:AT}(h:QX a H q c):RN H q c:=by
 obtain⟨l,ds,_,r⟩:=h;exact⟨l,ds,r⟩
theorem QX.same{b:R_}{H a:Hp}{q:R_}{c:AT}(s:Az H a)(h:QX b H q c):QX b a q c:=by
 obtain⟨l,ds,n,d,e,f⟩:=h;exact⟨l,ds,n,s _ _ d,s _ _ e,Paired.imp (λ_ _ z=>z.same s) f⟩
theorem QX.put{a:R_}{H:Hp}{q:R_}{c:AT}{cs:H_}{o:HO}(d:H a=some (.lst (cs.map V.ref)))(h:QX a H q c)(ok:c.ok):QX a (upd H a o) q c:=by
 obtain⟨l,ds,n,b,e,f⟩:=h;refine⟨l,ds,n,?_,?_,Paired.impMem (λx y g z=>z.put d (ok.conds y g)) f⟩
 .rw[Ax (AE b d A3)];exact b
 .rw[Ax n];exact e
def c00:AT:=⟨some 0,[.am 0 [8]],0⟩
theorem c00_ok:c00.ok where
 cell:=⟨by decide,by decide⟩
 makes:=⟨by decide,by decide⟩
 few:=by show 1<=50;decide
 conds:=λd a=>by
  rw[C7.mp a];exact⟨⟨by decide,by decide⟩,by simp,λn b=>by rw[C7.mp b];exact⟨by decide,by decide⟩,List.pairwise_singleton _ _⟩
theorem c00_rest(r:AD):Cs (c00::r) 0 BI=0:=by
 unfold Cs;rw[O5];have:c00.fits 0 BI=true:=by decide
 rw[this];rfl
section
variable{P:N_}{w:Q_}{K:O_}{mg:C_}{base:T_}{a:Ad}
inductive SpCl(vs:List V)(H:Hp)(Q:VK):Prop
|mk (m:R_) (sd j:Int) (_:vs=[.ref m,.int sd,.int j]) (_:Zs H m) (_:0<=j) (_:j<=800000) (_:∀(q l:R_)(ds:H_)(c:AT)(H':Hp),Az H H'->H l=none->H' q=some (.tup [.int (unO c.cell),.ref l,.int c.makes])->H' l=some (.lst (ds.map V.ref))->Paired (CN H') ds c.conds->c.ok->Q (.ref q) H'):SpCl vs H Q
def spCl:Sp:=λvs H Q _=>SpCl vs H Q
theorem ok_cl(F:Fun K "_law_clause_by" "_law_clause_by" EM f fd)(T:Top K mg a)(I:Cal P w K mg base CX0 1 "_law_mix" Jo Wp)(aH:Cal P w K mg base CX0 1 "_law_state_by" OI spSt)(b6:Cal P w K mg base CX0 2 "_law_condition_by" DA spCo) :
 AL P w K mg base CX0 3 f fd DA spCl:=by
 refine F.ok Cj D_9 λaa A X s H vs Q E B h=>?_
 obtain⟨m,C,j,rfl,⟨U,W,N,S,D⟩,h0,h1,k⟩:=h;let J1:St->Hp->Prop:=fun σ r=>∃x:Option Int,σ=[some (.ref m),some (.int C),some (.int j),some (.int (unO x)),none,none]/\wOk x/\H=r;refine⟨_,(Ac (Aq (i:=3) Cj.nd rfl O_9 Ae) (Ac (ps_ifJ J1 (AA Ri (AF Bq (As I (rm B) rfl Ao (Aa (pv 1) (Aa (pv 2) Ab))) Ae) Ae (AG _)) (Ah (Aq (i:=3) Cj.nd rfl O_9 (As aH (rm B) rfl Ao (Aa (pv 0) (Aa (As I (rm B) rfl Ao (Aa (pv 1) (Bn AQ (pv 2) Ae Ab))) Ab))))) AC) (Ac (Aq (i:=4) Cj.nd rfl O_9 (Ce Ab)) (Ac (CK K7 rfl (CU rfl T.b_range (Bn Bq (As I (rm B) rfl Ao (Aa (pv 1) (Bn AQ (pv 2) Ae Ab))) Ae Ab)) (BD (i:=5) Cj.nd rfl O_9) (Ah (BW (CQ K8 A0a A0b Cc (pv 4) (Aa (As b6 (rm B) rfl Ao (Aa (pv 0) (Aa (pv 1) (Bn AQ (pv 2) (AF EW Ae (AF AQ (pv 5) Ae)) Ab)))) Ab))))) (Ah (Av (Dz (Aa (pv 3) (Aa (pv 4) (Aa (As aH (rm B) rfl Ao (Aa (pv 0) (Aa (As I (rm B) rfl Ao (Aa (pv 1) (Bn AQ (pv 2) Ae Ab))) Ab))) Ab)))))))))),?_⟩
 try dsimp only[cxK]
 refine⟨(xw2 rfl rfl ⟨C,j,rfl,h0,by lia,λv hv=>(xq2 rfl rfl ⟨(by show(0:Int)<4;decide),(xq2 rfl rfl (xq1 rfl ?_))⟩)⟩),?_⟩
 .refine JI (λ_=>?_) (λ_=>?_)
  .exact xq1 rfl (xq1 rfl (xq1 rfl (xq2 rfl rfl ⟨C,_,rfl,by lia,by lia,λZ R=>⟨m,U,W,Z,rfl,N,S,D,λd u=>⟨some d,rfl,u,rfl⟩⟩⟩)))
  .exact⟨none,rfl,trivial,rfl⟩
 .rintro σ r ⟨x,rfl,ox,rfl⟩;refine⟨S_0,λl M=>?_⟩;refine xq1 rfl (xq1 rfl (xq2 rfl rfl ⟨C,_,rfl,by lia,by lia,λv hv=>?_⟩));obtain⟨n,ab⟩:=J3 (show 0<=v%4 by lia);refine xq2 rfl rfl ⟨(by show(0:Int)<4;decide),(xq1 rfl ⟨by lia,by lia,?_⟩)⟩;rw[show(v%4).toNat=n by lia];refine Dv (n:=n) (λi σ r=>∃(ds:H_)(t:List Bc)(Y:Option V),σ=[some (.ref m),some (.int C),some (.int j),some (.int (unO x)),some (.ref l),Y]/\Az H r/\r l=some (.lst (ds.map V.ref))/\Paired (CN r) ds t/\t.length=i/\∀d∈t,d.ok)
   ⟨[],[],none,rfl,Ar M,Af,.nil,rfl,λd u=>by simp at u⟩ ?_ ?_
  .rintro i σ r hi ⟨ds,t,Y,rfl,G,c,L,O,g⟩;have ld:=K9 L;refine xq1 rfl ⟨.inl ⟨rfl,_,SqL.of c⟩,_,rfl,_,rfl,_,rfl,_,rfl,_,_,rfl,rfl,_,_,rfl,rfl,.inl ⟨by decide,by decide⟩,_,_,rfl,rfl,m,C,_,rfl,⟨U,W,G _ _ N,S,D⟩,by lia,by lia,λq d H3 p u od=>?_⟩;refine⟨l,_,_,rfl,rfl,p _ _ c,by rw[B4,ld,O];exact F5 hi (FQ A0),?_⟩;refine⟨ds++[q],t++[d],(xq1 rfl ⟨λb o e=>?_,?_,?_,by rw[C1,O];rfl,λe he=>?_⟩)⟩
   .rw[Ax (Aw e M)];exact p _ _ (G _ _ e)
   .rw[Af,C3];rfl
   .refine A2b (Paired.impMem (λx' y D z=>(z.same p).put (p _ _ c) (g y D)) L) (u.put (p _ _ c) od)
   .rcases D4.mp he with z|z
    .exact g e z
    .rw[C7.mp z];exact od
  .rintro σ r ⟨ds,t,Y,rfl,G,c,L,O,g⟩;refine xq1 rfl (xq1 rfl (xq1 rfl (xq1 rfl (xq1 rfl (xq2 rfl rfl ⟨C,_,rfl,by lia,by lia,λZ R=>⟨m,U,W,Z,rfl,G _ _ N,S,D,λd u=>⟨S_3,λq hq=>?_⟩⟩⟩)))));have p:=Ar (o:=.tup [.int (unO x),.ref l,.int d]) hq;exact k q l ds ⟨x,t,d⟩ _ (G.trans p) M Af (p _ _ c) (Paired.imp (λ_ _ z=>z.same p) L) ⟨ox,u,(by show t.length<=50;lia),g⟩
inductive SpCs(K:O_)(vs:List V)(H:Hp)(Q:VK):Prop
|mk (l:R_) (ns:I_) (ft mn:Int) (_:vs=[.ref l,.int ft,.int mn]) (_:SqL K H l (ns.map V.int)) (_:0<=ft) (_:0<=mn) (_:mn<=40) (_:∀(q:R_)(r:AD)(H':Hp),Az H H'->OA H' q r->FT r->Cs r 0 BI=0->mn<=r.length->r.length<=mn+1->Q (.ref q) H'):SpCs K vs H Q
def spCs(K:O_):Sp:=λvs H Q _=>SpCs K vs H Q
theorem ok_cs(F:Fun K "_law_clauses_by" "_law_clauses_by" En f fd)(T:Top K mg a)(aF:Cal P w K mg base CX0 1 "_law_at" YV (spAt K))(bI:Cal P w K mg base CX0 3 "_law_clause_by" DA spCl)(bS:Cal P w K mg base CX0 3 "_law_becomes" Gr spBe) :
 AL P w K mg base CX0 4 f fd Ex (spCs K):=by
 refine F.ok Cd D_9 λaf A ae s H vs Q E U h=>?_
 obtain⟨l,ns,p,mn,rfl,hS,h0,m0,ah,k⟩:=h;refine⟨_,(Ac (Aq (i:=3) Cd.nd rfl O_9 (Dz (Bn Bq (As aF (rm U) rfl Ao (Aa (pv 0) (Aa (pv 1) Ab))) Ae (Bn Bq (As aF (rm U) rfl Ao (Aa (pv 0) (Bn AQ (pv 1) Ae Ab))) Ae Ab)))) (Ac (Aq (i:=4) Cd.nd rfl O_9 (Ce Ab)) (Ac (CK K7 rfl (CU rfl T.b_range (Aa (pv 2) Ab)) (BD (i:=5) Cd.nd rfl O_9) (Ah (BW (CQ K8 A0a A0b Cc (pv 4) (Aa (As bI (rm U) rfl Ao (Aa (pv 3) (Aa (As aF (rm U) rfl Ao (Aa (pv 0) (Bn AQ (AF AQ (pv 1) Ae) (pv 5) Ab))) (Bn EW Ae (pv 5) Ab)))) Ab))))) (Ac (AO (AA GV (As bS (rm U) rfl Ao (Aa (pv 4) (AV (Vi (AV (AV (AV (AV (AV (AV (AV (AV Ab)))))))) Ab)))) Ae (AG _)) (Ah (Aq (i:=4) Cd.nd rfl O_9 (AF Vl (Ce (Bm (AV (Vi (Bm (PU (AV (Vi (AV Ab) Ab))) Ab) (AV Ab))) Ab)) (pv 4)))) AC) (Ah (Av (pv 4))))))),?_⟩
 try dsimp only[cxK]
 refine xw2 rfl rfl ⟨l,ns,p,rfl,hS,h0,?_⟩;refine xq2 rfl rfl ⟨(by show(0:Int)<8;decide),(xq1 rfl ?_)⟩;refine xq1 rfl (xq2 rfl rfl ⟨l,ns,_,rfl,hS,by lia,?_⟩);refine⟨_,_,rfl,rfl,(by show(0:Int)<8;decide),S_2,λm hm=>?_⟩;have s1:=Ar (o:=.tup [.int (atN ns p%8),.int (atN ns (p+1)%8)]) hm;have hM:Zs (upd H m (.tup [.int (atN ns p%8),.int (atN ns (p+1)%8)])) m:=⟨_,_,Af,⟨by lia,by lia⟩,⟨by lia,by lia⟩⟩
 have I:Az H (upd H m (.tup [.int (atN ns p%8),.int (atN ns (p+1)%8)])):=s1;show(Yw _ _) _ _ (upd H m (.tup [.int (atN ns p%8),.int (atN ns (p+1)%8)]));generalize upd H m (.tup [.int (atN ns p%8),.int (atN ns (p+1)%8)])=H1 at s1 I hM⊢;refine⟨S_0,λcl R=>?_⟩;obtain⟨n,rfl⟩:=J3 m0;refine xw2 rfl rfl ⟨by lia,by lia,?_⟩;rw[J7];refine Dv (n:=n) (λi σ B=>∃(cs:H_)(r:AD)(u5:Option V),σ=[some (.ref l),some (.int p),some (.int n),some (.ref m),some (.ref cl),u5]/\Az H1 B/\B cl=some (.lst (cs.map V.ref))/\Paired (QX cl B) cs r/\r.length=i/\∀c∈r,c.ok)
  ⟨[],[],none,rfl,Ar R,Af,.nil,rfl,λd hd=>by simp at hd⟩ ?_ ?_
 .rintro i σ B hi ⟨cs,r,u5,rfl,Y,g,pr,hn,u⟩;have ld:=K9 pr;have aa:SqL K B l (ns.map V.int):=(I.trans Y).seq hS;refine xq1 rfl ⟨.inl ⟨rfl,_,SqL.of g⟩,_,rfl,_,rfl,_,rfl,_,_,rfl,rfl,_,rfl,_,_,rfl,rfl,l,ns,_,rfl,aa,by lia,_,rfl,_,_,rfl,rfl,.inl ⟨by decide,by decide⟩,m,_,_,rfl,hM.same Y,by lia,by lia,λq l' ds c H3 x nl e1 e2 e3 oc=>?_⟩;refine⟨cl,_,_,rfl,rfl,x _ _ g,by rw[B4,ld,hn];exact F5 hi (FQ A0),?_⟩;have ad:l'≠cl:=λz=>by rw[z,g]at nl;cases nl
  refine⟨cs++[q],r++[c],(xq1 rfl ⟨λb o e=>?_,?_,?_,by rw[C1,hn];rfl,λe he=>?_⟩)⟩
  .rw[Ax (Aw e R)];exact x _ _ (Y _ _ e)
  .rw[Af,C3];rfl
  .refine A2b (Paired.impMem (λx' y hy z=>(z.same x).put (x _ _ g) (u y hy)) pr) (QX.put (x _ _ g) ⟨l',ds,ad,e1,e2,e3⟩ oc)
  .rcases D4.mp he with z|z
   .exact u e z
   .rw[C7.mp z];exact oc
 .rintro σ B ⟨cs,r,u5,rfl,Y,g,pr,hn,u⟩;have hR:OA B cl r:=⟨cs,g,Paired.imp (λ_ _ z=>z.at) pr⟩
  have rk:FT r:=⟨by lia,u⟩
  refine xq1 rfl ⟨(by show 8<=sizeLine;decide),λz8 ac=>?_⟩;have x:=Ar (o:=.lst (BI.map V.int)) ac;refine⟨cl,z8,r,0,BI,rfl,hR.same x,rk,Af,rfl,λZ s4=>?_⟩;have X:Az H Z:=((I.trans Y).trans x).trans s4;have N:=(hR.same x).same s4;refine⟨rfl,(xq1 rfl ?_)⟩;rw[Jy];by_cases hz:Cs r 0 BI=0
  .rw[X8 hz];exact Bd (xq1 rfl (k cl r Z X N rk hz A0 A0))
  .rw[X9 hz];refine BP ?_;refine⟨S_1,λb1 ab=>⟨S_3,λb2 O=>⟨S_1,λL G=>⟨S_3,λD v=>⟨S_1,λb5 t=>?_⟩⟩⟩⟩⟩;generalize j:upd (upd (upd (upd (upd Z b1 (.lst [.int 8])) b2 (.tup [.str (Str.ofString "amount"),.int 0,.ref b1])) L (.lst [.ref b2])) D (.tup [.int 0,.ref L,.int 0])) b5 (.lst [.ref D])=C;have s5:Az Z C:=by rw[<-j];exact(((Ar ab).trans (Ar O)).trans (Ar G)).trans ((Ar v).trans (Ar t))
   have e1:C b1=some (.lst [.int 8]):=by rw[<-j];exact Ar t _ _ (Ar v _ _ (Ar G _ _ (Ar O _ _ Af)))
   have e2:C b2=some (.tup [.str (Str.ofString "amount"),.int 0,.ref b1]):=by rw[<-j];exact Ar t _ _ (Ar v _ _ (Ar G _ _ Af))
   have e3:C L=some (.lst [.ref b2]):=by rw[<-j];exact Ar t _ _ (Ar v _ _ Af)
   have e4:C D=some (.tup [.int 0,.ref L,.int 0]):=by rw[<-j];exact Ar t _ _ Af
   have e5:C b5=some (.lst [.ref D]):=by rw[<-j];exact Af
   obtain⟨M,S,W⟩:=(N.same s5).ex;have ag:=K9 W;refine xq1 rfl ⟨b5,cl,(xq2 rfl rfl ⟨e5,S,FQ (by simp only[D6,P8,B4];lia),λq hq=>?_⟩)⟩;have s6:=Ar (o:=.lst ([V.ref D]++M.map V.ref)) hq;have c0:RN C D c00:=⟨L,[b2],e4,e3,.cons (.am (ns:=[8]) e2 e1) .nil⟩
   refine xq1 rfl (k q (c00::r) _ ((X.trans s5).trans s6) ⟨D::M,Af,.cons (c0.same s6) (Paired.imp (λ_ _ z=>z.same s6) W)⟩ ⟨by rw[D6];lia,λc hc=>?_⟩ (c00_rest r) (by rw[D6];lia) (by rw[D6];lia));rcases B7.mp hc with z|z
   .rw[z];exact c00_ok
   .exact u c z
end
def YG(o:J_):List V:=o.map λ(k:Nat)=>V.int (k:Int)
structure Mf(o:J_):Prop where
len:o.length=8
lt:∀k∈o,k<8
all:∀k,k<8->k∈o
def TQ(o:J_)(ws:List (Option Int)):List (Option Int):=o.map λk=>ws.getD k none
def Si(o:J_):Bc->Bc
|.am s ns=>.am s ns
|.pl ws=>.pl (TQ o ws)
def reoC(o:J_)(c:AT):AT:=⟨c.cell,c.conds.map (Si o),c.makes⟩
def EE(o:J_)(r:AD):AD:=r.map (reoC o)
def TR(o:J_)(t:Str):Str:=if t.length≠8\/61∈t.cps.toList then t else⟨(o.map λk=>t.cps.toList.getD k 0).toArray⟩
theorem reoD_ok{o:J_}(c:Mf o){d:Bc}(h:d.ok):(Si o d).ok:=by
 cases d with
 |am s ns=>exact h
 |pl b =>
  refine⟨by show(TQ o b).length=8;rw[show(TQ o b).length=o.length from B4 _,c.len],λw f=>?_⟩;obtain⟨k,e,rfl⟩:=C8.mp f;have a:k<b.length:=by rw[h.1];exact c.lt k e
  rw[C6,C0 a];exact h.2 _ (Q8 a)
theorem WC{o:J_}(f:Mf o){c:AT}(h:c.ok):(reoC o c).ok where
 cell:=h.cell
 makes:=h.makes
 few:=by show(c.conds.map (Si o)).length<=50;rw[B4];exact h.few
 conds:=λd a=>by
  obtain⟨e,b,rfl⟩:=C8.mp (show d∈c.conds.map (Si o)from a);exact reoD_ok f (h.conds e b)
theorem MS{o:J_}(d:Mf o){r:AD}(h:FT r):FT (EE o r):=⟨by show(r.map (reoC o)).length<=50;rw[B4];exact h.few,λc a=>by
 obtain⟨e,b,rfl⟩:=C8.mp (show c∈r.map (reoC o)from a);exact WC d (h.ok e b)⟩
theorem YC{o:J_}(g:Mf o){d:Bc}(h:d.ok):TR o (AR d)=AR (Si o d):=by
 cases d with
 |am s ns =>
  have m:61∈(AR (.am s ns)).cps.toList:=by
   show 61∈(sgD s++⟨#[61]⟩++DH ns).cps.toList;rw[Tx.Cp,Tx.Cp];simp
  exact K0 (.inr m)
 |pl a =>
  have m:¬61∈(AR (.pl a)).cps.toList:=λz=>by
   obtain⟨x,i,e⟩:=C8.mp (show 61∈a.map wC from z);exact(Pi (h.2 x i)).1 e
  have c:(AR (.pl a)).length=8:=by rw[Nu.len];show(a.map wC).length=8;rw[B4,h.1]
  unfold TR;rw[X7 (λz=>z.elim (λz=>z c) m)];refine Nu.ext ?_;show o.map (λk=>(a.map wC).getD k 0)=(TQ o a).map wC;unfold TQ;rw[M5];refine T6 λk f=>?_;have b:k<a.length:=by rw[h.1];exact g.lt k f
  show(a.map wC).getD k 0=wC (a.getD k none);rw[C6,C6,B6,C0 b];rfl
theorem Vg{o:J_}(b:Mf o){c:AT}(h:c.ok):(wS c.cell::(c.conds.map AR++[sgD c.makes])).map (TR o)=wS (reoC o c).cell::((reoC o c).conds.map AR++[sgD (reoC o c).makes]):=by
 rw[F4,C3,M5];congr 1;congr 1;show _=(c.conds.map (Si o)).map AR;rw[M5];exact T6 λd a=>YC b (h.conds d a)
section
variable{P:N_}{w:Q_}{K:O_}{mg:C_}{base:T_}{a:Ad}
inductive SpOW(K:O_)(vs:List V)(H:Hp)(Q:VK):Prop
|mk (t:Str) (q:R_) (o:J_) (_:vs=[.str t,.ref q]) (_:Mf o) (_:(∀H',SqT K H' q (YG o))) (_:t.length<=100) (_:∀H',Az H H'->Q (.str (TR o t)) H'):SpOW K vs H Q
def spOW(K:O_):Sp:=λvs H Q _=>SpOW K vs H Q
theorem ok_ow(F:Fun K "reordered_word" "reordered_word" Dm f fd)(T:Top K mg a):AL P w K mg base CX0 1 f fd IG (spOW K):=by
 refine F.ok MI D_9 λD A y s H vs Q E U h=>?_
 obtain⟨t,q,o,rfl,u,C,S,k⟩:=h;refine⟨_,(Ac (AO (PW.pt (PL (AA GV (AX FS rfl T.b_len A1a (Aa (pv 0) Ab)) (BX rfl T.k_NEIGHBOURS) (AG _)) (Ms (AA Rh Es (pv 0) rfl)))) (Ah (Av (pv 0))) AC) (Ah (Av (CQ A0e A1d A1e Jt Es (Aa (BL rfl (Bo.of (So:=Ak Dm) (No:=IG) (N:=["number","word"]) (k:=1) (cs:=[0]) rfl rfl A1) (PN (pv 1)) (λ_ _ _=>(AZ (i:=0) A1 rfl rfl)) (λ_ _ _=>BC) (λ_ _ _=>(Aj VI (pv 1) (pv 0) R_9))) Ab))))),?_⟩
 try dsimp only[cxK]
 refine xw2 rfl rfl ⟨FQ A0,rfl,(xq1 rfl ?_)⟩;have g:(t.length≠8\/61∈t.cps.toList)->Q (.str t) H:=λz=>by
  have:=k H (Az.refl H);unfold TR at this;rw[K0 z]at this;exact this
 by_cases l:t.length=8
 .rw[l];refine Bd (xwb rfl rfl rfl (xq1 rfl ?_));rw[eq_in];by_cases c:61∈t.cps.toList
  .rw[X8 c];exact BP (xq1 rfl (g (.inr c)))
  .rw[X9 c];refine Bd ⟨rfl,(xq1 rfl ⟨q,rfl,⟨_,C _⟩,?_⟩)⟩;have G:t.cps.toList.length=8:=by rw[<-Nu.len,l]
   refine Ny (xs:=YG o) (λi b j=>H=j/\b=((o.take i).map λn=>(⟨#[t.cps.toList.getD n 0]⟩:Str)).map V.str) ⟨rfl,rfl⟩ (λi b j _ z=>C _) ?_ ?_
   .rintro i x b j v ⟨rfl,rfl⟩;unfold YG at v;rw[B6]at v;obtain⟨n,B,rfl⟩:=C9.mp v;have m:n<t.cps.toList.length:=by rw[G];exact u.lt n (D0 B)
    refine⟨⟨[some (.int n)],rfl,rfl⟩,?_,FI (xw2 rfl rfl ⟨t,(xq2 rfl rfl ⟨FQ A0,Ai (C0 m),rfl,?_⟩)⟩)⟩
    .rw[B4,B4,J0,u.len];exact F2 (N5 _ _) A4
    .rw[F3,B,C3,C3];show _=_++[V.str ⟨#[t.cps.toList.getD n 0]⟩]
     rw[C6,C0 m];rfl
   .rintro b j ⟨rfl,rfl⟩ p I;rw[show(YG o).length=o.length from B4 _,F6];have O:(Str.ofString "").length=0:=by decide +kernel
    have d:JoinOk (Str.ofString "") (o.map λn=>(⟨#[t.cps.toList.getD n 0]⟩:Str))=true:=by
     refine Tx.Jv 1 (λt L=>?_) ?_
     .obtain⟨n,m,rfl⟩:=C8.mp L;exact B8 1
     .rw[B4,O,u.len];decide
    refine⟨_,p,(xq1 rfl ⟨rfl,SqL.of Af,d,?_⟩)⟩;have e:Str.join (Str.ofString "") (o.map λn=>(⟨#[t.cps.toList.getD n 0]⟩:Str))=TR o t:=by
     unfold TR;rw[X7 (λz=>z.elim (λz=>z l) c),show Str.ofString "" = (⟨#[]⟩:Str) by decide +kernel];refine Nu.ext ?_;rw[Tx.ED,Tx.SN,M5];show(o.map _).flatten=o.map _;generalize o=R;induction R with
     |nil=>rfl
     |cons x r M=>rw[F4,Q4,M,F4];rfl
    rw[e];exact k _ (Ar I)
 .rw[X9 (by intro z;injection z with z;lia)];exact BP (BP (xq1 rfl (g (.inl l))))
theorem Tj{c:AT}(h:c.ok):∀t∈wS c.cell::(c.conds.map AR++[sgD c.makes]),t.length<=11:=λt b=>by
 rcases B7.mp b with rfl|b
 .show 1<=11;decide
 .rcases D4.mp b with b|b
  .obtain⟨d,e,rfl⟩:=C8.mp b;exact Lw (h.conds d e)
  .rw[C7.mp b];show 1<=11;decide
inductive SpOC(K:O_)(vs:List V)(H:Hp)(Q:VK):Prop
|mk (c:AT) (q:R_) (o:J_) (_:vs=[.str (Ba c),.ref q]) (_:c.ok) (_:Mf o) (_:(∀H',SqT K H' q (YG o))) (_:∀H',Az H H'->Q (.str (Ba (reoC o c))) H'):SpOC K vs H Q
def spOC(K:O_):Sp:=λvs H Q _=>SpOC K vs H Q
theorem ok_oc(F:Fun K "reordered_clause" "reordered_clause" CI f fd)(T:Top K mg a)(L:Cal P w K mg base CX0 1 "reordered_word" IG (spOW K)):AL P w K mg base CX0 2 f fd GD (spOC K):=by
 refine F.ok LU D_9 λO A u s H vs Q E X h=>?_
 obtain⟨c,q,o,rfl,d,r,W,k⟩:=h;have C:=GG d;have M:=d.few;refine⟨_,(Ah (Av (CQ A0e A1d A1e Jt (Ji rfl T.k_WORD_MARK) (Aa (BL rfl (Bo.of (So:=Ak CI) (No:=GD) (N:=["word","order"]) (k:=1) (cs:=[1]) rfl rfl A1) (BS (CQ A0e A5e A5f Qi (pv 0) (Aa (Ji rfl T.k_WORD_MARK) Ab))) (λ_ _ _=>(AZ (i:=0) A1 rfl rfl)) (λ_ _ _=>BC) (λ_ _ _=>(As L (rm X) rfl Ao (Aa (pv 0) (Aa (pv 1) Ab))))) Ab)))),?_⟩
 try dsimp only[cxK]
 refine⟨rfl,(xq1 rfl ⟨rfl,(xq2 rfl rfl ⟨A1,A0,λl S=>⟨l,rfl,⟨_,SqL.of Af⟩,?_⟩⟩)⟩)⟩;rw[Nt d];have wl:=Tj d;have I:(wS c.cell::(c.conds.map AR++[sgD c.makes])).length<=52:=by rw[D6,C1,B4,D6,P8];lia
 have n:=Vg r d;generalize wS c.cell::(c.conds.map AR++[sgD c.makes])=e at wl I n⊢;have G:=Ar (o:=.lst (e.map V.str)) S;have j:upd H l (.lst (e.map V.str)) l=some (.lst (e.map V.str)):=Af;generalize upd H l (.lst (e.map V.str))=y at G j⊢;refine CC (xs:=e.map V.str) (λi b m=>Az y m/\b=((e.take i).map (TR o)).map V.str) ⟨Az.refl y,rfl⟩ (λi b m _ z=>SqL.of (z.1 _ _ j)) ?_ ?_
 .rintro i x b m D ⟨v,rfl⟩;rw[B6]at D;obtain⟨t,B,rfl⟩:=C9.mp D;have:=wl t (D0 B);refine⟨⟨[some (.str t)],rfl,rfl⟩,?_,FI (xw2 rfl rfl ⟨t,q,o,rfl,r,W,by lia,λH5 Z=>⟨v.trans Z,?_⟩⟩)⟩
  .rw[B4,B4,J0];exact F2 (N5 _ _) (F2 I A4)
  .rw[F3,B,C3,C3];rfl
 .rintro b m ⟨v,rfl⟩ p U;rw[B4,F6,n];have Y:(Str.ofString " ").length=1:=by decide +kernel
  have g:JoinOk (Str.ofString " ") (wS (reoC o c).cell::((reoC o c).conds.map AR++[sgD (reoC o c).makes]))=true:=by
   refine Tx.Jv 11 (Tj (WC r d)) ?_;rw[<-n,B4,Y];lia
  refine⟨_,p,(xq1 rfl ⟨rfl,SqL.of Af,g,?_⟩)⟩;have R:Str.join (Str.ofString " ") (wS (reoC o c).cell::((reoC o c).conds.map AR++[sgD (reoC o c).makes]))=Ba (reoC o c):=by
   rw[show Str.ofString " " = (⟨#[32]⟩:Str) by decide +kernel];rfl
  rw[R];exact k _ ((G.trans v).trans (Ar U))
inductive SpOR(a:Ad)(K:O_)(vs:List V)(H:Hp)(Q:VK):Prop
|mk (p:R_) (r:AD) (q:R_) (o:J_) (_:vs=[.ref p,.ref q]) (_:Cg a H p (De r) r) (_:FT r) (_:Mf o) (_:(∀H',SqT K H' q (YG o))) (_:∀p' H',Az H H'->Cg a H' p' (De (EE o r)) (EE o r)->Q (.ref p') H'):SpOR a K vs H Q
def spOR(a:Ad)(K:O_):Sp:=λvs H Q _=>SpOR a K vs H Q
theorem ok_or(F:Fun K "reordered_rule" "reordered_rule" Do f fd)(T:Top K mg a)(dB:QY P w K mg base CX0 6 "Rule" a.c_Rule Oy (spRI a))(Z:Cal P w K mg base CX0 1 "clause_texts" Ip spCT)(b9:Cal P w K mg base CX0 2 "reordered_clause" GD (spOC K)):AL P w K mg base CX0 8 f fd IH (spOR a K):=by
 refine F.ok MJ D_9 λaa A D s H vs Q E B h=>?_
 obtain⟨p,r,q,o,rfl,hR,rk,U,hq,k⟩:=h;obtain⟨dx,t,cs,hp,W,ab⟩:=hR.ex;have u:=rk.few;refine⟨_,(Ah (Av (GS dB (rm B) rfl Ao (Aa (CQ A0e A1d A1e Jt (Ji rfl T.k_CLAUSE_MARK) (Aa (BL rfl (Bo.of (So:=Ak Do) (No:=IH) (N:=["text","order"]) (k:=1) (cs:=[1]) rfl rfl A1) (BS (As Z (rm B) rfl Ao (Aa (AB (pv 0) rfl) Ab))) (λ_ _ _=>(AZ (i:=0) A1 rfl rfl)) (λ_ _ _=>BC) (λ_ _ _=>(As b9 (rm B) rfl Ao (Aa (pv 0) (Aa (pv 1) Ab))))) Ab)) Ab)))),?_⟩
 try dsimp only[cxK]
 refine⟨rfl,(xwf rfl rfl hp T.cl_Rule T.na_Rule_text (WV A1) ⟨r,rfl,rk,λl I s1 S=>⟨l,rfl,⟨_,SqL.of S⟩,?_⟩⟩)⟩;refine CC (xs:=r.map λc=>V.str (Ba c)) (λi d j=>Az I j/\d=((r.take i).map λc=>Ba (reoC o c)).map V.str) ⟨Az.refl I,rfl⟩ (λi d j _ z=>SqL.of (z.1 _ _ S)) ?_ ?_
 .rintro i x d j X ⟨G,rfl⟩;rw[B6]at X;obtain⟨c,R,rfl⟩:=C9.mp X;refine⟨⟨[some (.str (Ba c))],rfl,rfl⟩,?_,FI (xw2 rfl rfl ⟨c,q,o,rfl,rk.ok c (D0 R),U,hq,λL n=>⟨G.trans n,?_⟩⟩)⟩
  .rw[B4,B4,J0];exact F2 (N5 _ _) (F2 u A4)
  .rw[F3,R,C3,C3];rfl
 .rintro d j ⟨G,rfl⟩ Y y;rw[B4,F6];have g:=MS U rk;have eL:(r.map λc=>Ba (reoC o c))=(EE o r).map Ba:=by unfold EE;rw[M5];rfl
  rw[eL];have O:Str.ofString "; " = Oz:=by decide +kernel
  have m:JoinOk (Str.ofString "; ") ((EE o r).map Ba)=true:=by
   refine Tx.Jv 1000 (λt W=>?_) ?_
   .obtain⟨c,hc,rfl⟩:=C8.mp W;exact GG (g.ok c hc)
   .have:=g.few;rw[B4,O,show Oz.length=2 from rfl];lia
  refine⟨_,Y,(xq1 rfl ⟨rfl,SqL.of Af,m,?_⟩)⟩;have n:=(s1.trans G).trans (Ar (o:=.lst (((EE o r).map Ba).map V.str)) y);generalize upd j Y (.lst (((EE o r).map Ba).map V.str))=L at n⊢;rw[O];intro x dx nx C ac;refine⟨x,dx,EE o r,rfl,Af,g,λM kp v=>?_⟩;have s6:Az L M:=λb o e=>kp b o (by rw[Ax (Aw e nx),Ax (Aw e C)];exact e) (Aw e nx);exact⟨rfl,k x M (n.trans s6) v⟩
def IA:List Nat:=[2,4,7,1,6,0,3,5]
def II:List Nat:=[2,1,0,4,3,7,6,5]
theorem RQ:Mf IA:=⟨rfl,by decide,by decide⟩
theorem SI:Mf II:=⟨rfl,by decide,by decide⟩
inductive SpTr2(a:Ad)(o:J_)(vs:List V)(H:Hp)(Q:VK):Prop
|mk (p:R_) (r:AD) (_:vs=[.ref p]) (_:Cg a H p (De r) r) (_:FT r) (_:∀p' H',Az H H'->Cg a H' p' (De (EE o r)) (EE o r)->Q (.ref p') H'):SpTr2 a o vs H Q
def Rc(a:Ad)(o:J_):Sp:=λvs H Q _=>SpTr2 a o vs H Q
theorem ok_tr2(F:Fun K "turned_rule" "turned_rule" Id f fd)(T:Top K mg a)(c:Cal P w K mg base CX0 8 "reordered_rule" IH (spOR a K)):AL P w K mg base CX0 9 f fd Ss (Rc a IA):=by
 refine F.ok Pp D_9 λd A b s H vs Q E g h=>?_
 obtain⟨p,r,rfl,e,rk,k⟩:=h;exact⟨_,(Ah (Av (As c (rm g) rfl Ao (Aa (pv 0) (Aa (MV rfl T.k_TURNED_ORDER.1) Ab))))),(xq1 rfl ⟨p,r,a.k_TURNED_ORDER,IA,rfl,e,rk,RQ,T.k_TURNED_ORDER.2,k⟩)⟩
theorem ok_mr2(F:Fun K "mirrored_rule" "mirrored_rule" Fz f fd)(T:Top K mg a)(c:Cal P w K mg base CX0 8 "reordered_rule" IH (spOR a K)):AL P w K mg base CX0 9 f fd Ss (Rc a II):=by
 refine F.ok NH D_9 λd A b s H vs Q E g h=>?_
 obtain⟨p,r,rfl,e,rk,k⟩:=h;exact⟨_,(Ah (Av (As c (rm g) rfl Ao (Aa (pv 0) (Aa (MV rfl T.k_MIRRORED_ORDER.1) Ab))))),(xq1 rfl ⟨p,r,a.k_MIRRORED_ORDER,II,rfl,e,rk,SI,T.k_MIRRORED_ORDER.2,k⟩)⟩
end
theorem Az.noneN{H a:Hp}(s:Az H a){x:R_}(n:a x=none):H x=none:=by
 cases e:H x with
 |none=>rfl
 |some o=>rw[s _ _ e]at n;cases n
theorem meetJ{T:St->Hp->Prop}{C:Prop}(P:St->Hp->Prop)(h:(∀σ H,P σ H->T σ H)->C)(k:∀σ H,P σ H->T σ H):C:=h k
structure MA where
tp:Addr
l:Addr
kc:Addr
ds:List Addr
def jf2(gp mem:R_):List (Str×V):=AY "memories" (.ref mem) (AY "grove" (.ref gp) [])
def jf5(gp mem pr l kc:R_):List (Str×V):=AY "known_cells" (.ref kc) (AY "known_squares" (.ref l) (AY "rule" (.ref pr) (jf2 gp mem)))
theorem jf2_mem(a mem:R_):(jf2 a mem).lookup ("memories" : Str)=some (V.ref mem):=by
 unfold jf2;rw[An,K0 rfl]
theorem jf2_no(a mem:R_){m:Str}(b:¬m=("memories" : Str))(c:¬m=("grove" : Str)):(jf2 a mem).lookup m=none:=by
 unfold jf2;rw[An,X7 b,An,X7 c];rfl
section
variable(gp mem pr l kc:R_)
theorem jf5_kc:(jf5 gp mem pr l kc).lookup ("known_cells" : Str)=some (V.ref kc):=by
 unfold jf5;rw[An,K0 rfl]
theorem jf5_ks:(jf5 gp mem pr l kc).lookup ("known_squares" : Str)=some (V.ref l):=by
 unfold jf5;rw[An,X7 A1,An,K0 rfl]
theorem jf5_ru:(jf5 gp mem pr l kc).lookup ("rule" : Str)=some (V.ref pr):=by
 unfold jf5;rw[An,X7 A1,An,X7 A1,An,K0 rfl]
theorem EA:(jf5 gp mem pr l kc).lookup ("grove" : Str)=some (V.ref gp):=by
 unfold jf5 jf2;rw[An,X7 A1,An,X7 A1,An,X7 A1,An,X7 A1,An,K0 rfl]
theorem MC{m:Str}(a:¬m=("known_cells" : Str))(b:¬m=("known_squares" : Str))(c:¬m=("rule" : Str))(d:¬m=("memories" : Str))(e:¬m=("grove" : Str)):(jf5 gp mem pr l kc).lookup m=none:=by
 unfold jf5;rw[An,X7 a,An,X7 b,An,X7 c,jf2_no _ _ d e]
theorem YO:(jf5 gp mem pr l kc).lookup ("after" : Str)=none:=MC _ _ _ _ _ A1 A1 A1 A1 A1
theorem YN:(jf5 gp mem pr l kc).lookup ("check_jump" : Str)=none:=MC _ _ _ _ _ A1 A1 A1 A1 A1
theorem Nb:(jf5 gp mem pr l kc).lookup ("reckoned" : Str)=none:=MC _ _ _ _ _ A1 A1 A1 A1 A1
theorem YM:(jf5 gp mem pr l kc).lookup ("fresh" : Str)=none:=MC _ _ _ _ _ A1 A1 A1 A1 A1
theorem noJ_half:(jf5 gp mem pr l kc).lookup ("four_halfway" : Str)=none:=MC _ _ _ _ _ A1 A1 A1 A1 A1
theorem noJ_mid:(jf5 gp mem pr l kc).lookup ("middle_after" : Str)=none:=MC _ _ _ _ _ A1 A1 A1 A1 A1
theorem noJ_cell:(jf5 gp mem pr l kc).lookup ("cell_after" : Str)=none:=MC _ _ _ _ _ A1 A1 A1 A1 A1
end
inductive Nv:HO->Prop
|tup {xs:List V}:Nv (.tup xs)
|ins {C dx:R_} {fs:List (Str×V)} (h1:1<=fs.length) (h2:fs.length<=3):Nv (.ins C dx fs)
theorem OV(f:Str)(v:V):∀fs:List (Str×V),1<=(AY f v fs).length
|[]=>B8 1
| (g,x)::r=>by
 unfold AY;split
 .rw[D6];lia
 .rw[D6];lia
theorem DC.kp{a:Ad}{H e:Hp}{p:R_}{c:Bc}(k:∀b o,H b=some o->Nv o->e b=some o)(h:DC a H p c):DC a e p c:=by
 cases h with
 |am h d=>exact .am (k _ _ h (.ins (OV _ _ _) (D7 (BH _ _ _) (Q6 (D7 (BH _ _ _) (by show 0+1<=2;decide)))))) (k _ _ d .tup)
 |pl h d=>exact .pl (k _ _ h (.ins (OV _ _ _) (D7 (BH _ _ _) (by show 0+1<=3;decide)))) (k _ _ d .tup)
theorem Ch.kp{a:Ad}{H d:Hp}{p:R_}{c:AT}(k:∀b o,H b=some o->Nv o->d b=some o)(h:Ch a H p c):Ch a d p c:=by
 obtain⟨dx,t,cs,e,f,g⟩:=h.ex;exact⟨dx,t,cs,k _ _ e (.ins (OV _ _ _) (D7 (BH _ _ _) (Q6 (D7 (BH _ _ _) (Q6 (D7 (BH _ _ _) (by show 0+1<=1;decide))))))),k _ _ f .tup,Paired.imp (λ_ _ z=>z.kp k) g⟩
theorem Cg.kp{a:Ad}{H c:Hp}{p:R_}{x:Str}{r:AD}(k:∀b o,H b=some o->Nv o->c b=some o)(h:Cg a H p x r):Cg a c p x r:=by
 obtain⟨dx,t,cs,d,e,f⟩:=h.ex;exact⟨dx,t,cs,k _ _ d (.ins (OV _ _ _) (D7 (BH _ _ _) (Q6 (D7 (BH _ _ _) (by show 0+1<=2;decide))))),k _ _ e .tup,Paired.imp (λ_ _ z=>z.kp k) f⟩
def mK(ms:List (Str×MA)):List (Key×V):=ms.map λe=>(Sum.inr e.1,V.ref e.2.tp)
theorem WM(t:Str):∀a:List (Str×MA),(∃m,(t,m)∈a/\Bj (mK a) (Sum.inr t)=some (.ref m.tp))\/(Bj (mK a) (Sum.inr t)=none/\∀e∈a,e.1≠t)
|[]=>.inr ⟨rfl,λe d=>nomatch d⟩
|e::r=>by
 by_cases h:e.1=t
 .refine .inl ⟨e.2,?_,?_⟩
  .rw[<-h];exact C4
  .exact BM (p:=(Sum.inr e.1,V.ref e.2.tp)) (r:=mK r) (by rw[h])
 .have n:Bj (mK (e::r)) (Sum.inr t)=Bj (mK r) (Sum.inr t):=BF (p:=(Sum.inr e.1,V.ref e.2.tp)) (r:=mK r) λz=>h (Sum.inr.inj z);rcases WM t r with ⟨m,b,c⟩|⟨b,c⟩
  .exact .inl ⟨m,C5 _ b,n.trans c⟩
  .refine .inr ⟨n.trans b,λx f=>?_⟩;rcases B7.mp f with z|z
   .rw[z];exact h
   .exact c x z
inductive ChgR(H H':Hp)(t:Str)(ms ms':List (Str×MA))(m:MA):Prop
|old (_:(t,m)∈ms) (_:ms'=ms):ChgR H H' t ms ms' m
|new (_:ms'=ms++[(t,m)]) (_:∀e∈ms,e.1≠t) (_:H m.tp=none/\H m.l=none/\H m.kc=none/\∀d∈m.ds,H d=none) (_:H' m.tp=some (.tup [.ref m.l,.ref m.kc])) (_:H' m.l=some (.lst (m.ds.map V.ref))) (_:H' m.kc=some (.dT [])) (_:∀d∈m.ds,H' d=some (.dK [])) (_:m.ds.length=47) (_:m.ds.Nodup):ChgR H H' t ms ms' m
section
variable{P:N_}{w:Q_}{K:O_}{mg:C_}{base:T_}{a:Ad}
inductive SpShow(a:Ad)(vs:List V)(H:Hp)(Q:VK):Prop
|mk (p:R_) (t:Str) (r:AD) (_:vs=[.ref p]) (_:Cg a H p t r) (_:Q (.str t) H):SpShow a vs H Q
def UX(a:Ad):Sp:=λvs H Q _=>SpShow a vs H Q
theorem ok_show(F:Fun K "shown_rule" "shown_rule" IS f fd)(T:Top K mg a):AL P w K mg base CX0 1 f fd Ss (UX a):=by
 refine F.ok QE D_9 λc A b s H vs Q E j h=>?_
 obtain⟨p,t,r,rfl,e,k⟩:=h;obtain⟨dx,l,cs,d,g,i⟩:=e.ex;refine⟨_,(Ah (Av (AB (pv 0) rfl))),?_⟩
 try dsimp only[cxK]
 exact xwf rfl rfl d T.cl_Rule T.na_Rule_text (WV A1) k
inductive SpChg(a:Ad)(vs:List V)(H:Hp)(Q:VK):Prop
|mk (p dx mem pr:R_) (fs:List (Str×V)) (t:Str) (r:AD) (ms:List (Str×MA)) (_:vs=[.ref p,.ref pr]) (_:H p=some (.ins a.c_Jumps dx fs)) (_:fs.lookup ("memories" : Str)=some (.ref mem)) (_:fs.length<=10) (_:H mem=some (.dK (mK ms))) (_:ms.length<=1000) (_:∀e∈ms,H e.2.tp=some (.tup [.ref e.2.l,.ref e.2.kc])) (_:Cg a H pr t r) (_:∀(H':Hp)(m:MA)(ms':List (Str×MA)),(∀b o,H b=some o->b≠p->b≠mem->H' b=some o)->H' p=some (.ins a.c_Jumps dx (AY "known_cells" (.ref m.kc) (AY "known_squares" (.ref m.l) (AY "rule" (.ref pr) fs))))->H' mem=some (.dK (mK ms'))->ChgR H H' t ms ms' m->Q .non H'):SpChg a vs H Q
def ZZ(a:Ad):Sp:=λvs H Q _=>SpChg a vs H Q
theorem ok_chg(F:Fun K "change" "Jumps.change" Ep f fd)(T:Top K mg a)(cE:Cal P w K mg base CX0 1 "shown_rule" Ss (UX a)):AL P w K mg base CX0 2 f fd Gy (ZZ a):=by
 refine F.ok JD D_9 λay A ax s H vs Q E hr h=>?_
 obtain⟨p,dx,mem,B,fs,t,r,I,rfl,hp,C,az,hm,few,ab,hR,k⟩:=h;refine⟨_,(Ac (Aq (i:=2) JD.nd rfl O_9 (As cE (rm hr) rfl Ao (Aa (pv 1) Ab))) (Ac (AO (pt_cmp (YF (EB hr) (pv 2) (AB (pv 0) rfl))) (Ah (FM (EB hr) (AB (pv 0) rfl) (pv 2) (Dz (Aa (BL rfl (Bo.of (So:=Ak Ep) (No:=Lo) (N:=["e"]) (k:=1) (cs:=[]) rfl rfl A1) (CU rfl T.b_range (Bn Cv (BX rfl T.k_TOP_LEVEL) Ae Ab)) (λ_ _ _=>(AZ (i:=0) A1 rfl rfl)) (λ_ _ _=>BC) (λ_ _ _=>IC)) (Aa MW Ab))) rfl)) AC) (Ac (CL (pv 0) (pv 1) rfl) (Ac (CL (pv 0) (Aj Al (Sm (EB hr) (AB (pv 0) rfl) (pv 2) R_9) Ae R_9) rfl) (Ah (CL (pv 0) (Aj Al (Sm (EB hr) (AB (pv 0) rfl) (pv 2) R_9) Ae R_9) rfl)))))),?_⟩
 try dsimp only[cxK]
 have O:p≠mem:=AE hp hm A3;refine xq1 rfl ⟨B,t,r,rfl,hR,?_⟩;apply meetJ (fun σ S=>σ=[some (.ref p),some (.ref B),some (.str t)]/\∃(m:MA)(G:List (Str×MA)),(∀b o,H b=some o->b≠mem->S b=some o)/\S mem=some (.dK (mK G))/\Bj (mK G) (Sum.inr t)=some (.ref m.tp)/\S m.tp=some (.tup [.ref m.l,.ref m.kc])/\ChgR H S t I G m/\m.tp≠p/\(H m.tp=none->m.l≠p/\m.kc≠p/\∀d∈m.ds,d≠p))
 .intro R;refine xw2 rfl rfl (xq5 hp T.cl_Jumps T.na_Jumps_memories C ⟨mem,(xq1 rfl ⟨IM.k (k:=Sum.inr t) hm,(xq1 rfl ?_)⟩)⟩);rcases WM t I with ⟨m,m1,m2⟩|⟨no,nk⟩
  .rw[m2];refine Bd (R _ _ ⟨rfl,m,I,λb o e _=>e,hm,m2,ab _ m1,.old m1 rfl,AE (ab _ m1) hp A3,λz=>?_⟩);rw[ab _ m1]at z;cases z
  .rw[no];refine BP ?_;refine xq2 rfl rfl (xq1 rfl ⟨by decide,by decide,?_⟩);refine RE (n:=47) (λi W U=>Az H U/\∃ds:List Addr,W=ds.map V.ref/\ds.length=i/\(∀d∈ds,U d=some (.dK []))/\(∀d∈ds,H d=none)/\ds.Nodup) ⟨Az.refl H,[],rfl,rfl,λd c=>(nomatch c),λd c=>(nomatch c),.nil⟩ ?_ ?_
   .rintro i W U hi ⟨sm,ds,rfl,ln,c1,c2,nd⟩;refine⟨⟨[some (.int (0+(i:Int)))],rfl,rfl⟩,?_,FI λd c=>⟨sm.trans (Ar c),ds++[d],by rw[C3];rfl,by rw[C1,ln];rfl,λx hx=>?_,λx hx=>?_,?_⟩⟩
    .rw[B4,ln];exact F5 hi A4
    .rcases D4.mp hx with z|z
     .exact Ar c _ _ (c1 x z)
     .rw[C7.mp z];exact Af
    .rcases D4.mp hx with z|z
     .exact c2 x z
     .rw[C7.mp z];exact Az.noneN sm c
    .rw[R6];refine⟨nd,by simp,λx hx y hy z=>?_⟩;rw[C7.mp hy]at z;rw[<-z,c1 x hx]at c;cases c
   .rintro W U ⟨sm,ds,rfl,ln,c1,c2,nd⟩ l hl;generalize ac:upd U l _=H3;obtain⟨s3,aq⟩:=alc hl ac;intro v ae;generalize ad:upd H3 v _=H4;obtain⟨s4,ao⟩:=alc ae ad;refine⟨S_2,λg al=>?_⟩;show ∃_,_;generalize eB:upd H4 g _=H5;obtain⟨s5,ak⟩:=alc al eB;have n1:H l=none:=Az.noneN sm hl;have n2:H v=none:=Az.noneN (sm.trans s3) ae;have n3:H g=none:=Az.noneN ((sm.trans s3).trans s4) al;have aa:=((sm.trans s3).trans s4).trans s5;have as:=aa _ _ hm;refine xwf rfl rfl (aa _ _ hp) T.cl_Jumps T.na_Jumps_memories C (xq1 rfl ⟨mem,(xq1 rfl ⟨LX.k (k:=Sum.inr t) as ?_,?_⟩)⟩)
    .unfold mK;rw[B4];exact F2 few A4
    .rw[IB _ no];have e6:mK I++[(Sum.inr t,V.ref g)]=mK (I++[(t,⟨g,l,v,ds⟩)]):=by unfold mK;rw[C3];rfl
     rw[e6];have X:∀b o,H5 b=some o->b≠mem->upd H5 mem (.dK (mK (I++[(t,⟨g,l,v,ds⟩)]))) b=some o:=λb o e n=>by rw[Ax n];exact e
     have ah:upd H5 mem (.dK (mK (I++[(t,⟨g,l,v,ds⟩)]))) mem=some (.dK (mK (I++[(t,⟨g,l,v,ds⟩)]))):=Af;generalize upd H5 mem (.dK (mK (I++[(t,⟨g,l,v,ds⟩)])))=H6 at X ah⊢;have nm:∀{x:R_},H x=none->x≠mem:=λz y=>by rw[y,hm]at z;cases z
     have np:∀{x:R_},H x=none->x≠p:=λz y=>by rw[y,hp]at z;cases z
     refine R _ _ ⟨rfl,⟨g,l,v,ds⟩,I++[(t,⟨g,l,v,ds⟩)],λb o e n=>X _ _ (aa _ _ e) n,ah,?_,X _ _ ak (nm n3),.new rfl nk ⟨n3,n1,n2,c2⟩ (X _ _ ak (nm n3)) (X _ _ (s5 _ _ (s4 _ _ aq)) (nm n1)) (X _ _ (s5 _ _ ao) (nm n2)) (λd c=>X _ _ (s5 _ _ (s4 _ _ (s3 _ _ (c1 d c)))) (nm (c2 d c))) ln nd,np n3,λ_=>⟨np n1,np n2,λd c=>np (c2 d c)⟩⟩;rw[<-e6];rw[RO no];exact BM rfl
 rintro σ S ⟨rfl,m,G,k1,af,vv,av,an,Z,am⟩;have ai:=k1 _ _ hp O;have lf:fs.length<1000:=by lia
 have put:∀{Hk:Hp}{fs':List (Str×V)}(q:List (Str×V)),Hk p=some (.ins a.c_Jumps dx fs')->(∀b o,Hk b=some o->b≠p->upd Hk p (.ins a.c_Jumps dx q) b=some o)/\upd Hk p (.ins a.c_Jumps dx q) p=some (.ins a.c_Jumps dx q):=λ{Hk fs'} q e=>⟨λb o e n=>by rw[Ax n];exact e,Af⟩
 refine xw2 rfl rfl ⟨p,_,dx,fs,rfl,ai,T.cl_Jumps,T.na_Jumps_rule,lf,?_⟩;obtain⟨k2,L⟩:=put (AY "rule" (.ref B) fs) ai;generalize upd S p (.ins a.c_Jumps dx (AY "rule" (.ref B) fs))=U at k2 L⊢;have l2:=BH ("rule" : Str) (.ref B) fs;have D:(AY "rule" (.ref B) fs).lookup ("memories" : Str)=some (.ref mem):=by rw[An,X7 A1];exact C
 have ag:=k2 _ _ af (K3 O);have aj:=k2 _ _ av Z;refine xwf rfl rfl L T.cl_Jumps T.na_Jumps_memories D (xq1 rfl ⟨mem,.ref m.tp,rfl,vv▸IM.k (k:=Sum.inr t) ag,(xq4 rfl rfl (SqT.of aj) (Ai (j:=0) rfl) (xq1 rfl ⟨p,_,dx,(xq1 rfl ⟨L,T.cl_Jumps,T.na_Jumps_known_squares,by lia,?_⟩)⟩))⟩);obtain⟨k3,M⟩:=put (AY "known_squares" (.ref m.l) (AY "rule" (.ref B) fs)) L;generalize upd U p (.ins a.c_Jumps dx (AY "known_squares" (.ref m.l) (AY "rule" (.ref B) fs)))=H3 at k3 M⊢;have l3:=BH ("known_squares" : Str) (.ref m.l) (AY "rule" (.ref B) fs);have Y:(AY "known_squares" (.ref m.l) (AY "rule" (.ref B) fs)).lookup ("memories" : Str)=some (.ref mem):=by rw[An,X7 A1];exact D
 have ar:=k3 _ _ ag (K3 O);have aw:=k3 _ _ aj Z;refine xwf rfl rfl M T.cl_Jumps T.na_Jumps_memories Y (xq1 rfl ⟨mem,.ref m.tp,rfl,vv▸IM.k (k:=Sum.inr t) ar,(xq4 rfl rfl (SqT.of aw) (Ai (j:=1) rfl) (xq1 rfl ⟨p,_,dx,(xq1 rfl ⟨M,T.cl_Jumps,T.na_Jumps_known_cells,by lia,?_⟩)⟩))⟩);obtain⟨k4,au⟩:=put (AY "known_cells" (.ref m.kc) (AY "known_squares" (.ref m.l) (AY "rule" (.ref B) fs))) M;have u:∀b o,S b=some o->b≠p->upd H3 p (.ins a.c_Jumps dx (AY "known_cells" (.ref m.kc) (AY "known_squares" (.ref m.l) (AY "rule" (.ref B) fs)))) b=some o:=λb o e n=>k4 _ _ (k3 _ _ (k2 _ _ e n) n) n;refine k _ m G (λb o e n1 n2=>u _ _ (k1 _ _ e n2) n1) au (u _ _ af (K3 O)) ?_;cases an with
 |old h1 h2=>exact .old h1 h2
 |new h1 h2 h3 h4 h5 h6 h7 h8 h9 =>
  obtain⟨y1,y2,y3⟩:=am h3.1;exact .new h1 h2 h3 (u _ _ h4 Z) (u _ _ h5 y1) (u _ _ h6 y2) (λd c=>u _ _ (h7 d c) (y3 d c)) h8 h9
inductive Tg(a:Ad)(vs:List V)(H:Hp)(Q:VK):Prop
|mk (p dx gp pr:R_) (t:Str) (r:AD) (_:vs=[.ref p,.ref gp,.ref pr]) (_:H p=some (.ins a.c_Jumps dx [])) (_:Cg a H pr t r) (_:∀(H':Hp)(mem:R_)(m:MA),(∀b o,H b=some o->b≠p->H' b=some o)->H mem=none->H' p=some (.ins a.c_Jumps dx (jf5 gp mem pr m.l m.kc))->H' mem=some (.dK (mK [(t,m)]))->(H m.tp=none/\H m.l=none/\H m.kc=none/\∀d∈m.ds,H d=none)->H' m.tp=some (.tup [.ref m.l,.ref m.kc])->H' m.l=some (.lst (m.ds.map V.ref))->H' m.kc=some (.dT [])->(∀d∈m.ds,H' d=some (.dK []))->m.ds.length=47->m.ds.Nodup->(∀d∈m.ds,d≠mem)->Q .non H'):Tg a vs H Q
def RX(a:Ad):Sp:=λvs H Q _=>Tg a vs H Q
theorem ok_jinit(F:Fun K "__init__" "Jumps.__init__" Jb f fd)(T:Top K mg a)(bM:Ca P w K mg base CX0 2 a.c_Jumps "change" Gy (ZZ a)):AL P w K mg base CX0 3 f fd SB (RX a):=by
 refine F.ok QI D_9 λaa A R s H vs Q E hr h=>?_
 obtain⟨p,dx,g,Y,t,r,rfl,W,hR,k⟩:=h;refine⟨_,(Ac (CL (pv 0) (pv 1) rfl) (Ac (CL (pv 0) IC rfl) (Ah (BW (AK (pv 0) bM (rm hr) Ao (Aa (pv 2) Ab)))))),?_⟩
 try dsimp only[cxK]
 refine xw2 rfl rfl ⟨p,_,dx,[],rfl,W,T.cl_Jumps,T.na_Jumps_grove,B2,?_⟩;have X:∀b o,H b=some o->b≠p->upd H p (.ins a.c_Jumps dx (AY "grove" (.ref g) [])) b=some o:=λb o e n=>by rw[Ax n];exact e
 have j:upd H p (.ins a.c_Jumps dx (AY "grove" (.ref g) [])) p=some (.ins a.c_Jumps dx (AY "grove" (.ref g) [])):=Af;have C:∀b,upd H p (.ins a.c_Jumps dx (AY "grove" (.ref g) [])) b=none->H b=none:=λb e=>by
  by_cases z:b=p
  .rw[z,j]at e;cases e
  .rw[Ax z]at e;exact e
 generalize upd H p (.ins a.c_Jumps dx (AY "grove" (.ref g) []))=H1 at X j C⊢;intro mem c;generalize eM:upd H1 mem _=q;obtain⟨S,L⟩:=alc c eM;have O:mem≠p:=λz=>by rw[z,j]at c;cases c
 refine xq1 rfl ⟨p,_,dx,(xq1 rfl ⟨S _ _ j,T.cl_Jumps,T.na_Jumps_memories,B3,?_⟩)⟩;have N:∀b o,q b=some o->b≠p->upd q p (.ins a.c_Jumps dx (jf2 g mem)) b=some o:=λb o e n=>by rw[Ax n];exact e
 have l:upd q p (.ins a.c_Jumps dx (jf2 g mem)) p=some (.ins a.c_Jumps dx (jf2 g mem)):=Af;have i:∀b,upd q p (.ins a.c_Jumps dx (jf2 g mem)) b=none->H b=none:=λb e=>by
  by_cases z:b=p
  .rw[z,l]at e;cases e
  .rw[Ax z]at e;exact C _ (Az.noneN S e)
 rw[show AY ("memories" : Str) (V.ref mem) (AY ("grove" : Str) (V.ref g) [])=jf2 g mem from rfl];generalize upd q p (.ins a.c_Jumps dx (jf2 g mem))=U at N l i⊢;have B:∀b o,H b=some o->b≠p->U b=some o:=λb o e n=>N _ _ (S _ _ (X _ _ e n)) n;have y:=N _ _ L O;have G:Cg a U Y t r:=by
  refine hR.kp λb o e n=>B _ _ e λz=>?_;rw[z,W]at e;cases e;cases n with
  |ins u _=>cases u
 refine xwn rfl rfl l (jf2_no _ _ A1 A1) rfl ⟨p,dx,mem,Y,jf2 g mem,t,r,[],rfl,l,jf2_mem _ _,by rw[show(jf2 g mem).length=2 from rfl];decide,y,L8 _,λe he=>(nomatch he),G,λZ m ab fr M x D=>?_⟩;cases D with
 |old u _=>cases u
 |new u h2 v h4 h5 h6 h7 h8 h9 =>
  rw[u]at x;refine k Z mem m (λb o e n=>fr _ _ (B _ _ e n) n ?_) (C _ c) M x ⟨i _ v.1,i _ v.2.1,i _ v.2.2.1,λd I=>i _ (v.2.2.2 d I)⟩ h4 h5 h6 h7 h8 h9 λd I z=>?_
  .intro z;rw[z]at e;rw[C _ c]at e;cases e
  .have:=v.2.2.2 d I;rw[z,y]at this;cases this
end
def qO(G:Gv)(n k:Nat):Nat:=match G[n]? with
|some q=>(q.parts.getD k 0).toNat
|none=>0
def cel(G:Gv):Nat->Nat->Nat->Nat->Nat
|0,n,_,_=>n
|l+1,n,x,y=>cel G l (qO G n ((x/2^l)%2+2*((y/2^l)%2))) x y
def stp(r:AD)(c:Nat->Nat->Int):Nat->Nat->Int:=λx y=>Cs r (c x y) [c (x-1) (y-1),c x (y-1),c (x+1) (y-1),c (x-1) y,c (x+1) y,c (x-1) (y+1),c x (y+1),c (x+1) (y+1)]
def Br(r:AD):Nat->(Nat->Nat->Int)->Nat->Nat->Int
|0,c=>c
|n+1,c=>stp r (Br r n c)
def CB(G:Gv)(l n:Nat):Nat->Nat->Int:=λx y=>(cel G l n x y:Int)
def JR(r:AD)(G:Gv)(e n m:Nat):Prop:=∃l:Nat,Am G n ((l+2:Nat):Int)/\e<=l/\Am G m ((l+1:Nat):Int)/\∀x y,x<2^(l+1)->y<2^(l+1)->CB G (l+1) m x y=Br r (2^e) (CB G (l+2) n) (x+2^l) (y+2^l)
theorem GOk.four{G:Gv}(ok:GOk G){n l:Nat}(h:Am G n ((l+1:Nat):Int)):∃x y z w:Nat,G[n]?=some ⟨[(x:Int),(y:Int),(z:Int),(w:Int)],((l+1:Nat):Int)⟩/\Am G x (l:Int)/\Am G y (l:Int)/\Am G z (l:Int)/\Am G w (l:Int):=by
 obtain⟨q,e,a⟩:=h;have i:8<=n:=by
  refine P1 λz=>?_;rw[ok.leaf n z]at e;cases e;have:(0:Int)=((l+1:Nat):Int):=a;lia
 obtain⟨x,y,z,w,p,⟨b,c,d,f⟩,_⟩:=ok.node n q e i;have g:q.lev-1=(l:Int):=by lia
 rw[g]at b c d f;refine⟨x,y,z,w,?_,b,c,d,f⟩;rw[e];cases q with
 |mk k j=>cases p;cases a;rfl
theorem GOk.cell{G:Gv}(ok:GOk G){n:Nat}(h:Am G n 0):n<8:=by
 obtain⟨q,e,a⟩:=h;refine V7 λz=>?_;obtain⟨_,_,_,_,_,_,b,_⟩:=ok.node n q e z;lia
theorem EH{G:Gv}{n x y z w:Nat}{l:Int}(e:G[n]?=some ⟨[(x:Int),(y:Int),(z:Int),(w:Int)],l⟩):qO G n 0=x/\qO G n 1=y/\qO G n 2=z/\qO G n 3=w:=by
 unfold qO;rw[e];exact⟨rfl,rfl,rfl,rfl⟩
theorem Mr{G:Gv}(ok:GOk G){n l:Nat}(h:Am G n ((l+1:Nat):Int)){k:Nat}(f:k<4):Am G (qO G n k) (l:Int):=by
 obtain⟨x,y,z,w,e,a,b,c,d⟩:=ok.four h;obtain⟨g,i,j,m⟩:=EH e
 match k,f with
 |0,_=>rw[g];exact a
 |1,_=>rw[i];exact b
 |2,_=>rw[j];exact c
 |3,_=>rw[m];exact d
theorem UH{G a:Gv}{i:Nat}(ok:GOk G)(go:AH G a i):∀(l n:Nat),Am G n (l:Int)->∀x y,cel a l n x y=cel G l n x y
|0,n,_,x,y=>rfl
|l+1,n,h,x,y=>by
 have e:∀k,qO a n k=qO G n k:=λk=>by
  obtain⟨q,e,_⟩:=h;unfold qO;rw[go.get e,e]
 show cel a l (qO a n _) x y=cel G l (qO G n _) x y;rw[e];exact UH ok go l _ (Mr ok h A0) x y
theorem Da{G a:Gv}{i:Nat}(ok:GOk G)(go:AH G a i){l n:Nat}(h:Am G n (l:Int)):CB a l n=CB G l n:=by
 funext x y
 unfold CB;rw[UH ok go l n h]
theorem JR.goes{r:AD}{G a:Gv}{i e n m:Nat}(ok:GOk G)(go:AH G a i)(h:JR r G e n m):JR r a e n m:=by
 obtain⟨l,b,d,c,f⟩:=h;refine⟨l,go.lev b,d,go.lev c,λx y g j=>?_⟩;rw[Da ok go b,Da ok go c];exact f x y g j
def Bs(G:Gv):Prop:=∀j:Nat,j<48->G[8+j]?=some ⟨[(bareN j:Int),(bareN j:Int),(bareN j:Int),(bareN j:Int)],(j:Int)+1⟩
theorem Bs.goes{G a:Gv}{i:Nat}(h:Bs G)(go:AH G a i):Bs a:=λj b=>go.get (h j b)
theorem Bs.zero{G:Gv}(h:Bs G):∀(l:Nat),l<=48->∀x y,cel G l (bareN l) x y=0
|0,_,x,y=>rfl
|l+1,hl,x,y=>by
 obtain⟨b,c,d,f⟩:=EH (h l A0);have e:∀k,k<4->qO G (8+l) k=bareN l:=λk a=>by
  match k,a with
  |0,_=>exact b
  |1,_=>exact c
  |2,_=>exact d
  |3,_=>exact f
 show cel G l (qO G (8+l) _) x y=0;rw[e _ A0];exact h.zero l A0 x y
theorem Tq{r:AD}(h:Cs r 0 BI=0):∀k,Br r k (λ_ _=>0)=λ_ _=>0
|0=>rfl
|k+1=>by
 show stp r (Br r k _)=_;rw[Tq h k]
 funext x y
 exact h
theorem Bs.lev{G:Gv}(ok:GOk G)(h:Bs G):∀l:Nat,l<=48->Am G (bareN l) (l:Int)
|0,_=>⟨_,ok.leaf 0 A4,rfl⟩
|l+1,hl=>⟨_,h l A0,by show(l:Int)+1=((l+1:Nat):Int);lia⟩
theorem JR.bare{r:AD}{G:Gv}(ok:GOk G)(h:Bs G)(d:Cs r 0 BI=0){l e:Nat}(a:l+2<=48)(b:e<=l):JR r G e (bareN (l+2)) (bareN (l+1)):=by
 refine⟨l,h.lev ok _ a,b,h.lev ok _ A0,λx y _ _=>?_⟩;have z:∀k,k<=48->CB G k (bareN k)=λ_ _=>0:=λk c=>by
  funext x y
  unfold CB;rw[h.zero k c x y];rfl
 rw[z _ a,z _ A0,Tq d]
theorem bec_st{r:AD}(h:FT r){cell:Int}(d:JG cell)(ar:I_):JG (Cs r cell ar):=by
 cases e:JJ r cell ar with
 |none=>rw[NA e];exact d
 |some i =>
  obtain⟨c,a,b⟩:=Nz e;rw[b];exact(h.ok c (D0 a)).makes
theorem eight_of:∀xs:List Int,xs.length=8->∃a b c d e f g h,xs=[a,b,c,d,e,f,g,h]
|[a,b,c,d,e,f,g,h],_=>⟨a,b,c,d,e,f,g,h,rfl⟩
structure IL(H:Hp)(g:GA)(G:Gv)(N M:Nat)(r:AD)(m:MA):Prop where
tp:H m.tp=some (.tup [.ref m.l,.ref m.kc])
l:H m.l=some (.lst (m.ds.map V.ref))
ap:m.l≠g.lv/\m.l≠g.pt/\m.kc≠g.nm
len:m.ds.length=47
nd:m.ds.Nodup
sq:∀(e:Nat) d,m.ds[e]?=some d->∃kv,H d=some (.dK kv)/\kv.length<=N/\(∀p∈kv,∃i,p.1=Sum.inl i)/\∀(n:Nat) v,Bj kv (Sum.inl (n:Int))=some v->∃k:Nat,v=.int (k:Int)/\JR r G e n k
ce:∃kc,H m.kc=some (.dT kc)/\kc.length<=M/\∀(ks:I_) v,Bj kc (kOf ks)=some v->∃c ar,ks=c::ar/\v=.int (Cs r c ar)
theorem IL.mono{H:Hp}{g:GA}{G:Gv}{N M i f:Nat}{r:AD}{m:MA}(h:IL H g G N M r m)(j:N<=i)(k:M<=f):IL H g G i f r m:=by
 refine⟨h.tp,h.l,h.ap,h.len,h.nd,λe d n=>?_,?_⟩
 .obtain⟨q,a,b,c,o⟩:=h.sq e d n;exact⟨q,a,D7 b j,c,o⟩
 .obtain⟨p,a,b,c⟩:=h.ce;exact⟨p,a,D7 b k,c⟩
theorem IL.kp{H p:Hp}{g:GA}{G j:Gv}{N M i:Nat}{r:AD}{m:MA}(h:IL H g G N M r m)(ok:GOk G)(go:AH G j i)(k:∀b o,H b=some o->b=m.tp\/b=m.l\/b∈m.ds\/b=m.kc->p b=some o):IL p g j N M r m:=by
 refine⟨k _ _ h.tp (.inl rfl),k _ _ h.l (.inr (.inl rfl)),h.ap,h.len,h.nd,λe d q=>?_,?_⟩
 .obtain⟨z,a,c,f,w⟩:=h.sq e d q;refine⟨z,k _ _ a (.inr (.inr (.inl (D0 q)))),c,f,λn v y=>?_⟩;obtain⟨x,t,u⟩:=w n v y;exact⟨x,t,u.goes ok go⟩
 .obtain⟨s,a,c,f⟩:=h.ce;exact⟨s,k _ _ a (.inr (.inr (.inr rfl))),c,f⟩
structure JW(a:Ad)(H:Hp)(g:GA)(G:Gv)(N M:Nat)(p dx mem pr:R_)(r:AD)(m:MA):Prop where
gr:AM a H g G
ok:GOk G
bs:Bs G
br:H g.br=some (.lst ((Dl 48).map V.int))
nbr:g.br≠g.lv/\g.br≠g.pt
hp:H p=some (.ins a.c_Jumps dx (jf5 g.p mem pr m.l m.kc))
ru:Cg a H pr (De r) r
rok:FT r
rest:Cs r 0 BI=0
me:IL H g G N M r m
theorem JW.same{a:Ad}{H c:Hp}{g:GA}{G:Gv}{N M:Nat}{p dx mem d:R_}{r:AD}{m:MA}(s:Az H c)(h:JW a H g G N M p dx mem d r m):JW a c g G N M p dx mem d r m :=
 ⟨h.gr.same s,h.ok,h.bs,s _ _ h.br,h.nbr,s _ _ h.hp,h.ru.same s,h.rok,h.rest,h.me.kp h.ok (AH.refl h.ok) λb o e _=>s _ _ e⟩
theorem JW.mono{a:Ad}{H:Hp}{g:GA}{G:Gv}{N M c b:Nat}{p dx mem d:R_}{r:AD}{m:MA}(h:JW a H g G N M p dx mem d r m)(e:N<=c)(f:M<=b):JW a H g G c b p dx mem d r m :=
 ⟨h.gr,h.ok,h.bs,h.br,h.nbr,h.hp,h.ru,h.rok,h.rest,h.me.mono e f⟩
theorem IL.fr{a:Ad}{H p:Hp}{g:GA}{G n:Gv}{N M i:Nat}{r:AD}{m:MA}(h:IL H g G N M r m)(d:AM a H g G)(ok:GOk G)(f:Fr g H p)(go:AH G n i):IL p g n N M r m:=by
 obtain⟨u,k,_⟩:=d.pt;refine h.kp ok go λb o e w=>?_;rcases w with z|z|z|z
 .have c:=h.tp;rw[<-z,e]at c;cases c;exact f _ _ e (AE e d.lv A3) (AE e k A3) (AE e d.nm A3)
 .have c:=h.l;rw[z]at e⊢;rw[e]at c;cases c;exact f _ _ e h.ap.1 h.ap.2.1 (AE e d.nm A3)
 .obtain⟨j,q⟩:=F7 z;obtain⟨t,c,_⟩:=h.sq j b q;rw[e]at c;cases c;exact f _ _ e (AE e d.lv A3) (AE e k A3) (AE e d.nm A3)
 .obtain⟨s,c,_⟩:=h.ce;rw[z]at e⊢;rw[e]at c;cases c;exact f _ _ e (AE e d.lv A3) (AE e k A3) h.ap.2.2
theorem Cg.fr{a:Ad}{H d:Hp}{g:GA}{G:Gv}{p:R_}{x:Str}{r:AD}(h:Cg a H p x r)(c:AM a H g G)(f:Fr g H d):Cg a d p x r:=by
 obtain⟨j,i,_⟩:=c.pt;exact h.kp λb o e n=>f _ _ e (AE e c.lv (by intro z;rw[z]at n;cases n)) (AE e i (by intro z;rw[z]at n;cases n)) (AE e c.nm (by intro z;rw[z]at n;cases n))
theorem JW.fr{a:Ad}{H c:Hp}{g:GA}{G b:Gv}{N M i:Nat}{p dx mem e:R_}{r:AD}{m:MA}(h:JW a H g G N M p dx mem e r m)(f:Fr g H c)(d:AM a c g b)(go:AH G b i):JW a c g b N M p dx mem e r m:=by
 obtain⟨k,j,_⟩:=h.gr.pt;refine⟨d,go.ok,h.bs.goes go,f _ _ h.br h.nbr.1 h.nbr.2 (AE h.br h.gr.nm A3),h.nbr,f _ _ h.hp (AE h.hp h.gr.lv A3) (AE h.hp j A3) (AE h.hp h.gr.nm A3),h.ru.fr h.gr f,h.rok,h.rest,h.me.fr h.gr h.ok f go⟩
def FrJ(g:GA)(m:MA)(H H':Hp):Prop:=∀b o,H b=some o->b≠g.lv->b≠g.pt->b≠g.nm->b≠m.kc->b∉m.ds->H' b=some o
theorem FrJ.trans{g:GA}{m:MA}{a c d:Hp}(h:FrJ g m a c)(k:FrJ g m c d):FrJ g m a d:=λb o e f i j l n=>k _ _ (h _ _ e f i j l n) f i j l n
theorem Fr.j{g:GA}{m:MA}{a c:Hp}(h:Fr g a c):FrJ g m a c:=λb o e d f i _ _=>h _ _ e d f i
theorem Az.j{g:GA}{m:MA}{a c:Hp}(h:Az a c):FrJ g m a c:=λb o e _ _ _ _ _=>h _ _ e
theorem JW.putC{a:Ad}{H:Hp}{g:GA}{G:Gv}{N M:Nat}{p dx mem k:R_}{r:AD}{m:MA}{i:List (List Key×V)}(h:JW a H g G N M p dx mem k r m)(len:i.length<=M+1)(j:∀(ks:I_) v,Bj i (kOf ks)=some v->∃c ar,ks=c::ar/\v=.int (Cs r c ar)):JW a (upd H m.kc (.dT i)) g G N (M+1) p dx mem k r m:=by
 obtain⟨y,x,_⟩:=h.me.ce;have f:∀{b v},H b=some v->(∀kk,v≠.dT kk)->upd H m.kc (.dT i) b=some v:=λ{b v} e n=>by rw[Ax (AE e x (n _))];exact e
 obtain⟨F,u,w⟩:=h.gr.pt;refine⟨⟨f h.gr.hp B0,f h.gr.lv B0,⟨F,f u B0,PairedM.imp (λt q z=>f z B0) w⟩,by rw[Ax (K3 h.me.ap.2.2)];exact h.gr.nm,h.gr.ne⟩,h.ok,h.bs,f h.br B0,h.nbr,f h.hp B0,h.ru.kp λb o e n=>f e λkk z=>(by rw[z]at n;cases n),h.rok,h.rest,⟨f h.me.tp B0,f h.me.l B0,h.me.ap,h.me.len,h.me.nd,λe d s=>?_,⟨i,Af,len,j⟩⟩⟩;obtain⟨A,B,C,D,E⟩:=h.me.sq e d s;exact⟨A,f B B0,C,D,E⟩
theorem JW.putS{a:Ad}{H:Hp}{g:GA}{G:Gv}{N M:Nat}{p dx mem I:R_}{r:AD}{m:MA}{e:Nat}{d:R_}{u:List (Key×V)}{n k:Nat}(h:JW a H g G N M p dx mem I r m)(C:m.ds[e]?=some d)(E:H d=some (.dK u))(jr:JR r G e n k):JW a (upd H d (.dK (Dy u (Sum.inl (n:Int)) (.int (k:Int))))) g G (N+1) M p dx mem I r m:=by
 have c:∀{b v},H b=some v->(∀kk,v≠.dK kk)->upd H d (.dK (Dy u (Sum.inl (n:Int)) (.int (k:Int)))) b=some v:=λ{b v} e n=>by rw[Ax (AE e E (n _))];exact e
 obtain⟨W,R,S⟩:=h.gr.pt;obtain⟨T,O,P,Q⟩:=h.me.ce;refine⟨⟨c h.gr.hp B0,c h.gr.lv B0,⟨W,c R B0,PairedM.imp (λt q z=>c z B0) S⟩,c h.gr.nm B0,h.gr.ne⟩,h.ok,h.bs,c h.br B0,h.nbr,c h.hp B0,h.ru.kp λb o e n=>c e λkk z=>(by rw[z]at n;cases n),h.rok,h.rest,⟨c h.me.tp B0,c h.me.l B0,h.me.ap,h.me.len,h.me.nd,λB d' f=>?_,⟨T,c O B0,P,Q⟩⟩⟩;obtain⟨w,A,U,s,L⟩:=h.me.sq B d' f;by_cases z:B=e
 .rw[z,C]at f;cases f;rw[E]at A;cases A;subst z;refine⟨_,Af,D7 (GW _ _ _) A0,λq i=>?_,λF v j=>?_⟩
  .unfold Dy at i;split at i
   .obtain⟨K,D,rfl⟩:=C8.mp i;split
    .exact s K D
    .exact s K D
   .rcases D4.mp i with y|y
    .exact s q y
    .rw[C7.mp y];exact⟨_,rfl⟩
  .rw[Fl]at j;split at j
   .rename_i y;have:F=n:=by have:=Sum.inl.inj y;lia
    rw[this];cases j;exact⟨k,rfl,jr⟩
   .exact L F v j
 .have x:d'≠d:=λy=>z (by
   rw[y]at f;exact(List.getElem?_inj (B5.mp f).1 h.me.nd).mp (f.trans C.symm))
  exact⟨w,by rw[Ax x];exact A,D7 U A0,s,L⟩
section
variable{P:N_}{w:Q_}{K:O_}{mg:C_}{base:T_}{a:Ad}
inductive SpCel(a:Ad)(vs:List V)(H:Hp)(Q:VK):Prop
|mk (p dx mem pr t:R_) (g:GA) (G:Gv) (N M:Nat) (r:AD) (m:MA) (c:Int) (ar:I_) (_:vs=[.ref p,.ref t]) (_:JW a H g G N M p dx mem pr r m) (_:H t=some (.tup ((c::ar).map V.int))) (_:ar.length=8) (_:∀x∈c::ar,JG x) (_:M<9000000) (_:∀H',(∀b o,H b=some o->b≠m.kc->H' b=some o)->JW a H' g G N (M+1) p dx mem pr r m->Q (.int (Cs r c ar)) H'):SpCel a vs H Q
def Wt(a:Ad):Sp:=λvs H Q _=>SpCel a vs H Q
theorem ok_cel(F:Fun K "cell_after" "Jumps.cell_after" CJ f fd)(T:Top K mg a)(bD:Ca P w K mg base CX0 4 a.c_Grove "state_of" Lp (ZL a))(aV:Ca P w K mg base CX0 3 a.c_Grove "leaf" SE (RV a))(bL:Cal P w K mg base CX0 5 "becomes" Mx (Wu a)):AL P w K mg base CX0 6 f fd DX (Wt a):=by
 refine F.ok Cw D_9 λae A ac s H vs Q E W h=>?_
 obtain⟨p,dx,mem,pr,t,g,G,N,M,r,m,c,ar,rfl,l,ht,h8,Y,few,k⟩:=h;obtain⟨kc,c1,c2,c3⟩:=l.me.ce;have X:H t=some (.tup ((kOf (c::ar)).map kV)):=by rw[kOf_v];exact ht
 refine⟨_,(Ac (Aq (i:=2) Cw.nd rfl O_9 (IE (EB W) (AB (pv 0) rfl) (pv 1) ⟨rfl,rfl,rfl,rfl⟩)) (Ac (AO (AA GB (pv 2) Db (AG _)) (Ac (Jh (i:=3) rfl Cw.nd rfl rfl (Bo.of (So:=Ak CJ) (No:=GE) (N:=["one","self"]) (k:=1) (cs:=[0]) rfl rfl A1) (PN (pv 1)) (λ_ _ _=>(AZ (i:=0) A1 rfl rfl)) (λ_ _ _=>BC) (λ_ _ _=>(AK (Sl (K:=K) rfl (pv 1) rfl) bD (rm W) Ao (Aa (pv 0) Ab)))) (Ac (Aq (i:=2) Cw.nd rfl O_9 (AK (AB (pv 0) rfl) aV (rm W) Ao (Aa (As bL (rm W) rfl Ao (Aa (AB (pv 0) rfl) (Aa (Aj Ay (pv 3) Ae R_9) (Aa (Ua Wv (pv 3) (Sj Ae) po_none) Ab)))) Ab))) (Ah (FM (EB W) (AB (pv 0) rfl) (pv 1) (pv 2) rfl)))) AC) (Ah (Av (pv 2))))),?_⟩
 try dsimp only[cxK]
 refine xwf rfl rfl l.hp T.cl_Jumps T.na_Jumps_known_cells (jf5_kc _ _ _ _ _) ⟨m.kc,rfl,.inr ⟨_,.inl c1⟩,(xq1 rfl ⟨_,IM.t (k:=kOf (c::ar)) c1 X,?_⟩)⟩;cases ev:Bj kc (kOf (c::ar))with
 |some v =>
  obtain⟨c',ad,e1,e2⟩:=c3 _ v ev;cases e1;rw[e2];exact xq1 rfl ⟨rfl,(xq1 rfl (Bd (xq1 rfl (k H (λb o e _=>e) (l.mono (B8 _) (Q9 _))))))⟩
 |none =>
  refine xq1 rfl ⟨rfl,(xq1 rfl (BP ?_))⟩;refine xq1 rfl ⟨t,rfl,⟨_,SqT.of ht⟩,?_⟩;refine Ny (xs:=(c::ar).map V.int) (λi d C=>H=C/\d=((c::ar).take i).map V.int) ⟨rfl,rfl⟩ (λi d C _ z=>z.1▸SqT.of ht) ?_ ?_
  .rintro i v d C R ⟨rfl,rfl⟩;rw[B6]at R;obtain⟨x,ex,rfl⟩:=C9.mp R;obtain⟨x0,x8⟩:=Y x (D0 ex);obtain⟨n,rfl⟩:=J3 x0;refine⟨⟨[some (.int (n:Int))],rfl,rfl⟩,?_,FI (xq1 rfl (xq5 l.hp T.cl_Jumps T.na_Jumps_grove (EA _ _ _ _ _) (xq3 rfl l.gr.hp (Vp g) (xq1 rfl ⟨g,G,n,_,rfl,l.gr,l.ok.leaf n A0,rfl,rfl,?_⟩))))⟩
   .rw[B4,J0];exact F2 (N5 _ _) (by rw[D6,h8];decide)
   .rw[F3,ex,R0,C3];rfl
  .rintro d C ⟨rfl,rfl⟩ L hL;rw[B4,F6];generalize I:upd H L _=H1;obtain⟨s1,S⟩:=alc hL I;have q:=l.same s1;refine xwf rfl rfl q.hp T.cl_Jumps T.na_Jumps_grove (EA _ _ _ _ _) (xq3 rfl q.gr.hp (WI g) (xwf rfl rfl q.hp T.cl_Jumps T.na_Jumps_rule (jf5_ru _ _ _ _ _) (xwi rfl rfl rfl (SqL.of S) (Ai (j:=0) rfl) ?_)));refine xq1 rfl ⟨1,rfl,L,(xq1 rfl ⟨SqL.of S,λSL ab=>?_⟩)⟩;have O:VQ ((c::ar).map V.int) (some 1) none=ar.map V.int:=by
    obtain⟨x1,x2,x3,x4,x5,x6,x7,x8,rfl⟩:=eight_of ar h8;rfl
   rw[O];generalize eM:upd H1 SL _=C;obtain⟨s2,aa⟩:=alc ab eM;have u:=q.same s2;refine⟨pr,SL,_,r,c,ar,rfl,u.ru,u.rok.rok,aa,λH3 s3=>?_⟩;have U:=u.same s3;have B:=(s1.trans s2).trans s3;have D:=bec_st l.rok (Y c C4) ar;refine⟨g.p,_,rfl,D.1,D.2,?_⟩;refine xq1 rfl (xq1 rfl (xq5 U.hp T.cl_Jumps T.na_Jumps_known_cells (jf5_kc _ _ _ _ _) (xq1 rfl ⟨m.kc,(xq1 rfl ⟨LX.t (k:=kOf (c::ar)) (B _ _ c1) (B _ _ X) (F2 (show kc.length<=9000000 by lia) A4),?_⟩)⟩)));refine xq1 rfl (k _ (λb o e n=>by rw[Ax n];exact B _ _ e) (U.putC (D7 (GW _ _ _) A0) λks v Z=>?_));rw[Fl]at Z;split at Z
   .rename_i y;rw[LI y];cases Z;exact⟨c,ar,rfl,rfl⟩
   .exact c3 ks v Z
end
def FrC(g:GA)(m:MA)(H H':Hp):Prop:=∀b o,H b=some o->b≠g.lv->b≠g.pt->b≠g.nm->b≠m.kc->H' b=some o
theorem FrC.trans{g:GA}{m:MA}{a c d:Hp}(h:FrC g m a c)(k:FrC g m c d):FrC g m a d:=λb o e f i j l=>k _ _ (h _ _ e f i j l) f i j l
theorem FrC.j{g:GA}{m:MA}{a c:Hp}(h:FrC g m a c):FrJ g m a c:=λb o e d f i k _=>h _ _ e d f i k
theorem Fr.c{g:GA}{m:MA}{a d:Hp}(h:Fr g a d):FrC g m a d:=λb o e f i j _=>h _ _ e f i j
def spNo:Sp:=λ_ _ _ _=>False
theorem AL.no{P:N_}{w:Q_}{K:O_}{mg:C_}{a:T_}{CX:CXT}{k:Nat}{f:R_}{b:E_}{ps:K_}:AL P w K mg a CX k f b ps spNo :=
 ⟨λ_ _ _ _ h=>h.elim,λ_ _ _ _ _ _ _ _ _ _ _ _ _ h=>h.elim⟩
theorem bareJ{l:Nat}(h:l<=48):((Dl 48).map V.int)[l]?=some (.int (bareN l:Int)):=by
 unfold Dl;rw[B6,B6,O6 A0];rfl
section
variable{P:N_}{w:Q_}{K:O_}{mg:C_}{base:T_}{a:Ad}
theorem tretl {c:TA} {D:NB} {σ:St} {H:Hp} (h:c σ H λxs b=>xs.length<=sizeLine/\∀p,b p=none->D.rt (.ref p) (upd b p (.lst xs))):tRet (tLst c) D σ H:=h
theorem GN {b:TE} {c:TA} {σ:St} {H:Hp} {Q:List V->Hp->Prop} (h:b σ H λx d=>c σ d λxs e=>Q (x::xs) e):CO b c σ H Q:=h
theorem ixt{K:O_}{σ:St}{i:Nat}{H:Hp}{t:R_}{xs:List V}{j:Int}{v:V}{Q:VK}(r:σ[i]?=some (some (.ref t)))(h:H t=some (.tup xs))(e:atI xs j=some v)(k:Q v H):tOp (LV K) (GZ i) (tC (V.int j)) σ H Q:=⟨_,r,t,xs,j,v,rfl,rfl,SqT.of h,e,k⟩
theorem ixp{K:O_}{H:Hp}{p t:R_}{b:H_}{n:Nat}{Q:VK}(h:H p=some (.lst (b.map V.ref)))(e:b[n]?=some t)(k:Q (.ref t) H):rIxL K (.ref p) (.int n) H Q:=⟨p,_,n,_,rfl,rfl,SqL.of h,Ai (by rw[B6,e];rfl),k⟩
structure Ln(a:Ad)(g:GA)(H0:Hp)(G0:Gv)(j:Nat)(H:Hp)(G:Gv):Prop where
fr:Fr g H0 H
kt:∀{b:R_}{xs:List V},H0 b=some (.tup xs)->H b=some (.tup xs)
gr:AM a H g G
go:AH G0 G j
theorem lnk{a:Ad}{r H:Hp}{g:GA}{G0 G:Gv}{j:Nat}{u:R_}{x y z w:Nat}{l:Int}{Q:VK}(s:Ln a g r G0 j H G)(A:H u=none)(d:Am G0 x l/\Am G0 y l/\Am G0 z l/\Am G0 w l)(o:l<=47)(few:G0.length+j<9000000)
  (k:∀(n:Nat)(c:Gv)(f:Hp),Ln a g r G0 (j+1) f c->AH G c 1->c[n]?=some ⟨[(x:Int),(y:Int),(z:Int),(w:Int)],l+1⟩->Q (.int n) f):VY a [.ref g.p,.ref u] (upd H u (.tup [.int x,.int y,.int z,.int w])) Q:=by
 generalize m:upd H u _=C;obtain⟨q,t⟩:=alc A m;have i:=s.gr.same q;have D:=s.go.few;refine⟨g,G,u,x,y,z,w,l,rfl,i,s.go.ok,t,⟨s.go.lev d.1,s.go.lev d.2.1,s.go.lev d.2.2.1,s.go.lev d.2.2.2⟩,o,by lia,λn c f fr v go e=>k n c f ⟨s.fr.trans ((Az.fr q).trans fr),λ{b xs} e=>?_,v,s.go.trans go⟩ go e⟩;obtain⟨us,B,_⟩:=i.pt;have h:=q _ _ (s.kt e);exact fr _ _ h (AE h i.lv A3) (AE h B A3) (AE h i.nm A3)
theorem ttup {c:TA} {σ:St} {H:Hp} {Q:VK} (h:c σ H λxs b=>xs.length<=sizeLine/\∀p,b p=none->Q (.ref p) (upd b p (.tup xs))):ZE c σ H Q:=h
theorem al9{P:Int->Prop}{a b c d e f g h i:Int}(k:P a)(l:P b)(m:P c)(n:P d)(o:P e)(p:P f)(q:P g)(r:P h)(s:P i):∀x∈[a,b,c,d,e,f,g,h,i],P x:=by
 intro x j;simp only[B7,D3,A0c]at j;rcases j with rfl|rfl|rfl|rfl|rfl|rfl|rfl|rfl|rfl<;>assumption
structure Lc(g:GA)(m:MA)(H0 H:Hp):Prop where
fr:FrC g m H0 H
kt:∀{b:R_}{xs:List V},H0 b=some (.tup xs)->H b=some (.tup xs)
theorem celT{a:Ad}{n H:Hp}{g:GA}{G:Gv}{N M:Nat}{p dx mem l u:R_}{r:AD}{m:MA}{c:Int}{ar:I_}{Q:VK}(q:JW a H g G N M p dx mem l r m)(t:Lc g m n H)(A:H u=none)(d:∀x∈c::ar,JG x)(z:ar.length=8)(y:M<9000000)
  (h:∀(k:Nat)(Y:Hp),Cs r c ar=k->k<8->Lc g m n Y->JW a Y g G N (M+1) p dx mem l r m->Q (.int k) Y):SpCel a [.ref p,.ref u] (upd H u (.tup ((c::ar).map V.int))) Q:=by
 generalize f:upd H u _=X;obtain⟨s,B⟩:=alc A f;have i:=q.same s;refine⟨p,dx,mem,l,u,g,G,N,M,r,m,c,ar,rfl,i,B,z,d,y,λY fr j=>?_⟩;obtain⟨D,F⟩:=bec_st q.rok (d c (.head ..)) ar;obtain⟨k,e⟩:=J3 D;rw[e];refine h k Y e A0 ⟨t.fr.trans λb o e _ _ _ C=>fr _ _ (s _ _ e) C,λ{b xs} e=>?_⟩ j;obtain⟨E,v,_⟩:=i.me.ce;have e:=s _ _ (t.kt e);exact fr _ _ e (AE e v A3)
theorem cel9{K:O_}{a:Ad}{b H:Hp}{g:GA}{G:Gv}{N M:Nat}{p dx mem pr:R_}{r:AD}{m:MA}{σ:St}{Q:VK}{I L O R S T U X Z:Nat}{t1 t2 t3 t4 t5 t6 t7 t8 t9:R_}{f h i j l n o q s:List V}{j1 j2 j3 j4 j5 j6 j7 j8 j9 t u v y z A B C D:Int}(F:JW a H g G N M p dx mem pr r m)(c:Lc g m b H)(h1:b t1=some (.tup f))(h2:b t2=some (.tup h))(h3:b t3=some (.tup i))(h4:b t4=some (.tup j))(h5:b t5=some (.tup l))(h6:b t6=some (.tup n))(h7:b t7=some (.tup o))(h8:b t8=some (.tup q))(h9:b t9=some (.tup s))(E:∀x∈[t,u,v,y,z,A,B,C,D],JG x)(hM:M<9000000)
  (k:∀(k:Nat)(Y:Hp),Cs r t [u,v,y,z,A,B,C,D]=k->k<8->Lc g m b Y->JW a Y g G N (M+1) p dx mem pr r m->Q (.int k) Y) (e:σ[0]?=some (some (.ref p))/\(σ[I]?=some (some (.ref t1))/\atI f j1=some (.int t))/\(σ[L]?=some (some (.ref t2))/\atI h j2=some (.int u))/\(σ[O]?=some (some (.ref t3))/\atI i j3=some (.int v))/\(σ[R]?=some (some (.ref t4))/\atI j j4=some (.int y))/\(σ[S]?=some (some (.ref t5))/\atI l j5=some (.int z))/\(σ[T]?=some (some (.ref t6))/\atI n j6=some (.int A))/\(σ[U]?=some (some (.ref t7))/\atI o j7=some (.int B))/\(σ[X]?=some (some (.ref t8))/\atI q j8=some (.int C))/\(σ[Z]?=some (some (.ref t9))/\atI s j9=some (.int D)):=by exact⟨rfl,⟨rfl,rfl⟩,⟨rfl,rfl⟩,⟨rfl,rfl⟩,⟨rfl,rfl⟩,⟨rfl,rfl⟩,⟨rfl,rfl⟩,⟨rfl,rfl⟩,⟨rfl,rfl⟩,⟨rfl,rfl⟩⟩) :
  Wh a.c_Jumps "cell_after" (Wt a) [] E0 (GZ 0) (CO (ZE (CO (tOp (LV K) (GZ I) (tC (V.int j1))) (CO (tOp (LV K) (GZ L) (tC (V.int j2))) (CO (tOp (LV K) (GZ O) (tC (V.int j3))) (CO (tOp (LV K) (GZ R) (tC (V.int j4))) (CO (tOp (LV K) (GZ S) (tC (V.int j5))) (CO (tOp (LV K) (GZ T) (tC (V.int j6))) (CO (tOp (LV K) (GZ U) (tC (V.int j7))) (CO (tOp (LV K) (GZ X) (tC (V.int j8))) (CO (tOp (LV K) (GZ Z) (tC (V.int j9))) QC)))))))))) QC) σ H Q:=by
 apply AN;intro G_ d;obtain⟨r0,⟨r1,e1⟩,⟨r2,e2⟩,⟨r3,e3⟩,⟨r4,e4⟩,⟨r5,e5⟩,⟨r6,e6⟩,⟨r7,e7⟩,⟨r8,e8⟩,⟨r9,e9⟩⟩:=e;apply d;clear d G_;exact⟨_,r0,(xq3 rfl F.hp (noJ_cell _ _ _ _ _) (ixt r1 (c.kt h1) e1 (ixt r2 (c.kt h2) e2 (ixt r3 (c.kt h3) e3 (ixt r4 (c.kt h4) e4 (ixt r5 (c.kt h5) e5 (ixt r6 (c.kt h6) e6 (ixt r7 (c.kt h7) e7 (ixt r8 (c.kt h8) e8 (ixt r9 (c.kt h9) e9 ⟨(by show 9<=sizeLine;decide),λ_ hu=>celT F c hu E rfl hM k⟩))))))))))⟩
inductive SpMid2(a:Ad)(vs:List V)(H:Hp)(Q:VK):Prop
|mk (p dx mem pr:R_) (g:GA) (G:Gv) (N M:Nat) (r:AD) (m:MA) (n:Nat) (_:vs=[.ref p,.int n]) (_:JW a H g G N M p dx mem pr r m) (_:Am G n ((1+1:Nat):Int)) (_:M<8500000) (_:G.length<8000000) (_:∀(k:Nat)(G':Gv)(H':Hp),FrC g m H H'->JW a H' g G' N (M+4) p dx mem pr r m->AH G G' 1->JR r G' 0 n k->Q (.int k) H'):SpMid2 a vs H Q
def RU(a:Ad):Sp:=λvs H Q _=>SpMid2 a vs H Q
theorem ok_mid2(F:Fun K "middle_after" "Jumps.middle_after" Dh f fd)(T:Top K mg a)(a6:Ca P w K mg base CX0 2 a.c_Grove "linked" AU (DQ a))(aI:Ca P w K mg base CX0 6 a.c_Jumps "cell_after" DX (Wt a)):AL P w K mg base CX0 7 f fd Lp (RU a):=by
 refine F.ok Bk (λvs H Q E h=>?_) (λbg A au s H vs Q E S h=>?_)
 .apply AN;intro L y;obtain⟨p,dx,mem,pr,g,G,N,M,r,m,n,rfl,_⟩:=h;apply y;clear y L;rfl
 .apply AN;intro L y;obtain⟨p,dx,mem,pr,g,G,N,M,r,m,n,rfl,d,hl,a4,few,k⟩:=h;obtain⟨qa,qb,qc,qd,en,la,lb,lc,ld⟩:=d.ok.four hl;obtain⟨a0,a1,a2,a3,ea,ao,U,V,B⟩:=d.ok.four (l:=0) la;obtain⟨b0,b1,b2,b3,eb,W,aq,C,X⟩:=d.ok.four (l:=0) lb;obtain⟨c0,c1,c2,c3,ec,Y,D,ar,Z⟩:=d.ok.four (l:=0) lc;obtain⟨d0,d1,d2,d3,ed,I,aa,ab,as⟩:=d.ok.four (l:=0) ld;obtain⟨ts,O,R⟩:=d.gr.pt;obtain⟨t,et,ht⟩:=PairedM.get R en;obtain⟨ta,ag,j⟩:=PairedM.get R ea;obtain⟨tb,ah,o⟩:=PairedM.get R eb;obtain⟨tc,ai,q⟩:=PairedM.get R ec;obtain⟨td,aj,v⟩:=PairedM.get R ed;apply y;clear y L;refine⟨_,(Ac (Aq (i:=2) Bk.nd rfl O_9 (Aj Ay (AB (AB (pv 0) rfl) rfl) (pv 1) R_9)) (Ac (Aq (i:=3) Bk.nd rfl O_9 (Aj Ay (AB (AB (pv 0) rfl) rfl) (Aj Al (pv 2) Ae R_9) R_9)) (Ac (Aq (i:=4) Bk.nd rfl O_9 (Aj Ay (AB (AB (pv 0) rfl) rfl) (Aj Al (pv 2) Ae R_9) R_9)) (Ac (Aq (i:=5) Bk.nd rfl O_9 (Aj Ay (AB (AB (pv 0) rfl) rfl) (Aj Al (pv 2) Ae R_9) R_9)) (Ac (Aq (i:=6) Bk.nd rfl O_9 (Aj Ay (AB (AB (pv 0) rfl) rfl) (Aj Al (pv 2) Ae R_9) R_9)) (Ah (Av (AK (AB (pv 0) rfl) a6 (rm S) Ao (Bm (Aa (AK (pv 0) aI (rm S) Ao (Bm (Aa (Aj Al (pv 3) Ae R_9) (Aa (Aj Al (pv 3) Ae R_9) (Aa (Aj Al (pv 3) Ae R_9) (Aa (Aj Al (pv 4) Ae R_9) (Aa (Aj Al (pv 3) Ae R_9) (Aa (Aj Al (pv 4) Ae R_9) (Aa (Aj Al (pv 5) Ae R_9) (Aa (Aj Al (pv 5) Ae R_9) (Aa (Aj Al (pv 6) Ae R_9) Ab))))))))) Ab)) (Aa (AK (pv 0) aI (rm S) Ao (Bm (Aa (Aj Al (pv 4) Ae R_9) (Aa (Aj Al (pv 3) Ae R_9) (Aa (Aj Al (pv 4) Ae R_9) (Aa (Aj Al (pv 4) Ae R_9) (Aa (Aj Al (pv 3) Ae R_9) (Aa (Aj Al (pv 4) Ae R_9) (Aa (Aj Al (pv 5) Ae R_9) (Aa (Aj Al (pv 6) Ae R_9) (Aa (Aj Al (pv 6) Ae R_9) Ab))))))))) Ab)) (Aa (AK (pv 0) aI (rm S) Ao (Bm (Aa (Aj Al (pv 5) Ae R_9) (Aa (Aj Al (pv 3) Ae R_9) (Aa (Aj Al (pv 3) Ae R_9) (Aa (Aj Al (pv 4) Ae R_9) (Aa (Aj Al (pv 5) Ae R_9) (Aa (Aj Al (pv 6) Ae R_9) (Aa (Aj Al (pv 5) Ae R_9) (Aa (Aj Al (pv 5) Ae R_9) (Aa (Aj Al (pv 6) Ae R_9) Ab))))))))) Ab)) (Aa (AK (pv 0) aI (rm S) Ao (Bm (Aa (Aj Al (pv 6) Ae R_9) (Aa (Aj Al (pv 3) Ae R_9) (Aa (Aj Al (pv 4) Ae R_9) (Aa (Aj Al (pv 4) Ae R_9) (Aa (Aj Al (pv 5) Ae R_9) (Aa (Aj Al (pv 6) Ae R_9) (Aa (Aj Al (pv 5) Ae R_9) (Aa (Aj Al (pv 6) Ae R_9) (Aa (Aj Al (pv 6) Ae R_9) Ab))))))))) Ab)) Ab)))) Ab))))))))),?_⟩
  try dsimp only[cxK]
  refine BU ?_;intro a5 bb k0 z av;refine xwf rfl rfl d.hp T.cl_Jumps T.na_Jumps_grove (EA _ _ _ _ _) (xq5 d.gr.hp T.cl_Grove T.na_Grove_parts (BY g) (xq1 rfl (ixp O et ?_)));refine z ?_;refine BU ?_;intro a7 bc k1 z aw;refine xwf rfl rfl d.hp T.cl_Jumps T.na_Jumps_grove (EA _ _ _ _ _) (xq5 d.gr.hp T.cl_Grove T.na_Grove_parts (BY g) (ixt rfl ht rfl (ixp O ag ?_)));refine z ?_;refine BU ?_;intro a8 bd k2 z ax;refine xwf rfl rfl d.hp T.cl_Jumps T.na_Jumps_grove (EA _ _ _ _ _) (xq5 d.gr.hp T.cl_Grove T.na_Grove_parts (BY g) (ixt rfl ht rfl (ixp O ah ?_)));refine z ?_;refine BU ?_;intro a9 be k3 z ay;refine xwf rfl rfl d.hp T.cl_Jumps T.na_Jumps_grove (EA _ _ _ _ _) (xq5 d.gr.hp T.cl_Grove T.na_Grove_parts (BY g) (ixt rfl ht rfl (ixp O ai ?_)));refine z ?_;refine BU ?_;intro ba bf k4 z az;refine xwf rfl rfl d.hp T.cl_Jumps T.na_Jumps_grove (EA _ _ _ _ _) (xq5 d.gr.hp T.cl_Grove T.na_Grove_parts (BY g) (ixt rfl ht rfl (ixp O aj ?_)));refine z ?_;have b:∀{x:Nat},Am G x ((0:Nat):Int)->JG (x:Int):=λ{x} h=>by
   have:=d.ok.cell h;exact⟨by lia,by lia⟩
  have c_:Lc g m H H:=⟨λ_ _ e _ _ _ _=>e,λe=>e⟩
  refine xwf rfl rfl d.hp T.cl_Jumps T.na_Jumps_grove (EA _ _ _ _ _) (xq3 rfl d.gr.hp (BJ g) ?_);refine GN (ttup (GN (cel9 d c_ j j j o j o q q v (al9 (b B) (b ao) (b U) (b W) (b V) (b C) (b Y) (b D) (b I)) A0 λk0 Y0 ac ak x0 j0=>?_)));refine GN (cel9 j0 x0 o j o o j o q v v (al9 (b C) (b U) (b W) (b aq) (b B) (b X) (b D) (b I) (b aa)) A0 λk1 Y1 ad al x1 j1=>?_);refine GN (cel9 j1 x1 q j j o q v q q v (al9 (b D) (b V) (b B) (b C) (b Y) (b I) (b ar) (b Z) (b ab)) A0 λk2 Y2 ae am x2 j2=>?_);refine GN (cel9 j2 x2 v j o o q v q v v (al9 (b I) (b B) (b C) (b X) (b D) (b aa) (b Z) (b ab) (b as)) A0 λk3 Y3 af an x3 j3=>?_);have lf:∀{k:Nat},k<8->Am G k ((0:Nat):Int):=λ{k} h=>⟨_,d.ok.leaf k h,rfl⟩
  refine⟨S_4,λu hu=>lnk (⟨.refl _ _,λe=>e,j3.gr,.refl d.ok⟩:Ln a g Y3 G 0 Y3 G) hu ⟨lf ak,lf al,lf am,lf an⟩ A4 A0 λx G' H' s go e=>?_⟩;refine k x G' H' (x3.fr.trans (Fr.c s.fr)) (j3.fr s.fr s.gr go) go ⟨0,go.lev hl,B8 0,⟨_,e,rfl⟩,?_⟩;apply AN;intro L y;obtain⟨rfl,rfl,rfl,rfl⟩:=EH (go.get ea);obtain⟨rfl,rfl,rfl,rfl⟩:=EH (go.get eb);obtain⟨rfl,rfl,rfl,rfl⟩:=EH (go.get ec);obtain⟨rfl,rfl,rfl,rfl⟩:=EH (go.get ed);obtain⟨rfl,rfl,rfl,rfl⟩:=EH (go.get en);obtain⟨rfl,rfl,rfl,rfl⟩:=EH e;apply y;clear y L;intro x' y' hx hy
  match x',hx,y',hy with
  |0,_,0,_=>exact ac.symm
  |1,_,0,_=>exact ad.symm
  |0,_,1,_=>exact ae.symm
  |1,_,1,_=>exact af.symm
inductive SpCj(a:Ad)(vs:List V)(H:Hp)(Q:VK):Prop
|mk (p dx gp mem pr l kc:R_) (g:GA) (G:Gv) (n e:Nat) (q:Sq) (_:vs=[.ref p,.int n,.int e]) (_:H p=some (.ins a.c_Jumps dx (jf5 g.p mem pr l kc))) (_:AM a H g G) (_:G[n]?=some q) (_:2+(e:Int)<=q.lev) (_:Q .non H):SpCj a vs H Q
def spCj(a:Ad):Sp:=λvs H Q _=>SpCj a vs H Q
theorem ok_cj(F:Fun K "check_jump" "Jumps.check_jump" DS f fd)(T:Top K mg a)(r:Ca P w K mg base CX0 3 a.c_Grove "level_of" Lp (MF a))(t:Cal P w K mg base CX0 1 "is_whole" Vt Yz):AL P w K mg base CX0 4 f fd QS (spCj a):=by
 refine F.ok FE (λvs H Q E h=>?_) (λu A d s H vs Q E o h=>?_)
 .apply AN;intro c b;obtain⟨p,dx,v,mem,y,l,x,g,G,n,e,q,rfl,_⟩:=h;apply b;clear b c;rfl
 .apply AN;intro c b;obtain⟨p,dx,v,mem,y,l,x,g,G,n,e,q,rfl,m,j,eq,z,k⟩:=h;apply b;clear b c;refine⟨_,(Ac (Aq (i:=3) FE.nd rfl O_9 (AK (AB (pv 0) rfl) r (rm o) Ao (Aa (pv 1) Ab))) (Ac (AO (AA JF (pv 3) (BX rfl T.k_LEAST_JUMPED) (AG _)) (Ah Bl) AC) (Ah (AO (PW.pt (PL (Er (DT (As t (rm o) rfl Ao (Aa (pv 2) Ab)))) (Ms (Er (TY MZ MZ Ae (pv 2) (AF Cv (pv 3) (BX rfl T.k_LEAST_JUMPED))))))) (Ah Bl) AC)))),?_⟩
  try dsimp only[cxK]
  refine xwf rfl rfl m T.cl_Jumps T.na_Jumps_grove (EA _ _ _ _ _) (xq3 rfl j.hp (DY g) (xq1 rfl ⟨g,G,n,q,rfl,j,eq,?_⟩));refine xwb rfl rfl rfl (xq1 rfl ?_);rw[X9 (by lia:¬q.lev<2)];refine Bd ?_;refine⟨_,rfl,_,rfl,true,rfl,Bd ⟨_,rfl,_,_,rfl,rfl,_,rfl,?_⟩⟩;rw[X8 (by lia:(0:Int)<=(e:Int))];refine BP (xwb rfl rfl rfl (xq2 rfl rfl (xq1 rfl ?_)));rw[X8 (by lia:(e:Int)<=q.lev-2)];exact Bd k
end
end J
namespace J
open PySem L2
theorem SY(G:Gv):∀(l n x y i j:Nat),cel G l n (x+2^l*i) (y+2^l*j)=cel G l n x y
|0,n,x,y,i,j=>rfl
|l+1,n,x,y,i,j=>by
 show cel G l (qO G n (((x+2^(l+1)*i)/2^l)%2+2*(((y+2^(l+1)*j)/2^l)%2))) (x+2^(l+1)*i) (y+2^(l+1)*j)=cel G l (qO G n ((x/2^l)%2+2*((y/2^l)%2))) x y;have p:0<2^l:=V1 A4;have e:∀i:Nat,2^(l+1)*i=2^l*(2*i):=λi=>by rw[F9,Nat.mul_assoc]
 rw[e i,e j,N4 _ _ p,N4 _ _ p,N6,N6];exact SY G l _ x y (2*i) (2*j)
theorem Qy(G:Gv)(l n:Nat){x y i j:Nat}(c:x<2^l)(d:y<2^l)(a:i<2)(b:j<2):CB G (l+1) n (x+2^l*i) (y+2^l*j)=CB G l (qO G n (i+2*j)) x y:=by
 unfold CB;show((cel G l (qO G n (((x+2^l*i)/2^l)%2+2*(((y+2^l*j)/2^l)%2))) (x+2^l*i) (y+2^l*j):Nat):Int)=_;have p:0<2^l:=V1 A4;rw[N4 _ _ p,N4 _ _ p,L6 c,L6 d,M4,M4,J8 a,J8 b,SY]
theorem Ts(r:AD)(c:Nat->Nat->Int)(n:Nat):∀m,Br r (m+n) c=Br r m (Br r n c)
|0=>by rw[M4];rfl
|m+1=>by
 rw[show m+1+n=(m+n)+1 by lia];show stp r (Br r (m+n) c)=stp r (Br r m (Br r n c));rw[Ts r c n m]
theorem Tr(r:AD){c d:Nat->Nat->Int}{X Y:Nat}:∀(k x y:Nat),k<=x->k<=y->(∀u v,x-k<=u->u<=x+k->y-k<=v->v<=y+k->c u v=d (u+X) (v+Y))->Br r k c x y=Br r k d (x+X) (y+Y)
|0,x,y,_,_,h=>h x y A0 A0 A0 A0
|k+1,x,y,hx,hy,h=>by
 have e:∀u v,x-1<=u->u<=x+1->y-1<=v->v<=y+1->Br r k c u v=Br r k d (u+X) (v+Y):=λu v f g i j=>Tr r k u v A0 A0 λa b l m n o=>h a b A0 A0 A0 A0;show Cs r (Br r k c x y) [Br r k c (x-1) (y-1),Br r k c x (y-1),Br r k c (x+1) (y-1),Br r k c (x-1) y,Br r k c (x+1) y,Br r k c (x-1) (y+1),Br r k c x (y+1),Br r k c (x+1) (y+1)]=Cs r (Br r k d (x+X) (y+Y)) [Br r k d (x+X-1) (y+Y-1),Br r k d (x+X) (y+Y-1),Br r k d (x+X+1) (y+Y-1),Br r k d (x+X-1) (y+Y),Br r k d (x+X+1) (y+Y),Br r k d (x+X-1) (y+Y+1),Br r k d (x+X) (y+Y+1),Br r k d (x+X+1) (y+Y+1)];rw[e x y A0 A0 A0 A0,e (x-1) (y-1) A0 A0 A0 A0,e x (y-1) A0 A0 A0 A0,e (x+1) (y-1) A0 A0 A0 A0,e (x-1) y A0 A0 A0 A0,e (x+1) y A0 A0 A0 A0,e (x-1) (y+1) A0 A0 A0 A0,e x (y+1) A0 A0 A0 A0,e (x+1) (y+1) A0 A0 A0 A0];rw[show x-1+X=x+X-1 by lia,show y-1+Y=y+Y-1 by lia,show x+1+X=x+X+1 by lia,show y+1+Y=y+Y+1 by lia]
def Vw(G:Gv)(c:Nat->Nat->Int)(l m X Y:Nat):Prop:=∀x y,x<2^l->y<2^l->CB G l m x y=c (x+X) (y+Y)
theorem Vw.q{G:Gv}{c:Nat->Nat->Int}{l m X Y i j:Nat}(h:Vw G c (l+1) m X Y)(a:i<2)(b:j<2):Vw G c l (qO G m (i+2*j)) (X+2^l*i) (Y+2^l*j):=λx y d e=>by
 rw[<-Qy G l m d e a b,h _ _ ?_ ?_]
 .rw[show x+2^l*i+X=x+(X+2^l*i) by lia,show y+2^l*j+Y=y+(Y+2^l*j) by lia]
 .rw[F9];have:2^l*i<=2^l*1:=L5 _ A0;lia
 .rw[F9];have:2^l*j<=2^l*1:=L5 _ A0;lia
theorem Vw.of{G:Gv}{c:Nat->Nat->Int}{l m X Y:Nat}(d:Vw G c l (qO G m 0) X Y)(e:Vw G c l (qO G m 1) (X+2^l) Y)(f:Vw G c l (qO G m 2) X (Y+2^l))(g:Vw G c l (qO G m 3) (X+2^l) (Y+2^l)):Vw G c (l+1) m X Y:=λx y h k=>by
 rw[F9]at h k;by_cases b:x<2^l
 .by_cases a:y<2^l
  .have:=Qy G l m b a (i:=0) (j:=0) A4 A4;rw[show x+2^l*0=x by lia,show y+2^l*0=y by lia]at this;rw[this];exact d x y b a
  .have:=Qy G l m b (y:=y-2^l) A0 (i:=0) (j:=1) A4 A4;rw[show x+2^l*0=x by lia,show y-2^l+2^l*1=y by lia]at this;rw[this,f x (y-2^l) b A0,show y-2^l+(Y+2^l)=y+Y by lia]
 .by_cases a:y<2^l
  .have:=Qy G l m (x:=x-2^l) A0 a (i:=1) (j:=0) A4 A4;rw[show y+2^l*0=y by lia,show x-2^l+2^l*1=x by lia]at this;rw[this,e (x-2^l) y A0 a,show x-2^l+(X+2^l)=x+X by lia]
  .have:=Qy G l m (x:=x-2^l) (y:=y-2^l) A0 A0 (i:=1) (j:=1) A4 A4;rw[show x-2^l+2^l*1=x by lia,show y-2^l+2^l*1=y by lia]at this;rw[this,g (x-2^l) (y-2^l) A0 A0,show x-2^l+(X+2^l)=x+X by lia,show y-2^l+(Y+2^l)=y+Y by lia]
theorem Vw.jump{G:Gv}{r:AD}{c:Nat->Nat->Int}{l e m k X Y:Nat}(h:Vw G c (l+2) m X Y)(a:e<=l)(j:∀x y,x<2^(l+1)->y<2^(l+1)->CB G (l+1) k x y=Br r (2^e) (CB G (l+2) m) (x+2^l) (y+2^l)):Vw G (Br r (2^e) c) (l+1) k (X+2^l) (Y+2^l):=λx y b d=>by
 have p:2^e<=2^l:=N9 A4 a;have o:2^(l+1)=2^l*2:=F9 ..;have q:2^(l+2)=2^l*2*2:=by rw[F9,F9]
 rw[j x y b d,Tr r (X:=X) (Y:=Y) (2^e) (x+2^l) (y+2^l) A0 A0 λu v f g i n=>h u v A0 A0];rw[show x+2^l+X=x+(X+2^l) by lia,show y+2^l+Y=y+(Y+2^l) by lia]
seal L2.PA L2.PE L2.PS L2.PSs L2.PT L2.PW
theorem Vw.at'{G:Gv}{c:Nat->Nat->Int}{l m X Y X' Y':Nat}(h:Vw G c l m X Y)(a:X=X')(b:Y=Y'):Vw G c l m X' Y':=by
 subst a;subst b;exact h
theorem Vw.goes{G a:Gv}{c:Nat->Nat->Int}{l m X Y i:Nat}(h:Vw G c l m X Y)(ok:GOk G)(go:AH G a i)(e:Am G m (l:Int)):Vw a c l m X Y:=λx y b d=>by
 rw[Da ok go e];exact h x y b d
section
variable{P:N_}{w:Q_}{K:O_}{mg:C_}{base:T_}{a:Ad}
inductive SpNine(a:Ad)(vs:List V)(H:Hp)(Q:VK):Prop
|mk (g:GA) (G:Gv) (n l:Nat) (_:vs=[.ref g.p,.int n]) (_:AM a H g G) (_:GOk G) (_:Am G n ((l+1+1:Nat):Int)) (_:l<=46) (_:G.length<8000000) (_:∀(L:R_)(ks:J_)(G':Gv)(H':Hp),Fr g H H'->AM a H' g G'->AH G G' 5->H' L=some (.lst (ks.map λ(k:Nat)=>V.int (k:Int)))->ks.length=9->(∀i j,i<3->j<3->∃k,ks[i+3*j]?=some k/\Am G' k ((l+1:Nat):Int)/\Vw G' (CB G (l+2) n) (l+1) k (2^l*i) (2^l*j))->Q (.ref L) H'):SpNine a vs H Q
def Pm(a:Ad):Sp:=λvs H Q _=>SpNine a vs H Q
theorem lnk4{K:O_}{a:Ad}{b H:Hp}{g:GA}{G0 G:Gv}{j:Nat}{σ:St}{q t u v:Nat}{E F I L:R_}{d f h i:List V}{A B C D:Int}{x y z w:Nat}{l:Int}{Q:VK}(s:Ln a g b G0 j H G)(T:b E=some (.tup d))(U:b F=some (.tup f))(X:b I=some (.tup h))(Y:b L=some (.tup i))(lv:Am G0 x l/\Am G0 y l/\Am G0 z l/\Am G0 w l)(few:l<=47/\G0.length+j<9000000)
  (k:∀(n:Nat)(m:Gv)(o:Hp),Ln a g b G0 (j+1) o m->AH G m 1->m[n]?=some ⟨[(x:Int),(y:Int),(z:Int),(w:Int)],l+1⟩->Q (.int n) o) (e:(σ[0]?=some (some (.ref g.p))/\σ[q]?=some (some (.ref E))/\σ[t]?=some (some (.ref F))/\σ[u]?=some (some (.ref I))/\σ[v]?=some (some (.ref L)))/\atI d A=some (.int x)/\atI f B=some (.int y)/\atI h C=some (.int z)/\atI i D=some (.int w):=by exact⟨⟨rfl,rfl,rfl,rfl,rfl⟩,rfl,rfl,rfl,rfl⟩):Wh a.c_Grove "linked" (DQ a) [] E0 (GZ 0) (CO (ZE (CO (tOp (LV K) (GZ q) (tC (V.int A))) (CO (tOp (LV K) (GZ t) (tC (V.int B))) (CO (tOp (LV K) (GZ u) (tC (V.int C))) (CO (tOp (LV K) (GZ v) (tC (V.int D))) QC))))) QC) σ H Q:=by
 apply AN;intro M c;obtain⟨⟨r,r1,r2,r3,r4⟩,N,O,R,S⟩:=e;apply c;clear c M;exact⟨_,r,(xq3 rfl s.gr.hp (BJ g) (ixt r1 (s.kt T) N (ixt r2 (s.kt U) O (ixt r3 (s.kt X) R (ixt r4 (s.kt Y) S ⟨S_4,λ_ Z=>lnk s Z lv few.1 few.2 k⟩)))))⟩
theorem vw4{G:Gv}{c:Nat->Nat->Int}{l m x y z w X Y:Nat}{j:Int}(e:G[m]?=some ⟨[(x:Int),(y:Int),(z:Int),(w:Int)],j⟩)(f:Vw G c l x (2^l*X) (2^l*Y))(g:Vw G c l y (2^l*(X+1)) (2^l*Y))(h:Vw G c l z (2^l*X) (2^l*(Y+1)))(i:Vw G c l w (2^l*(X+1)) (2^l*(Y+1))):Vw G c (l+1) m (2^l*X) (2^l*Y):=by
 apply AN;intro d b;obtain⟨rfl,rfl,rfl,rfl⟩:=EH e;apply b;clear b d;exact .of f g h i
theorem vwQ{G:Gv}{c:Nat->Nat->Int}{l m x y z w X Y:Nat}{f:Int}(e:G[m]?=some ⟨[(x:Int),(y:Int),(z:Int),(w:Int)],f⟩)(v:Vw G c (l+1) m (2^l*X) (2^l*Y)):Vw G c l x (2^l*X) (2^l*Y)/\Vw G c l y (2^l*(X+1)) (2^l*Y)/\Vw G c l z (2^l*X) (2^l*(Y+1))/\Vw G c l w (2^l*(X+1)) (2^l*(Y+1)):=by
 apply AN;intro d b;obtain⟨rfl,rfl,rfl,rfl⟩:=EH e;apply b;clear b d;exact⟨v.q (i:=0) (j:=0) A4 A4,(v.q (i:=1) (j:=0) A4 A4).at' A0 rfl,(v.q (i:=0) (j:=1) A4 A4).at' rfl A0,(v.q (i:=1) (j:=1) A4 A4).at' A0 A0⟩
theorem ok_nine(F:Fun K "nine_parts" "nine_parts" IU f fd)(T:Top K mg a)(W:Ca P w K mg base CX0 2 a.c_Grove "linked" AU (DQ a)):AL P w K mg base CX0 3 f fd LG (Pm a):=by
 refine F.ok CT (λvs H Q E h=>?_) (λbi A an s H vs Q E hr h=>?_)
 .apply AN;intro z b;obtain⟨g,G,n,l,rfl,_⟩:=h;apply b;clear b z;rfl
 .apply AN;intro z b;obtain⟨g,G,n,l,rfl,C,ok,hl,bl,few,k⟩:=h;obtain⟨qa,qb,qc,qd,en,la,lb,lc,ld⟩:=ok.four hl;obtain⟨a0,a1,a2,a3,ea,bm,af,ag,D⟩:=ok.four la;obtain⟨b0,b1,b2,b3,eb,ah,bn,I,ai⟩:=ok.four lb;obtain⟨c0,c1,c2,c3,ec,aj,M,bo,ak⟩:=ok.four lc;obtain⟨d0,d1,d2,d3,ed,N,al,am,bp⟩:=ok.four ld;obtain⟨ts,Y,Z⟩:=C.pt;obtain⟨t,et,v⟩:=PairedM.get Z en;obtain⟨ta,aa,d⟩:=PairedM.get Z ea;obtain⟨tb,ab,m⟩:=PairedM.get Z eb;obtain⟨tc,ac,p⟩:=PairedM.get Z ec;obtain⟨td,ad,q⟩:=PairedM.get Z ed;apply b;clear b z;have s0:Ln a g H G 0 H G:=⟨.refl _ _,λe=>e,C,.refl ok⟩
  refine⟨_,(Ac (Aq (i:=2) CT.nd rfl O_9 (Aj Ay (AB (pv 0) rfl) (pv 1) R_9)) (Ac (Aq (i:=3) CT.nd rfl O_9 (Aj Ay (AB (pv 0) rfl) (Aj Al (pv 2) Ae R_9) R_9)) (Ac (Aq (i:=4) CT.nd rfl O_9 (Aj Ay (AB (pv 0) rfl) (Aj Al (pv 2) Ae R_9) R_9)) (Ac (Aq (i:=5) CT.nd rfl O_9 (Aj Ay (AB (pv 0) rfl) (Aj Al (pv 2) Ae R_9) R_9)) (Ac (Aq (i:=6) CT.nd rfl O_9 (Aj Ay (AB (pv 0) rfl) (Aj Al (pv 2) Ae R_9) R_9)) (Ah (Av (Ce (Aa (Aj Al (pv 2) Ae R_9) (Aa (AK (pv 0) W (rm hr) Ao (Bm (Aa (Aj Al (pv 3) Ae R_9) (Aa (Aj Al (pv 4) Ae R_9) (Aa (Aj Al (pv 3) Ae R_9) (Aa (Aj Al (pv 4) Ae R_9) Ab)))) Ab)) (Aa (Aj Al (pv 2) Ae R_9) (Aa (AK (pv 0) W (rm hr) Ao (Bm (Aa (Aj Al (pv 3) Ae R_9) (Aa (Aj Al (pv 3) Ae R_9) (Aa (Aj Al (pv 5) Ae R_9) (Aa (Aj Al (pv 5) Ae R_9) Ab)))) Ab)) (Aa (AK (pv 0) W (rm hr) Ao (Bm (Aa (Aj Al (pv 3) Ae R_9) (Aa (Aj Al (pv 4) Ae R_9) (Aa (Aj Al (pv 5) Ae R_9) (Aa (Aj Al (pv 6) Ae R_9) Ab)))) Ab)) (Aa (AK (pv 0) W (rm hr) Ao (Bm (Aa (Aj Al (pv 4) Ae R_9) (Aa (Aj Al (pv 4) Ae R_9) (Aa (Aj Al (pv 6) Ae R_9) (Aa (Aj Al (pv 6) Ae R_9) Ab)))) Ab)) (Aa (Aj Al (pv 2) Ae R_9) (Aa (AK (pv 0) W (rm hr) Ao (Bm (Aa (Aj Al (pv 5) Ae R_9) (Aa (Aj Al (pv 6) Ae R_9) (Aa (Aj Al (pv 5) Ae R_9) (Aa (Aj Al (pv 6) Ae R_9) Ab)))) Ab)) (Aa (Aj Al (pv 2) Ae R_9) Ab))))))))))))))))),?_⟩
  try dsimp only[cxK]
  refine BU ?_;intro a8 bd k0 u ay;refine xwf rfl rfl C.hp T.cl_Grove T.na_Grove_parts (BY g) (xq1 rfl (ixp Y et ?_));refine u ?_;refine BU ?_;intro a9 be k1 u az;refine xwf rfl rfl C.hp T.cl_Grove T.na_Grove_parts (BY g) (ixt rfl v rfl (ixp Y aa ?_));refine u ?_;refine BU ?_;intro ba bf k2 u a4;refine xwf rfl rfl C.hp T.cl_Grove T.na_Grove_parts (BY g) (ixt rfl v rfl (ixp Y ab ?_));refine u ?_;refine BU ?_;intro bb bg k3 u a5;refine xwf rfl rfl C.hp T.cl_Grove T.na_Grove_parts (BY g) (ixt rfl v rfl (ixp Y ac ?_));refine u ?_;refine BU ?_;intro bc bh k4 u a7;refine xwf rfl rfl C.hp T.cl_Grove T.na_Grove_parts (BY g) (ixt rfl v rfl (ixp Y ad ?_));refine u ?_;refine tretl (GN (ixt rfl (s0.kt v) rfl (GN (lnk4 s0 d m d m ⟨af,ah,D,I⟩ ⟨by lia,by lia⟩ λm1 G1 H1 s1 bj e1=>?_))));refine GN (ixt rfl (s1.kt v) rfl (GN (lnk4 s1 d d p p ⟨ag,D,aj,M⟩ ⟨by lia,by lia⟩ λm3 G3 H3 s3 ae e3=>?_)));refine GN (lnk4 s3 d m p q ⟨D,I,M,N⟩ ⟨by lia,by lia⟩ λm4 G4 H4 s4 X e4=>?_);refine GN (lnk4 s4 m m q q ⟨I,ai,N,al⟩ ⟨by lia,by lia⟩ λm5 G5 H5 s5 B e5=>?_);refine GN (ixt rfl (s5.kt v) rfl (GN (lnk4 s5 p q p q ⟨M,N,ak,am⟩ ⟨by lia,by lia⟩ λm7 G7 H7 s7 r e7=>?_)));refine GN (ixt rfl (s7.kt v) rfl ⟨(by show 9<=sizeLine;decide),λL hL=>?_⟩);have c:=s7.go;have sL:=Ar (o:=.lst (([qa,m1,qb,m3,m4,m5,qc,m7,qd]:J_).map λ(k:Nat)=>V.int (k:Int))) hL;refine k L [qa,m1,qb,m3,m4,m5,qc,m7,qd] G7 _ (s7.fr.trans (Az.fr sL)) (s7.gr.same sL) c Af rfl ?_;have v0:Vw G (CB G (l+2) n) (l+1+1) n (2^(l+1)*0) (2^(l+1)*0):=λx y _ _=>rfl;have p1:2^(l+1)=2^l*2:=F9 ..;apply AN;intro z b;obtain⟨va,vb,vc,vd⟩:=vwQ (c.get en) (v0.goes ok c hl);apply b;clear b z;have va:=va.at' (X':=2^l*0) (Y':=2^l*0) A0 A0;have vb:=vb.at' (X':=2^l*2) (Y':=2^l*0) A0 A0;have vc:=vc.at' (X':=2^l*0) (Y':=2^l*2) A0 A0;have vd:=vd.at' (X':=2^l*2) (Y':=2^l*2) A0 A0;apply AN;intro z b;obtain⟨bq,ao,aq,O⟩:=vwQ (c.get ea) va;obtain⟨ar,br,R,as⟩:=vwQ (c.get eb) vb;obtain⟨au,S,bt,av⟩:=vwQ (c.get ec) vc;obtain⟨U,aw,ax,bu⟩:=vwQ (c.get ed) vd;apply b;clear b z;have g5:=r.get e5;have g4:=r.get (B.get e4);have g3:=r.get (B.get (X.get e3));have g1:=r.get (B.get (X.get (ae.get e1)));intro i j hi hj
  match i,hi,j,hj with
  |0,_,0,_=>exact⟨qa,rfl,c.lev la,va⟩
  |1,_,0,_=>exact⟨m1,rfl,⟨_,g1,rfl⟩,vw4 g1 ao ar O R⟩
  |2,_,0,_=>exact⟨qb,rfl,c.lev lb,vb⟩
  |0,_,1,_=>exact⟨m3,rfl,⟨_,g3,rfl⟩,vw4 g3 aq O au S⟩
  |1,_,1,_=>exact⟨m4,rfl,⟨_,g4,rfl⟩,vw4 g4 O R S U⟩
  |2,_,1,_=>exact⟨m5,rfl,⟨_,g5,rfl⟩,vw4 g5 R as U aw⟩
  |0,_,2,_=>exact⟨qc,rfl,c.lev lc,vc⟩
  |1,_,2,_=>exact⟨m7,rfl,⟨_,e7,rfl⟩,vw4 e7 S U av ax⟩
  |2,_,2,_=>exact⟨qd,rfl,c.lev ld,vd⟩
inductive Yl(vs:List V)(H:Hp)(Q:VK):Prop
|mk (L:R_) (k0 k1 k2 k3 k4 k5 k6 k7 k8:Nat) (_:vs=[.ref L]) (_:H L=some (.lst [.int k0,.int k1,.int k2,.int k3,.int k4,.int k5,.int k6,.int k7,.int k8])) (_:∀(M t0 t1 t2 t3:R_)(H':Hp),Az H H'->H' M=some (.lst [.ref t0,.ref t1,.ref t2,.ref t3])->H' t0=some (.tup [.int k0,.int k1,.int k3,.int k4])->H' t1=some (.tup [.int k1,.int k2,.int k4,.int k5])->H' t2=some (.tup [.int k3,.int k4,.int k6,.int k7])->H' t3=some (.tup [.int k4,.int k5,.int k7,.int k8])->Q (.ref M) H'):Yl vs H Q
def MG:Sp:=λvs H Q _=>Yl vs H Q
theorem ok_fours(F:Fun K "fours_of" "fours_of" Mn f fd)(T:Top K mg a):AL P w K mg base CX0 1 f fd Vv MG:=by
 refine F.ok TK (λvs H Q E h=>?_) (λaa A Y s H vs Q E hr h=>?_)
 .apply AN;intro S c;obtain⟨L,x,i,y,l,b,m,z,n,B,rfl,_⟩:=h;apply c;clear c S;rfl
 .apply AN;intro S c;obtain⟨L,x,i,y,l,b,m,z,n,B,rfl,q,k⟩:=h;apply c;clear c S;refine⟨_,(Ah (Av (Ce (Bm (Aa (Aj Ay (pv 0) Ae R_9) (Aa (Aj Ay (pv 0) Ae R_9) (Aa (Aj Ay (pv 0) Ae R_9) (Aa (Aj Ay (pv 0) Ae R_9) Ab)))) (Bm (Aa (Aj Ay (pv 0) Ae R_9) (Aa (Aj Ay (pv 0) Ae R_9) (Aa (Aj Ay (pv 0) Ae R_9) (Aa (Aj Ay (pv 0) Ae R_9) Ab)))) (Bm (Aa (Aj Ay (pv 0) Ae R_9) (Aa (Aj Ay (pv 0) Ae R_9) (Aa (Aj Ay (pv 0) Ae R_9) (Aa (Aj Ay (pv 0) Ae R_9) Ab)))) (Bm (Aa (Aj Ay (pv 0) Ae R_9) (Aa (Aj Ay (pv 0) Ae R_9) (Aa (Aj Ay (pv 0) Ae R_9) (Aa (Aj Ay (pv 0) Ae R_9) Ab)))) Ab))))))),?_⟩
  try dsimp only[cxK]
  refine xwi rfl rfl rfl (SqL.of q) (Ai (j:=0) rfl) (xwi rfl rfl rfl (SqL.of q) (Ai (j:=1) rfl) (xwi rfl rfl rfl (SqL.of q) (Ai (j:=3) rfl) (xwi rfl rfl rfl (SqL.of q) (Ai (j:=4) rfl) ⟨S_4,λG U=>?_⟩)));have Z:=Ar (o:=.tup [.int (x:Int),.int (i:Int),.int (l:Int),.int (b:Int)]) U;have h0:upd H G (.tup [.int (x:Int),.int (i:Int),.int (l:Int),.int (b:Int)]) G=some (.tup [.int (x:Int),.int (i:Int),.int (l:Int),.int (b:Int)]):=Af;generalize r:upd H G (.tup [.int (x:Int),.int (i:Int),.int (l:Int),.int (b:Int)])=X0 at Z h0;have d:=Z _ _ q
  first|rw[r]|(show ∃_,_;rw[r])|skip
  refine xwi rfl rfl rfl (SqL.of d) (Ai (j:=1) rfl) (xwi rfl rfl rfl (SqL.of d) (Ai (j:=2) rfl) (xwi rfl rfl rfl (SqL.of d) (Ai (j:=4) rfl) (xwi rfl rfl rfl (SqL.of d) (Ai (j:=5) rfl) ⟨S_4,λI V=>?_⟩)));have R:=Ar (o:=.tup [.int (i:Int),.int (y:Int),.int (b:Int),.int (m:Int)]) V;have h1:upd X0 I (.tup [.int (i:Int),.int (y:Int),.int (b:Int),.int (m:Int)]) I=some (.tup [.int (i:Int),.int (y:Int),.int (b:Int),.int (m:Int)]):=Af;generalize t:upd X0 I (.tup [.int (i:Int),.int (y:Int),.int (b:Int),.int (m:Int)])=X1 at R h1;have e:=R _ _ d
  first|rw[t]|(show ∃_,_;rw[t])|skip
  refine xwi rfl rfl rfl (SqL.of e) (Ai (j:=3) rfl) (xwi rfl rfl rfl (SqL.of e) (Ai (j:=4) rfl) (xwi rfl rfl rfl (SqL.of e) (Ai (j:=6) rfl) (xwi rfl rfl rfl (SqL.of e) (Ai (j:=7) rfl) ⟨S_4,λN W=>?_⟩)));have C:=Ar (o:=.tup [.int (l:Int),.int (b:Int),.int (z:Int),.int (n:Int)]) W;have h2:upd X1 N (.tup [.int (l:Int),.int (b:Int),.int (z:Int),.int (n:Int)]) N=some (.tup [.int (l:Int),.int (b:Int),.int (z:Int),.int (n:Int)]):=Af;generalize u:upd X1 N (.tup [.int (l:Int),.int (b:Int),.int (z:Int),.int (n:Int)])=X2 at C h2;have g:=C _ _ e
  first|rw[u]|(show ∃_,_;rw[u])|skip
  refine xwi rfl rfl rfl (SqL.of g) (Ai (j:=4) rfl) (xwi rfl rfl rfl (SqL.of g) (Ai (j:=5) rfl) (xwi rfl rfl rfl (SqL.of g) (Ai (j:=7) rfl) (xwi rfl rfl rfl (SqL.of g) (Ai (j:=8) rfl) ⟨S_4,λO X=>?_⟩)));have p:=Ar (o:=.tup [.int (b:Int),.int (m:Int),.int (n:Int),.int (B:Int)]) X;have h3:upd X2 O (.tup [.int (b:Int),.int (m:Int),.int (n:Int),.int (B:Int)]) O=some (.tup [.int (b:Int),.int (m:Int),.int (n:Int),.int (B:Int)]):=Af;generalize v:upd X2 O (.tup [.int (b:Int),.int (m:Int),.int (n:Int),.int (B:Int)])=X3 at p h3;have ab:=p _ _ g
  first|rw[v]|(show ∃_,_;rw[v])|skip
  refine⟨S_4,λM hM=>?_⟩;have D:=Ar (o:=.lst [.ref G,.ref I,.ref N,.ref O]) hM;exact k M G I N O _ ((((Z.trans R).trans C).trans p).trans D) Af (D _ _ (p _ _ (C _ _ (R _ _ h0)))) (D _ _ (p _ _ (C _ _ h1))) (D _ _ (p _ _ h2)) (D _ _ h3)
inductive SpMet(a:Ad)(vs:List V)(H:Hp)(Q:VK):Prop
|mk (g:GA) (G:Gv) (t:R_) (f0 f1 f2 f3 l:Nat) (_:vs=[.ref g.p,.ref t]) (_:AM a H g G) (_:GOk G) (_:H t=some (.tup [.int f0,.int f1,.int f2,.int f3])) (_:Am G f0 ((l+1:Nat):Int)/\Am G f1 ((l+1:Nat):Int)/\Am G f2 ((l+1:Nat):Int)/\Am G f3 ((l+1:Nat):Int)) (_:l<=47) (_:G.length<9000000) (_:∀(k:Nat)(G':Gv)(H':Hp),Fr g H H'->AM a H' g G'->AH G G' 1->G'[k]?=some ⟨[((qO G f0 3:Nat):Int),((qO G f1 2:Nat):Int),((qO G f2 1:Nat):Int),((qO G f3 0:Nat):Int)],(l:Int)+1⟩->Q (.int k) H'):SpMet a vs H Q
def Wq(a:Ad):Sp:=λvs H Q _=>SpMet a vs H Q
theorem ok_met(F:Fun K "met_in_the_middle" "met_in_the_middle" Dx f fd)(T:Top K mg a)(a6:Ca P w K mg base CX0 2 a.c_Grove "linked" AU (DQ a)):AL P w K mg base CX0 3 f fd Cz (Wq a):=by
 refine F.ok Fo (λvs H Q E h=>?_) (λab A W s H vs Q E hr h=>?_)
 .apply AN;intro y b;obtain⟨g,G,t,f0,f1,f2,f3,l,rfl,_⟩:=h;apply b;clear b y;rfl
 .apply AN;intro y b;obtain⟨g,G,t,f0,f1,f2,f3,l,rfl,v,ok,x,⟨l0,l1,l2,l3⟩,ac,few,k⟩:=h;obtain⟨ts,q,r⟩:=v.pt;obtain⟨aq,ar,as,c,e0,ad,ae,af,R⟩:=ok.four l0;obtain⟨u0,z,L⟩:=PairedM.get r e0;obtain⟨a3,a4,a5,X⟩:=EH e0;obtain⟨au,av,d,aw,e1,ag,ah,S,ai⟩:=ok.four l1;obtain⟨u1,B,M⟩:=PairedM.get r e1;obtain⟨a7,a8,Y,a9⟩:=EH e1;obtain⟨ax,m,ay,az,e2,aj,U,ak,al⟩:=ok.four l2;obtain⟨u2,C,N⟩:=PairedM.get r e2;obtain⟨ba,Z,bb,bc⟩:=EH e2;obtain⟨p,a0,a1,a2,e3,V,am,an,ao⟩:=ok.four l3;obtain⟨u3,D,O⟩:=PairedM.get r e3;obtain⟨aa,bd,be,bf⟩:=EH e3;apply b;clear b y;rw[X,Y,Z,aa]at k;refine⟨_,(Ac (Aq (i:=2) Fo.nd rfl O_9 (AB (pv 0) rfl)) (Ah (Av (AK (pv 0) a6 (rm hr) Ao (Bm (Aa (Aj Al (Aj Ay (pv 2) (Aj Al (pv 1) Ae R_9) R_9) Ae R_9) (Aa (Aj Al (Aj Ay (pv 2) (Aj Al (pv 1) Ae R_9) R_9) Ae R_9) (Aa (Aj Al (Aj Ay (pv 2) (Aj Al (pv 1) Ae R_9) R_9) Ae R_9) (Aa (Aj Al (Aj Ay (pv 2) (Aj Al (pv 1) Ae R_9) R_9) Ae R_9) Ab)))) Ab))))),?_⟩
  try dsimp only[cxK]
  refine xwf rfl rfl v.hp T.cl_Grove T.na_Grove_parts (BY g) ?_;refine xwn rfl rfl v.hp (BJ g) rfl (xwi rfl rfl rfl (SqT.of x) (Ai (j:=0) rfl) (xq4 rfl rfl (SqL.of q) (Ai (by rw[B6,z];rfl)) (xq4 rfl rfl (SqT.of L) (Ai (j:=3) rfl) (xwj rfl rfl rfl rfl (SqT.of x) (Ai (j:=1) rfl) (xq4 rfl rfl (SqL.of q) (Ai (by rw[B6,B];rfl)) (xq4 rfl rfl (SqT.of M) (Ai (j:=2) rfl) (xwj rfl rfl rfl rfl (SqT.of x) (Ai (j:=2) rfl) (xq4 rfl rfl (SqL.of q) (Ai (by rw[B6,C];rfl)) (xq4 rfl rfl (SqT.of N) (Ai (j:=1) rfl) (xwj rfl rfl rfl rfl (SqT.of x) (Ai (j:=3) rfl) (xq4 rfl rfl (SqL.of q) (Ai (by rw[B6,D];rfl)) (xq4 rfl rfl (SqT.of O) (Ai (j:=0) rfl) ⟨S_4,λu hu=>?_⟩))))))))))));have s1:=Ar (o:=.tup [.int (c:Int),.int (d:Int),.int (m:Int),.int (p:Int)]) hu;exact⟨g,G,u,c,d,m,p,(l:Int),rfl,v.same s1,ok,Af,⟨R,S,U,V⟩,by lia,few,λn G' H' fr I go e=>k n G' H' ((Az.fr s1).trans fr) I go e⟩
end
end J
namespace J
open PySem L2
def Sv(o:HO):Prop:=Nv o\/∃xs:List V,o=.lst xs/\xs.length<=50
def KpS(H H':Hp):Prop:=∀b o,H b=some o->Sv o->H' b=some o
theorem Sv.lst{xs:List V}(h:xs.length<=50):Sv (.lst xs):=.inr ⟨xs,rfl,h⟩
theorem Bs.long{G:Gv}(h:Bs G):56<=G.length:=(B5.mp (h 47 A4)).1
theorem Sv.nl{b x:R_}{H:Hp}{o:HO}{xs:List V}(s:Sv o)(e:H b=some o)(a:H x=some (.lst xs))(d:50<xs.length):b≠x:=λz=>by
 rw[z,a]at e;cases e;rcases s with s|⟨ys,c,f⟩
 .cases s
 .cases c;lia
theorem Sv.nt{b x:R_}{H:Hp}{o:HO}{k:List (List Key×V)}(s:Sv o)(e:H b=some o)(a:H x=some (.dT k)):b≠x:=λz=>by
 rw[z,a]at e;cases e;rcases s with s|⟨ys,c,d⟩
 .cases s
 .cases c
theorem Sv.nk{b x:R_}{H:Hp}{o:HO}{k:List (Key×V)}(s:Sv o)(e:H b=some o)(a:H x=some (.dK k)):b≠x:=λz=>by
 rw[z,a]at e;cases e;rcases s with s|⟨ys,c,d⟩
 .cases s
 .cases c
theorem Fr.kps{a:Ad}{H d:Hp}{g:GA}{G:Gv}(f:Fr g H d)(c:AM a H g G)(j:56<=G.length):KpS H d:=by
 intro b o e s;obtain⟨k,h,i⟩:=c.pt;have lt:k.length=G.length:=K9 i;exact f _ _ e (s.nl e c.lv (by rw[B4];lia)) (s.nl e h (by rw[B4];lia)) (s.nt e c.nm)
theorem FrJ.kps{a:Ad}{H d:Hp}{g:GA}{G:Gv}{N M:Nat}{r:AD}{m:MA}(f:FrJ g m H d)(c:AM a H g G)(q:56<=G.length)(h:IL H g G N M r m):KpS H d:=by
 intro b o e s;obtain⟨t,l,n⟩:=c.pt;obtain⟨u,i,_⟩:=h.ce;have lt:t.length=G.length:=K9 n;refine f _ _ e (s.nl e c.lv (by rw[B4];lia)) (s.nl e l (by rw[B4];lia)) (s.nt e c.nm) (s.nt e i) λz=>?_;obtain⟨j,p⟩:=F7 z;obtain⟨v,k,_⟩:=h.sq j b p;exact s.nk e k rfl
theorem Ya{G:Gv}(ok:GOk G):∀(l:Nat){n m:Nat},Am G n (l:Int)->Am G m (l:Int)->(∀x y,x<2^l->y<2^l->CB G l n x y=CB G l m x y)->n=m
|0,n,m,_,_,h=>K2 (h 0 0 A4 A4)
|l+1,n,m,hn,hm,h=>by
 have a:∀i j,i<2->j<2->qO G n (i+2*j)=qO G m (i+2*j):=λi j k o=>by
  refine Ya ok l (Mr ok hn A0) (Mr ok hm A0) λx y p q=>?_;rw[<-Qy G l n p q k o,<-Qy G l m p q k o];have H:2^l*i<=2^l*1:=L5 _ A0;have I:2^l*j<=2^l*1:=L5 _ A0;exact h _ _ (by rw[F9];lia) (by rw[F9];lia)
 obtain⟨x,y,z,w,e,_⟩:=ok.four hn;obtain⟨D,E,F,C,g,_⟩:=ok.four hm;obtain⟨r,s,t,u⟩:=EH e;obtain⟨v,A,b2,B⟩:=EH g;have b:=a 0 0 A4 A4;have c:=a 1 0 A4 A4;have d:=a 0 1 A4 A4;have f:=a 1 1 A4 A4;have b:x=D:=r.symm.trans (b.trans v);have c:y=E:=s.symm.trans (c.trans A);have d:z=F:=t.symm.trans (d.trans b2);have f:w=C:=u.symm.trans (f.trans B);refine ok.one e g ?_;rw[b,c,d,f]
abbrev Sht:=Nat->Nat->Int
abbrev KTy:=Nat->Nat->Sht->Prop
def Zt(l:Nat)(φ ψ:Sht):Prop:=∀x y,x<2^(l+2)->y<2^(l+2)->φ x y=ψ x y
def s47(f:L_):Nat:=((List.range 47).map f).sum
theorem Wj(f:L_)(e:Nat):∀l:List Nat,l.Nodup->(l.map λi=>if i=e then f i+1 else f i).sum=(l.map f).sum+if e∈l then 1 else 0
|[],_=>by simp
|a::l,h=>by
 rw[M8]at h;rw[F4,F4,P0,P0,Wj f e l h.2];by_cases z:a=e
 .subst z;rw[K0 rfl,X7 h.1,K0 C4];lia
 .rw[X7 z];by_cases y:e∈l
  .rw[K0 y,K0 (C5 _ y)];lia
  .rw[X7 y,X7 (λq=>by rcases B7.mp q with rfl|q;exact z rfl;exact y q)];lia
theorem Wx(f:L_){e:Nat}(h:e<47):s47 (λi=>if i=e then f i+1 else f i)=s47 f+1:=by
 unfold s47;rw[Wj f e _ List.nodup_range,K0 (L7.mpr h)]
theorem WT{α β:Type}(R:α->β->Prop)(inj:∀x f y,R x y->R f y->x=f):∀(l:List β)(ks:List α),ks.Nodup->(∀k∈ks,∃y∈l,R k y)->ks.length<=l.length
|[],ks,_,h=>by
 cases ks with
 |nil=>exact B8 _
 |cons k ks=>obtain⟨y,i,_⟩:=h k C4;cases i
|y::l,ks,nd,h=>by
 classical
 have j:=WT R inj l (ks.filter λk=>decide (¬R k y)) (nd.sublist List.filter_sublist) λk b=>by
  rw[T4,decide_eq_true_iff]at b;obtain⟨z,c,e⟩:=h k b.1;rcases B7.mp c with rfl|c
  .exact absurd e b.2
  .exact⟨z,c,e⟩
 have few:∀ks:List α,ks.Nodup->ks.length<=(ks.filter λk=>decide (¬R k y)).length+1:=by
  intro ks;induction ks with
  |nil=>intro _;exact L8 _
  |cons k ks d =>
   intro a;rw[M8]at a;by_cases z:R k y
   .have:ks.filter (λk=>decide (¬R k y))=ks:=List.filter_eq_self.mpr λx g=>X8 λq=>a.1 (by rw[inj k x y z q];exact g);rw[List.filter_cons_of_neg (by simp[z]),this,D6];exact B8 _
   .rw[List.filter_cons_of_pos (by simp[z]),D6,D6];have:=d a.2;lia
 have:=few ks nd;rw[D6];lia
structure LB(Κ:KTy)(N:Nat):Prop where
ls:∃M:Nat->Nat,s47 M<=N/\∀e,∃Ls:List (Nat×Sht),Ls.length<=M e/\∀l φ,Κ l e φ->∃ψ,(l,ψ)∈Ls/\Zt l φ ψ
ext:∀{l e φ ψ},Κ l e φ->Zt l φ ψ->Κ l e ψ
theorem Wk(f:L_):∀(l:J_){e:Nat},e∈l->f e<=(l.map f).sum
|a::l,e,h=>by
 rw[F4,P0];rcases B7.mp h with rfl|h
 .exact V8 _ _
 .exact D7 (Wk f l h) (Nat.le_add_left _ _)
theorem Tp{f g:L_}:∀{l:J_},(∀e∈l,f e<=g e)->(l.map f).sum<=(l.map g).sum
|[],_=>B8 _
|a::l,h=>by
 have:=Tp (l:=l) λe b=>h e (C5 _ b);have:=h a C4;rw[F4,P0,F4,P0];lia
structure Cn(H:Hp)(G:Gv)(m:MA)(Κ:KTy)(b:Nat)(f:L_):Prop where
sq:∀(e:Nat) d,m.ds[e]?=some d->∃kv,H d=some (.dK kv)/\kv.length=f e/\(kv.map (·.1)).Nodup/\∀k∈kv.map (·.1),∃n l:Nat,k=Sum.inl (n:Int)/\Am G n ((l+2:Nat):Int)/\Κ l e (CB G (l+2) n)
gl:G.length<=b+10*s47 f
ce:∃kc,H m.kc=some (.dT kc)/\kc.length<=b+10*s47 f
theorem Cn.few'{H:Hp}{G:Gv}{m:MA}{Κ:KTy}{b:Nat}{f M:L_}(h:Cn H G m Κ b f)(ok:GOk G)(fin:∀e,∃a:List (Nat×Sht),a.length<=M e/\∀l φ,Κ l e φ->∃ψ,(l,ψ)∈a/\Zt l φ ψ)(len:m.ds.length=47){e:Nat}(t:e<47):f e<=M e:=by
 have g:e<m.ds.length:=by rw[len];exact t
 obtain⟨v,_,p,r,s⟩:=h.sq e (m.ds[e]'g) (C0 _);obtain⟨a,w,z⟩:=fin e;refine D7 ?_ w;rw[<-p,<-B4 (f:=(·.1)) (as:=v)];refine WT (λ(k:Key)(q:Nat×Sht)=>∃n:Nat,k=Sum.inl (n:Int)/\Am G n ((q.1+2:Nat):Int)/\Zt q.1 (CB G (q.1+2) n) q.2) ?_ a _ r λk u=>?_
 .rintro x B ⟨l,ψ⟩ ⟨n,rfl,c,d⟩ ⟨A,rfl,o,b2⟩;rw[Ya ok _ c o λx y i j=>(d x y i j).trans (b2 x y i j).symm]
 .obtain⟨n,l,rfl,c,d⟩:=s k u;obtain⟨ψ,m1,m2⟩:=z l _ d;exact⟨_,m1,n,rfl,c,m2⟩
theorem Cn.sum{H:Hp}{G:Gv}{m:MA}{Κ:KTy}{b N:Nat}{f:L_}(h:Cn H G m Κ b f)(ok:GOk G)(fin:LB Κ N)(len:m.ds.length=47):s47 f<=N:=by
 obtain⟨M,a,c⟩:=fin.ls;exact D7 (Tp λe d=>h.few' ok c len (L7.mp d)) a
theorem Cn.few{H:Hp}{G:Gv}{m:MA}{Κ:KTy}{b N:Nat}{f:L_}(h:Cn H G m Κ b f)(ok:GOk G)(fin:LB Κ N)(len:m.ds.length=47){e:Nat}(a:e<47):f e<=N:=D7 (Wk f _ (L7.mpr a)) (h.sum ok fin len)
theorem Cn.mono{H:Hp}{G:Gv}{m:MA}{Κ:KTy}{b a:Nat}{f:L_}(h:Cn H G m Κ b f)(e:b<=a):Cn H G m Κ a f:=by
 obtain⟨d,c,g⟩:=h.ce;have:=h.gl;exact⟨h.sq,by lia,d,c,by lia⟩
theorem Cn.kp{H g:Hp}{G q:Gv}{m:MA}{Κ:KTy}{b i:Nat}{f:L_}(h:Cn H G m Κ b f)(ok:GOk G)(go:AH G q i)(y:∀d∈m.ds,∀o,H d=some o->g d=some o)(z:∀c,H m.kc=some (.dT c)->∃a,g m.kc=some (.dT a)/\a.length<=c.length+i):Cn g q m Κ (b+i) f:=by
 refine⟨λe d s=>?_,?_,?_⟩
 .obtain⟨A,j,t,p,u⟩:=h.sq e d s;refine⟨A,y d (D0 s) _ j,t,p,λk x=>?_⟩;obtain⟨n,l,v,r,w⟩:=u k x;exact⟨n,l,v,go.lev r,by rw[Da ok go r];exact w⟩
 .have:=h.gl;have:=go.few;lia
 .obtain⟨c,j,t⟩:=h.ce;obtain⟨a,p,u⟩:=z c j;exact⟨a,p,by lia⟩
structure JZ(a:Ad)(H:Hp)(g:GA)(G:Gv)(Κ:KTy)(N b:Nat)(p dx mem pr:R_)(r:AD)(m:MA):Prop where
jw:JW a H g G N (b+10*N) p dx mem pr r m
cn:∃f,Cn H G m Κ b f
section
variable{a:Ad}{H H':Hp}{g:GA}{G G':Gv}{Κ:KTy}{N b i:Nat}{p dx mem pr:R_}{r:AD}{m:MA}
theorem JZ.sz(h:JZ a H g G Κ N b p dx mem pr r m)(fin:LB Κ N):G.length<=b+10*N:=by
 obtain⟨f,c⟩:=h.cn;have:=c.gl;have:=c.sum h.jw.ok fin h.jw.me.len;lia
theorem JZ.mono{d:Nat}(h:JZ a H g G Κ N b p dx mem pr r m)(e:b<=d):JZ a H g G Κ N d p dx mem pr r m:=by
 obtain⟨f,c⟩:=h.cn;exact⟨h.jw.mono (B8 _) A0,f,c.mono e⟩
theorem JZ.same(h:JZ a H g G Κ N b p dx mem pr r m)(s:Az H H'):JZ a H' g G Κ N b p dx mem pr r m:=by
 obtain⟨f,c⟩:=h.cn;exact⟨JW.same s h.jw,f,c.kp (i:=0) h.jw.ok (AH.refl h.jw.ok) (λd _ o e=>s _ _ e) λj e=>⟨j,s _ _ e,B8 _⟩⟩
theorem JZ.fr(h:JZ a H g G Κ N b p dx mem pr r m)(f:Fr g H H')(k:AM a H' g G')(go:AH G G' i):JZ a H' g G' Κ N (b+i) p dx mem pr r m:=by
 obtain⟨q,c⟩:=h.cn;obtain⟨w,n,_⟩:=h.jw.gr.pt;refine⟨(h.jw.fr f k go).mono (B8 _) A0,q,c.kp h.jw.ok go (λd s o e=>?_) λu e=>⟨u,?_,by lia⟩⟩
 .obtain⟨j,t⟩:=F7 s;obtain⟨v,l,_⟩:=c.sq j d t;rw[e]at l;cases l;exact f _ _ e (AE e h.jw.gr.lv A3) (AE e n A3) (AE e h.jw.gr.nm A3)
 .exact f _ _ e (AE e h.jw.gr.lv A3) (AE e n A3) h.jw.me.ap.2.2
def No(H:Hp)(m:MA)(e n:Nat):Prop:=∀d kv,m.ds[e]?=some d->H d=some (.dK kv)->Bj kv (Sum.inl (n:Int))=none
def Up(l:Nat)(G:Gv)(H H':Hp)(m:MA):Prop:=∀e n l':Nat,Am G n ((l'+2:Nat):Int)->l<=l'->No H m e n->No H' m e n
theorem Up.refl(l:Nat)(G:Gv)(H:Hp)(m:MA):Up l G H H m:=λ_ _ _ _ _ h=>h
theorem Up.trans{l:Nat}{c d f:Hp}(h:Up l G c d m)(k:Up l G' d f m)(go:AH G G' i):Up l G c f m:=λe n q j o s=>k e n q (go.lev j) o (h e n q j o s)
theorem Up.mono{l c:Nat}(h:Up l G H H' m)(e:l<=c):Up c G H H' m:=λk n o d f j=>h k n o d (D7 e f) j
theorem Up.of(l:Nat){N M:Nat}(q:IL H g G N M r m)(k:∀d∈m.ds,∀o,H d=some o->H' d=some o):Up l G H H' m:=λe n u _ _ h d t c j=>by
 obtain⟨s,f,_⟩:=q.sq e d c;have:=k d (D0 c) _ f;rw[j]at this;cases this;exact h d _ c f
theorem JZ.upS(l:Nat)(h:JZ a H g G Κ N b p dx mem pr r m)(s:Az H H'):Up l G H H' m:=Up.of l h.jw.me λd _ o e=>s _ _ e
theorem JZ.upF(l:Nat)(h:JZ a H g G Κ N b p dx mem pr r m)(f:Fr g H H'):Up l G H H' m:=Up.of l h.jw.me λd n o e=>by
 obtain⟨t,k,_⟩:=h.jw.gr.pt;obtain⟨j,q⟩:=F7 n;obtain⟨s,c,_⟩:=h.jw.me.sq j d q;rw[e]at c;cases c;exact f _ _ e (AE e h.jw.gr.lv A3) (AE e k A3) (AE e h.jw.gr.nm A3)
theorem JW.tc{M:Nat}{c:List (List Key×V)}(h:JW a H g G N M p dx mem pr r m)(e:H m.kc=some (.dT c)):JW a H g G N c.length p dx mem pr r m:=by
 obtain⟨j,d,_,f⟩:=h.me.ce;rw[e]at d;cases d;exact⟨h.gr,h.ok,h.bs,h.br,h.nbr,h.hp,h.ru,h.rok,h.rest,⟨h.me.tp,h.me.l,h.me.ap,h.me.len,h.me.nd,h.me.sq,_,e,B8 _,f⟩⟩
theorem JZ.mid{f:L_}{t:List (List Key×V)}(h:JZ a H g G Κ N b p dx mem pr r m)(c:Cn H G m Κ b f)(s:H m.kc=some (.dT t))(fr:FrC g m H H')(k:JW a H' g G' N (t.length+4) p dx mem pr r m)(go:AH G G' 1):JZ a H' g G' Κ N (b+4) p dx mem pr r m/\∀l,Up l G H H' m:=by
 obtain⟨F,B,_⟩:=h.jw.gr.pt;have y:∀d∈m.ds,∀o,H d=some o->H' d=some o:=λd C o e=>by
  obtain⟨j,k⟩:=F7 C;obtain⟨E,x,_⟩:=h.jw.me.sq j d k;rw[e]at x;cases x;exact fr _ _ e (AE e h.jw.gr.lv A3) (AE e B A3) (AE e h.jw.gr.nm A3) (AE e s A3)
 obtain⟨q,v,z,A⟩:=k.me.ce;obtain⟨u,w,D,_⟩:=h.jw.me.ce;rw[s]at w;cases w;have n:=k.me;refine⟨⟨⟨k.gr,k.ok,k.bs,k.br,k.nbr,k.hp,k.ru,k.rok,k.rest,⟨n.tp,n.l,n.ap,n.len,n.nd,n.sq,q,v,by lia,A⟩⟩,f,c.kp (i:=4) h.jw.ok (go.mono A4) y λu e=>⟨q,v,by rw[s]at e;cases e;exact z⟩⟩,λl=>Up.of l h.jw.me y⟩
theorem JZ.put{e n k l:Nat}{d:R_}{t:List (Key×V)}(h:JZ a H g G Κ N (b+10) p dx mem pr r m)(fin:LB Κ N)(B:m.ds[e]?=some d)(F:H d=some (.dK t))(no:Bj t (Sum.inl (n:Int))=none)(S:Am G n ((l+2:Nat):Int))(hk:Κ l e (CB G (l+2) n))(jr:JR r G e n k):JZ a (upd H d (.dK (Dy t (Sum.inl (n:Int)) (.int (k:Int))))) g G Κ N b p dx mem pr r m/\Up (l+1) G H (upd H d (.dK (Dy t (Sum.inl (n:Int)) (.int (k:Int))))) m:=by
 obtain⟨f,c⟩:=h.cn;have D:e<47:=by rw[<-h.jw.me.len];exact(B5.mp B).1
 have o:=h.jw.putS B F jr;obtain⟨ab,U,q2,q3,q4⟩:=c.sq e d B;rw[F]at U;cases U;have T:=IB (.int (k:Int)) no;rw[T]at o⊢;have nn:(Sum.inl (n:Int):Key)∉t.map (·.1):=λz=>by
  obtain⟨q,hq,eq⟩:=C8.mp z;have:(t.find? λt=>decide (t.1=(Sum.inl (n:Int):Key)))=none:=by
   unfold Bj at no;cases y:t.find? λt=>decide (t.1=(Sum.inl (n:Int):Key))with
   |none=>rfl
   |some w=>rw[y]at no;cases no
  have:=List.find?_eq_none.mp this q hq;exact this (X8 eq)
 obtain⟨kc,Q,c2⟩:=c.ce;have gl:=c.gl;have oth:∀{d':R_}{s:Nat},m.ds[s]?=some d'->s≠e->d'≠d:=λ{d' s} j z y=>z (by
  rw[y]at j;exact(List.getElem?_inj (B5.mp j).1 h.jw.me.nd).mp (j.trans B.symm))
 have v:Cn (upd H d (.dK (t++[(Sum.inl (n:Int),.int (k:Int))]))) G m Κ b (λi=>if i=e then f i+1 else f i):=by
  refine⟨λs d' j=>?_,by rw[Wx f D];lia,kc,?_,by rw[Wx f D];lia⟩
  .by_cases z:s=e
   .subst z;rw[B]at j;cases j;refine⟨_,Af,by rw[K0 rfl,C1,q2];rfl,?_,λk' E=>?_⟩
    .rw[C3,R6];refine⟨q3,by simp,λx hx y hy=>?_⟩;rw[C7.mp hy];exact λz=>nn ((show x=Sum.inl (n:Int)from z)▸hx)
    .rw[C3]at E;rcases D4.mp E with y|y
     .exact q4 k' y
     .rw[C7.mp y];exact⟨n,l,rfl,S,hk⟩
   .obtain⟨C,L,M,I,O⟩:=c.sq s d' j;exact⟨C,by rw[Ax (oth j z)];exact L,by rw[X7 z];exact M,I,O⟩
  .rw[Ax (AE Q F A3)];exact Q
 refine⟨⟨?_,_,v⟩,λs n' l' Z a2 P d' C j A=>?_⟩
 .have fw:∀{s:Nat},s<47->(if s=e then f s+1 else f s)<=N:=λ{s} he=>v.few h.jw.ok fin h.jw.me.len he;have sm:=v.sum h.jw.ok fin h.jw.me.len;obtain⟨K,R,d2⟩:=v.ce;have u:=o.me;obtain⟨aa,W,r2,r3⟩:=u.ce;rw[R]at W;cases W;refine⟨o.gr,o.ok,o.bs,o.br,o.nbr,o.hp,o.ru,o.rok,o.rest,⟨u.tp,u.l,u.ap,u.len,u.nd,λs d' j=>?_,K,R,by lia,r3⟩⟩;obtain⟨kw,X,u2,u3,u4⟩:=u.sq s d' j;obtain⟨ac,Y,v2,_⟩:=v.sq s d' j;rw[X]at Y;cases Y;exact⟨kw,X,by rw[v2];exact fw (by rw[<-h.jw.me.len];exact(B5.mp j).1),u3,u4⟩
 .by_cases z:s=e
  .subst z;rw[B]at j;cases j;rw[Af]at A;cases A;rw[<-T,Fl];have ne:n'≠n:=λy=>by
    subst y;have:((l'+2:Nat):Int)=((l+2:Nat):Int):=by
     obtain⟨q,L,M⟩:=Z;obtain⟨q',I,O⟩:=S;rw[L]at I;cases I;exact M.symm.trans O
    lia
   rw[X7 (λy=>ne (by have:=Sum.inl.inj y;lia))];exact P d t B F
  .rw[Ax (oth j z)]at A;exact P d' C j A
end
seal L2.PA L2.PE L2.PS L2.PSs L2.PT L2.PW
structure ClK(r:AD)(Κ:KTy):Prop where
nine1:∀{l e φ},Κ (l+1) e φ->e<=l->∀i j,i<3->j<3->Κ l e λx y=>φ (x+2^(l+1)*i) (y+2^(l+1)*j)
nine2:∀{l φ},Κ (l+1) (l+1) φ->∀i j,i<3->j<3->Κ l l λx y=>φ (x+2^(l+1)*i) (y+2^(l+1)*j)
four:∀{l φ},Κ (l+1) (l+1) φ->∀i j,i<2->j<2->Κ l l λx y=>Br r (2^l) φ (x+(2^(l+1)*i+2^l)) (y+(2^(l+1)*j+2^l))
theorem Am.one{G:Gv}{n:Nat}{i j:Int}(h:Am G n i)(k:Am G n j):i=j:=by
 obtain⟨q,b,c⟩:=h;obtain⟨p,a,d⟩:=k;rw[b]at a;cases a;exact c.symm.trans d
theorem JR.view{r:AD}{G:Gv}{c:Nat->Nat->Int}{e n m l X Y:Nat}(h:JR r G e n m)(o:Am G n ((l+2:Nat):Int))(v:Vw G c (l+2) n X Y):Am G m ((l+1:Nat):Int)/\e<=l/\Vw G (Br r (2^e) c) (l+1) m (X+2^l) (Y+2^l):=by
 apply AN;intro d a;obtain⟨k,g,b,i,j⟩:=h;apply a;clear a d;have f:k=l:=by
  have:=g.one o;lia
 subst f;exact⟨i,b,v.jump b j⟩
theorem Vw.jr{r:AD}{G:Gv}{e n m l:Nat}(c:Am G n ((l+1+2:Nat):Int))(a:e<=l+1)(b:Am G m ((l+1+1:Nat):Int))(v:Vw G (Br r (2^e) (CB G (l+1+2) n)) (l+1+1) m (2^(l+1)) (2^(l+1))):JR r G e n m:=⟨l+1,c,a,b,v⟩
theorem met_view{G b:Gv}{c:Nat->Nat->Int}{l d f g h z X Y i:Nat}(ok:GOk G)(go:AH G b i)(m:Am G d ((l+1:Nat):Int))(n:Am G f ((l+1:Nat):Int))(o:Am G g ((l+1:Nat):Int))(p:Am G h ((l+1:Nat):Int))(v:Vw G c (l+1) d X Y)(w:Vw G c (l+1) f (X+2^(l+1)) Y)(x:Vw G c (l+1) g X (Y+2^(l+1)))(y:Vw G c (l+1) h (X+2^(l+1)) (Y+2^(l+1)))(e:b[z]?=some ⟨[((qO G d 3:Nat):Int),((qO G f 2:Nat):Int),((qO G g 1:Nat):Int),((qO G h 0:Nat):Int)],(l:Int)+1⟩):Vw b c (l+1) z (X+2^l) (Y+2^l):=by
 have E:2^(l+1)=2^l*2:=F9 ..;apply AN;intro k a;obtain⟨A,B,C,D⟩:=EH e;apply a;clear a k;have r:=(v.q (i:=1) (j:=1) A4 A4).goes ok go (Mr ok m A4);have s:=(w.q (i:=0) (j:=1) A4 A4).goes ok go (Mr ok n A4);have t:=(x.q (i:=1) (j:=0) A4 A4).goes ok go (Mr ok o A4);have u:=(y.q (i:=0) (j:=0) A4 A4).goes ok go (Mr ok p A4);refine Vw.of ?_ ?_ ?_ ?_
 .rw[A];exact r.at' A0 A0
 .rw[B];exact s.at' A0 A0
 .rw[C];exact t.at' A0 A0
 .rw[D];exact u.at' A0 A0
theorem Ol{G b:Gv}{c:Nat->Nat->Int}{l d f g h z X Y i:Nat}{L:Int}(ok:GOk G)(go:AH G b i)(k:Am G d (l:Int))(m:Am G f (l:Int))(n:Am G g (l:Int))(o:Am G h (l:Int))(p:Vw G c l d X Y)(q:Vw G c l f (X+2^l) Y)(r:Vw G c l g X (Y+2^l))(s:Vw G c l h (X+2^l) (Y+2^l))(e:b[z]?=some ⟨[(d:Int),(f:Int),(g:Int),(h:Int)],L⟩):Vw b c (l+1) z X Y:=by
 apply AN;intro j a;obtain⟨t,u,v,w⟩:=EH e;apply a;clear a j;refine Vw.of ?_ ?_ ?_ ?_
 .rw[t];exact p.goes ok go k
 .rw[u];exact q.goes ok go m
 .rw[v];exact r.goes ok go n
 .rw[w];exact s.goes ok go o
theorem WJ:∀xs:List Nat,xs.length=9->∃a b c d e f g h i,xs=[a,b,c,d,e,f,g,h,i]
|[a,b,c,d,e,f,g,h,i],_=>⟨a,b,c,d,e,f,g,h,i,rfl⟩
theorem Qu:∀xs:List Nat,xs.length=4->∃a b c d,xs=[a,b,c,d]
|[a,b,c,d],_=>⟨a,b,c,d,rfl⟩
def toV(k:Nat):V:=.int (k:Int)
def Nine(G:Gv)(c:Nat->Nat->Int)(l X:Nat)(ys:J_):Prop:=∀i j,i<3->j<3->∃y,ys[i+3*j]?=some y/\Am G y (l:Int)/\Vw G c l y (2^l*i+X) (2^l*j+X)
theorem Rk {r:AD} {b d:Gv} {c:Nat->Nat->Int} {l e x:Nat} {ks ys:J_} (ok:GOk b) (go:AH b d x) (h:∀i j,i<3->j<3->∃k,ks[i+3*j]?=some k/\Am b k ((l+1+1:Nat):Int)/\Vw b c (l+1+1) k (2^(l+1)*i) (2^(l+1)*j)) (t:Paired (λk y=>JR r d e k y) ks ys):Nine d (Br r (2^e) c) (l+1) (2^l) ys:=λi j q s=>by
 apply AN;intro g a;obtain⟨k,m,f,n⟩:=h i j q s;obtain⟨y,o,p⟩:=Paired.get t m;obtain⟨u,_,v⟩:=p.view (go.lev f) (n.goes ok go f);apply a;clear a g;exact⟨y,o,u,v⟩
theorem PY{G:Gv}{c:Nat->Nat->Int}{l X:Nat}{H:Hp}{x n y o g p z q A:Nat}{r s u v:R_}(m:Nine G c l X [x,n,y,o,g,p,z,q,A])(B:H r=some (.tup [.int x,.int n,.int o,.int g]))(C:H s=some (.tup [.int n,.int y,.int g,.int p]))(D:H u=some (.tup [.int o,.int g,.int z,.int q]))(E:H v=some (.tup [.int g,.int p,.int q,.int A]))(t:Nat)(w:R_)(a:[r,s,u,v][t]?=some w) :
  ∃b d e f:Nat,H w=some (.tup [.int b,.int d,.int e,.int f])/\(Am G b (l:Int)/\Am G d (l:Int)/\Am G e (l:Int)/\Am G f (l:Int))/\Vw G c l b (2^l*(t%2)+X) (2^l*(t/2)+X)/\Vw G c l d (2^l*(t%2)+X+2^l) (2^l*(t/2)+X)/\Vw G c l e (2^l*(t%2)+X) (2^l*(t/2)+X+2^l)/\Vw G c l f (2^l*(t%2)+X+2^l) (2^l*(t/2)+X+2^l):=by
 have M:t<4:=(B5.mp a).1;have R:=Nat.mul_succ (2^l) (t%2);have S:=Nat.mul_succ (2^l) (t/2);obtain⟨b,h,F,N⟩:=m (t%2) (t/2) A0 A0;obtain⟨d,i,I,O⟩:=m (t%2+1) (t/2) A0 A0;obtain⟨e,j,K,P⟩:=m (t%2) (t/2+1) A0 A0;obtain⟨f,k,L,Q⟩:=m (t%2+1) (t/2+1) A0 A0;refine⟨b,d,e,f,?_,⟨F,I,K,L⟩,N,O.at' A0 rfl,P.at' rfl A0,Q.at' A0 A0⟩
 match t,M,a with
 |0,_,a=>cases h;cases i;cases j;cases k;cases a;exact B
 |1,_,a=>cases h;cases i;cases j;cases k;cases a;exact C
 |2,_,a=>cases h;cases i;cases j;cases k;cases a;exact D
 |3,_,a=>cases h;cases i;cases j;cases k;cases a;exact E
theorem Td{α:Type}{P:Nat->α->Prop}{b:List α}{z:α}{i:Nat}(c:b.length=i)(h:∀t a,b[t]?=some a->P t a)(d:P i z):∀t a,(b++[z])[t]?=some a->P t a:=λt a e=>by
 by_cases f:t<i
 .rw[M0 A0]at e;exact h t a e
 .have:t=i:=by
   have:=(B5.mp e).1;rw[C1,c]at this;have:t<i+1:=this;lia
  subst this;rw[F8 A0,c,T9]at e;cases e;exact d
section
variable{P:N_}{w:Q_}{K:O_}{mg:C_}{base:T_}{a:Ad}
inductive SpRecA(a:Ad)(L:Nat)(vs:List V)(H:Hp)(Q:VK):Prop
|mk (p dx mem pr:R_) (g:GA) (G:Gv) (Κ:KTy) (N b:Nat) (r:AD) (m:MA) (n l e:Nat) (_:vs=[.ref p,.int n,.int e]) (_:JZ a H g G Κ N b p dx mem pr r m) (_:LB Κ N) (_:ClK r Κ) (_:Am G n ((l+2:Nat):Int)) (_:l<L) (_:e<=l) (_:Κ l e (CB G (l+2) n)) (_:b+10*N+10*(l+1)<8000000) (_:∀(k:Nat)(G':Gv)(H':Hp)(i:Nat),FrJ g m H H'->JZ a H' g G' Κ N b p dx mem pr r m->AH G G' i->JR r G' e n k->Up (l+1) G H H' m->Q (.int k) H'):SpRecA a L vs H Q
def Ib(a:Ad)(L:Nat):Sp:=λvs H Q _=>SpRecA a L vs H Q
inductive SpFreA(a:Ad)(L:Nat)(vs:List V)(H:Hp)(Q:VK):Prop
|mk (p dx mem pr:R_) (g:GA) (G:Gv) (Κ:KTy) (N b:Nat) (r:AD) (m:MA) (n l e:Nat) (_:vs=[.ref p,.int n,.int e]) (_:JZ a H g G Κ N b p dx mem pr r m) (_:LB Κ N) (_:ClK r Κ) (_:Am G n ((l+2:Nat):Int)) (_:l<L) (_:e<=l) (_:Κ l e (CB G (l+2) n)) (_:b+10*N+10*(l+1)<8000000) (_:∀(k:Nat)(G':Gv)(H':Hp)(i:Nat),FrJ g m H H'->JZ a H' g G' Κ N (b+10) p dx mem pr r m->AH G G' i->JR r G' e n k->Up l G H H' m->Q (.int k) H'):SpFreA a L vs H Q
def UZ(a:Ad)(L:Nat):Sp:=λvs H Q _=>SpFreA a L vs H Q
inductive Yj(a:Ad)(L:Nat)(vs:List V)(H:Hp)(Q:VK):Prop
|mk (p dx mem pr:R_) (g:GA) (G:Gv) (Κ:KTy) (N b:Nat) (r:AD) (m:MA) (n l:Nat) (_:vs=[.ref p,.int n,.int ((l+1:Nat):Int)]) (_:JZ a H g G Κ N b p dx mem pr r m) (_:LB Κ N) (_:ClK r Κ) (_:Am G n ((l+1+2:Nat):Int)) (_:l<L) (_:Κ (l+1) (l+1) (CB G (l+1+2) n)) (_:b+10*N+10*(l+2)<8000000) (_:∀(A:R_)(f0 f1 f2 f3:Nat)(G':Gv)(H':Hp)(i:Nat),FrJ g m H H'->JZ a H' g G' Κ N (b+9) p dx mem pr r m->AH G G' i->Up (l+1) G H H' m->H' A=some (.lst [toV f0,toV f1,toV f2,toV f3])->(Am G' f0 ((l+2:Nat):Int)/\Am G' f1 ((l+2:Nat):Int)/\Am G' f2 ((l+2:Nat):Int)/\Am G' f3 ((l+2:Nat):Int))->(Vw G' (Br r (2^l) (CB G (l+1+2) n)) (l+2) f0 (2^l) (2^l)/\Vw G' (Br r (2^l) (CB G (l+1+2) n)) (l+2) f1 (2^l+2^(l+1)) (2^l)/\Vw G' (Br r (2^l) (CB G (l+1+2) n)) (l+2) f2 (2^l) (2^l+2^(l+1))/\Vw G' (Br r (2^l) (CB G (l+1+2) n)) (l+2) f3 (2^l+2^(l+1)) (2^l+2^(l+1)))->Q (.ref A) H'):Yj a L vs H Q
def RY(a:Ad)(L:Nat):Sp:=λvs H Q _=>Yj a L vs H Q
theorem ok_halfA{L d:Nat}(F:Fun K "four_halfway" "Jumps.four_halfway" Bv f fd)(T:Top K mg a)(d3:3<=d)(aO:Cal P w K mg base CX0 3 "nine_parts" LG (Pm a))(aX:Cal P w K mg base CX0 1 "fours_of" Vv MG)(a6:Ca P w K mg base CX0 2 a.c_Grove "linked" AU (DQ a))(aC:Ca P w K mg base CX0 d a.c_Jumps "reckoned" QS (Ib a L)):AL P w K mg base CX0 (d+1) f fd QS (RY a L):=by
 refine F.ok EG (λvs H Q E h=>?_) (λbb A a8 s H vs Q E hr h=>?_)
 .apply AN;intro C c;obtain⟨p,dx,mem,pr,g,G,Κ,N,b,r,m,n,l,rfl,_⟩:=h;apply c;clear c C;rfl
 .apply AN;intro C c;obtain⟨p,dx,mem,pr,g,G,Κ,N,b,r,m,n,l,rfl,hz,fin,cl,hl,hL,a4,few,k⟩:=h;have hj:=hz.jw;have sz:=hz.sz fin;apply c;clear c C;refine⟨_,(Ac (Jh (i:=3) rfl EG.nd rfl rfl (Bo.of (So:=Ak Bv) (No:=Dk) (N:=["part","self","e"]) (k:=1) (cs:=[0,2]) rfl rfl A1) (BS (As aO (rm hr) rfl Ao (Aa (AB (pv 0) rfl) (Aa (pv 1) Ab)))) (λ_ _ _=>(AZ (i:=0) A1 rfl rfl)) (λ_ _ _=>BC) (λ_ _ _=>(AK (pv 1) aC (rm hr) Ao (Aa (pv 0) (Bn Cv (pv 2) Ae Ab))))) (Ah (Av (BL rfl (Bo.of (So:=Ak Bv) (No:=Dk) (N:=["four","self"]) (k:=1) (cs:=[0]) rfl rfl A1) (BS (As aX (rm hr) rfl Ao (Aa (pv 3) Ab))) (λ_ _ _=>(AZ (i:=0) A1 rfl rfl)) (λ_ _ _=>BC) (λ_ _ _=>(AK (Sl (K:=K) rfl (pv 1) rfl) a6 (rm hr) Ao (Aa (pv 0) Ab))))))),?_⟩
  try dsimp only[cxK]
  obtain⟨q9,aq,bc⟩:=id hl;have be:l<=45:=by have:=(hj.ok.lev aq).2;lia
  refine xwf rfl rfl hj.hp T.cl_Jumps T.na_Jumps_grove (EA _ _ _ _ _) (xq1 rfl ⟨g,G,n,l+1,rfl,hj.gr,hj.ok,hl,by lia,by lia,λA9 ks G3 H3 ac ax I am l9 nine=>?_⟩);have af:=hz.fr ac ax I;have M:=af.jw;have bf:=af.sz fin
  skip
  have ao:∀(t k:Nat),ks[t]?=some k->Am G3 k ((l+2:Nat):Int):=λt k e=>by
   have ht:=(B5.mp e).1;obtain⟨k',e1,e2,_⟩:=nine (t%3) (t/3) A0 A0;rw[show t%3+3*(t/3)=t by lia,e]at e1;cases e1;exact e2
  have a7:∀(t k:Nat),ks[t]?=some k->Κ l l (CB G3 (l+2) k):=λt k e=>by
   have ht:=(B5.mp e).1;obtain⟨k',e1,_,v⟩:=nine (t%3) (t/3) A0 A0;rw[show t%3+3*(t/3)=t by lia,e]at e1;cases e1;exact fin.ext (cl.nine2 a4 (t%3) (t/3) A0 A0) λx y hx hy=>(v x y hx hy).symm
  refine⟨A9,rfl,⟨_,SqL.of am⟩,?_⟩;refine CC (xs:=ks.map λ(k:Nat)=>V.int (k:Int)) (λi u H5=>∃(Y:Gv)(ys:J_)(c5:Nat),u=ys.map toV/\ys.length=i/\FrJ g m H3 H5/\JZ a H5 g Y Κ N (b+5) p dx mem pr r m/\AH G3 Y c5/\Up (l+1) G3 H3 H5 m/\Paired (λk y=>JR r Y l k y) (ks.take i) ys) ⟨G3,[],0,rfl,rfl,λb o e _ _ _ _ _=>e,af,AH.refl M.ok,Up.refl _ _ _ _,.nil⟩ (λi u H5 _ z=>by obtain⟨_,_,_,_,_,fr,_⟩:=z;exact SqL.of ((fr.kps M.gr M.bs.long M.me) _ _ am (.lst (by rw[B4];lia)))) ?_ ?_
  .rintro i v u H5 ev aj;apply AN;intro C c;obtain⟨Y,ys,c5,rfl,ly,ad,R,q,ah,aa⟩:=aj;apply c;clear c C;rw[B6]at ev;obtain⟨k5,ek,rfl⟩:=C9.mp ev;have i9:i<9:=by have:=(B5.mp ek).1;lia
   have ae:=R.jw
   skip
   refine⟨⟨[some (.int (k5:Int))],rfl,rfl⟩,by rw[B4,ly];exact U1 i9 A4,FI (xwn rfl rfl ae.hp (Nb _ _ _ _ _) rfl (xwb rfl rfl rfl ⟨p,dx,mem,pr,g,Y,Κ,N,b+5,r,m,k5,l,l,(show [V.ref p,V.int (k5:Int),V.int (((l+1:Nat):Int)-1)]=[V.ref p,V.int (k5:Int),V.int (l:Int)] by rw[show((l+1:Nat):Int)-1=(l:Int) by lia]),R,fin,cl,q.lev (ao i k5 ek),hL,B8 l,(by rw[Da M.ok q (ao i k5 ek)];exact a7 i k5 ek),by lia,λy G6 H6 c6 as X al a5 ba=>⟨G6,ys++[y],_,by rw[C3];rfl,by rw[C1,ly];rfl,ad.trans as,X,q.trans al,ah.trans ba q,?_⟩⟩))⟩;rw[F3,ek,R0];exact A2b (Paired.imp (λk y z=>z.goes ae.ok al) aa) a5
  rintro u H5 ai A5 av;apply AN;intro C c;obtain⟨Y,ys,c5,rfl,ly,ad,R,q,ah,aa⟩:=ai;have ae:=R.jw;apply c;clear c C;rw[B4,l9]at ly;rw[B4,F6]at aa;have nj:=Rk M.ok q nine aa;apply AN;intro C c;obtain⟨y0,y1,y2,y3,y4,y5,y6,y7,y8,rfl⟩:=WJ ys ly;apply c;clear c C
  skip
  generalize eB:upd H5 A5 _=H6;obtain⟨s5,an⟩:=alc av eB;have X:=R.same s5;have bd:=X.jw;have ar:FrJ g m H H6:=(Fr.j ac).trans (ad.trans (Az.j s5));refine xq1 rfl ⟨A5,y0,y1,y2,y3,y4,y5,y6,y7,y8,rfl,an,λMM t0 t1 t2 t3 H7 s7 hM az a0 a1 a2=>?_⟩;have ag:=X.same s7;have W:=ag.jw;refine⟨MM,rfl,⟨_,SqL.of hM⟩,?_⟩;have p1:2^(l+1)=2^l*2:=F9 ..;have four:=PY nj az a0 a1 a2;have ab:=W.ok;refine CC (xs:=[t0,t1,t2,t3].map V.ref) (λi u H8=>∃(Z:Gv)(zs:J_),u=zs.map toV/\zs.length=i/\Fr g H7 H8/\JZ a H8 g Z Κ N (b+5+i) p dx mem pr r m/\AH Y Z i/\∀(t z:Nat),zs[t]?=some z->Am Z z ((l+2:Nat):Int)/\Vw Z (Br r (2^l) (CB G (l+1+2) n)) (l+1+1) z (2^(l+1)*(t%2)+2^l) (2^(l+1)*(t/2)+2^l)) ⟨Y,[],rfl,rfl,Fr.refl g H7,ag,AH.refl ab,λt z e=>(nomatch e)⟩ (λi u H8 _ z=>by obtain⟨_,_,_,_,fr,_⟩:=z;exact SqL.of ((fr.kps W.gr W.bs.long) _ _ hM (.lst (by show 4<=50;decide)))) ?_ ?_
  .rintro i v u H8 ev aj;apply AN;intro C c;obtain⟨Z,zs,rfl,lz,S,D,B,vz⟩:=aj;have O:=D.jw;have a9:=D.sz fin;apply c;clear c C;rw[B6]at ev;obtain⟨tt,et,rfl⟩:=C9.mp ev;have i4:i<4:=(B5.mp et).1;apply AN;intro C c;obtain⟨f0,f1,f2,f3,a3,⟨m0,m1,m2,m3⟩,w0,w1,w2,w3⟩:=four i tt et;apply c;clear c C
   skip
   refine⟨⟨[some (.ref tt)],rfl,rfl⟩,by rw[B4,lz];exact U1 i4 A4,FI (xwf rfl rfl O.hp T.cl_Jumps T.na_Jumps_grove (EA _ _ _ _ _) (xq3 rfl O.gr.hp (BJ g) (xq1 rfl ⟨g,Z,tt,f0,f1,f2,f3,((l+1:Nat):Int),rfl,O.gr,O.ok,(S.kps W.gr W.bs.long) _ _ a3 (.inl .tup),⟨B.lev m0,B.lev m1,B.lev m2,B.lev m3⟩,by lia,by lia,λz G9 H9 ak ay U e9=>⟨G9,zs++[z],by rw[C3];rfl,by rw[C1,lz];rfl,S.trans ak,D.fr ak ay U,B.trans U,?_⟩⟩)))⟩;refine Td lz (λt z' e=>?_) ?_
   .obtain⟨q1,q2⟩:=vz t z' e;exact⟨U.lev q1,q2.goes O.ok U q1⟩
   .exact⟨⟨_,e9,by show((l+1:Nat):Int)+1=((l+2:Nat):Int);lia⟩,Ol ab (B.trans U) m0 m1 m2 m3 w0 w1 w2 w3 e9⟩
  rintro u H8 ai A8 aw;apply AN;intro C c;obtain⟨Z,zs,rfl,lz,S,D,B,vz⟩:=ai;have O:=D.jw;have a9:=D.sz fin;apply c;clear c C;apply AN;intro C c;obtain⟨z0,z1,z2,z3,rfl⟩:=Qu zs lz;apply c;clear c C;have s8:Az H8 (upd H8 A8 (.lst ([z0,z1,z2,z3].map toV))):=Ar aw;have au:AH Y Z 4:=B;obtain⟨q0,x0⟩:=vz 0 z0 rfl;obtain⟨q1,x1⟩:=vz 1 z1 rfl;obtain⟨q2,x2⟩:=vz 2 z2 rfl;obtain⟨q3,x3⟩:=vz 3 z3 rfl;refine k A8 z0 z1 z2 z3 Z _ _ (ar.trans ((Az.j s7).trans ((Fr.j S).trans (Az.j s8)))) (D.same s8) ((I.trans q).trans au) (((((hz.upF (l+1) ac).trans ah I).trans (R.upS _ s5) (I.trans q)).trans (X.upS _ s7) (I.trans q)).trans ((ag.upF _ S).trans (D.upS _ s8) B) (I.trans q)) Af ⟨q0,q1,q2,q3⟩ ⟨x0.at' A0 A0,x1.at' A0 A0,x2.at' A0 A0,x3.at' A0 A0⟩
theorem ok_freA{L d:Nat}(F:Fun K "fresh" "Jumps.fresh" Cu f fd)(T:Top K mg a)(d7:7<=d)(aD:Ca P w K mg base CX0 7 a.c_Jumps "middle_after" Lp (RU a))(a6:Ca P w K mg base CX0 2 a.c_Grove "linked" AU (DQ a))(aO:Cal P w K mg base CX0 3 "nine_parts" LG (Pm a))(aX:Cal P w K mg base CX0 1 "fours_of" Vv MG)(aG:Cal P w K mg base CX0 3 "met_in_the_middle" Cz (Wq a))(aC:Ca P w K mg base CX0 d a.c_Jumps "reckoned" QS (Ib a L))(cK:Ca P w K mg base CX0 (d+1) a.c_Jumps "four_halfway" QS (RY a L)):AL P w K mg base CX0 (d+2) f fd QS (UZ a (L+1)):=by
 refine F.ok El (λvs H Q E h=>?_) (λb6 A b1 s H vs Q E hr h=>?_)
 .apply AN;intro R c;obtain⟨p,dx,mem,pr,g,G,Κ,N,b,r,m,n,l,e,rfl,_⟩:=h;apply c;clear c R;rfl
 .apply AN;intro R c;obtain⟨p,dx,mem,pr,g,G,Κ,N,b,r,m,n,l,e,rfl,hz,fin,cl,hl,hL,he,a3,few,k⟩:=h;have U:=hz.jw;have sz:=hz.sz fin;obtain⟨q,eq,el⟩:=id hl;apply c;clear c R;have b8:=(U.ok.lev eq).2;have bz:l<=46:=by lia
  refine⟨_,(Ac (Aq (i:=3) El.nd rfl (Or.inr rfl) (AB (pv 0) rfl)) (Ac (Aq (i:=4) El.nd rfl O_9 (Aj Ay (AB (pv 3) rfl) (pv 1) R_9)) (Ac (AO (AA CG (pv 1) (Aj Ay (AB (pv 3) rfl) (pv 4) R_9) (AG _)) (Ah (Av (Aj Ay (AB (pv 3) rfl) (AF Cv (pv 4) Ae) R_9))) AC) (Ac (AO (AA CG (pv 4) (BX rfl T.k_LEAST_JUMPED) (AG _)) (Ah (Av (AK (pv 0) aD (rm hr) Ao (Aa (pv 1) Ab)))) AC) (Ac (AO (AA JF (pv 2) (AF Cv (pv 4) (BX rfl T.k_LEAST_JUMPED)) (AG _)) (Ac (Jh (i:=5) rfl El.nd rfl rfl (Bo.of (So:=Ak Cu) (No:=Fk) (N:=["part","self","e"]) (k:=1) (cs:=[0,2]) rfl rfl A1) (BS (As aO (rm hr) rfl Ao (Aa (pv 3) (Aa (pv 1) Ab)))) (λ_ _ _=>(AZ (i:=0) A1 rfl rfl)) (λ_ _ _=>BC) (λ_ _ _=>(AK (pv 1) aC (rm hr) Ao (Aa (pv 0) (Aa (pv 2) Ab))))) (Ah (Av (AK (pv 3) a6 (rm hr) Ao (Aa (Bw BE rfl T.b_tuple A0f (Aa (BL rfl (Bo.of (So:=Ak Cu) (No:=Fk) (N:=["four","grove"]) (k:=1) (cs:=[3]) rfl rfl A1) (BS (As aX (rm hr) rfl Ao (Aa (pv 5) Ab))) (λ_ _ _=>(AZ (i:=0) A1 rfl rfl)) (λ_ _ _=>BC) (λ_ _ _=>(As aG (rm hr) rfl Ao (Aa (pv 1) (Aa (pv 0) Ab))))) Ab)) Ab))))) AC) (Ah (Av (AK (pv 3) a6 (rm hr) Ao (Aa (Bw BE rfl T.b_tuple A0f (Aa (BL rfl (Bo.of (So:=Ak Cu) (No:=Fk) (N:=["four","self","e"]) (k:=1) (cs:=[0,2]) rfl rfl A1) (BS (AK (pv 0) cK (rm hr) Ao (Aa (pv 1) (Aa (pv 2) Ab)))) (λ_ _ _=>(AZ (i:=0) A1 rfl rfl)) (λ_ _ _=>BC) (λ_ _ _=>(AK (pv 1) aC (rm hr) Ao (Aa (pv 0) (Bn Cv (pv 2) Ae Ab))))) Ab)) Ab))))))))),?_⟩
  try dsimp only[cxK]
  refine xwf rfl rfl U.hp T.cl_Jumps T.na_Jumps_grove (EA _ _ _ _ _) ?_;refine xq1 rfl ⟨g.p,_,g.dx,_,_,rfl,U.gr.hp,T.cl_Grove,T.na_Grove_levels,EC g,_,rfl,g.lv,_,(n:Int),.int ((l+2:Nat):Int),rfl,rfl,SqL.of U.gr.lv,Ai (by rw[B6,eq,<-el];rfl),?_⟩;refine xq1 rfl (xq1 rfl ⟨g.p,_,g.dx,_,_,rfl,U.gr.hp,T.cl_Grove,T.na_Grove_bares,GF g,_,rfl,g.br,_,((l+2:Nat):Int),.int (bareN (l+2):Int),rfl,rfl,SqL.of U.br,Ai (bareJ A0),rfl,_,rfl,?_⟩);refine JI (λhc=>?_) (λhc=>?_)
  .have ei:n=bareN (l+2):=by
    have:=A0d hc;injection this with this
    exact K2 this
   refine xwf rfl rfl U.gr.hp T.cl_Grove T.na_Grove_bares (GF g) (xwb rfl rfl rfl (xq4 rfl rfl (SqL.of U.br) (by rw[show((l+2:Nat):Int)-1=((l+1:Nat):Int) by lia];exact Ai (bareJ A0)) ?_));refine k (bareN (l+1)) G H 0 (λb o e _ _ _ _ _=>e) (hz.mono A0) (AH.refl U.ok) ?_ (Up.refl _ _ _ _);rw[ei];exact JR.bare U.ok U.bs U.rest A0 he
  refine xq1 rfl ⟨rfl,(xq1 rfl ?_)⟩;cases l with
  |zero =>
   refine(show ∀{b:Bool}{A B:Prop},b=true->A->(if b=true then A else B)from λh x=>by rw[h];exact BP x) (X8 rfl) ?_;have e0:e=0:=by lia
   subst e0;obtain⟨ff,cn⟩:=hz.cn;obtain⟨kc,c1,c2⟩:=cn.ce;have sm:=cn.sum U.ok fin U.me.len;refine xwn rfl rfl U.hp (noJ_mid _ _ _ _ _) rfl ⟨p,dx,mem,pr,g,G,N,kc.length,r,m,n,rfl,U.tc c1,hl,by lia,by lia,λk' G' H' fr bm go jr=>?_⟩;obtain⟨z1,z2⟩:=hz.mid cn c1 fr bm go;exact k k' G' H' 1 fr.j (z1.mono A0) go jr (z2 _)
  |succ l =>
   refine(show ∀{b:Bool}{A B:Prop},b=false->B->(if b=true then A else B)from λh x=>by rw[h];exact Bd x) (X9 (by intro z;injection z with z;have z:((l+1+2:Nat):Int)=2:=z;lia)) ?_;have hL:l<L:=by lia
   have p1:2^(l+1)=2^l*2:=F9 ..;refine xw2 rfl rfl (xq2 rfl rfl (xq2 rfl rfl (xq1 rfl ?_)));refine JI (λhc=>?_) (λhc=>?_)
   .have aq:e<=l:=by
     have hc:=A0d hc;have hc:(e:Int)<((l+1+2:Nat):Int)-2:=hc;lia
    obtain⟨q9,bd,b7⟩:=id hl;have bz:l<=45:=by have:=(U.ok.lev bd).2;lia
    refine xw2 rfl rfl ⟨g,G,n,l+1,rfl,U.gr,U.ok,hl,by lia,by lia,λA9 ks G3 H3 ay bj af a8 l9 nine=>?_⟩;have a2:=hz.fr ay bj af;have ag:=a2.jw;have b9:=a2.sz fin
    skip
    have bb:∀(t k:Nat),ks[t]?=some k->Am G3 k ((l+2:Nat):Int):=λt k e=>by
     have ht:=(B5.mp e).1;obtain⟨k',e1,e2,_⟩:=nine (t%3) (t/3) A0 A0;rw[show t%3+3*(t/3)=t by lia,e]at e1;cases e1;exact e2
    have bx:∀(t k:Nat),ks[t]?=some k->Κ l e (CB G3 (l+2) k):=λt k e=>by
     have ht:=(B5.mp e).1;obtain⟨k',e1,_,v⟩:=nine (t%3) (t/3) A0 A0;rw[show t%3+3*(t/3)=t by lia,e]at e1;cases e1;exact fin.ext (cl.nine1 a3 aq (t%3) (t/3) A0 A0) λx y hx hy=>(v x y hx hy).symm
    refine⟨A9,rfl,⟨_,SqL.of a8⟩,?_⟩;refine CC (xs:=ks.map λ(k:Nat)=>V.int (k:Int)) (λi I H5=>∃(G5:Gv)(ys:J_)(c5:Nat),I=ys.map toV/\ys.length=i/\FrJ g m H3 H5/\JZ a H5 g G5 Κ N (b+5) p dx mem pr r m/\AH G3 G5 c5/\Up (l+1) G3 H3 H5 m/\Paired (λk y=>JR r G5 e k y) (ks.take i) ys) ⟨G3,[],0,rfl,rfl,λb o e _ _ _ _ _=>e,a2,AH.refl ag.ok,Up.refl _ _ _ _,.nil⟩ (λi I H5 _ z=>by obtain⟨_,_,_,_,_,fr,_⟩:=z;exact SqL.of ((fr.kps ag.gr ag.bs.long ag.me) _ _ a8 (.lst (by rw[B4];lia)))) ?_ ?_
    .rintro i v I H5 ev ao;apply AN;intro R c;obtain⟨G5,ys,c5,rfl,ly,az,ah,O,a4,as⟩:=ao;apply c;clear c R;rw[B6]at ev;obtain⟨k5,ek,rfl⟩:=C9.mp ev;have i9:i<9:=by have:=(B5.mp ek).1;lia
     have a1:=ah.jw
     skip
     refine⟨⟨[some (.int (k5:Int))],rfl,rfl⟩,by rw[B4,ly];exact U1 i9 A4,FI (xwn rfl rfl a1.hp (Nb _ _ _ _ _) rfl (xq1 rfl ⟨p,dx,mem,pr,g,G5,Κ,N,b+5,r,m,k5,l,e,rfl,ah,fin,cl,O.lev (bb i k5 ek),hL,aq,(by rw[Da ag.ok O (bb i k5 ek)];exact bx i k5 ek),by lia,λy G6 H6 c6 bg am a7 bv b2=>⟨G6,ys++[y],_,by rw[C3];rfl,by rw[C1,ly];rfl,az.trans bg,am,O.trans a7,a4.trans b2 O,?_⟩⟩))⟩;rw[F3,ek,R0];exact A2b (Paired.imp (λk y z=>z.goes a1.ok a7) as) bv
    rintro I H5 an A5 bi;apply AN;intro R c;obtain⟨G5,ys,c5,rfl,ly,az,ah,O,a4,as⟩:=an;have a1:=ah.jw;apply c;clear c R;rw[B4,l9]at ly;rw[B4,F6]at as;have nj:=Rk ag.ok O nine as;apply AN;intro R c;obtain⟨y0,y1,y2,y3,y4,y5,y6,y7,y8,rfl⟩:=WJ ys ly;apply c;clear c R
    skip
    generalize eB:upd H5 A5 _=H6;obtain⟨s5,a9⟩:=alc bi eB;have am:=ah.same s5;have bn:=am.jw;have be:FrJ g m H H6:=(Fr.j ay).trans (az.trans (Az.j s5));refine xwm rfl rfl bn.gr.hp (BJ g) ?_;refine xq1 rfl ⟨A5,y0,y1,y2,y3,y4,y5,y6,y7,y8,rfl,a9,λMM t0 t1 t2 t3 H7 s7 hM bo bp bq bt=>?_⟩;have ai:=am.same s7;have X:=ai.jw;refine⟨MM,rfl,⟨_,SqL.of hM⟩,?_⟩;have four:=PY nj bo bp bq bt;have Z:=X.ok;refine CC (xs:=[t0,t1,t2,t3].map V.ref) (λi I H8=>∃(W:Gv)(zs:J_),I=zs.map toV/\zs.length=i/\Fr g H7 H8/\JZ a H8 g W Κ N (b+5+i) p dx mem pr r m/\AH G5 W i/\∀(t z:Nat),zs[t]?=some z->Am W z ((l+1:Nat):Int)/\Vw W (Br r (2^e) (CB G (l+1+2) n)) (l+1) z (2^(l+1)*(t%2)+2^(l+1)) (2^(l+1)*(t/2)+2^(l+1))) ⟨G5,[],rfl,rfl,Fr.refl g H7,ai,AH.refl Z,λt z e=>(nomatch e)⟩ (λi I H8 _ z=>by obtain⟨_,_,_,_,fr,_⟩:=z;exact SqL.of ((fr.kps X.gr X.bs.long) _ _ hM (.lst (by show 4<=50;decide)))) ?_ ?_
    .rintro i v I H8 ev ao;apply AN;intro R c;obtain⟨W,zs,rfl,lz,aa,D,C,vz⟩:=ao;have ab:=D.jw;have au:=D.sz fin;apply c;clear c R;rw[B6]at ev;obtain⟨tt,et,rfl⟩:=C9.mp ev;have i4:i<4:=(B5.mp et).1;apply AN;intro R c;obtain⟨f0,f1,f2,f3,bu,⟨m0,m1,m2,m3⟩,w0,w1,w2,w3⟩:=four i tt et;apply c;clear c R
     skip
     have qg:∀{f:Nat}(j:Nat),Am G5 f ((l+1:Nat):Int)->qO W f j=qO G5 f j:=λ{f} j h=>by
      obtain⟨q,e,_⟩:=h;unfold qO;rw[C.get e,e]
     refine⟨⟨[some (.ref tt)],rfl,rfl⟩,by rw[B4,lz];exact U1 i4 A4,FI (xw2 rfl rfl ⟨g,W,tt,f0,f1,f2,f3,l,rfl,ab.gr,ab.ok,(aa.kps X.gr X.bs.long) _ _ bu (.inl .tup),⟨C.lev m0,C.lev m1,C.lev m2,C.lev m3⟩,by lia,by lia,λz G9 H9 ar bl S e9=>⟨G9,zs++[z],by rw[C3];rfl,by rw[C1,lz];rfl,aa.trans ar,D.fr ar bl S,C.trans S,?_⟩⟩)⟩;rw[qg 3 m0,qg 2 m1,qg 1 m2,qg 0 m3]at e9;refine Td lz (λt z' e=>?_) ?_
     .obtain⟨q1,q2⟩:=vz t z' e;exact⟨S.lev q1,q2.goes ab.ok S q1⟩
     .exact⟨⟨_,e9,by show(l:Int)+1=((l+1:Nat):Int);lia⟩,(met_view Z (C.trans S) m0 m1 m2 m3 w0 w1 w2 w3 e9).at' A0 A0⟩
    rintro I H8 an A8 a0;apply AN;intro R c;obtain⟨W,zs,rfl,lz,aa,D,C,vz⟩:=an;have ab:=D.jw;have au:=D.sz fin;apply c;clear c R;apply AN;intro R c;obtain⟨z0,z1,z2,z3,rfl⟩:=Qu zs lz;apply c;clear c R;have bh:AH G5 W 4:=C;have D:JZ a H8 g W Κ N (b+5+4) p dx mem pr r m:=D;have au:=D.sz fin;have Y:=(af.trans O).trans bh;have ax:FrJ g m H H8:=be.trans ((Az.j s7).trans (Fr.j aa));generalize eK:upd H8 A8 _=H9;obtain⟨s8,al⟩:=alc a0 eK;refine⟨A8,(xq1 rfl (.inl ⟨SqL.of al,λu hu=>?_⟩))⟩;have ac:=D.same s8;have ae:=ac.jw;obtain⟨q0,x0⟩:=vz 0 z0 rfl;obtain⟨q1,x1⟩:=vz 1 z1 rfl;obtain⟨q2,x2⟩:=vz 2 z2 rfl;obtain⟨q3,x3⟩:=vz 3 z3 rfl
    skip
    refine lnk (⟨.refl _ _,λe=>e,ae.gr,.refl ae.ok⟩:Ln a g H9 W 0 H9 W) hu ⟨q0,q1,q2,q3⟩ A0 A0 λz av aw ad M aj=>?_;refine k z av aw _ (ax.trans ((Az.j s8).trans (Fr.j ad.fr))) ((ac.fr ad.fr ad.gr M).mono A0) (Y.trans M) ?_ (((((hz.upF (l+1) ay).trans a4 af).trans (ah.upS _ s5) (af.trans O)).trans (am.upS _ s7) (af.trans O)).trans (((ai.upF _ aa).trans (D.upS _ s8) C).trans (ac.upF _ ad.fr) C) (af.trans O));have ak:=Y.trans M;refine Vw.jr (ak.lev hl) he ⟨_,aj,by show((l+1:Nat):Int)+1=((l+1+1:Nat):Int);lia⟩ ?_;rw[Da U.ok ak hl];exact Ol ae.ok M q0 q1 q2 q3 (x0.at' A0 A0) (x1.at' A0 A0) (x2.at' A0 A0) (x3.at' A0 A0) aj
   .have aq:e=l+1:=by
     have hc:¬(e:Int)<((l+1+2:Nat):Int)-2:=λz=>hc (X8 z);lia
    subst aq;refine xwm rfl rfl U.gr.hp (BJ g) ?_;refine xwn rfl rfl U.hp (noJ_half _ _ _ _ _) rfl (xq1 rfl ⟨p,dx,mem,pr,g,G,Κ,N,b,r,m,n,l,rfl,hz,fin,cl,hl,hL,a3,by lia,λA7 f0 f1 f2 f3 G5 H7 i5 bf ai O b3 ba b0 b5=>?_⟩);apply AN;intro R c;obtain⟨m0,m1,m2,m3⟩:=b0;obtain⟨w0,w1,w2,w3⟩:=b5;apply c;clear c R
    skip
    refine⟨A7,rfl,⟨_,SqL.of ba⟩,?_⟩;have X:=ai.jw;have Z:=X.ok;have four:∀(t f:Nat),[f0,f1,f2,f3][t]?=some f->Am G5 f ((l+2:Nat):Int)/\Vw G5 (Br r (2^l) (CB G (l+1+2) n)) (l+2) f (2^(l+1)*(t%2)+2^l) (2^(l+1)*(t/2)+2^l):=λt f et=>by
     match t,et with
     |0,et=>cases et;exact⟨m0,w0.at' A0 A0⟩
     |1,et=>cases et;exact⟨m1,w1.at' A0 A0⟩
     |2,et=>cases et;exact⟨m2,w2.at' A0 A0⟩
     |3,et=>cases et;exact⟨m3,w3.at' A0 A0⟩
     |j+4,et=>cases et
    have bc:Br r (2^l) (Br r (2^l) (CB G (l+1+2) n))=Br r (2^(l+1)) (CB G (l+1+2) n):=by
     rw[<-Ts,p1,Nat.mul_two]
    refine CC (xs:=[f0,f1,f2,f3].map toV) (λi I H8=>∃(W:Gv)(zs:J_)(c8:Nat),I=zs.map toV/\zs.length=i/\FrJ g m H7 H8/\JZ a H8 g W Κ N (b+9) p dx mem pr r m/\AH G5 W c8/\Up (l+1) G5 H7 H8 m/\∀(t z:Nat),zs[t]?=some z->Am W z ((l+1:Nat):Int)/\Vw W (Br r (2^(l+1)) (CB G (l+1+2) n)) (l+1) z (2^(l+1)*(t%2)+2^(l+1)) (2^(l+1)*(t/2)+2^(l+1))) ⟨G5,[],0,rfl,rfl,λb o e _ _ _ _ _=>e,ai,AH.refl Z,Up.refl _ _ _ _,λt z e=>(nomatch e)⟩ (λi I H8 _ z=>by obtain⟨_,_,_,_,_,fr,_⟩:=z;exact SqL.of ((fr.kps X.gr X.bs.long X.me) _ _ ba (.lst (by show 4<=50;decide)))) ?_ ?_
    .rintro i v I H8 ev ao;apply AN;intro R c;obtain⟨W,zs,c8,rfl,lz,aa,D,C,a5,vz⟩:=ao;have ab:=D.jw;have au:=D.sz fin;apply c;clear c R;rw[B6]at ev;obtain⟨ff,et,rfl⟩:=C9.mp ev;have i4:i<4:=(B5.mp et).1;obtain⟨mf,wf⟩:=four i ff et
     skip
     refine⟨⟨[some (toV ff)],rfl,rfl⟩,by rw[B4,lz];exact U1 i4 A4,FI (xwn rfl rfl ab.hp (Nb _ _ _ _ _) rfl (xwb rfl rfl rfl ⟨p,dx,mem,pr,g,W,Κ,N,b+9,r,m,ff,l,l,(show [V.ref p,V.int (ff:Int),V.int (((l+1:Nat):Int)-1)]=[V.ref p,V.int (ff:Int),V.int (l:Int)] by rw[show((l+1:Nat):Int)-1=(l:Int) by lia]),D,fin,cl,C.lev mf,hL,B8 l,(by rw[Da Z C mf];exact fin.ext (cl.four a3 (i%2) (i/2) A0 A0) λx y hx hy=>(wf x y hx hy).symm),by lia,λz G9 H9 c9 ar ac S bw b4=>⟨G9,zs++[z],_,by rw[C3];rfl,by rw[C1,lz];rfl,aa.trans ar,ac,C.trans S,a5.trans b4 C,?_⟩⟩))⟩;refine Td lz (λt z' e=>?_) ?_
     .obtain⟨q1,q2⟩:=vz t z' e;exact⟨S.lev q1,q2.goes ab.ok S q1⟩
     .obtain⟨r1,_,r3⟩:=bw.view ((C.trans S).lev mf) (wf.goes Z (C.trans S) mf);rw[bc]at r3;exact⟨r1,r3.at' A0 A0⟩
    rintro I H8 an A8 a0;apply AN;intro R c;obtain⟨W,zs,c8,rfl,lz,aa,D,C,a5,vz⟩:=an;have ab:=D.jw;have au:=D.sz fin;apply c;clear c R;apply AN;intro R c;obtain⟨z0,z1,z2,z3,rfl⟩:=Qu zs lz;apply c;clear c R;have Y:=O.trans C;have ax:FrJ g m H H8:=bf.trans aa;generalize eK:upd H8 A8 _=H9;obtain⟨s8,al⟩:=alc a0 eK;refine⟨A8,(xq1 rfl (.inl ⟨SqL.of al,λu hu=>?_⟩))⟩;have ac:=D.same s8;have ae:=ac.jw;obtain⟨q0,x0⟩:=vz 0 z0 rfl;obtain⟨q1,x1⟩:=vz 1 z1 rfl;obtain⟨q2,x2⟩:=vz 2 z2 rfl;obtain⟨q3,x3⟩:=vz 3 z3 rfl
    skip
    refine lnk (⟨.refl _ _,λe=>e,ae.gr,.refl ae.ok⟩:Ln a g H9 W 0 H9 W) hu ⟨q0,q1,q2,q3⟩ A0 A0 λz av aw ad M aj=>?_;refine k z av aw _ (ax.trans ((Az.j s8).trans (Fr.j ad.fr))) ((ac.fr ad.fr ad.gr M).mono A0) (Y.trans M) ?_ ((b3.trans a5 O).trans ((D.upS _ s8).trans (ac.upF _ ad.fr) (AH.refl ab.ok)) Y);have ak:=Y.trans M;refine Vw.jr (ak.lev hl) he ⟨_,aj,by show((l+1:Nat):Int)+1=((l+1+1:Nat):Int);lia⟩ ?_;rw[Da U.ok ak hl];exact Ol ae.ok M q0 q1 q2 q3 (x0.at' A0 A0) (x1.at' A0 A0) (x2.at' A0 A0) (x3.at' A0 A0) aj
theorem ok_recB{L d:Nat}(F:Fun K "reckoned" "Jumps.reckoned" Dp f fd)(T:Top K mg a)(dM:Ca P w K mg base CX0 d a.c_Jumps "fresh" QS (UZ a L)):AL P w K mg base CX0 (d+1) f fd QS (Ib a L):=by
 refine F.ok Ek (λvs H Q E h=>?_) (λae A ac s H vs Q E hr h=>?_)
 .apply AN;intro j c;obtain⟨p,dx,mem,pr,g,G,Κ,N,b,r,m,n,l,e,rfl,_⟩:=h;apply c;clear c j;rfl
 .apply AN;intro j c;obtain⟨p,dx,mem,pr,g,G,Κ,N,b,r,m,n,l,e,rfl,Y,fin,cl,U,hL,he,W,few,k⟩:=h;have u:=Y.jw;have sz:=Y.sz fin;apply c;clear c j;obtain⟨q,eq,el⟩:=id U;have aj:=(u.ok.lev eq).2;have aa:e<m.ds.length:=by rw[u.me.len];lia
  obtain⟨d,C⟩:∃d,m.ds[e]?=some d:=⟨m.ds[e]'aa,C0 _⟩
  apply AN;intro j c;obtain⟨kv,hd,dl,dk,dv⟩:=u.me.sq e d C;apply c;clear c j;refine⟨_,(Ac (Aq (i:=3) Ek.nd rfl O_9 (IE (EB hr) (Aj Ay (AB (pv 0) rfl) (pv 2) R_9) (pv 1) ⟨rfl,rfl,rfl,rfl⟩)) (Ac (AO (AA GB (pv 3) Db (AG _)) (Ac (Aq (i:=3) Ek.nd rfl O_9 (AK (pv 0) dM (rm hr) Ao (Aa (pv 1) (Aa (pv 2) Ab)))) (Ah (FM (EB hr) (Aj Ay (AB (pv 0) rfl) (pv 2) R_9) (pv 1) (pv 3) rfl))) AC) (Ah (Av (pv 3))))),?_⟩
  try dsimp only[cxK]
  have O:atI (m.ds.map V.ref) (e:Int)=some (.ref d):=Ai (by rw[B6,C];rfl);refine xwf rfl rfl u.hp T.cl_Jumps T.na_Jumps_known_squares (jf5_ks _ _ _ _ _) (xwi rfl rfl rfl (SqL.of u.me.l) O ⟨d,rfl,.inl ⟨_,.inl hd⟩,(xq1 rfl ⟨_,IM.k (k:=Sum.inl (n:Int)) hd,?_⟩)⟩);apply meetJ (fun σ M=>∃(x:Nat)(B:Gv),σ=[some (.ref p),some (.int (n:Int)),some (.int (e:Int)),some (.int (x:Int))]/\FrJ g m H M/\JZ a M g B Κ N b p dx mem pr r m/\(∃i,AH G B i)/\JR r B e n x/\Up (l+1) G H M m)
  .intro y;refine xq1 rfl ⟨rfl,(xq1 rfl ?_)⟩;cases ev:Bj kv (Sum.inl (n:Int))with
   |some v =>
    obtain⟨x,rfl,jr⟩:=dv n v ev;exact Bd (y _ _ ⟨x,G,rfl,λb o e _ _ _ _ _=>e,Y,⟨0,AH.refl u.ok⟩,jr,Up.refl _ _ _ _⟩)
   |none =>
    refine BP ?_;refine xwn rfl rfl u.hp (YM _ _ _ _ _) rfl (xq1 rfl ⟨p,dx,mem,pr,g,G,Κ,N,b,r,m,n,l,e,rfl,Y,fin,cl,U,hL,he,W,few,λx B H' i' fr t go jr Z=>?_⟩);apply AN;intro j c;have I:=t.jw;obtain⟨X,D,ag,af,ah⟩:=I.me.sq e d C;apply c;clear c j;refine xw2 rfl rfl (xq5 I.hp T.cl_Jumps T.na_Jumps_known_squares (jf5_ks _ _ _ _ _) (xwi rfl rfl rfl (SqL.of I.me.l) O (xq1 rfl ⟨d,(xq1 rfl ⟨LX.k (k:=Sum.inl (n:Int)) D (F2 (show X.length<=9000000 by lia) A4),?_⟩)⟩)));have ab:=Z e n l U (B8 l) (λd2 ai R S=>by rw[C]at R;cases R;rw[hd]at S;cases S;exact ev) d X C D;obtain⟨z1,z2⟩:=t.put fin C D ab (go.lev U) (by rw[Da u.ok go U];exact W) jr;exact y _ _ ⟨x,B,rfl,λb o e n1 n2 n3 n4 n5=>by rw[Ax (λz=>n5 (by rw[z];exact D0 C))];exact fr _ _ e n1 n2 n3 n4 n5,z1,⟨i',go⟩,jr,(Z.mono (Q9 l)).trans z2 go⟩
  rintro σ M ad;apply AN;intro j c;obtain⟨x,B,rfl,fr,t,⟨i',go⟩,jr,Z⟩:=ad;apply c;clear c j;exact xq1 rfl (k x B M i' fr t go jr Z)
theorem WH{f M I:R_}{x q o:E_}(F:Fun K "reckoned" "Jumps.reckoned" Dp f x)(A:Fun K "four_halfway" "Jumps.four_halfway" Bv M q)(z:Fun K "fresh" "Jumps.fresh" Cu I o)(T:Top K mg a)(B:QW K a.c_Jumps "reckoned" f)(y:CF K x QS [])(j:QW K a.c_Jumps "four_halfway" M)(d:CF K q QS [])(i:QW K a.c_Jumps "fresh" I)(c:CF K o QS [])(C:Ca P w K mg base CX0 7 a.c_Jumps "middle_after" Lp (RU a))(t:Ca P w K mg base CX0 2 a.c_Grove "linked" AU (DQ a))(u:Cal P w K mg base CX0 3 "nine_parts" LG (Pm a))(v:Cal P w K mg base CX0 1 "fours_of" Vv MG)(D:Cal P w K mg base CX0 3 "met_in_the_middle" Cz (Wq a)):∀L,AL P w K mg base CX0 (10+3*L) f x QS (Ib a L)
|0=>(AL.no (k:=10)).imp λvs H Q E h=>by
 apply AN;intro O s;obtain⟨p,dx,mem,Y,g,G,Κ,N,b,r,m,n,l,e,_,_,_,_,_,W,_⟩:=h;apply s;clear s O;exact absurd W (L9 l)
|L+1=>by
 have X:=WH F A z T B y j d i c C t u v D L;have M1:Ca P w K mg base CX0 (10+3*L) a.c_Jumps "reckoned" QS (Ib a L):=⟨⟨_,_,X,B,y⟩,T.cl_Jumps⟩
 have U:=ok_halfA A T A0 u v t M1;have R:Ca P w K mg base CX0 (10+3*L+1) a.c_Jumps "four_halfway" QS (RY a L):=⟨⟨_,_,U,j,d⟩,T.cl_Jumps⟩
 have V:=ok_freA z T A0 C t u v D M1 R;have S:Ca P w K mg base CX0 (10+3*L+2) a.c_Jumps "fresh" QS (UZ a (L+1)):=⟨⟨_,_,V,i,c⟩,T.cl_Jumps⟩
 exact ok_recB F T S
theorem YI{L d:Nat}(F:Fun K "after" "Jumps.after" Ik f fd)(T:Top K mg a)(O:4<=d)(B:Ca P w K mg base CX0 4 a.c_Jumps "check_jump" QS (spCj a))(z:Ca P w K mg base CX0 d a.c_Jumps "reckoned" QS (Ib a L)):AL P w K mg base CX0 (d+1) f fd QS (Ib a L):=by
 refine F.ok Px (λvs H Q E h=>?_) (λC A u s H vs Q E y h=>?_)
 .apply AN;intro j c;obtain⟨p,dx,mem,v,g,G,Κ,N,b,r,m,n,l,e,rfl,_⟩:=h;apply c;clear c j;rfl
 .apply AN;intro j c;obtain⟨p,dx,mem,v,g,G,Κ,N,b,r,m,n,l,e,rfl,o,fin,cl,x,I,M,t,few,k⟩:=h;have i:=o.jw;have sz:=o.sz fin;obtain⟨q,eq,D⟩:=id x;apply c;clear c j;refine⟨_,(Ac (BW (AK (pv 0) B (rm y) Ao (Aa (pv 1) (Aa (pv 2) Ab)))) (Ah (Av (AK (pv 0) z (rm y) Ao (Aa (pv 1) (Aa (pv 2) Ab)))))),?_⟩
  try dsimp only[cxK]
  refine xwn rfl rfl i.hp (YN _ _ _ _ _) rfl (xq1 rfl ⟨p,dx,g.p,mem,v,m.l,m.kc,g,G,n,e,q,rfl,i.hp,i.gr,eq,by rw[D];lia,?_⟩);exact xwn rfl rfl i.hp (Nb _ _ _ _ _) rfl (xq1 rfl ⟨p,dx,mem,v,g,G,Κ,N,b,r,m,n,l,e,rfl,o,fin,cl,x,I,M,t,few,k⟩)
end
theorem Ci(l:Nat):(2:Int)^(l+1)=2^l+2^l:=by rw[W3];lia
def GL(x y w h r:Int):Prop:=-r<=x/\-r<=y/\x+w<=r/\y+h<=r
instance(x y w h r:Int):Decidable (GL x y w h r):=by unfold GL;infer_instance
theorem lies_b(x y w h r:Int):(decide (-r<=x) && (decide (-r<=y) && (decide (x+w<=r) && decide (y+h<=r))))=decide (GL x y w h r):=by
 rw[Q0];simp only[P4,A7c];exact Iff.rfl
structure Wid(G:Gv)(n f w:Nat):Prop where
ex:∃(q:Sq)(x y z v a b c d:Nat),EF G n f q x y z v/\G[a]?=some ⟨[(bareN n:Int),(bareN n:Int),(bareN n:Int),(x:Int)],(n:Int)+1⟩/\G[b]?=some ⟨[(bareN n:Int),(bareN n:Int),(y:Int),(bareN n:Int)],(n:Int)+1⟩ /\
 G[c]?=some ⟨[(bareN n:Int),(z:Int),(bareN n:Int),(bareN n:Int)],(n:Int)+1⟩/\G[d]?=some ⟨[(v:Int),(bareN n:Int),(bareN n:Int),(bareN n:Int)],(n:Int)+1⟩/\G[w]?=some ⟨[(a:Int),(b:Int),(c:Int),(d:Int)],(n:Int)+2⟩
theorem Wid.lev{G:Gv}{n f w:Nat}(h:Wid G n f w):Am G w ((n+2:Nat):Int):=by
 obtain⟨q,x,y,z,v,a,b,c,d,l,g,i,j,k,e⟩:=h.ex;exact⟨_,e,by show(n:Int)+2=_;lia⟩
theorem Wid.app{G e:Gv}{k n f w:Nat}(go:AH G e k)(h:Wid G n f w):Wid e n f w:=by
 obtain⟨q,x,y,z,v,a,b,c,d,o,g,i,j,l,m⟩:=h.ex;exact⟨q,x,y,z,v,a,b,c,d,o.app go,go.get g,go.get i,go.get j,go.get l,go.get m⟩
theorem DI{G r:Gv}(e:G=G0++r){n:Nat}(h:n<=48):Am G (bareN n) (n:Int):=by
 rw[e];exact(g0_lev n h).app
theorem bareL_at'{l:Nat}(h:l<=48):((Dl 48).map V.int)[l]?=some (.int (bareN l:Int)):=by
 unfold Dl;rw[B6,B6,O6 A0];rfl
section
variable{P:N_}{w:Q_}{K:O_}{mg:C_}{base:T_}{a:Ad}
inductive SpLie(vs:List V)(H:Hp)(Q:VK):Prop
|mk (t:R_) (x y w h r:Int) (_:vs=[.ref t,.int r]) (_:H t=some (.tup [.int x,.int y,.int w,.int h])) (_:Q (.bl (decide (GL x y w h r))) H):SpLie vs H Q
def Re:Sp:=λvs H Q _=>SpLie vs H Q
theorem ok_lie(F:Fun K "lies_within" "lies_within" Ih f fd)(T:Top K mg a):AL P w K mg base CX0 1 f fd QP Re:=by
 refine F.ok Pt D_9 λd A c s H vs Q E p h=>?_
 obtain⟨t,x,y,q,o,r,rfl,b,k⟩:=h;rw[<-lies_b]at k;refine⟨_,(Ah (Av (JY (Fe MZ (JX FY (pv 1)) (Aj Al (pv 0) Ae R_9) (AG _)) (JY (Fe MZ (JX FY (pv 1)) (Aj Al (pv 0) Ae R_9) (AG _)) (JY (Fe MZ (AF AQ (Aj Al (pv 0) Ae R_9) (Aj Al (pv 0) Ae R_9)) (pv 1) (AG _)) (Mu (Fe MZ (AF AQ (Aj Al (pv 0) Ae R_9) (Aj Al (pv 0) Ae R_9)) (pv 1) (AG _)))))))),?_⟩
 try dsimp only[cxK]
 refine xw3 rfl rfl rfl (xq4 rfl rfl (SqT.of b) (Ai (j:=0) rfl) (xq2 rfl rfl (Ph (λ_ l e=>?_) k)));refine xw3 rfl rfl rfl (xq4 rfl rfl (SqT.of b) (Ai (j:=1) rfl) (xq2 rfl rfl (Ph (λ_ m g=>?_) e)));refine xwi rfl rfl rfl (SqT.of b) (Ai (j:=0) rfl) (xwi rfl rfl rfl (SqT.of b) (Ai (j:=2) rfl) (xq2 rfl rfl (xwb rfl rfl rfl (Ph (λ_ n i=>?_) g))));exact xwi rfl rfl rfl (SqT.of b) (Ai (j:=1) rfl) (xwi rfl rfl rfl (SqT.of b) (Ai (j:=3) rfl) (xq2 rfl rfl (xwb rfl rfl rfl i)))
inductive Yf(a:Ad)(vs:List V)(H:Hp)(Q:VK):Prop
|mk (g:GA) (G:Gv) (i n:Nat) (_:vs=[.ref g.p,.int i]) (_:AM a H g G) (_:Am G i ((n+1:Nat):Int)) (_:n<48) (_:Q (.int (2^n)) H):Yf a vs H Q
def IO(a:Ad):Sp:=λvs H Q _=>Yf a vs H Q
theorem ok_reach(F:Fun K "reach_of" "reach_of" Mi f fd)(T:Top K mg a)(d:Ca P w K mg base CX0 3 a.c_Grove "level_of" Lp (MF a)):AL P w K mg base CX0 4 f fd Vr (IO a):=by
 refine F.ok TF D_9 λj A b s H vs Q E o h=>?_
 obtain⟨g,G,i,n,rfl,c,⟨q,e,l⟩,p,k⟩:=h;refine⟨_,(Ah (Av (AF NU Ae (AF Cv (AK (pv 0) d (rm o) Ao (Aa (pv 1) Ab)) Ae)))),?_⟩
 try dsimp only[cxK]
 have m:q.lev=(n:Int)+1:=by rw[l];lia
 refine xwn rfl rfl c.hp (DY g) rfl ⟨g,G,i,q,rfl,c,e,(xq2 rfl rfl (xq2 rfl rfl ⟨⟨by lia,by lia,by decide⟩,?_⟩))⟩;show Q (.int (1*2^(q.lev-1).toNat)) H;rw[RP n m];exact k
inductive Yn(a:Ad)(vs:List V)(H:Hp)(Q:VK):Prop
|mk (g:GA) (G:Gv) (_:vs=[.ref g.p]) (_:AW a H g G) (_:Q (.int (bareN 1:Int)) H):Yn a vs H Q
def OS(a:Ad):Sp:=λvs H Q _=>Yn a vs H Q
theorem ok_bareF(F:Fun K "bare_field" "bare_field" IW f fd)(T:Top K mg a):AL P w K mg base CX0 1 f fd Sy (OS a):=by
 refine F.ok QG D_9 λd A b s H vs Q E e h=>?_
 obtain⟨g,G,rfl,c,k⟩:=h;exact⟨_,(Ah (Av (Aj Ay (AB (pv 0) rfl) (BX rfl T.k_LEAST_LEVEL) R_9))),(xwf rfl rfl c.at'.hp T.cl_Grove T.na_Grove_bares (GF g) (xq4 rfl rfl (SqL.of c.br) (Ai (j:=1) (bareL_at' A0)) k))⟩
inductive SpWid(a:Ad)(vs:List V)(H:Hp)(Q:VK):Prop
|mk (g:GA) (G:Gv) (f n:Nat) (_:vs=[.ref g.p,.int f]) (_:AW a H g G) (_:Am G f ((n+1:Nat):Int)) (_:n<47) (_:G.length<8900000) (_:∀(w:Nat)(G':Gv)(H':Hp),Fr g H H'->AM a H' g G'->AH G G' 5->Wid G' n f w->Q (.int w) H'):SpWid a vs H Q
def Wn(a:Ad):Sp:=λvs H Q _=>SpWid a vs H Q
theorem ok_wid(F:Fun K "widened" "widened" NM f fd)(T:Top K mg a)(a7:Ca P w K mg base CX0 3 a.c_Grove "level_of" Lp (MF a))(N:Ca P w K mg base CX0 2 a.c_Grove "linked" AU (DQ a)):AL P w K mg base CX0 4 f fd LG (Wn a):=by
 refine F.ok IP D_9 λar A aq s H vs Q E M h=>?_
 obtain⟨g,G,f',n,rfl,d,hl,as,few,k⟩:=h;obtain⟨q,x,y,z,v,u⟩:=Bp d.ok hl;have lq:=u.lev;obtain⟨ts,h3,h4⟩:=d.at'.pt;obtain⟨t,et,I⟩:=PairedM.get h4 u.g;have I:H t=some (.tup [.int x,.int y,.int z,.int v]):=by
  have I:H t=some (.tup (q.parts.map V.int)):=I;rw[u.ps]at I;exact I
 obtain⟨r,e0⟩:=d.g0;have m:=DI e0 (n:=n) A0;refine⟨_,(Ac (Aq (i:=2) IP.nd rfl O_9 (AK (pv 0) a7 (rm M) Ao (Aa (pv 1) Ab))) (Ac (AO (PW.pt (PL (AA JF (pv 2) (BX rfl T.k_LEAST_LEVEL) (AG _)) (Ms (AA CG (pv 2) (BX rfl T.k_TOP_LEVEL) (AG _))))) (Ah Bl) AC) (Ac (Aq (i:=3) IP.nd rfl O_9 (Aj Ay (AB (pv 0) rfl) (pv 1) R_9)) (Ac (Aq (i:=4) IP.nd rfl O_9 (Aj Ay (AB (pv 0) rfl) (AF Cv (pv 2) Ae) R_9)) (Ah (Av (AK (pv 0) N (rm M) Ao (Bm (Aa (AK (pv 0) N (rm M) Ao (Bm (Aa (pv 4) (Aa (pv 4) (Aa (pv 4) (Aa (Aj Al (pv 3) Ae R_9) Ab)))) Ab)) (Aa (AK (pv 0) N (rm M) Ao (Bm (Aa (pv 4) (Aa (pv 4) (Aa (Aj Al (pv 3) Ae R_9) (Aa (pv 4) Ab)))) Ab)) (Aa (AK (pv 0) N (rm M) Ao (Bm (Aa (pv 4) (Aa (Aj Al (pv 3) Ae R_9) (Aa (pv 4) (Aa (pv 4) Ab)))) Ab)) (Aa (AK (pv 0) N (rm M) Ao (Bm (Aa (Aj Al (pv 3) Ae R_9) (Aa (pv 4) (Aa (pv 4) (Aa (pv 4) Ab)))) Ab)) Ab)))) Ab)))))))),?_⟩
 try dsimp only[cxK]
 refine xq1 rfl ⟨g.p,g.dx,(xq1 rfl ⟨d.at'.hp,DY g,(xq1 rfl ⟨g,G,f',q,rfl,d.at',u.g,?_⟩)⟩)⟩;refine xwb rfl rfl rfl (xq1 rfl ?_);rw[X9 (by lia:¬q.lev<1)];refine Bd (xq1 rfl ⟨rfl,(xq1 rfl ?_)⟩);rw[X9 (by intro z;injection z with z;lia)];refine Bd (xwf rfl rfl d.at'.hp T.cl_Grove T.na_Grove_parts (BY g) (xwi rfl rfl rfl (SqL.of h3) (Ai (by rw[B6,et];rfl)) ?_));refine xwf rfl rfl d.at'.hp T.cl_Grove T.na_Grove_bares (GF g) (xwb rfl rfl rfl (xq4 rfl rfl (SqL.of d.br) (by rw[show q.lev-1=(n:Int) by lia];exact Ai (bareL_at' A0)) ?_));refine xq1 rfl ⟨g.p,g.dx,(xq1 rfl ⟨d.at'.hp,BJ g,?_⟩)⟩;refine xq1 rfl ⟨g.p,g.dx,(xq1 rfl ⟨d.at'.hp,BJ g,(xw3 rfl rfl rfl (xwi rfl rfl rfl (SqT.of I) (Ai (j:=0) rfl) ⟨S_4,λt1 ah=>?_⟩))⟩)⟩;have s1:=AJ (o:=.tup [.int (bareN n:Int),.int (bareN n:Int),.int (bareN n:Int),.int x]) ah;refine⟨g,G,t1,bareN n,bareN n,bareN n,x,(n:Int),rfl,d.at'.same s1,d.ok,Af,⟨m,m,m,u.hx⟩,by lia,by lia,λW G1 H1 aa R e e1=>?_⟩;have f1:=(Az.fr s1).trans aa;have am:=f1.tup d.at' I;have n1:=e.few;refine xwn rfl rfl R.hp (BJ g) rfl (xwj rfl rfl rfl rfl (SqT.of am) (Ai (j:=1) rfl) (xq1 rfl ⟨S_4,λt2 ai=>?_⟩));have s2:=AJ (o:=.tup [.int (bareN n:Int),.int (bareN n:Int),.int y,.int (bareN n:Int)]) ai;refine⟨g,G1,t2,bareN n,bareN n,y,bareN n,(n:Int),rfl,R.same s2,e.ok,Af,⟨e.lev m,e.lev m,e.lev u.hy,e.lev m⟩,by lia,by lia,λX G2 H2 ab S D e2=>?_⟩;have f2:=f1.trans ((Az.fr s2).trans ab);have an:=f2.tup d.at' I;have n2:=D.few;have b:=e.trans D;refine xwn rfl rfl S.hp (BJ g) rfl (xwi rfl rfl rfl (SqT.of an) (Ai (j:=2) rfl) (xw2 rfl rfl ⟨S_4,λt3 aj=>?_⟩));have s3:=AJ (o:=.tup [.int (bareN n:Int),.int z,.int (bareN n:Int),.int (bareN n:Int)]) aj;refine⟨g,G2,t3,bareN n,z,bareN n,bareN n,(n:Int),rfl,S.same s3,D.ok,Af,⟨b.lev m,b.lev u.hz,b.lev m,b.lev m⟩,by lia,by lia,λY G3 H3 ac U B e3=>?_⟩;have f3:=f2.trans ((Az.fr s3).trans ac);have ao:=f3.tup d.at' I;have n3:=B.few;have c:=b.trans B;refine xwn rfl rfl U.hp (BJ g) rfl (xq4 rfl rfl (SqT.of ao) (Ai (j:=3) rfl) (xw3 rfl rfl rfl ⟨S_4,λt4 ak=>?_⟩));have s4:=AJ (o:=.tup [.int v,.int (bareN n:Int),.int (bareN n:Int),.int (bareN n:Int)]) ak;refine⟨g,G3,t4,v,bareN n,bareN n,bareN n,(n:Int),rfl,U.same s4,B.ok,Af,⟨c.lev u.hw,c.lev m,c.lev m,c.lev m⟩,by lia,by lia,λZ G4 H4 ad af l e4=>?_⟩;have f4:=f3.trans ((Az.fr s4).trans ad);have n4:=l.few;have O:=c.trans l;refine⟨S_4,λt5 al=>?_⟩;have s5:=AJ (o:=.tup [.int W,.int X,.int Y,.int Z]) al;have E1:=(D.trans (B.trans l)).get e1;have E2:=(B.trans l).get e2;have E3:=l.get e3;refine⟨g,G4,t5,W,X,Y,Z,(n:Int)+1,rfl,af.same s5,l.ok,Af,⟨⟨_,E1,rfl⟩,⟨_,E2,rfl⟩,⟨_,E3,rfl⟩,⟨_,e4,rfl⟩⟩,by lia,by lia,λw' G5 H5 ae ag C e5=>?_⟩;have L:=O.trans C;exact k w' G5 H5 (f4.trans ((Az.fr s5).trans ae)) ag L ⟨q,x,y,z,v,W,X,Y,Z,u.app L,C.get E1,C.get E2,C.get E3,C.get e4,by rw[e5,show(n:Int)+1+1=(n:Int)+2 by lia]⟩
end
structure ON(G:Gv)(n i:Nat)(qs:L_)(ps:Nat->Nat->Nat):Prop where
node:∃q,EF G (n+1) i q (qs 0) (qs 1) (qs 2) (qs 3)
sub:∀k,k<4->∃q,EF G n (qs k) q (ps k 0) (ps k 1) (ps k 2) (ps k 3)
theorem ON.app{G b:Gv}{k n i:Nat}{c:L_}{ps:Nat->Nat->Nat}(go:AH G b k)(h:ON G n i c ps):ON b n i c ps:=by
 obtain⟨q,a⟩:=h.node;exact⟨⟨q,a.app go⟩,λk d=>by obtain⟨q,a⟩:=h.sub k d;exact⟨q,a.app go⟩⟩
def f4(x y z w:Nat)(k:Nat):Nat:=match k with|0=>x|1=>y|2=>z|_=>w
theorem WW{G:Gv}(ok:GOk G){n i:Nat}(h:Am G i ((n+2:Nat):Int)):∃e ps,ON G n i e ps:=by
 obtain⟨q,x,y,z,w,a⟩:=Bp ok (n:=n+1) h;obtain⟨_,m,o,p,r,nx⟩:=Bp ok a.hx;obtain⟨_,s,t,u,v,c⟩:=Bp ok a.hy;obtain⟨_,A,B,C,D,d⟩:=Bp ok a.hz;obtain⟨_,f,g,j,l,nw⟩:=Bp ok a.hw;refine⟨f4 x y z w,λk=>match k with|0=>f4 m o p r|1=>f4 s t u v|2=>f4 A B C D|_=>f4 f g j l,⟨q,a⟩,λk b=>?_⟩
 match k,b with
 |0,_=>exact⟨_,nx⟩
 |1,_=>exact⟨_,c⟩
 |2,_=>exact⟨_,d⟩
 |3,_=>exact⟨_,nw⟩
theorem EF.nat{G:Gv}{n i:Nat}{q:Sq}{x y z w:Nat}(h:EF G n i q x y z w){j:Nat}(a:j<4):q.parts[j]?=some ((f4 x y z w j:Nat):Int)/\Am G (f4 x y z w j) n:=by
 rw[h.ps]
 match j,a with
 |0,_=>exact⟨rfl,h.hx⟩
 |1,_=>exact⟨rfl,h.hy⟩
 |2,_=>exact⟨rfl,h.hz⟩
 |3,_=>exact⟨rfl,h.hw⟩
theorem Lu(p:L_){j:Nat}(a:j<4):f4 (p 0) (p 1) (p 2) (p 3) j=p j:=by
 match j,a with
 |0,_=>rfl
 |1,_=>rfl
 |2,_=>rfl
 |3,_=>rfl
def BA(n:Nat)(ps:Nat->Nat->Nat):Prop:=∀k j,k<4->j<4->j+k≠3->ps k j=bareN n
def FH(G:Gv):Nat->Nat->Nat->Prop
|0,_,_=>False
|1,f,r=>r=f
|n+2,f,r=>∃qs ps,ON G n f qs ps/\((¬BA n ps/\r=f)\/(BA n ps/\∃m,G[m]?=some ⟨[(ps 0 3:Int),(ps 1 2:Int),(ps 2 1:Int),(ps 3 0:Int)],(n:Int)+1⟩/\FH G (n+1) m r))
theorem FH.app{G a:Gv}{k:Nat}(go:AH G a k):∀{n f r:Nat},FH G n f r->FH a n f r
|0,_,_,h=>h
|1,_,_,h=>h
|n+2,f,r,h=>by
 obtain⟨g,ps,d,h⟩:=h;refine⟨g,ps,d.app go,?_⟩;rcases h with h|⟨b,m,c,e⟩
 .exact .inl h
 .exact .inr ⟨b,m,go.get c,FH.app go e⟩
section
variable{P:N_}{w:Q_}{K:O_}{mg:C_}{base:T_}{a:Ad}
theorem DL{H:Hp}{g:GA}{G:Gv}(h:AM a H g G){n i:Nat}{q:Sq}{x y z w:Nat}(d:EF G n i q x y z w):∃(c:H_)(t:R_),H g.pt=some (.lst (c.map V.ref))/\(c.map V.ref)[i]?=some (.ref t)/\H t=some (.tup [.int x,.int y,.int z,.int w]):=by
 obtain⟨c,f,j⟩:=h.pt;obtain⟨t,e,b⟩:=PairedM.get j d.g;refine⟨c,t,f,by rw[B6,e];rfl,?_⟩;have b:H t=some (.tup (q.parts.map V.int)):=b;rw[d.ps]at b;exact b
inductive SpMid(a:Ad)(vs:List V)(H:Hp)(Q:VK):Prop
|mk (g:GA) (G:Gv) (i n:Nat) (qs:L_) (ps:Nat->Nat->Nat) (_:vs=[.ref g.p,.int i]) (_:AM a H g G) (_:GOk G) (_:ON G n i qs ps) (_:n<47) (_:G.length<8900000) (_:∀(m:Nat)(G':Gv)(H':Hp),Fr g H H'->AM a H' g G'->AH G G' 1->G'[m]?=some ⟨[(ps 0 3:Int),(ps 1 2:Int),(ps 2 1:Int),(ps 3 0:Int)],(n:Int)+1⟩->Q (.int m) H'):SpMid a vs H Q
def ZT(a:Ad):Sp:=λvs H Q _=>SpMid a vs H Q
theorem ok_mid(F:Fun K "middle_of" "middle_of" GP f fd)(T:Top K mg a)(a6:Ca P w K mg base CX0 2 a.c_Grove "linked" AU (DQ a)):AL P w K mg base CX0 3 f fd LG (ZT a):=by
 refine F.ok MN D_9 λaa A Z s H vs Q E hr h=>?_
 obtain⟨g,G,i,n,c,ps,rfl,I,ok,D,ab,few,k⟩:=h;obtain⟨q,nd⟩:=D.node;obtain⟨ts,t,S,et,ht⟩:=DL I nd;refine⟨_,(Ac (Jh (i:=2) rfl MN.nd rfl rfl (Bo.of (So:=Ak GP) (No:=Ow) (N:=["quarter","grove"]) (k:=1) (cs:=[0]) rfl rfl A1) (PN (Aj Ay (AB (pv 0) rfl) (pv 1) R_9)) (λ_ _ _=>(AZ (i:=0) A1 rfl rfl)) (λ_ _ _=>BC) (λ_ _ _=>(Aj (ixc_list (K:=K) rfl) (Sl (K:=K) rfl (pv 1) rfl) (pv 0) R_9))) (Ah (Av (AK (pv 0) a6 (rm hr) Ao (Bm (Aa (Aj Al (Aj Ay (pv 2) Ae R_9) Ae R_9) (Aa (Aj Al (Aj Ay (pv 2) Ae R_9) Ae R_9) (Aa (Aj Al (Aj Ay (pv 2) Ae R_9) Ae R_9) (Aa (Aj Al (Aj Ay (pv 2) Ae R_9) Ae R_9) Ab)))) Ab))))),?_⟩
 try dsimp only[cxK]
 refine xwf rfl rfl I.hp T.cl_Grove T.na_Grove_parts (BY g) (xwi rfl rfl rfl (SqL.of S) (Ai et) ⟨t,rfl,⟨_,SqT.of ht⟩,?_⟩);have b:∀k,k<4->∃tk,(ts.map V.ref)[c k]?=some (.ref tk)/\H tk=some (.tup [.int (ps k 0),.int (ps k 1),.int (ps k 2),.int (ps k 3)]):=λk hk=>by
  obtain⟨qk,Y⟩:=D.sub k hk;obtain⟨ac,tk,r,R,W⟩:=DL I Y;rw[S]at r;have r:=HO.lst.inj (K4 r);exact⟨tk,by rw[r];exact R,W⟩
 obtain⟨u,e0,p0⟩:=b 0 A4;obtain⟨x,e1,p1⟩:=b 1 A4;obtain⟨y,e2,p2⟩:=b 2 A4;obtain⟨B,e3,p3⟩:=b 3 A4;have all:∀(j:Nat)(v:V),[V.int (c 0:Int),V.int (c 1:Int),V.int (c 2:Int),V.int (c 3:Int)][j]?=some v->∃(k:Nat)(tk:R_),v=.int (k:Int)/\(ts.map V.ref)[k]?=some (.ref tk)/\[V.ref u,V.ref x,V.ref y,V.ref B][j]?=some (.ref tk):=λj v d=>by
  match j,d with
  |0,d=>cases d;exact⟨c 0,u,rfl,e0,rfl⟩
  |1,d=>cases d;exact⟨c 1,x,rfl,e1,rfl⟩
  |2,d=>cases d;exact⟨c 2,y,rfl,e2,rfl⟩
  |3,d=>cases d;exact⟨c 3,B,rfl,e3,rfl⟩
  |j+4,d=>simp at d
 refine Ny (xs:=[.int (c 0:Int),.int (c 1:Int),.int (c 2:Int),.int (c 3:Int)]) (λj p O=>H=O/\p=[V.ref u,V.ref x,V.ref y,V.ref B].take j) ⟨rfl,rfl⟩ (λj p O _ z=>z.1▸SqT.of ht) ?_ ?_
 .rintro j v p O d ⟨rfl,rfl⟩;obtain⟨k',tk,rfl,ek,el⟩:=all j v d;refine⟨⟨[some (.int k')],rfl,rfl⟩,by rw[J0];exact FG (by show min j 4<10000000;lia),FI (xwf rfl rfl I.hp T.cl_Grove T.na_Grove_parts (BY g) (xwi rfl rfl rfl (SqL.of S) (Ai ek) ⟨rfl,?_⟩))⟩;rw[F3,el];rfl
 .rintro p O ⟨rfl,rfl⟩ L hL;have C:=AJ (o:=.lst [V.ref u,V.ref x,V.ref y,V.ref B]) hL;have l:upd H L (.lst [V.ref u,V.ref x,V.ref y,V.ref B]) L=some (.lst [V.ref u,V.ref x,V.ref y,V.ref B]):=Af;rw[show(List.take [V.int (c 0:Int),V.int (c 1:Int),V.int (c 2:Int),V.int (c 3:Int)].length [V.ref u,V.ref x,V.ref y,V.ref B])=[V.ref u,V.ref x,V.ref y,V.ref B]from rfl];generalize upd H L (.lst [V.ref u,V.ref x,V.ref y,V.ref B])=H1 at C l⊢;have M:=I.same C;refine xwn rfl rfl M.hp (BJ g) rfl (xq4 rfl rfl (SqL.of l) (Ai (j:=0) rfl) (xq4 rfl rfl (SqT.of (C _ _ p0)) (Ai (j:=3) rfl) (xwi rfl rfl rfl (SqL.of l) (Ai (j:=1) rfl) (xq4 rfl rfl (SqT.of (C _ _ p1)) (Ai (j:=2) rfl) ?_))));refine xwi rfl rfl rfl (SqL.of l) (Ai (j:=2) rfl) (xq4 rfl rfl (SqT.of (C _ _ p2)) (Ai (j:=1) rfl) (xwi rfl rfl rfl (SqL.of l) (Ai (j:=3) rfl) (xq4 rfl rfl (SqT.of (C _ _ p3)) (Ai (j:=0) rfl) ⟨S_4,λt4 X=>?_⟩)));have s2:=AJ (o:=.tup [.int (ps 0 3),.int (ps 1 2),.int (ps 2 1),.int (ps 3 0)]) X;obtain⟨_,n0⟩:=D.sub 0 A4;obtain⟨_,n1⟩:=D.sub 1 A4;obtain⟨_,n2⟩:=D.sub 2 A4;obtain⟨_,n3⟩:=D.sub 3 A4;exact⟨g,G,t4,ps 0 3,ps 1 2,ps 2 1,ps 3 0,(n:Int),rfl,M.same s2,ok,Af,⟨n0.hw,n1.hz,n2.hy,n3.hx⟩,by lia,by lia,λm G' H' fr U go e=>k m G' H' ((Az.fr C).trans ((Az.fr s2).trans fr)) U go e⟩
inductive SpBA(a:Ad)(vs:List V)(H:Hp)(Q:VK):Prop
|mk (g:GA) (G:Gv) (i n:Nat) (qs:L_) (ps:Nat->Nat->Nat) (_:vs=[.ref g.p,.int i]) (_:AW a H g G) (_:ON G n i qs ps) (_:n<47) (_:(BA n ps->∀H',Az H H'->Q (.bl true) H')) (_:(¬BA n ps->∀H',Az H H'->Q (.bl false) H')):SpBA a vs H Q
def spBA(a:Ad):Sp:=λvs H Q _=>SpBA a vs H Q
theorem ok_ba(F:Fun K "is_bare_around" "is_bare_around" EL f fd)(T:Top K mg a):AL P w K mg base CX0 1 f fd LG (spBA a):=by
 refine F.ok BR D_9 λad A ac s H vs Q E hr h=>?_
 obtain⟨g,G,i,n,u,ps,rfl,m,dp,ae,k1,k2⟩:=h;obtain⟨q,r⟩:=dp.node;have lq:=r.lev;obtain⟨ts,t,h3,et,ht⟩:=DL m.at' r;refine⟨_,(Ac (Aq (i:=2) BR.nd rfl O_9 (Aj Ay (AB (pv 0) rfl) (AF Cv (Aj Ay (AB (pv 0) rfl) (pv 1) R_9) Ae) R_9)) (Ac (CK K7 rfl (OX true rfl T.b_enumerate (Aa (Aj Ay (AB (pv 0) rfl) (pv 1) R_9) Ab)) (PP rfl (DF (BD (i:=3) BR.nd rfl O_9) (DF (BD (i:=4) BR.nd rfl O_9) MU))) (Ah (CK K7 rfl (OX true rfl T.b_enumerate (Aa (Aj Ay (AB (pv 0) rfl) (pv 4) R_9) Ab)) (PP rfl (DF (BD (i:=5) BR.nd rfl O_9) (DF (BD (i:=6) BR.nd rfl O_9) MU))) (Ah (AO (PW.pt (Mt (AA GV (pv 6) (pv 2) (AG _)) (Jg (AA GV (pv 5) (AF Cv Ae (pv 3)) (AG _))))) (Ah (Av Ou)) AC))))) (Ah (Av Ou)))),?_⟩
 try dsimp only[cxK]
 refine xwf rfl rfl m.at'.hp T.cl_Grove T.na_Grove_bares (GF g) (xwf rfl rfl m.at'.hp T.cl_Grove T.na_Grove_levels (EC g) (xwi rfl rfl rfl (SqL.of m.at'.lv) (Ai (by rw[B6,r.g];rfl)) (xq2 rfl rfl (xq4 rfl rfl (SqL.of m.br) (by rw[show q.lev-2=(n:Int) by lia];exact Ai (bareL_at' A0)) ?_))));refine xwf rfl rfl m.at'.hp T.cl_Grove T.na_Grove_parts (BY g) (xwi rfl rfl rfl (SqL.of h3) (Ai et) ⟨t,rfl,⟨_,SqT.of ht⟩,?_⟩);refine Nl (b:=true) (xs:=[.int (u 0:Int),.int (u 1:Int),.int (u 2:Int),.int (u 3:Int)]) (λj σ I=>Az H I/\(∃u3 u4 C D:Option V,σ=[some (.ref g.p),some (.int i),some (.int (bareN n:Int)),u3,u4,C,D])/\∀l d,l<j->l<4->d<4->d+l≠3->ps l d=bareN n) ⟨Az.refl H,⟨none,none,none,none,rfl⟩,λl d h=>absurd h (L9 _)⟩ (λj σ I _ z=>SqT.of (z.1 _ _ ht)) ?_ ?_
 .rintro j v σ I T' c ⟨sm,⟨u3,u4,C,D,rfl⟩,W⟩ nT;have Z:j<4:=(B5.mp c).1;have y:v=.int (u j:Int):=by
   match j,Z,c with
   |0,_,c=>cases c;rfl
   |1,_,c=>cases c;rfl
   |2,_,c=>cases c;rfl
   |3,_,c=>cases c;rfl
  subst y;obtain⟨qk,ab⟩:=dp.sub j Z;have U:=sm.trans (AJ (o:=.tup [.int j,.int (u j)]) nT);refine Uw Af ?_;generalize upd I T' (.tup [.int j,.int (u j)])=H3 at U⊢;obtain⟨af,t3,Y,X,S⟩:=DL (m.at'.same U) ab;refine xwf rfl rfl ((m.at'.same U).hp) T.cl_Grove T.na_Grove_parts (BY g) (xwi rfl rfl rfl (SqL.of Y) (Ai X) ⟨t3,rfl,⟨_,SqT.of S⟩,?_⟩);refine Nl (b:=true) (xs:=[.int (ps j 0:Int),.int (ps j 1:Int),.int (ps j 2:Int),.int (ps j 3:Int)]) (λk σ M=>Az H3 M/\(∃C D:Option V,σ=[some (.ref g.p),some (.int i),some (.int (bareN n:Int)),some (.int j),some (.int (u j)),C,D])/\∀d,d<k->d<4->d+j≠3->ps j d=bareN n) ⟨Az.refl H3,⟨_,_,rfl⟩,λd h=>absurd h (L9 _)⟩ (λk σ M _ z=>SqT.of (z.1 _ _ S)) ?_ ?_
  .rintro k v σ M T2 c ⟨B,⟨C,D,rfl⟩,x⟩ aa;have R:k<4:=(B5.mp c).1;have y:v=.int (ps j k:Int):=by
    match k,R,c with
    |0,_,c=>cases c;rfl
    |1,_,c=>cases c;rfl
    |2,_,c=>cases c;rfl
    |3,_,c=>cases c;rfl
   subst y;have s4:=B.trans (AJ (o:=.tup [.int k,.int (ps j k)]) aa);refine Uw Af ?_;generalize upd M T2 (.tup [.int k,.int (ps j k)])=H5 at s4⊢;refine xw2 rfl rfl ⟨rfl,(xq1 rfl ?_)⟩;refine ZD (b2:=!decide (V.int (k:Int)=V.int (3-(j:Int)))) (λ_ Q' q=>(xw2 rfl rfl (xq2 rfl rfl ⟨rfl,(xq1 rfl q)⟩))) ?_;refine JI (λO=>?_) (λO=>?_)
   .refine k2 (λba=>?_) H5 (U.trans s4);rw[P4]at O;have c2:¬k+j=3:=λz=>by
     have:=O.2;rw[X8 (show V.int (k:Int)=V.int (3-(j:Int)) by congr 1;lia)]at this;cases this
    have c1:=O.1;rw[ba j k Z R c2,X8 rfl]at c1;cases c1
   .refine⟨s4,⟨_,_,rfl⟩,λd L N e=>?_⟩;rcases O3.mp L with h|h
    .exact x d h N e
    .subst h;refine K5 λz=>O ?_;rw[X9 (show ¬V.int (ps j d:Int)=V.int (bareN n:Int) by intro q;injection q with q;exact z (K2 q)),X9 (show ¬V.int (d:Int)=V.int (3-(j:Int)) by intro q;injection q with q;lia)];rfl
  .rintro σ M ⟨B,⟨C,D,rfl⟩,x⟩;refine⟨U.trans B,⟨_,_,_,_,rfl⟩,λl d L N e h4=>?_⟩;rcases O3.mp L with h|h
   .exact W l d h N e h4
   .subst h;exact x d e e h4
 .rintro σ I ⟨sm,⟨u3,u4,C,D,rfl⟩,W⟩;exact k1 (λl d L N e=>W l d L L N e) I sm
end
theorem FH.lev{G:Gv}:∀{l f r:Nat},Am G f (l:Int)->FH G l f r->∃n,n+1<=l/\Am G r ((n+1:Nat):Int)
|0,_,_,_,h=>h.elim
|1,f,r,hl,h=>by
 have h:r=f:=h;subst h;exact⟨0,B8 _,hl⟩
|n+2,f,r,hl,h=>by
 apply AN;intro b a;obtain⟨i,ps,d,h⟩:=h;apply a;clear a b;rcases h with ⟨_,rfl⟩|⟨_,m,e,h⟩
 .exact⟨n+1,B8 _,hl⟩
 .obtain⟨k,g,c⟩:=FH.lev (l:=n+1) ⟨_,e,by show(n:Int)+1=_;lia⟩ h;exact⟨k,by lia,c⟩
section
variable{P:N_}{w:Q_}{K:O_}{mg:C_}{base:T_}{a:Ad}
inductive SpTrim(a:Ad)(vs:List V)(H:Hp)(Q:VK):Prop
|mk (g:GA) (G:Gv) (f n:Nat) (_:vs=[.ref g.p,.int f]) (_:AW a H g G) (_:Am G f ((n+1:Nat):Int)) (_:G.length<8800000) (_:∀(r:Nat)(G':Gv)(H':Hp),Fr g H H'->AW a H' g G'->AH G G' 48->FH G' (n+1) f r->Q (.int r) H'):SpTrim a vs H Q
def NC(a:Ad):Sp:=λvs H Q _=>SpTrim a vs H Q
theorem ok_trim(F:Fun K "trimmed" "trimmed" NN f fd)(T:Top K mg a)(a7:Ca P w K mg base CX0 3 a.c_Grove "level_of" Lp (MF a))(bH:Cal P w K mg base CX0 1 "is_bare_around" LG (spBA a))(cM:Cal P w K mg base CX0 3 "middle_of" LG (ZT a)):AL P w K mg base CX0 4 f fd LG (NC a):=by
 refine F.ok Mg (λvs H Q E h=>?_) (λaa A U s H vs Q E R h=>?_)
 .apply AN;intro y e;obtain⟨g,G,o,n,rfl,_⟩:=h;apply e;clear e y;rfl
 .apply AN;intro y e;obtain⟨g,G,o,n,rfl,C,Z,few,k⟩:=h;obtain⟨q,eq,lq⟩:=id Z;apply e;clear e y;have ac:n+1<=48:=by have:=(C.ok.lev eq).2;lia
  refine⟨_,(Ac (AO (AA JF (AK (pv 0) a7 (rm R) Ao (Aa (pv 1) Ab)) (BX rfl T.k_LEAST_LEVEL) (AG _)) (Ah Bl) AC) (Ac (Aq (i:=2) Mg.nd rfl O_9 (pv 1)) (Ac (JV K7 (PW.pt (Mt (AA Ri (Aj Ay (AB (pv 0) rfl) (pv 2) R_9) (BX rfl T.k_LEAST_LEVEL) (AG _)) (Jg (DT (As bH (rm R) rfl Ao (Aa (pv 0) (Aa (pv 2) Ab))))))) (Ah (Aq (i:=2) Mg.nd rfl O_9 (As cM (rm R) rfl Ao (Aa (pv 0) (Aa (pv 2) Ab)))))) (Ah (Av (pv 2)))))),?_⟩
  try dsimp only[cxK]
  refine xq1 rfl ⟨g.p,g.dx,(xq1 rfl ⟨C.at'.hp,DY g,(xq1 rfl ⟨g,G,o,q,rfl,C.at',eq,(xq2 rfl rfl (xq1 rfl ?_))⟩)⟩)⟩;rw[X9 (by lia:¬q.lev<1)];refine Bd (xq1 rfl ?_);refine⟨λm σ D=>∃(j:Gv)(c:Nat),σ=[some (.ref g.p),some (.int o),some (.int c)]/\Fr g H D/\AW a D g j/\AH G j (n-m)/\m<=n/\Am j c ((m+1:Nat):Int)/\∀(r:Nat)(d:Gv)(k:Nat),AH j d k->FH d (m+1) c r->FH d (n+1) o r,⟨n,G,o,rfl,Fr.refl g H,C,(AH.refl C.ok).mono A0,B8 _,Z,λ_ _ _ _ h=>h⟩,?_⟩;rintro m σ D W;apply AN;intro y e;obtain⟨j,c,rfl,fr,b,go,mn,lc,V⟩:=W;apply e;clear e y;have gf:=go.few;obtain⟨qc,ec,ab⟩:=id lc;refine xwf rfl rfl b.at'.hp T.cl_Grove T.na_Grove_levels (EC g) (xwi rfl rfl rfl (SqL.of b.at'.lv) (Ai (by rw[B6,ec];rfl)) (xq2 rfl rfl (xq1 rfl ?_)));cases m with
  |zero =>
   rw[X9 (by lia:¬(1:Int)<qc.lev)];exact Bd (Bd (xq1 rfl (k c j D fr b (go.mono A0) (V c j 0 (AH.refl b.ok) rfl))))
  |succ m =>
   rw[X8 (by lia:(1:Int)<qc.lev)];obtain⟨L,ps,I⟩:=WW b.ok lc;refine BP (xw2 rfl rfl ⟨g,j,c,m,L,ps,rfl,b,I,by lia,λba X x=>⟨true,rfl,BP ?_⟩,λS X x=>⟨false,rfl,Bd ?_⟩⟩)
   .refine⟨fun σ' M=>∃(u:Gv)(v:Nat),σ'=[some (.ref g.p),some (.int o),some (.int v)]/\Fr g H M/\AW a M g u/\AH G u (n-m)/\m<=n/\Am u v ((m+1:Nat):Int)/\∀(r:Nat)(d:Gv)(k:Nat),AH u d k->FH d (m+1) v r->FH d (n+1) o r,fun σ' M z=>⟨m,by lia,z⟩,?_⟩;refine xw2 rfl rfl ⟨g,j,c,m,L,ps,rfl,b.at'.same x,b.ok,I,by lia,by lia,λv u H4 B O l Y=>?_⟩;have N:=(b.same x).fr B O l;refine⟨u,v,rfl,fr.trans ((Az.fr x).trans B),N,(go.trans l).mono A0,by lia,⟨_,Y,by show(m:Int)+1=_;lia⟩,λr d k' t t5=>?_⟩;exact V r d _ (l.trans t) ⟨L,ps,I.app (l.trans t),.inr ⟨ba,v,t.get Y,t5⟩⟩
   .exact xq1 rfl (k c j X (fr.trans (Az.fr x)) (b.same x) (go.mono A0) (V c j 0 (AH.refl b.ok) ⟨L,ps,I,.inl ⟨S,rfl⟩⟩))
def On(G:Gv)(n f:Nat):Nat->Nat->Prop
|0,w=>w=f
|k+1,w=>∃u,On G n f k u/\Wid G (n+k) u w
theorem On.app{G b:Gv}{m n f:Nat}(go:AH G b m):∀{k w:Nat},On G n f k w->On b n f k w
|0,_,h=>h
|k+1,w,h=>by
 obtain⟨u,c,d⟩:=h;exact⟨u,On.app go c,d.app go⟩
inductive SpWO(a:Ad)(vs:List V)(H:Hp)(Q:VK):Prop
|mk (g:GA) (G:Gv) (f n:Nat) (t:R_) (x y wd ht:Int) (_:vs=[.ref g.p,.int f,.ref t]) (_:AW a H g G) (_:Am G f ((n+1:Nat):Int)) (_:n<=40) (_:H t=some (.tup [.int x,.int y,.int wd,.int ht])) (_:GL x y wd ht (2^40)) (_:G.length<8700000) (_:∀(k w:Nat)(G':Gv)(H':Hp),Fr g H H'->AW a H' g G'->AH G G' (5*k)->n+k<=40->On G' n f k w->Am G' w ((n+k+1:Nat):Int)->GL x y wd ht (2^(n+k))->(∀j,j<k->¬GL x y wd ht (2^(n+j)))->Q (.int w) H'):SpWO a vs H Q
def spWO(a:Ad):Sp:=λvs H Q _=>SpWO a vs H Q
theorem ok_wo(F:Fun K "widened_over" "widened_over" Gb f fd)(T:Top K mg a)(aA:Cal P w K mg base CX0 1 "lies_within" QP Re)(aB:Cal P w K mg base CX0 4 "reach_of" Vr (IO a))(bK:Cal P w K mg base CX0 4 "widened" LG (Wn a)):AL P w K mg base CX0 5 f fd Et (spWO a):=by
 refine F.ok Fw (λvs H Q E h=>?_) (λaa A W s H vs Q E S h=>?_)
 .apply AN;intro u b;obtain⟨g,G,q,n,t,x,y,D,Y,rfl,_⟩:=h;apply b;clear b u;rfl
 .apply AN;intro u b;obtain⟨g,G,q,n,t,x,y,D,L,rfl,N,hl,ac,Y,li,few,k⟩:=h;apply b;clear b u;refine⟨_,(Ac (Aq (i:=3) Fw.nd rfl O_9 (pv 1)) (Ac (JV K7 (Er (DT (As aA (rm S) rfl Ao (Aa (pv 2) (Aa (As aB (rm S) rfl Ao (Aa (pv 0) (Aa (pv 3) Ab))) Ab))))) (Ah (Aq (i:=3) Fw.nd rfl O_9 (As bK (rm S) rfl Ao (Aa (pv 0) (Aa (pv 3) Ab)))))) (Ah (Av (pv 3))))),?_⟩
  try dsimp only[cxK]
  refine xq1 rfl ?_;refine⟨λm σ I=>∃(e:Gv)(c j:Nat),σ=[some (.ref g.p),some (.int q),some (.ref t),some (.int c)]/\Fr g H I/\AW a I g e/\AH G e (5*j)/\n+j+m=40/\Am e c ((n+j+1:Nat):Int)/\On e n q j c/\∀i,i<j->¬GL x y D L (2^(n+i)),⟨40-n,G,q,0,rfl,Fr.refl g H,N,AH.refl N.ok,by lia,hl,rfl,λi R=>absurd R (L9 _)⟩,?_⟩;rintro m σ I X;apply AN;intro u b;obtain⟨e,c,j,rfl,fr,d,go,ab,V,wn,no⟩:=X;apply b;clear b u;have gf:=go.few;have U:=fr.tup N.at' Y;refine xq1 rfl (xq1 rfl (xq1 rfl ⟨g,e,c,n+j,rfl,d.at',V,by lia,t,x,y,D,L,_,rfl,U,_,rfl,?_⟩));by_cases r:GL x y D L (2^(n+j))
  .rw[X8 r];exact Bd (xq1 rfl (k j c e I fr d go A0 wn V r no))
  .rw[X9 r];have m0:m≠0:=λz=>by
    subst z;have:n+j=40:=by lia
    rw[this]at r;exact r li
   refine BP ⟨fun σ' M=>∃(o:Gv)(v C:Nat),σ'=[some (.ref g.p),some (.int q),some (.ref t),some (.int v)]/\Fr g H M/\AW a M g o/\AH G o (5*C)/\n+C+(m-1)=40/\Am o v ((n+C+1:Nat):Int)/\On o n q C v/\∀i,i<C->¬GL x y D L (2^(n+i)),fun σ' M z=>⟨m-1,by lia,z⟩,?_⟩;refine xw2 rfl rfl ⟨g,e,c,n+j,rfl,d,V,by lia,by lia,λv o H3 B O l Z=>?_⟩;refine⟨o,v,j+1,rfl,fr.trans B,d.fr B O l,(go.trans l).mono A0,by lia,?_,⟨c,wn.app l,Z⟩,λi R=>?_⟩
   .have:=Z.lev;rw[show n+(j+1)+1=n+j+2 by lia];exact this
   .rcases O3.mp R with h|h
    .exact no i h
    .rw[h];exact r
end
def st4(x y z w k j:Nat)(i:Nat):Nat:=if i=k then j else f4 x y z w i
def quad(l x y:Nat):Nat:=x/2^l+2*(y/2^l)
theorem BT{l x:Nat}(h:x<2^(l+1)):x/2^l<2:=by
 rw[W7 (V1 A4),R3,<-F9];exact h
theorem BB{l x y:Nat}(a:x<2^(l+1))(b:y<2^(l+1)):quad l x y<4:=by
 have c:=BT a;have d:=BT b;unfold quad;lia
theorem DE(l:Nat):((2^l:Nat):Int)=(2:Int)^l:=M6 2 l
theorem quad_c(l x y:Nat):(x:Int)/2^l+2*((y:Int)/2^l)=((quad l x y:Nat):Int):=by
 unfold quad;rw[<-DE,N3,N8,S6,S6];rfl
theorem mod_c(l x:Nat):(x:Int)%2^l=((x%2^l:Nat):Int):=by rw[<-DE,Int.natCast_emod]
theorem set4(x y z w j:Nat){k:Nat}(a:k<4):([V.int (x:Int),V.int (y:Int),V.int (z:Int),V.int (w:Int)].set k (.int j))=[V.int (st4 x y z w k j 0:Int),V.int (st4 x y z w k j 1:Int),V.int (st4 x y z w k j 2:Int),V.int (st4 x y z w k j 3:Int)]:=by
 match k,a with
 |0,_=>rfl
 |1,_=>rfl
 |2,_=>rfl
 |3,_=>rfl
def Rep(G:Gv)(s:Nat):Nat->Nat->Nat->Nat->Nat->Prop
|0,_,_,_,r=>r=s
|l+1,i,x,y,r=>∃(q:Sq)(a b c d j:Nat),EF G l i q a b c d/\Rep G s l (f4 a b c d (quad l x y)) (x%2^l) (y%2^l) j/\G[r]?=some ⟨[(st4 a b c d (quad l x y) j 0:Int),(st4 a b c d (quad l x y) j 1:Int),(st4 a b c d (quad l x y) j 2:Int),(st4 a b c d (quad l x y) j 3:Int)],(l:Int)+1⟩
theorem Rep.app{G f:Gv}{m s:Nat}(go:AH G f m):∀{l i x y r:Nat},Rep G s l i x y r->Rep f s l i x y r
|0,_,_,_,_,h=>h
|l+1,i,x,y,r,h=>by
 obtain⟨q,a,b,c,d,j,k,g,e⟩:=h;exact⟨q,a,b,c,d,j,k.app go,Rep.app go g,go.get e⟩
theorem Rep.lev{G:Gv}(ok:GOk G){s:Nat}(f:s<8):∀{l i x y r:Nat},Rep G s l i x y r->Am G r (l:Int)
|0,_,_,_,r,h=>by
 have h:r=s:=h;subst h;exact⟨_,ok.leaf r f,rfl⟩
|l+1,_,_,_,_,h=>by
 obtain⟨q,a,b,c,d,j,k,g,e⟩:=h;exact⟨_,e,by show(l:Int)+1=_;lia⟩
section
variable{P:N_}{w:Q_}{K:O_}{mg:C_}{base:T_}{a:Ad}
inductive SpRep(a:Ad)(n:Nat)(vs:List V)(H:Hp)(Q:VK):Prop
|mk (g:GA) (G:Gv) (i l x y s:Nat) (_:vs=[.ref g.p,.int i,.int x,.int y,.int s]) (_:AM a H g G) (_:GOk G) (_:Am G i (l:Int)) (_:l<n) (_:x<2^l) (_:y<2^l) (_:s<8) (_:G.length+l<8900000) (_:∀(r:Nat)(G':Gv)(H':Hp),Fr g H H'->AM a H' g G'->AH G G' l->Rep G' s l i x y r->Q (.int r) H'):SpRep a n vs H Q
def Wo(a:Ad)(n:Nat):Sp:=λvs H Q _=>SpRep a n vs H Q
theorem ok_rep(F:Fun K "replaced" "replaced" Mh f fd)(T:Top K mg a)(hm:mg "replaced" = some (.ref f))(Bi:CF K fd Gn [])(aV:Ca P w K mg base CX0 3 a.c_Grove "leaf" SE (RV a))(a6:Ca P w K mg base CX0 2 a.c_Grove "linked" AU (DQ a)):∀n,AL P w K mg base CX0 (n+4) f fd Gn (Wo a n)
|0=>by
 refine F.ok Ea (λvs H Q E h=>?_) (λab A O s H vs Q E W h=>?_)
 .obtain⟨g,G,i,l,x,y,s,rfl,_,_,_,h0,_⟩:=h;exact absurd h0 (L9 _)
 .obtain⟨g,G,i,l,x,y,s,rfl,_,_,_,h0,_⟩:=h;exact absurd h0 (L9 _)
|n+1=>by
 have bN:Cal P w K mg base CX0 (n+4) "replaced" Gn (Wo a n):=⟨f,fd,ok_rep F T hm Bi aV a6 n,hm,F.kp,Bi⟩
 refine F.ok Ea (λvs H Q E h=>?_) (λab A O s H vs Q E W h=>?_)
 .obtain⟨g,G,i,l,x,y,s,rfl,_⟩:=h;rfl
 .obtain⟨g,G,i,l,x,y,st,rfl,B,ok,hl,ln,hx,hy,s8,few,k⟩:=h;obtain⟨q0,e0,l0⟩:=id hl;refine⟨_,(Ac (Aq (i:=5) Ea.nd rfl O_9 (Aj Ay (AB (pv 0) rfl) (pv 1) R_9)) (Ac (AO (AA CG (pv 5) Ae (AG _)) (Ah (Av (AK (pv 0) aV (rm W) Ao (Aa (pv 4) Ab)))) AC) (Ac (Aq (i:=6) Ea.nd rfl O_9 (AF NU Ae (AF Cv (pv 5) Ae))) (Ac (Aq (i:=7) Ea.nd rfl O_9 (Bw SZ rfl T.b_list PyProof.Rows.boot_list (Aa (Aj Ay (AB (pv 0) rfl) (pv 1) R_9) Ab))) (Ac (Aq (i:=8) Ea.nd rfl O_9 (AF AQ (AF Na (pv 2) (pv 6)) (AF EW Ae (AF Na (pv 3) (pv 6))))) (Ac (ps_asg (As bN (rm W) rfl Ao (Aa (pv 0) (Aa (Aj Ay (pv 7) (pv 8) R_9) (Bn Bq (pv 2) (pv 6) (Bn Bq (pv 3) (pv 6) (Aa (pv 4) Ab)))))) (pg_sub (pv 7) (pv 8) TD)) (Ah (Av (AK (pv 0) a6 (rm W) Ao (Aa (Bw BE rfl T.b_tuple A0f (Aa (pv 7) Ab)) Ab)))))))))),?_⟩
  try dsimp only[cxK]
  refine⟨_,rfl,g.p,_,g.dx,_,_,rfl,B.hp,T.cl_Grove,T.na_Grove_levels,EC g,_,rfl,g.lv,_,(i:Int),.int q0.lev,rfl,rfl,SqL.of B.lv,Ai (by rw[B6,e0];rfl),?_⟩;cases l with
  |zero =>
   rw[l0];exact xq1 rfl ⟨rfl,(xq1 rfl (BP (xwn rfl rfl B.hp (WI g) rfl ⟨g.p,(st:Int),rfl,by lia,by lia,k st G H (Fr.refl g H) B (AH.refl ok) rfl⟩)))⟩
  |succ l =>
   have ah:q0.lev=(l:Int)+1:=by rw[l0];lia
   have ak:=(ok.lev e0).2;have C:=pow2_lt (l:=l) A0;have v:=OW l;obtain⟨q,c,d,m,u,D⟩:=Bp ok hl;obtain⟨ts,t,h3,et,ht⟩:=DL B D;refine xq1 rfl ⟨rfl,(xq1 rfl ?_)⟩;rw[X9 (by intro z;injection z with z;lia)];refine Bd (xwb rfl rfl rfl (xq2 rfl rfl ⟨⟨by lia,by lia,by decide⟩,?_⟩));rw[show(λ(i j:Int)=>V.int (i*2^j.toNat)) 1 (q0.lev-1)=V.int (2^l)from A0g V.int (RP l ah)];refine xwf rfl rfl B.hp T.cl_Grove T.na_Grove_parts (BY g) (xwi rfl rfl rfl (SqL.of h3) (Ai et) ⟨t,(xq1 rfl ⟨.inr (SqT.of ht),λL hL=>?_⟩)⟩);have Z:Ap g L:=Ap.new B hL;have s1:=AJ (o:=.lst [.int c,.int d,.int m,.int u]) hL;have M:upd H L (.lst [.int c,.int d,.int m,.int u]) L=some (.lst [.int c,.int d,.int m,.int u]):=Af;generalize upd H L (.lst [.int c,.int d,.int m,.int u])=H1 at s1 M⊢;have ad:=B.same s1;have X:=BB hx hy;refine xw2 rfl rfl (xq2 rfl rfl ⟨⟨v,C⟩,(xw2 rfl rfl (xq2 rfl rfl ⟨⟨v,C⟩,(xq2 rfl rfl ⟨.inl ⟨by decide,by decide⟩,(xq2 rfl rfl ?_)⟩)⟩))⟩);rw[show(λ(i j:Int)=>V.int (i+j)) ((x:Int)/2^l) (2*((y:Int)/2^l))=V.int ((quad l x y:Nat):Int)from A0g V.int (quad_c l x y)];have aa:[V.int (c:Int),V.int (d:Int),V.int (m:Int),V.int (u:Int)][quad l x y]?=some (.int (f4 c d m u (quad l x y):Int)):=by
    generalize quad l x y=kk at X⊢
    match kk,X with
    |0,_=>rfl
    |1,_=>rfl
    |2,_=>rfl
    |3,_=>rfl
   have ai:Am G (f4 c d m u (quad l x y)) (l:Int):=(D.nat X).2;refine xw3 rfl rfl rfl (xq4 rfl rfl (SqL.of M) (Ai aa) (xw2 rfl rfl (xq2 rfl rfl ⟨v,(xw2 rfl rfl (xq2 rfl rfl ⟨v,(xq1 rfl ?_)⟩))⟩)));refine⟨g,G,f4 c d m u (quad l x y),l,x%2^l,y%2^l,st,by rw[<-mod_c,<-mod_c];rfl,ad,ok,ai,by lia,F1 _ (V1 A4),F1 _ (V1 A4),s8,by lia,λj G1 Y fr ae go rp=>?_⟩;have gf:=go.few;have S:=fr.get Z M;refine xw2 rfl rfl ⟨L,_,((quad l x y:Nat):Int),quad l x y,rfl,rfl,S,by unfold ixN;rw[K0 A0,K0 (by show((quad l x y:Nat):Int)<((4:Nat):Int);lia),J7],?_⟩;rw[set4 c d m u j X];have N:=ae.put (o:=.lst [V.int (st4 c d m u (quad l x y) j 0:Int),V.int (st4 c d m u (quad l x y) j 1:Int),V.int (st4 c d m u (quad l x y) j 2:Int),V.int (st4 c d m u (quad l x y) j 3:Int)]) S Z.1 Z.2.1;have U:upd Y L (.lst [V.int (st4 c d m u (quad l x y) j 0:Int),V.int (st4 c d m u (quad l x y) j 1:Int),V.int (st4 c d m u (quad l x y) j 2:Int),V.int (st4 c d m u (quad l x y) j 3:Int)]) L=some (.lst [V.int (st4 c d m u (quad l x y) j 0:Int),V.int (st4 c d m u (quad l x y) j 1:Int),V.int (st4 c d m u (quad l x y) j 2:Int),V.int (st4 c d m u (quad l x y) j 3:Int)]):=Af;have R:Fr g H (upd Y L (.lst [V.int (st4 c d m u (quad l x y) j 0:Int),V.int (st4 c d m u (quad l x y) j 1:Int),V.int (st4 c d m u (quad l x y) j 2:Int),V.int (st4 c d m u (quad l x y) j 3:Int)])):=λb o e m1 m2 m3=>by
    rw[Ax (Aw e hL)];exact fr _ _ (s1 _ _ e) m1 m2 m3
   generalize upd Y L (.lst [V.int (st4 c d m u (quad l x y) j 0:Int),V.int (st4 c d m u (quad l x y) j 1:Int),V.int (st4 c d m u (quad l x y) j 2:Int),V.int (st4 c d m u (quad l x y) j 3:Int)])=H3 at N U R⊢;refine xwn rfl rfl N.hp (BJ g) rfl ⟨L,(xq1 rfl (.inl ⟨SqL.of U,λt4 ag=>?_⟩))⟩;have s4:=AJ (o:=.tup [V.int (st4 c d m u (quad l x y) j 0:Int),V.int (st4 c d m u (quad l x y) j 1:Int),V.int (st4 c d m u (quad l x y) j 2:Int),V.int (st4 c d m u (quad l x y) j 3:Int)]) ag;have aj:=D.app go;have lj:=rp.lev go.ok s8;have lst:∀ii,ii<4->Am G1 (st4 c d m u (quad l x y) j ii) (l:Int):=λii hi=>by
    unfold st4;split
    .exact lj
    .exact(aj.nat hi).2
   refine⟨g,G1,t4,_,_,_,_,(l:Int),rfl,N.same s4,go.ok,Af,⟨lst 0 A4,lst 1 A4,lst 2 A4,lst 3 A4⟩,by lia,by lia,λr G2 H4 ac af I e4=>?_⟩;exact k r G2 H4 (R.trans ((Az.fr s4).trans ac)) af (go.trans I) ⟨q,c,d,m,u,j,D.app (go.trans I),rp.app I,e4⟩
structure LT(G:Gv)(n f:Nat)(x y:Int)(s r:Nat)(k w i:Nat):Prop where
le:n+k<=40
wid:On G n f k w
lw:Am G w ((n+k+1:Nat):Int)
li:GL x y 1 1 (2^(n+k))
no:∀j,j<k->¬GL x y 1 1 (2^(n+j))
rep:Rep G s (n+k+1) w (x+2^(n+k)).toNat (y+2^(n+k)).toNat i
tr:FH G (n+k+1) i r
theorem WP{x y:Int}{m:Nat}(h:GL x y 1 1 (2^m)):(x+2^m).toNat<2^(m+1)/\(y+2^m).toNat<2^(m+1)/\0<=x+2^m/\0<=y+2^m:=by
 obtain⟨b,c,d,f⟩:=h;have e:=DE (m+1);rw[Ci]at e;have p:=OW m;refine⟨?_,?_,by lia,by lia⟩<;>lia
inductive Yh(a:Ad)(vs:List V)(H:Hp)(Q:VK):Prop
|mk (g:GA) (G:Gv) (f n:Nat) (x y:Int) (s:Nat) (_:vs=[.ref g.p,.int f,.int x,.int y,.int s]) (_:AW a H g G) (_:Am G f ((n+1:Nat):Int)) (_:n<=40) (_:GL x y 1 1 (2^40)) (_:s<8) (_:G.length<8000000) (_:∀(r k w i:Nat)(G':Gv)(H':Hp),Fr g H H'->AW a H' g G'->AH G G' 400->LT G' n f x y s r k w i->Q (.int r) H'):Yh a vs H Q
def RT(a:Ad):Sp:=λvs H Q _=>Yh a vs H Q
theorem ok_plant(F:Fun K "planted" "planted" NO f fd)(T:Top K mg a)(aA:Cal P w K mg base CX0 1 "lies_within" QP Re)(bG:Cal P w K mg base CX0 2 "is_state" Vt spIS)(aB:Cal P w K mg base CX0 4 "reach_of" Vr (IO a))(aT:Cal P w K mg base CX0 5 "widened_over" Et (spWO a))
 (bN:Cal P w K mg base CX0 54 "replaced" Gn (Wo a 50)) (aR:Cal P w K mg base CX0 4 "trimmed" LG (NC a)):AL P w K mg base CX0 55 f fd NT (RT a):=by
 refine F.ok IQ D_9 λaa A M s H vs Q E j h=>?_
 obtain⟨g,G,f',n,x,y,Y,rfl,fu,hl,L,V,X,few,k⟩:=h;refine⟨_,(Ac (Aq (i:=5) IQ.nd rfl O_9 (Dz (Aa (pv 2) (Aa (pv 3) (AV (AV Ab)))))) (Ac (AO (Er (DT (As aA (rm j) rfl Ao (Aa (pv 5) (Aa (BX rfl T.k_LIMIT) Ab))))) (Ah Bl) AC) (Ac (AO (Er (DT (As bG (rm j) rfl Ao (Aa (pv 4) Ab)))) (Ah Bl) AC) (Ac (Aq (i:=6) IQ.nd rfl O_9 (As aT (rm j) rfl Ao (Aa (pv 0) (Aa (pv 1) (Aa (pv 5) Ab))))) (Ac (Aq (i:=7) IQ.nd rfl O_9 (As aB (rm j) rfl Ao (Aa (pv 0) (Aa (pv 6) Ab)))) (Ah (Av (As aR (rm j) rfl Ao (Aa (pv 0) (Aa (As bN (rm j) rfl Ao (Aa (pv 0) (Aa (pv 6) (Bn AQ (pv 2) (pv 7) (Bn AQ (pv 3) (pv 7) (Aa (pv 4) Ab)))))) Ab)))))))))),?_⟩
 try dsimp only[cxK]
 refine xw2 rfl rfl ⟨S_4,λt ht=>?_⟩;have N:=AJ (o:=.tup [.int x,.int y,.int 1,.int 1]) ht;have e:upd H t (.tup [.int x,.int y,.int 1,.int 1]) t=some (.tup [.int x,.int y,.int 1,.int 1]):=Af;generalize upd H t (.tup [.int x,.int y,.int 1,.int 1])=H1 at N e⊢;have v:=fu.same N;refine xq1 rfl ⟨t,x,y,1,1,_,rfl,e,_,rfl,?_⟩;rw[X8 (show GL x y 1 1 1099511627776 from V)];refine Bd (xq1 rfl ⟨(Y:Int),rfl,by lia,by lia,true,rfl,Bd ?_⟩);refine xw3 rfl rfl rfl ⟨g,G,f',n,t,x,y,1,1,rfl,v,hl,L,e,V,by lia,λkk O R H2 q c m le wn I U no=>?_⟩;have ab:=m.few;refine xw2 rfl rfl ⟨g,R,O,n+kk,rfl,c.at',I,by lia,?_⟩;obtain⟨b1,b2,b3,b4⟩:=WP U;refine xw3 rfl rfl rfl (xw2 rfl rfl (xq2 rfl rfl (xw2 rfl rfl (xq2 rfl rfl (xq1 rfl ?_)))));refine⟨g,R,O,n+kk+1,(x+2^(n+kk)).toNat,(y+2^(n+kk)).toNat,Y,by rw[N7 b3,N7 b4];rfl,c.at',c.ok,I,by lia,b1,b2,X,by lia,λS Z H3 l C d W=>?_⟩;have ac:=d.few;have z:=c.fr l C d;have D:=W.lev d.ok X;refine⟨g,Z,S,n+kk,rfl,z,D,by lia,λr G3 H4 u B p tr=>?_⟩;have b:=d.trans p;exact k r kk O S G3 H4 ((Az.fr N).trans (q.trans (l.trans u))) B ((m.trans b).mono A0) ⟨le,wn.app b,b.lev I,U,no,W.app p,tr⟩
end
structure Cl where
x:Int
y:Int
s:Nat
def Ti(H:Hp)(t:R_)(c:Cl):Prop:=H t=some (.tup [.int c.x,.int c.y,.int c.s])
structure ClOk(c:Cl):Prop where
li:GL c.x c.y 1 1 (2^40)
s:c.s<8
theorem LT.app{G a:Gv}{m n f:Nat}{x y:Int}{s r k w i:Nat}(go:AH G a m)(h:LT G n f x y s r k w i):LT a n f x y s r k w i:=⟨h.le,h.wid.app go,go.lev h.lw,h.li,h.no,h.rep.app go,h.tr.app go⟩
inductive Th(G:Gv):List Cl->Nat->Nat->Prop
|nil:Th G [] 0 (bareN 1)
|cons {cs:List Cl} {c:Cl} {n f r k w i m:Nat} (h:Th G cs n f) (l:Am G f ((n+1:Nat):Int)) (p:LT G n f c.x c.y c.s r k w i) (l':Am G r ((m+1:Nat):Int)):Th G (c::cs) m r
theorem Th.app{G a:Gv}{m:Nat}(go:AH G a m){cs:List Cl}{n f:Nat}(h:Th G cs n f):Th a cs n f:=by
 induction h with
 |nil=>exact .nil
 |cons _ l p c b=>exact .cons b (go.lev l) (p.app go) (go.lev c)
section
variable{P:N_}{w:Q_}{K:O_}{mg:C_}{base:T_}{a:Ad}
inductive SpFld(a:Ad)(vs:List V)(H:Hp)(Q:VK):Prop
|mk (g:GA) (G:Gv) (L:R_) (ts:H_) (cs:List Cl) (_:vs=[.ref g.p,.ref L]) (_:AW a H g G) (_:H L=some (.lst (ts.map V.ref))) (_:L≠g.lv) (_:L≠g.pt) (_:Paired (Ti H) ts cs) (_:(∀c∈cs,ClOk c)) (_:G.length+400*cs.length<8000000) (_:∀(f n:Nat)(G':Gv)(H':Hp),Fr g H H'->AW a H' g G'->AH G G' (400*cs.length)->n<=40->Am G' f ((n+1:Nat):Int)->Th G' cs.reverse n f->Q (.int f) H'):SpFld a vs H Q
def ZX(a:Ad):Sp:=λvs H Q _=>SpFld a vs H Q
theorem ok_fld(F:Fun K "field_of" "field_of" Mo f fd)(T:Top K mg a)(aZ:Cal P w K mg base CX0 1 "bare_field" Sy (OS a))(dA:Cal P w K mg base CX0 55 "planted" NT (RT a)):AL P w K mg base CX0 56 f fd Mw (ZX a):=by
 refine F.ok GO D_9 λaa A W s H vs Q E Z h=>?_
 obtain⟨g,G,L,ts,cs,rfl,z,O,n1,n2,pr,U,few,k⟩:=h;obtain⟨r0,e0⟩:=z.g0;have S:=K9 pr;refine⟨_,(Ac (Aq (i:=2) GO.nd rfl O_9 (As aZ (rm Z) rfl Ao (Aa (pv 0) Ab))) (Ac (CK K7 rfl (BS (pv 1)) (BD (i:=3) GO.nd rfl O_9) (Ah (Aq (i:=2) GO.nd rfl O_9 (As dA (rm Z) rfl Ao (Aa (pv 0) (Aa (pv 2) (Aa (Aj Al (pv 3) Ae R_9) (Aa (Aj Al (pv 3) Ae R_9) (Aa (Aj Al (pv 3) Ae R_9) Ab))))))))) (Ah (Av (pv 2))))),?_⟩
 try dsimp only[cxK]
 refine xq1 rfl ⟨g,G,rfl,z,?_⟩;refine xq1 rfl ⟨L,rfl,⟨_,SqL.of O⟩,?_⟩;refine Nk (xs:=ts.map V.ref) (λj σ u=>∃(b:Gv)(f n:Nat)(X:Option V),σ=[some (.ref g.p),some (.ref L),some (.int f),X]/\Fr g H u/\AW a u g b/\AH G b (400*j)/\n<=40/\Am b f ((n+1:Nat):Int)/\Th b (cs.take j).reverse n f) ⟨G,bareN 1,0,none,rfl,Fr.refl g H,z,AH.refl z.ok,by lia,DI e0 A0,.nil⟩ (λj σ u _ ⟨_,_,_,_,_,fr,_⟩=>SqL.of (fr _ _ O n1 n2 (AE O z.at'.nm A3))) ?_ ?_
 .rintro j v σ u Y ⟨b,M,n,X,rfl,fr,e,go,q,D,B⟩;rw[B6]at Y;obtain⟨t,et,rfl⟩:=C9.mp Y;obtain⟨c,I,hc⟩:=PairedM.getL pr et;have d:=U c (D0 I);have hj:j<cs.length:=(B5.mp I).1;have o:=fr.tup z.at' hc;have gf:=go.few;refine xw3 rfl rfl rfl (xq4 rfl rfl (SqT.of o) (Ai (j:=0) rfl) (xwi rfl rfl rfl (SqT.of o) (Ai (j:=1) rfl) (xwi rfl rfl rfl (SqT.of o) (Ai (j:=2) rfl) ?_)));refine⟨g,b,M,n,c.x,c.y,c.s,rfl,e,D,q,d.li,d.s,by lia,λr kk w' i' G2 H3 N C l pl=>?_⟩;have R:=pl.rep.lev C.ok d.s;obtain⟨m,lm,lr⟩:=FH.lev R pl.tr;have le:=pl.le;refine⟨G2,r,m,(xq1 rfl ⟨fr.trans N,C,(go.trans l).mono A0,by lia,lr,?_⟩)⟩;rw[F3,I,R0,List.reverse_append];exact .cons (B.app l) (l.lev D) pl lr
 .rintro σ u ⟨b,M,n,X,rfl,fr,e,go,q,D,B⟩;rw[B4,S]at go B;rw[F6]at B;exact xq1 rfl (k M n b u fr e go q D B)
end
def JA(G:Gv)(n f:Nat):Prop:=n=0\/∃m qs ps,n=m+1/\ON G m f qs ps/\¬BA m ps
theorem JA.app{G a:Gv}{k n f:Nat}(go:AH G a k)(h:JA G n f):JA a n f:=by
 rcases h with h|⟨m,c,ps,e,d,b⟩
 .exact .inl h
 .exact .inr ⟨m,c,ps,e,d.app go,b⟩
end J
namespace J
open PySem L2
def Cf(G:Gv):Nat->Nat->Nat->Nat->Nat
|0,i,_,_=>i
|n+1,i,x,y=>match G[i]? with
 |some q=>Cf G n (q.parts.getD (quad n x y) 0).toNat (x%2^n) (y%2^n)
 |none=>0
theorem AI(n:Nat):0<2^n:=V1 A4
theorem Bb{G:Gv}{n i:Nat}{q:Sq}{a b c d:Nat}(h:EF G n i q a b c d){x y:Nat}(e:x<2^(n+1))(f:y<2^(n+1)):Cf G (n+1) i x y=Cf G n (f4 a b c d (quad n x y)) (x%2^n) (y%2^n):=by
 rw[show Cf G (n+1) i x y=(match G[i]? with|some q=>Cf G n (q.parts.getD (quad n x y) 0).toNat (x%2^n) (y%2^n)|none=>0)from rfl,h.g];show Cf G n (q.parts.getD (quad n x y) 0).toNat _ _=_;have:=(h.nat (BB e f)).1;rw[C6,this];rfl
theorem Ly{G f:Gv}{k:Nat}(ok:GOk G)(go:AH G f k):∀{n i x y:Nat},Am G i (n:Int)->x<2^n->y<2^n->Cf f n i x y=Cf G n i x y
|0,_,_,_,_,_,_=>rfl
|n+1,i,x,y,h,hx,hy=>by
 obtain⟨q,a,b,c,d,e⟩:=Bp ok h;rw[Bb e hx hy,Bb (e.app go) hx hy];exact Ly ok go (e.nat (BB hx hy)).2 (F1 _ (AI n)) (F1 _ (AI n))
theorem CZ{G r:Gv}(e:G=G0++r)(ok:GOk G):∀{n x y:Nat},n<=48->x<2^n->y<2^n->Cf G n (bareN n) x y=0
|0,_,_,_,_,_=>rfl
|n+1,x,y,hn,hx,hy=>by
 obtain⟨q,a,b,c,d,f⟩:=Bp ok (DI e (n:=n+1) hn);have h:a=bareN n/\b=bareN n/\c=bareN n/\d=bareN n:=by
  have g:=f.g;rw[show bareN (n+1)=8+n from rfl,VM e n A0]at g;cases g;have s:[(bareN n:Int),(bareN n:Int),(bareN n:Int),(bareN n:Int)]=[(a:Int),(b:Int),(c:Int),(d:Int)]:=f.ps;injection s with s0 s
  injection s with s1 s
  injection s with s2 s
  injection s with s3 s
  exact⟨(K2 s0).symm,(K2 s1).symm,(K2 s2).symm,(K2 s3).symm⟩
 obtain⟨rfl,rfl,rfl,rfl⟩:=h;rw[Bb f hx hy];have:f4 (bareN n) (bareN n) (bareN n) (bareN n) (quad n x y)=bareN n:=by unfold f4;split<;>rfl
 rw[this];exact CZ e ok A0 (F1 _ (AI n)) (F1 _ (AI n))
theorem EX{n k x y:Nat}(c:k<4)(a:x<2^n)(b:y<2^n):(x+2^n*(k%2))<2^(n+1)/\(y+2^n*(k/2))<2^(n+1)/\quad n (x+2^n*(k%2)) (y+2^n*(k/2))=k/\(x+2^n*(k%2))%2^n=x/\(y+2^n*(k/2))%2^n=y:=by
 have p:=AI n;have e:2^(n+1)=2*2^n:=by rw[F9];lia
 unfold quad;rw[N4 _ _ p,N4 _ _ p,N6,N6,L6 a,L6 b,J8 a,J8 b,e];generalize 2^n=h at *
 match k,c with
 |0,_=>exact⟨by lia,by lia,rfl,rfl,rfl⟩
 |1,_=>exact⟨by lia,by lia,rfl,rfl,rfl⟩
 |2,_=>exact⟨by lia,by lia,rfl,rfl,rfl⟩
 |3,_=>exact⟨by lia,by lia,rfl,rfl,rfl⟩
theorem LP{G:Gv}(ok:GOk G):∀{n i j:Nat},Am G i (n:Int)->Am G j (n:Int)->(∀x y,x<2^n->y<2^n->Cf G n i x y=Cf G n j x y)->i=j
|0,i,j,_,_,h=>h 0 0 A4 A4
|n+1,i,j,hi,hj,h=>by
 obtain⟨q,a,b,c,d,l⟩:=Bp ok hi;obtain⟨F,r,s,t,d',f⟩:=Bp ok hj;have e:∀k,k<4->f4 a b c d k=f4 r s t d' k:=λk p=>by
  refine LP ok (l.nat p).2 (f.nat p).2 λx y z A=>?_;obtain⟨m,o,u,v,w⟩:=EX p z A;have:=h _ _ m o;rw[Bb l m o,Bb f m o,u,v,w]at this;exact this
 have B:a=r:=e 0 A4;have C:b=s:=e 1 A4;have D:c=t:=e 2 A4;have E:d=d':=e 3 A4;subst B C D E;exact ok.one l.g f.g (l.ps.trans f.ps.symm)
theorem Tz{n x X:Nat}(a:x/2^n=X/2^n)(b:x%2^n=X%2^n):x=X:=by
 rw[<-M7 x (2^n),<-M7 X (2^n),a,b]
theorem TN{G:Gv}(ok:GOk G){s:Nat}(p:s<8):∀{n i X Y r x y:Nat},X<2^n->Y<2^n->x<2^n->y<2^n->Rep G s n i X Y r->Cf G n r x y=if x=X/\y=Y then s else Cf G n i x y
|0,i,X,Y,r,x,y,hX,hY,hx,hy,h=>by
 have h:r=s:=h;have u:X=0:=Y6.mp hX;have v:Y=0:=Y6.mp hY;have w:x=0:=Y6.mp hx;have E:y=0:=Y6.mp hy;subst u v w E h;rfl
|n+1,i,X,Y,r,x,y,hX,hY,hx,hy,h=>by
 obtain⟨q,a,b,c,d,j,t,o,e⟩:=h;have K:=o.lev ok p;have lst:∀l,l<4->Am G (st4 a b c d (quad n X Y) j l) (n:Int):=λl I=>by
  unfold st4;split
  .exact K
  .exact(t.nat I).2
 have L:EF G n r _ (st4 a b c d (quad n X Y) j 0) (st4 a b c d (quad n X Y) j 1) (st4 a b c d (quad n X Y) j 2) (st4 a b c d (quad n X Y) j 3):=⟨e,rfl,rfl,lst 0 A4,lst 1 A4,lst 2 A4,lst 3 A4⟩
 have M:=BB hx hy;rw[Bb L hx hy,Bb t hx hy,Lu (st4 a b c d (quad n X Y) j) M];have m:=AI n;have P:=BT hx;have Q:=BT hy;have N:=BT hX;have O:=BT hY;unfold st4;by_cases g:quad n x y=quad n X Y
 .rw[K0 g,TN ok p (F1 _ m) (F1 _ m) (F1 _ m) (F1 _ m) o,g];have k:x/2^n=X/2^n/\y/2^n=Y/2^n:=by
   unfold quad at g;generalize x/2^n=A at *
   generalize X/2^n=B at *
   generalize y/2^n=C at *
   generalize Y/2^n=D at *
   lia
  obtain⟨F,H⟩:=k;by_cases f:x=X/\y=Y
  .rw[K0 f,K0 ⟨by rw[f.1],by rw[f.2]⟩]
  .rw[X7 f,X7 λz=>f ⟨Tz F z.1,Tz H z.2⟩]
 .rw[X7 g,X7 λz=>g (by rw[z.1,z.2])]
def fieldF(G:Gv)(n f:Nat)(x y:Int):Nat:=if -(2^n)<=x/\x<2^n/\-(2^n)<=y/\y<2^n then Cf G (n+1) f (x+2^n).toNat (y+2^n).toNat else 0
theorem Dw{n:Nat}{x:Int}(a:-(2^n)<=x)(b:x<2^n):(x+2^n).toNat<2^(n+1):=by
 have e:=DE (n+1);rw[Ci]at e;lia
theorem Ec{G a:Gv}{k n f:Nat}(ok:GOk G)(go:AH G a k)(h:Am G f ((n+1:Nat):Int))(x y:Int):fieldF a n f x y=fieldF G n f x y:=by
 unfold fieldF;split
 .rename_i z;exact Ly ok go h (Dw z.1 z.2.1) (Dw z.2.2.1 z.2.2.2)
 .rfl
theorem Ng{h X:Nat}(u:Nat)(a:h*u<=X)(b:X<h*(u+1)):X/h=u/\X%h=X-h*u:=by
 have e:X/h=u:=Nat.div_eq_of_lt_le (by rw[R3];exact a) (by rw[R3];exact b);exact⟨e,by have:=M7 X h;rw[e]at this;lia⟩
theorem Ez(x n:Nat):x%2^(n+1)%2^n=x%2^n:=Nat.mod_mod_of_dvd x ⟨2,by rw[F9]⟩
theorem LN{G:Gv}{n i:Nat}{f:L_}{ps:Nat->Nat->Nat}(h:ON G n i f ps){x y:Nat}(c:x<2^(n+2))(d:y<2^(n+2)):Cf G (n+2) i x y=Cf G n (ps (quad (n+1) x y) (quad n (x%2^(n+1)) (y%2^(n+1)))) (x%2^n) (y%2^n):=by
 obtain⟨q,g⟩:=h.node;have e:=BB (l:=n+1) c d;have a:x%2^(n+1)<2^(n+1):=F1 _ (AI _);have b:y%2^(n+1)<2^(n+1):=F1 _ (AI _);obtain⟨j,nk⟩:=h.sub _ e;rw[Bb g c d,Lu f e,Bb nk a b,Lu (ps _) (BB a b),Ez,Ez]
theorem bits{h u:Nat}(e:u<2*h):(u+h)/(2*h)=u/h/\(u+h)%(2*h)/h=1-u/h/\(u+h)%h=u%h/\u/h<2:=by
 have p:0<h:=by lia
 rcases Z5 u h with z|z
 .have a:u/h=0:=L6 z;have b:(u+h)/(2*h)=0:=L6 A0;have c:(u+h)%(2*h)=u+h:=J8 A0;have d:(u+h)/h=1:=(Ng (X:=u+h) 1 A0 A0).1;exact⟨by rw[a,b],by rw[c,d,a],Nat.add_mod_right u h,by lia⟩
 .have a:u/h=1:=(Ng 1 A0 A0).1;have b:=Ng (h:=2*h) (X:=u+h) 1 A0 A0;have c:(u+h-2*h*1)/h=0:=L6 A0;exact⟨by rw[a,b.1],by rw[b.2,c,a],Nat.add_mod_right u h,by lia⟩
theorem Fq(n:Nat):2^(n+1)=2*2^n:=by rw[F9];lia
theorem mid_cell{G:Gv}(ok:GOk G){n i m:Nat}{F:L_}{ps:Nat->Nat->Nat}(h:ON G n i F ps)(D:G[m]?=some ⟨[(ps 0 3:Int),(ps 1 2:Int),(ps 2 1:Int),(ps 3 0:Int)],(n:Int)+1⟩){u v:Nat}(c:u<2^(n+1))(e:v<2^(n+1)):Cf G (n+2) i (u+2^n) (v+2^n)=Cf G (n+1) m u v:=by
 have b:∀k j,k<4->j<4->Am G (ps k j) (n:Int):=λk j E l=>by
  obtain⟨q,nk⟩:=h.sub k E;have:=(nk.nat l).2;rw[Lu (ps k) l]at this;exact this
 have nm:EF G n m _ (ps 0 3) (ps 1 2) (ps 2 1) (ps 3 0):=⟨D,rfl,rfl,b 0 3 A4 A4,b 1 2 A4 A4,b 2 1 A4 A4,b 3 0 A4 A4⟩
 have g:=Fq n;have H:2^(n+2)=2*2^(n+1):=Fq (n+1);have p:=AI n;rw[LN h A0 A0,Bb nm c e];unfold quad;rw[g];rw[g]at c e;apply AN;intro r a;obtain⟨s,t,w,x⟩:=bits c;obtain⟨y,b2,B,C⟩:=bits e;apply a;clear a r;rw[s,t,w,y,b2,B];have two:∀{A:Nat},A<2->A=0\/A=1:=λ{A} h=>by lia
 have d:=two x;have f:=two C;rcases d with z|z<;>rcases f with o|o<;>rw[z,o]<;>rfl
theorem mid_iff'{m X Y:Nat}{x y:Int}(j:(X:Int)=x+2^(m+1))(k:(Y:Int)=y+2^(m+1))(o:X<2^(m+2))(q:Y<2^(m+2)):quad m (X%2^(m+1)) (Y%2^(m+1))+quad (m+1) X Y=3↔(-(2^m)<=x/\x<2^m/\-(2^m)<=y/\y<2^m):=by
 have p:=AI m;have c:=Fq m;have H:2^(m+2)=2*2^(m+1):=Fq (m+1);have E:=DE m;have i:=DE (m+1);rw[c]at i;unfold quad;rw[c];rw[H,c]at o q;rw[<-i]at j k;rw[<-E];generalize 2^m=h at *
 have a:∀{X:Nat}{x:Int},(X:Int)=x+((2*h:Nat):Int)->X<2*(2*h)->(X%(2*h)/h+X/(2*h)=1 ↔ -(h:Int)<=x/\x<(h:Int))/\X%(2*h)/h<2/\X/(2*h)<2:=by
  intro X x e l;have n:0<2*h:=by lia
  have M:X/(2*h)<2:=by rw[W7 n];exact l
  have N:X%(2*h)<2*h:=F1 _ n;have L:X%(2*h)/h<2:=by rw[W7 p];exact N
  have G:=M7 X (2*h);have F:=M7 (X%(2*h)) h;have m1:=F1 (X%(2*h)) p;refine⟨?_,L,M⟩;generalize X/(2*h)=u at *
  generalize X%(2*h)/h=v at *
  generalize X%(2*h)%h=t at *
  generalize X%(2*h)=S at *
  have I:u=0\/u=1:=by lia
  have K:v=0\/v=1:=by lia
  rcases I with rfl|rfl<;>rcases K with rfl|rfl<;>simp only[Nat.mul_zero,Y4,M4]at F G<;>lia
 obtain⟨r,T,U⟩:=a j o;obtain⟨s,V,W⟩:=a k q;clear a;generalize X%(2*h)/h=A at *
 generalize X/(2*h)=B at *
 generalize Y%(2*h)/h=C at *
 generalize Y/(2*h)=D at *
 constructor
 .intro z;have f:=r.mp A0;have g:=s.mp A0;exact⟨f.1,f.2,g.1,g.2⟩
 .rintro d;apply AN;intro w b;obtain⟨O,P,Q,R⟩:=d;apply b;clear b w;have f:=r.mpr ⟨O,P⟩;have g:=s.mpr ⟨Q,R⟩;lia
theorem Rl{G r:Gv}(s:G=G0++r)(ok:GOk G){n i m:Nat}(H:n<=46){B:L_}{ps:Nat->Nat->Nat}(h:ON G n i B ps)(o:BA n ps)(t:G[m]?=some ⟨[(ps 0 3:Int),(ps 1 2:Int),(ps 2 1:Int),(ps 3 0:Int)],(n:Int)+1⟩)(x y:Int):fieldF G (n+1) i x y=fieldF G n m x y:=by
 have I:=Ci n;have p:=OW n;unfold fieldF;by_cases b:-(2^n)<=x/\x<2^n/\-(2^n)<=y/\y<2^n
 .apply AN;intro d a;obtain⟨g,j,k,l⟩:=b;apply a;clear a d;rw[K0 ⟨by lia,by lia,by lia,by lia⟩,K0 ⟨g,j,k,l⟩];have w:=Dw g j;have A:=Dw k l;have c:=DE n;have u:(x+2^(n+1)).toNat=(x+2^n).toNat+2^n:=by lia
  have v:(y+2^(n+1)).toNat=(y+2^n).toNat+2^n:=by lia
  rw[u,v];exact mid_cell ok h t w A
 .rw[X7 b];split
  .rename_i z;apply AN;intro d a;obtain⟨C,D,E,F⟩:=z;apply a;clear a d;have e:=Dw C D;have f:=Dw E F;rw[LN h e f];have ne:¬quad n ((x+2^(n+1)).toNat%2^(n+1)) ((y+2^(n+1)).toNat%2^(n+1))+quad (n+1) (x+2^(n+1)).toNat (y+2^(n+1)).toNat=3:=λq=>b ((mid_iff' (N7 A0) (N7 A0) e f).mp q);rw[o _ _ (BB e f) (BB (F1 _ (AI _)) (F1 _ (AI _))) ne];exact CZ s ok A0 (F1 _ (AI _)) (F1 _ (AI _))
  .rfl
theorem FZ{G p:Gv}(b:G=G0++p)(ok:GOk G):∀{n f r:Nat},n<=47->Am G f ((n+1:Nat):Int)->FH G (n+1) f r->∃m,m<=n/\Am G r ((m+1:Nat):Int)/\JA G m r/\∀x y,fieldF G m r x y=fieldF G n f x y
|0,f,r,_,hl,h=>by
 have h:r=f:=h;subst h;exact⟨0,B8 _,hl,.inl rfl,λ_ _=>rfl⟩
|n+1,f,r,hn,hl,h=>by
 apply AN;intro e a;obtain⟨o,ps,d,h⟩:=h;apply a;clear a e;rcases h with ⟨l,rfl⟩|⟨g,m,c,h⟩
 .exact⟨n+1,B8 _,hl,.inr ⟨n,o,ps,rfl,d,l⟩,λ_ _=>rfl⟩
 .obtain⟨k,q,j,tk,i⟩:=FZ b ok A0 ⟨_,c,by show(n:Int)+1=_;lia⟩ h;refine⟨k,by lia,j,tk,λx y=>?_⟩;rw[i x y,Rl b ok A0 d g c x y]
theorem Yr{G r:Gv}(t:G=G0++r)(ok:GOk G){n f w:Nat}(F:n<=46)(h:Wid G n f w)(x y:Int):fieldF G (n+1) w x y=fieldF G n f x y:=by
 apply AN;intro B o;obtain⟨q,a,b,c,d,H,I,K,L,m,u,v,z,A,D⟩:=h.ex;apply o;clear o B;have i:=DI t (n:=n) A0;have s:∀{p:Nat}{l:I_},G[p]?=some ⟨l,(n:Int)+1⟩->Am G p ((n+1:Nat):Int):=λ{p l} e=>⟨_,e,by show(n:Int)+1=_;lia⟩
 have C:ON G n w (f4 H I K L) (λk j=>if j+k=3 then f4 a b c d k else bareN n):=by
  refine⟨⟨_,D,rfl,by show(n:Int)+2=_;lia,s u,s v,s z,s A⟩,λk E=>?_⟩
  match k,E with
  |0,_=>exact⟨_,u,rfl,rfl,i,i,i,m.hx⟩
  |1,_=>exact⟨_,v,rfl,rfl,i,i,m.hy,i⟩
  |2,_=>exact⟨_,z,rfl,rfl,i,m.hz,i,i⟩
  |3,_=>exact⟨_,A,rfl,rfl,m.hw,i,i,i⟩
 have g:=m.g;have l:=m.lev;have ps:=m.ps;refine Rl t ok F C (λk j _ _ ne=>X7 ne) ?_ x y;rw[g];cases q with
 |mk N M=>cases ps;cases l;rfl
theorem IN{G r:Gv}(a:G=G0++r)(ok:GOk G){n f:Nat}:∀{k w:Nat},n+k<=46->On G n f k w->∀x y,fieldF G (n+k) w x y=fieldF G n f x y
|0,w,_,h,x,y=>by
 have h:w=f:=h;subst h;rfl
|k+1,w,hk,h,x,y=>by
 obtain⟨u,b,c⟩:=h;rw[show n+(k+1)=n+k+1 by lia,Yr a ok A0 c x y];exact IN a ok A0 b x y
theorem TZ{G p:Gv}(e:G=G0++p)(ok:GOk G){n f s r k w i:Nat}{X Y:Int}(g:s<8)(h:LT G n f X Y s r k w i):∃m,m<=40/\Am G r ((m+1:Nat):Int)/\JA G m r/\∀x y,fieldF G m r x y=if x=X/\y=Y then s else fieldF G n f x y:=by
 have le:=h.le;have d:=h.rep.lev ok g;obtain⟨m,E,o,t,l⟩:=FZ e ok A0 d h.tr;refine⟨m,by lia,o,t,λx y=>?_⟩;rw[l x y,<-IN e ok A0 h.wid x y];apply AN;intro c a;obtain⟨j,b2,C,D⟩:=WP h.li;obtain⟨F,H,I,K⟩:=h.li;apply a;clear a c;unfold fieldF;split
 .rename_i z;apply AN;intro c a;obtain⟨u,v,A,B⟩:=z;apply a;clear a c;rw[TN ok g j b2 (Dw u v) (Dw A B) h.rep];by_cases b:x=X/\y=Y
  .rw[K0 b,K0 ⟨by rw[b.1],by rw[b.2]⟩]
  .rw[X7 b,X7 λq=>b ⟨by lia,by lia⟩]
 .rename_i z;rw[X7 λq=>z ⟨by lia,by lia,by lia,by lia⟩]
theorem Qm{G r:Gv}(a:G=G0++r)(ok:GOk G){n i:Nat}(b:n<=48)(h:Am G i (n:Int))(ne:i≠bareN n):∃x y,x<2^n/\y<2^n/\Cf G n i x y≠0:=by
 refine K5 λz=>ne (LP ok h (DI a b) λx y c d=>?_);rw[CZ a ok b c d];exact K5 λq=>z ⟨x,y,c,d,q⟩
theorem ME{G r:Gv}(I:G=G0++r)(ok:GOk G){m f:Nat}(T:m<=46)(h:JA G (m+1) f):∃x y:Int,¬(-(2^m)<=x/\x<2^m/\-(2^m)<=y/\y<2^m)/\fieldF G (m+1) f x y≠0:=by
 rcases h with h|⟨a,V,ps,e,w,O⟩
 .lia
 .have:a=m:=by lia
  subst this;have:∃k j,k<4/\j<4/\j+k≠3/\ps k j≠bareN a:=by
   refine K5 λz=>O λk j g d ne=>K5 λq=>z ⟨k,j,g,d,ne,q⟩
  apply AN;intro i b;obtain⟨k,j,g,d,ne,c⟩:=this;obtain⟨U,nk⟩:=w.sub k g;apply b;clear b i;have N:Am G (ps k j) (a:Int):=by
   have:=(nk.nat d).2;rw[Lu (ps k) d]at this;exact this
  obtain⟨u,v,L,M,K⟩:=Qm I ok A0 N c;apply AN;intro i b;obtain⟨A,B,p,C,D⟩:=EX d L M;obtain⟨s,b2,t,l,o⟩:=EX (n:=a+1) g A B;apply b;clear b i;generalize R:u+2^a*(j%2)+2^(a+1)*(k%2)=X at *
  generalize S:v+2^a*(j/2)+2^(a+1)*(k/2)=Y at *
  have Q:=DE (a+1);have E:=DE (a+2);have P:=Ci (a+1);rw[P]at E;refine⟨(X:Int)-2^(a+1),(Y:Int)-2^(a+1),λz=>ne ?_,?_⟩
  .have:=(mid_iff' (X:=X) (Y:=Y) A0 A0 s b2).mpr z;rw[t,l,o,p]at this;exact this
  .unfold fieldF;rw[K0 ⟨by lia,by lia,by lia,by lia⟩,show((X:Int)-2^(a+1)+2^(a+1)).toNat=X by lia,show((Y:Int)-2^(a+1)+2^(a+1)).toNat=Y by lia,LN w s b2,t,l,o,p];have F:X%2^a=u:=by rw[<-Ez,l,C]
   have H:Y%2^a=v:=by rw[<-Ez,o,D]
   rw[F,H];exact K
theorem Qv{G r:Gv}(j:G=G0++r)(ok:GOk G){n m f a:Nat}(l:n<=47)(g:m<=47)(o:Am G f ((n+1:Nat):Int))(c:Am G a ((m+1:Nat):Int))(t:JA G n f)(t':JA G m a)(h:∀x y,fieldF G n f x y=fieldF G m a x y):n=m/\f=a:=by
 have le:∀{n m f a:Nat},m<=47->JA G m a->(∀x y,fieldF G n f x y=fieldF G m a x y)->m<=n:=by
  intro n m f a g t' h;refine P1 λz=>?_;obtain⟨k,rfl⟩:∃k,m=k+1:=⟨m-1,by lia⟩
  obtain⟨x,y,d,b⟩:=ME j ok A0 t';rw[<-h x y]at b;unfold fieldF at b;split at b
  .rename_i q;have:(2:Int)^n<=2^k:=by
    have:=N9 (show 0<2 by decide) (show n<=k by lia)
    exact_mod_cast this
   exact d ⟨by lia,by lia,by lia,by lia⟩
  .exact b rfl
 have u:=le g t' h;have v:=le l t λx y=>(h x y).symm;have e:n=m:=by lia
 subst e;refine⟨rfl,LP ok o c λx y w A=>?_⟩;have s:=DE n;have i:=DE (n+1);have p:=Ci n;rw[p]at i;have:=h ((x:Int)-2^n) ((y:Int)-2^n);unfold fieldF at this;rw[K0 ⟨by lia,by lia,by lia,by lia⟩,K0 ⟨by lia,by lia,by lia,by lia⟩,show((x:Int)-2^n+2^n).toNat=x by lia,show((y:Int)-2^n+2^n).toNat=y by lia]at this;exact this
def Fix:HO->Prop
|.tup _=>True
|.ins _ _ _=>True
|_=>False
def Fx(l:H_)(H H':Hp):Prop:=∀b o,H b=some o->(b∈l->Fix o)->H' b=some o
theorem Fx.refl(l:H_)(H:Hp):Fx l H H:=λ_ _ e _=>e
theorem Fx.trans{l:H_}{a c d:Hp}(h:Fx l a c)(f:Fx l c d):Fx l a d:=λb o e n=>f b o (h b o e n) n
theorem Az.fx{l:H_}{a c:Hp}(h:Az a c):Fx l a c:=λb o e _=>h b o e
theorem Fx.mono{l m:H_}{a c:Hp}(h:Fx l a c)(s:∀x∈l,x∈m):Fx m a c:=λb o e n=>h b o e λz=>n (s b z)
theorem Fx.get{l:H_}{a c:Hp}(h:Fx l a c){b:R_}{o:HO}(n:b∉l)(e:a b=some o):c b=some o:=h b o e λz=>absurd z n
theorem Fx.tup{l:H_}{a c:Hp}(h:Fx l a c){b:R_}{xs:List V}(e:a b=some (.tup xs)):c b=some (.tup xs):=h b _ e λ_=>True.intro
theorem fx_up{H:Hp}{x:R_}{o o':HO}(e:H x=some o)(n:¬Fix o):Fx [x] H (upd H x o'):=λb u a f=>by
 by_cases z:b=x
 .subst z;rw[e]at a;cases a;exact absurd (f (C7.mpr rfl)) n
 .rw[Ax z];exact a
theorem Fr.fx{a:Ad}{g:GA}{G:Gv}{H c:Hp}(h:Fr g H c)(at':AM a H g G):Fx [g.lv,g.pt,g.nm] H c:=λb o e f=>by
 obtain⟨i,d,_⟩:=at'.pt;refine h b o e (λz=>?_) (λz=>?_) (λz=>?_)
 .subst z;rw[at'.lv]at e;cases e;exact f A6
 .subst z;rw[d]at e;cases e;exact f A6
 .subst z;rw[at'.nm]at e;cases e;exact f A6
theorem FrQ.fx{a:Ad}{g:GA}{G:Gv}{H c:Hp}(h:FrQ g H c)(d:AW a H g G):Fx [g.am,g.bx] H c:=λb o e f=>by
 obtain⟨ks,i,_⟩:=d.am;obtain⟨k,j,_⟩:=d.bx;refine h b o e (λz=>?_) (λz=>?_)
 .subst z;rw[i]at e;cases e;exact f A6
 .subst z;rw[j]at e;cases e;exact f A6
def DB(g:GA):List Addr:=[g.lv,g.pt,g.nm,g.br,g.am,g.bx]
theorem AW.fx{a:Ad}{g:GA}{G:Gv}{H c:Hp}{l:H_}(h:AW a H g G)(f:Fx l H c)(n:∀x∈DB g,x∉l):AW a c g G:=by
 obtain⟨at',ok,w,k,⟨ks,y,A⟩,⟨d,B,j⟩,D,E,F⟩:=h;obtain⟨I,K,⟨P,L,M⟩,N,O⟩:=at';have m:∀x∈DB g,∀o,H x=some o->c x=some o:=λx C o e=>f.get (n x C) e;refine⟨⟨f _ _ I λ_=>True.intro,m _ (by simp[DB]) _ K,⟨P,m _ (by simp[DB]) _ L,PairedM.imp (λt q z=>f.tup z) M⟩,m _ (by simp[DB]) _ N,O⟩,ok,w,m _ (by simp[DB]) _ k,⟨ks,m _ (by simp[DB]) _ y,A⟩,⟨d,m _ (by simp[DB]) _ B,j.keys,λi v e=>?_⟩,D,E,F⟩;obtain⟨l,b,t,p,r,s,u⟩:=j.val i v e;exact⟨l,b,t,p,r,s,f.tup u⟩
theorem Az.noneOf{H a:Hp}(s:Az H a){x:R_}(n:a x=none):H x=none:=by
 cases e:H x with
 |none=>rfl
 |some o=>rw[s _ _ e]at n;cases n
structure Nw(H:Hp)(l:H_):Prop where
nd:l.Nodup
s:∀x∈l,∃o,H x=some o
theorem AW.nw{a:Ad}{H:Hp}{g:GA}{G:Gv}(h:AW a H g G):Nw H (DB g):=by
 obtain⟨⟨_,f,⟨u,i,_⟩,b,m⟩,_,_,j,⟨ks,c,_⟩,⟨p,d,_⟩,q,r,s⟩:=h;have t:∀{x y:R_}{o o':HO},H x=some o->H y=some o'->o≠o'->x≠y:=λ{x y o o'} e l n=>AE e l n;refine⟨?_,λx k=>?_⟩
 .simp only[DB,M8,B7,D3,A0c,A5d,A4a,Q7,and_true];exact⟨⟨m,t f b A3,K3 q,t f c A3,t f d A3⟩,⟨t i b A3,K3 r,t i c A3,t i d A3⟩,⟨t b j A3,t b c A3,t b d A3⟩,⟨t j c A3,t j d A3⟩,s⟩
 .simp only[DB,B7,D3,A0c]at k;rcases k with rfl|rfl|rfl|rfl|rfl|rfl
  .exact⟨_,f⟩
  .exact⟨_,i⟩
  .exact⟨_,b⟩
  .exact⟨_,j⟩
  .exact⟨_,c⟩
  .exact⟨_,d⟩
theorem DO{H:Hp}{x y:R_}{o:HO}(h:upd H x o y=none):H y=none:=by
 by_cases e:y=x
 .subst e;rw[Af]at h;cases h
 .rw[Ax e]at h;exact h
theorem UQ.none{a:Ad}{H c:Hp}{x dx:R_}{o o':HO}{g:GA}{G:Gv}{B:I_}{d:List (Key×V)}(N:UQ a (upd (upd H dx o) x o') c g G B d):∀y∈DB g,H y=none:=λy b=>by
 obtain⟨e,f,h,f4,i,j⟩:=N.fresh;simp only[DB,B7,D3,A0c]at b;rcases b with rfl|rfl|rfl|rfl|rfl|rfl
 .exact DO (DO e)
 .exact DO (DO f)
 .exact DO (DO h)
 .exact DO (DO f4)
 .exact DO (DO i)
 .exact DO (DO j)
theorem Az.fxn{H a c:Hp}{m:H_}(s:Az H a)(f:Fx m a c)(n:∀y∈m,H y=none):Az H c:=λb o e=>f.get (λz=>by rw[n b z]at e;cases e) (s _ _ e)
structure LA(L:Int->Int->Prop)(b:Bx):Prop where
inn:∀u v,L u v->b.l<=u/\u<b.l+b.w/\b.t<=v/\v<b.t+b.h
le:∃v,L b.l v
to:∃u,L u b.t
ri:∃v,L (b.l+b.w-1) v
bo:∃u,L u (b.t+b.h-1)
theorem LA.congr{L M:Int->Int->Prop}{b:Bx}(e:∀u v,L u v↔M u v)(h:LA L b):LA M b:=by
 obtain⟨g,a⟩:=h.le;obtain⟨i,c⟩:=h.to;obtain⟨j,d⟩:=h.ri;obtain⟨k,f⟩:=h.bo;exact⟨λu v m=>h.inn u v ((e u v).mpr m),⟨g,(e _ _).mp a⟩,⟨i,(e _ _).mp c⟩,⟨j,(e _ _).mp d⟩,⟨k,(e _ _).mp f⟩⟩
theorem Uq{l:I_}(h:l≠[]):mnL l∈l/\∀x∈l,mnL l<=x:=by
 unfold mnL;cases e:l.min? with
 |none=>exact absurd (List.min?_eq_none_iff.mp e) h
 |some m=>exact List.min?_eq_some_iff.mp e
theorem Uo{l:I_}(h:l≠[]):mxL l∈l/\∀x∈l,x<=mxL l:=by
 unfold mxL;cases e:l.max? with
 |none=>exact absurd (List.max?_eq_none_iff.mp e) h
 |some m=>exact List.max?_eq_some_iff.mp e
theorem Yv{L:Int->Int->Prop}{bs:List Bx}(ne:bs≠[])(a:∀b∈bs,∃M:Int->Int->Prop,LA M b/\∀u v,M u v->L u v)(G:∀u v,L u v->∃b∈bs,b.l<=u/\u<b.l+b.w/\b.t<=v/\v<b.t+b.h):LA L (Qp bs):=by
 have K:bs.map (·.l)≠[]:=λz=>ne (S1.mp z);have N:bs.map (·.t)≠[]:=λz=>ne (S1.mp z);have O:(bs.map λb=>b.l+b.w)≠[]:=λz=>ne (S1.mp z);have P:(bs.map λb=>b.t+b.h)≠[]:=λz=>ne (S1.mp z);obtain⟨m1,k⟩:=Uq K;obtain⟨m2,m⟩:=Uq N;obtain⟨H,n⟩:=Uo O;obtain⟨I,o⟩:=Uo P;obtain⟨p,d,E⟩:=C8.mp m1;obtain⟨b2,e,F⟩:=C8.mp m2;obtain⟨r,f,i⟩:=C8.mp H;obtain⟨y,g,j⟩:=C8.mp I;unfold Qp;refine⟨λu v q=>?_,?_,?_,?_,?_⟩
 .obtain⟨b,c,Q,R,S,T⟩:=G u v q;have A:=k _ (C8.mpr ⟨b,c,rfl⟩);have B:=m _ (C8.mpr ⟨b,c,rfl⟩);have C:=n _ (C8.mpr ⟨b,c,rfl⟩);have D:=o _ (C8.mpr ⟨b,c,rfl⟩);dsimp only at A B C D⊢;lia
 .obtain⟨M,t,s⟩:=a p d;obtain⟨v,x⟩:=t.le;exact⟨v,by rw[E]at x;exact s _ _ x⟩
 .obtain⟨M,t,s⟩:=a b2 e;obtain⟨v,x⟩:=t.to;exact⟨v,by rw[F]at x;exact s _ _ x⟩
 .obtain⟨M,t,s⟩:=a r f;obtain⟨v,x⟩:=t.ri;refine⟨v,?_⟩;dsimp only at i⊢;rw[i]at x;have:=s _ _ x;rw[show mnL (bs.map (·.l))+(mxL (bs.map λb=>b.l+b.w)-mnL (bs.map (·.l)))-1=mxL (bs.map λb=>b.l+b.w)-1 by lia];exact this
 .obtain⟨M,t,s⟩:=a y g;obtain⟨v,x⟩:=t.bo;refine⟨v,?_⟩;dsimp only at j⊢;rw[j]at x;have:=s _ _ x;rw[show mnL (bs.map (·.t))+(mxL (bs.map λb=>b.t+b.h)-mnL (bs.map (·.t)))-1=mxL (bs.map λb=>b.t+b.h)-1 by lia];exact this
theorem Qk{half:Int}{b:Bx}:∀{a:List (Option Bx)}{k:Nat},b∈Ee half k a ↔ ∃(j:Nat)(c:Bx),a[j]?=some (some c)/\b=shB half (k+j) c
|[],k=>⟨(λh=>by cases h),(λh=>by obtain⟨j,c,h,_⟩:=h;simp at h)⟩
|none::r,k=>by
 rw[show Ee half k (none::r)=Ee half (k+1) r from rfl,Qk];constructor
 .rintro⟨j,c,h,e⟩;exact⟨j+1,c,by simpa using h,by rw[e,show k+1+j=k+(j+1) by lia]⟩
 .rintro⟨j,c,h,e⟩;cases j with
  |zero=>simp at h
  |succ j=>exact⟨j,c,by simpa using h,by rw[e,show k+1+j=k+(j+1) by lia]⟩
|some d::r,k=>by
 rw[show Ee half k (some d::r)=shB half k d::Ee half (k+1) r from rfl,B7,Qk];constructor
 .rintro(h|⟨j,c,h,e⟩)
  .exact⟨0,d,rfl,h⟩
  .exact⟨j+1,c,by simpa using h,by rw[e,show k+1+j=k+(j+1) by lia]⟩
 .rintro⟨j,c,h,e⟩;cases j with
  |zero =>
   have h:d=c:=by simpa using h
   subst h;exact .inl e
  |succ j=>exact .inr ⟨j,c,by simpa using h,by rw[e,show k+1+j=k+(j+1) by lia]⟩
def Lv(G:Gv)(n i:Nat)(u v:Int):Prop:=∃a b:Nat,u=a/\v=b/\a<2^n/\b<2^n/\Cf G n i a b≠0
theorem WN{G:Gv}{n i:Nat}{q:Sq}{a b c d:Nat}(o:EF G n i q a b c d)(u v:Int):Lv G (n+1) i u v ↔ ∃k,k<4/\Lv G n (f4 a b c d k) (u-2^n*((k:Int)%2)) (v-2^n*((k:Int)/2)):=by
 have h:=DE n;constructor
 .rintro⟨x,y,rfl,rfl,f,g,ne⟩;rw[Bb o f g]at ne;have C:=BT f;have D:=BT g;refine⟨quad n x y,BB f g,x%2^n,y%2^n,?_,?_,F1 _ (AI n),F1 _ (AI n),ne⟩
  .have e:=M7 x (2^n);have j:((quad n x y:Nat):Int)%2=((x/2^n:Nat):Int):=by
    unfold quad;generalize x/2^n=A at *
    generalize y/2^n=B at *
    lia
   rw[j,<-h,<-N8];lia
  .have e:=M7 y (2^n);have j:((quad n x y:Nat):Int)/2=((y/2^n:Nat):Int):=by
    unfold quad;generalize x/2^n=A at *
    generalize y/2^n=B at *
    lia
   rw[j,<-h,<-N8];lia
 .rintro⟨k,t,x,y,w,z,f,g,ne⟩;obtain⟨l,m,p,r,s⟩:=EX t f g;refine⟨x+2^n*(k%2),y+2^n*(k/2),?_,?_,l,m,?_⟩
  .rw[N3,N8,h,show((k%2:Nat):Int)=(k:Int)%2 from rfl];lia
  .rw[N3,N8,h,show((k/2:Nat):Int)=(k:Int)/2 from rfl];lia
  .rw[Bb o l m,p,r,s];exact ne
theorem Rf{L:Int->Int->Prop}{b:Bx}{half:Int}{k:Nat}(h:LA L b):LA (λu v=>L (u-half*((k:Int)%2)) (v-half*((k:Int)/2))) (shB half k b):=by
 obtain⟨a,f⟩:=h.le;obtain⟨c,g⟩:=h.to;obtain⟨d,i⟩:=h.ri;obtain⟨e,j⟩:=h.bo;unfold shB;generalize half*((k:Int)%2)=p;generalize half*((k:Int)/2)=q;refine⟨λu v m=>?_,⟨a+q,?_⟩,⟨c+p,?_⟩,⟨d+q,?_⟩,⟨e+p,?_⟩⟩
 .have:=h.inn _ _ m;dsimp only;lia
 .show L (b.l+p-p) (a+q-q);rw[R5,R5];exact f
 .show L (c+p-p) (b.t+q-q);rw[R5,R5];exact g
 .show L (b.l+p+b.w-1-p) (d+q-q);rw[R5,show b.l+p+b.w-1-p=b.l+b.w-1 by lia];exact i
 .show L (e+p-p) (b.t+q+b.h-1-q);rw[R5,show b.t+q+b.h-1-q=b.t+b.h-1 by lia];exact j
theorem LR{G:Gv}(ok:GOk G):∀{n i:Nat}{b:Bx},Am G i (n:Int)->BZ G n i=some b->LA (Lv G n i) b
|0,i,b,_,h=>by
 have h:(if i=0 then none else some (⟨0,0,1,1⟩:Bx))=some b:=h;by_cases z:i=0
 .rw[K0 z]at h;cases h
 .rw[X7 z]at h;cases h;have B:Lv G 0 i 0 0:=⟨0,0,rfl,rfl,by decide,by decide,z⟩
  refine⟨λu v m=>?_,⟨0,B⟩,⟨0,B⟩,⟨0,B⟩,⟨0,B⟩⟩;obtain⟨x,y,rfl,rfl,p,r,_⟩:=m;have p:x<1:=p;have r:y<1:=r;dsimp only;lia
|n+1,i,b,l,h=>by
 obtain⟨q,a,w,c,d,g⟩:=Bp ok l;rw[FX g]at h;have A:∀k,k<4->[BZ G n a,BZ G n w,BZ G n c,BZ G n d][k]?=some (BZ G n (f4 a w c d k)):=λk f=>by
  match k,f with
  |0,_=>rfl
  |1,_=>rfl
  |2,_=>rfl
  |3,_=>rfl
 have s:∀e,e∈Ee (2^n) 0 [BZ G n a,BZ G n w,BZ G n c,BZ G n d] ↔ ∃k o,k<4/\BZ G n (f4 a w c d k)=some o/\e=shB (2^n) k o:=λe=>by
  rw[Qk];constructor
  .rintro⟨j,K,F,rfl⟩;have I:j<4:=(B5.mp F).1;rw[A j I]at F;exact⟨j,K,I,K4 F,by rw[M4]⟩
  .rintro⟨k,o,f,C,rfl⟩;exact⟨k,o,by rw[A k f,C],by rw[M4]⟩
 unfold QL at h;cases E:Ee (2^n) 0 [BZ G n a,BZ G n w,BZ G n c,BZ G n d]with
 |nil=>rw[E]at h;cases h
 |cons N S =>
  rw[E]at h;have h:=K4 h;rw[E]at s;subst h;refine Yv A6 (λe M=>?_) λu v m=>?_
  .obtain⟨k,o,f,C,rfl⟩:=(s e).mp M;refine⟨_,Rf (LR ok (g.nat f).2 C),λu v m=>(WN g u v).mpr ⟨k,f,m⟩⟩
  .obtain⟨k,f,m⟩:=(WN g u v).mp m;cases D:BZ G n (f4 a w c d k)with
   |none =>
    have L:=(LS ok n _ (g.nat f).2).mp D;obtain⟨x,y,_,_,p,r,ne⟩:=m;exact absurd (cell_none ok (g.nat f).2 L p r) ne
   |some o =>
    have t:=Rf (half:=2^n) (k:=k) (LR ok (g.nat f).2 D);exact⟨_,(s _).mpr ⟨k,o,f,D,rfl⟩,t.inn u v m⟩
where cell_none {G:Gv} (ok:GOk G):∀{n i x y:Nat},Am G i (n:Int)->DZ G n i=0->x<2^n->y<2^n->Cf G n i x y=0
|0,i,x,y,_,h,_,_=>by
 have h:(if i=0 then(0:Int)else 1)=0:=h;show i=0;by_cases z:i=0
 .exact z
 .rw[X7 z]at h;lia
|n+1,i,x,y,l,h,p,r=>by
 obtain⟨q,a,b,c,d,g⟩:=Bp ok l;have e:=LO g;have e:DZ G (n+1) i=DZ G n a+(DZ G n b+(DZ G n c+(DZ G n d+0))):=e;have O:=FR G n a;have P:=FR G n b;have Q:=FR G n c;have R:=FR G n d;have H:=BB p r;rw[Bb g p r];refine cell_none ok (g.nat H).2 ?_ (F1 _ (AI n)) (F1 _ (AI n));generalize quad n x y=k at H
 match k,H with
 |0,_=>show DZ G n a=0;lia
 |1,_=>show DZ G n b=0;lia
 |2,_=>show DZ G n c=0;lia
 |3,_=>show DZ G n d=0;lia
seal L2.PA L2.PE L2.PS L2.PSs L2.PT L2.PW
theorem Ut{G:Gv}{n f:Nat}(x y:Int):Lv G (n+1) f (x+2^n) (y+2^n)↔fieldF G n f x y≠0:=by
 have c:=DE n;have e:=Fq n;constructor
 .rintro⟨u,v,h,i,j,k,ne⟩;unfold fieldF;rw[K0 ⟨by lia,by lia,by lia,by lia⟩,show(x+2^n).toNat=u by lia,show(y+2^n).toNat=v by lia];exact ne
 .intro ne;unfold fieldF at ne;split at ne
  .rename_i z;obtain⟨a,b,d,g⟩:=z;exact⟨(x+2^n).toNat,(y+2^n).toNat,by lia,by lia,Dw a b,Dw d g,ne⟩
  .exact absurd rfl ne
def mvB(r:Int)(b:Bx):Bx:=⟨b.l+-r,b.t+-r,b.w,b.h⟩
theorem JL{G:Gv}(ok:GOk G){n f:Nat}(l:Am G f ((n+1:Nat):Int)){b:Bx}(h:BZ G (n+1) f=some b):LA (λx y=>fieldF G n f x y≠0) (mvB (2^n) b):=by
 have t:=LR ok l h;obtain⟨j,a⟩:=t.le;obtain⟨k,c⟩:=t.to;obtain⟨g,d⟩:=t.ri;obtain⟨i,e⟩:=t.bo;have go:∀{u v:Int},Lv G (n+1) f u v->fieldF G n f (u+-(2^n)) (v+-(2^n))≠0:=λ{u v} m=>(Ut _ _).mp (by rw[show u+-(2^n)+2^n=u by lia,show v+-(2^n)+2^n=v by lia];exact m);unfold mvB;refine⟨λx y m=>?_,⟨_,go a⟩,⟨_,go c⟩,⟨g+-(2^n),?_⟩,⟨i+-(2^n),?_⟩⟩
 .have:=t.inn _ _ ((Ut x y).mpr m);dsimp only;lia
 .have:=go d;rw[show b.l+b.w-1+-(2^n)=b.l+-(2^n)+b.w-1 by lia]at this;exact this
 .have:=go e;rw[show b.t+b.h-1+-(2^n)=b.t+-(2^n)+b.h-1 by lia]at this;exact this
theorem Vo{G:Gv}(ok:GOk G){n f:Nat}(l:Am G f ((n+1:Nat):Int))(h:BZ G (n+1) f=none)(x y:Int):fieldF G n f x y=0:=by
 have c:=(LS ok _ _ l).mp h;unfold fieldF;split
 .rename_i z;exact LR.cell_none ok l c (Dw z.1 z.2.1) (Dw z.2.2.1 z.2.2.2)
 .rfl
section
variable{P:N_}{w:Q_}{K:O_}{mg:C_}{base:T_}{a:Ad}
inductive Ym(a:Ad)(vs:List V)(H:Hp)(Q:VK):Prop
|mk (g:GA) (G:Gv) (f n:Nat) (_:vs=[.ref g.p,.int f]) (_:AW a H g G) (_:Am G f ((n+1:Nat):Int)) (_:n<48) (_:G.length<8000000) (_:(BZ G (n+1) f=none->∀H',FrQ g H H'->AW a H' g G->Q .non H')) (_:∀b,BZ G (n+1) f=some b->∀t H',FrQ g H H'->AW a H' g G->Op H' t (mvB (2^n) b)->Q (.ref t) H'):Ym a vs H Q
def OR(a:Ad):Sp:=λvs H Q _=>Ym a vs H Q
theorem ok_boxof(F:Fun K "box_of" "box_of" PD f fd)(T:Top K mg a)(B:Ca P w K mg base CX0 101 a.c_Grove "span" Lp (UW a))(z:Cal P w K mg base CX0 4 "reach_of" Vr (IO a))(y:Cal P w K mg base CX0 1 "shifted_box" QN LC):AL P w K mg base CX0 102 f fd Vr (OR a):=by
 refine F.ok NI D_9 λC A m s H vs Q E e h=>?_
 obtain⟨g,G,r,n,rfl,u,v,k,few,M,N⟩:=h;refine⟨_,(Ac (Aq (i:=2) NI.nd rfl O_9 (AK (pv 0) B (rm e) Ao (Aa (pv 1) Ab))) (Ac (AO (AA GB (pv 2) Db (AG _)) (Ah (Av Db)) AC) (Ac (Aq (i:=3) NI.nd rfl O_9 (As z (rm e) rfl Ao (Aa (pv 0) (Aa (pv 1) Ab)))) (Ah (Av (As y (rm e) rfl Ao (Aa (pv 2) (Aa (JX FY (pv 3)) (Aa (JX FY (pv 3)) Ab))))))))),?_⟩
 try dsimp only[cxK]
 refine xq1 rfl ⟨g.p,g.dx,(xq1 rfl ⟨u.at'.hp,no_span g,(xq1 rfl ⟨g,G,r,n+1,rfl,u,v,by lia,λI q d c=>?_,λb D t q d c L=>?_⟩)⟩)⟩
 .exact xq1 rfl ⟨rfl,(xq1 rfl (BP (M I q d c)))⟩
 .refine xq1 rfl ⟨rfl,(xq1 rfl (Bd ?_))⟩;refine xw2 rfl rfl ⟨g,G,r,n,rfl,c.at',v,k,?_⟩;refine xw3 rfl rfl rfl (xw2 rfl rfl ⟨t,b,_,_,rfl,L,λt' j=>?_⟩);have x:=AJ (o:=.tup [.int (b.l+-(2^n)),.int (b.t+-(2^n)),.int b.w,.int b.h]) j;exact N b D t' _ (d.trans (Az.frq x)) (c.same x) Af
end
end J
namespace J
open PySem L2
theorem cel_F{G:Gv}(ok:GOk G):∀{n i x y:Nat},Am G i (n:Int)->x<2^n->y<2^n->cel G n i x y=Cf G n i x y
|0,_,_,_,_,_,_=>rfl
|n+1,i,x,y,h,hx,hy=>by
 obtain⟨q,a,b,c,d,f⟩:=Bp ok h;rw[Bb f hx hy];have p:=AI n;have j:x/2^n<2:=Nat.div_lt_of_lt_mul (by rw[F9]at hx;lia);have k:y/2^n<2:=Nat.div_lt_of_lt_mul (by rw[F9]at hy;lia);have e:qO G i ((x/2^n)%2+2*((y/2^n)%2))=f4 a b c d (quad n x y):=by
  have:=(f.nat (BB hx hy)).1;unfold qO;rw[f.g,J8 j,J8 k];show(q.parts.getD (quad n x y) 0).toNat=_;rw[C6,this];rfl
 show cel G n (qO G i ((x/2^n)%2+2*((y/2^n)%2))) x y=_;rw[e,<-cel_F ok (f.nat (BB hx hy)).2 (F1 _ p) (F1 _ p)];have:=SY G n (f4 a b c d (quad n x y)) (x%2^n) (y%2^n) (x/2^n) (y/2^n);rw[Nat.mod_add_div,Nat.mod_add_div]at this;exact this
theorem Pd{α β:Type}(f:α->List β)(m:Nat):∀l:List α,(∀x∈l,(f x).length<=m)->(l.flatMap f).length<=l.length*m
|[],_=>by simp
|a::l,h=>by
 have:=Pd f m l λx b=>h x (C5 _ b);have:=h a C4;rw[Z8,C1,D6,Z3];lia
structure ZS(a:Ad)(H:Hp)(g:GA)(G:Gv)(Κ:KTy)(N b:Nat)(p dx mem pr:R_)(r:AD)(m:MA):Prop where
jz:JZ a H g G Κ N b p dx mem pr r m
fu:AW a H g G
na:g.am∉m.ds
nb:g.bx∉m.ds
def FrZ(g:GA)(m:MA)(H H':Hp):Prop:=∀b o,H b=some o->b∉[g.lv,g.pt,g.nm,g.am,g.bx,m.kc]->b∉m.ds->H' b=some o
section
variable{a:Ad}{H H' H1 H2 H3:Hp}{g:GA}{G G':Gv}{Κ:KTy}{N b i:Nat}{p dx mem pr:R_}{r:AD}{m:MA}
theorem FrZ.trans(h:FrZ g m H1 H2)(k:FrZ g m H2 H3):FrZ g m H1 H3:=λb o e c d=>k b o (h b o e c d) c d
theorem Az.z(s:Az H H'):FrZ g m H H':=λb o e _ _=>s b o e
theorem Fr.z(f:Fr g H H'):FrZ g m H H':=λb o e c _=>f b o e (λz=>c (by simp[z])) (λz=>c (by simp[z])) (λz=>c (by simp[z]))
theorem FrQ.z(f:FrQ g H H'):FrZ g m H H':=λb o e c _=>f b o e (λz=>c (by simp[z])) (λz=>c (by simp[z]))
theorem FrJ.z(f:FrJ g m H H'):FrZ g m H H':=λb o e c d=>f b o e (λz=>c (by simp[z])) (λz=>c (by simp[z])) (λz=>c (by simp[z])) (λz=>c (by simp[z])) d
theorem ZS.same(h:ZS a H g G Κ N b p dx mem pr r m)(s:Az H H'):ZS a H' g G Κ N b p dx mem pr r m:=⟨h.jz.same s,h.fu.same s,h.na,h.nb⟩
theorem ZS.mono{c:Nat}(h:ZS a H g G Κ N b p dx mem pr r m)(e:b<=c):ZS a H g G Κ N c p dx mem pr r m:=⟨h.jz.mono e,h.fu,h.na,h.nb⟩
theorem ZS.fr(h:ZS a H g G Κ N b p dx mem pr r m)(f:Fr g H H')(c:AW a H' g G')(go:AH G G' i):ZS a H' g G' Κ N (b+i) p dx mem pr r m:=⟨h.jz.fr f c.at' go,c,h.na,h.nb⟩
theorem ZS.frQ(h:ZS a H g G Κ N b p dx mem pr r m)(f:FrQ g H H')(k:AW a H' g G):ZS a H' g G Κ N b p dx mem pr r m:=by
 have c:=h.jz.jw;have j:∀{x:R_}{o:HO},H x=some o->(∀ks,o≠.dK ks)->H' x=some o:=λ{x o} e n=>f _ _ e (h.fu.ne_am e n).1 (h.fu.ne_am e n).2;have v:∀d∈m.ds,∀o,H d=some o->H' d=some o:=λd u o e=>f _ _ e (λz=>h.na (z▸u)) (λz=>h.nb (z▸u));obtain⟨B,y,_⟩:=c.me.ce;have q:IL H' g G N (b+10*N) r m:=c.me.kp c.ok (AH.refl c.ok) λx o e w=>by
  rcases w with z|z|z|z
  .subst z;exact j e (by rw[c.me.tp]at e;cases e;intro ks z;cases z)
  .subst z;exact j e (by rw[c.me.l]at e;cases e;intro ks z;cases z)
  .exact v x z o e
  .subst z;exact j e (by rw[y]at e;cases e;intro ks z;cases z)
 obtain⟨A,t⟩:=h.jz.cn;refine⟨⟨⟨k.at',c.ok,c.bs,k.br,c.nbr,j c.hp (by intro ks z;cases z),c.ru.kp λx o e n=>j e (by intro ks z;rw[z]at n;cases n),c.rok,c.rest,q⟩,A,t.kp (i:=0) c.ok (AH.refl c.ok) v λs e=>⟨s,j e (by intro ks z;cases z),B8 _⟩⟩,k,h.na,h.nb⟩
theorem ZS.aft(h:ZS a H g G Κ N b p dx mem pr r m)(f:FrJ g m H H')(k:JZ a H' g G' Κ N b p dx mem pr r m)(go:AH G G' i):ZS a H' g G' Κ N b p dx mem pr r m:=by
 have B:=h.jz.jw;refine⟨k,?_,h.na,h.nb⟩;obtain⟨at',ok,⟨S,K⟩,E,⟨ks,L,M⟩,⟨s,O,A⟩,P,Q,R⟩:=h.fu;obtain⟨us,C,_⟩:=at'.pt;obtain⟨T,w,_⟩:=B.me.ce;have u:∀{x:R_}{o:HO},H x=some o->(∀ks,o≠.dK ks)->x∉m.ds:=λ{x o} e n z=>by
  obtain⟨j,q⟩:=F7 z;obtain⟨U,d,_⟩:=B.me.sq j x q;rw[e]at d;cases d;exact n _ rfl
 obtain⟨t,I⟩:=go.pre;have dk:∀{x:R_}{ks:List (Key×V)},H x=some (.dK ks)->x∉m.ds->H' x=some (.dK ks):=λ{x ks} e n=>f _ _ e (AE e at'.lv A3) (AE e C A3) (AE e at'.nm A3) (AE e w A3) n;refine⟨k.jw.gr,go.ok,⟨S++t,by rw[I,K,Q5]⟩,k.jw.br,⟨ks,dk L h.na,M.app ok go⟩,⟨s,dk O h.nb,A.keys.app go.le,λi v e=>?_⟩,P,Q,R⟩;obtain⟨l,D,t,y,d,F,c⟩:=A.val i v e;exact⟨l,D,t,go.lev y,by rw[GH ok go l i y];exact d,F,f _ _ c (AE c at'.lv A3) (AE c C A3) (AE c at'.nm A3) (AE c w A3) (u c (by intro ks z;cases z))⟩
theorem ZS.keep(h:ZS a H g G Κ N b p dx mem pr r m)(f:FrZ g m H H'){x:R_}{o:HO}(e:H x=some o)(k:∀xs,o≠.lst xs)(l:∀ks,o≠.dK ks)(n:∀ks,o≠.dT ks):H' x=some o:=by
 have d:=h.jz.jw;obtain⟨us,u,_⟩:=h.fu.at'.pt;obtain⟨v,s,_⟩:=d.me.ce;have q:=h.fu.ne_am e l;refine f _ _ e (λz=>?_) (λz=>?_)
 .simp only[B7,D3,A0c]at z;rcases z with z|z|z|z|z|z
  .exact AE e h.fu.at'.lv (k _) z
  .exact AE e u (k _) z
  .exact AE e h.fu.at'.nm (n _) z
  .exact q.1 z
  .exact q.2 z
  .exact AE e s (n _) z
 .obtain⟨j,c⟩:=F7 z;obtain⟨w,t,_⟩:=d.me.sq j x c;exact AE e t (l _) rfl
theorem ZS.new(h:ZS a H g G Κ N b p dx mem pr r m){x:R_}(n:H x=none):x∉[g.lv,g.pt,g.nm,g.am,g.bx,m.kc]/\x∉m.ds:=by
 have d:=h.jz.jw;obtain⟨us,o,_⟩:=h.fu.at'.pt;obtain⟨q,e,_⟩:=d.me.ce;obtain⟨ks,k,_⟩:=h.fu.am;obtain⟨s,l,_⟩:=h.fu.bx;refine⟨λz=>?_,λz=>?_⟩
 .simp only[B7,D3,A0c]at z;rcases z with rfl|rfl|rfl|rfl|rfl|rfl
  .rw[h.fu.at'.lv]at n;cases n
  .rw[o]at n;cases n
  .rw[h.fu.at'.nm]at n;cases n
  .rw[k]at n;cases n
  .rw[l]at n;cases n
  .rw[e]at n;cases n
 .obtain⟨j,c⟩:=F7 z;obtain⟨t,f,_⟩:=d.me.sq j x c;rw[f]at n;cases n
end
theorem JW.putL{a:Ad}{H:Hp}{g:GA}{G:Gv}{N M:Nat}{p dx mem i x:R_}{r:AD}{m:MA}{xs:List V}{o:HO}(h:JW a H g G N M p dx mem i r m)(f:H x=some (.lst xs))(q:x≠g.lv)(s:x≠g.pt)(t:x≠g.br)(u:x≠m.l):JW a (upd H x o) g G N M p dx mem i r m:=by
 have c:∀{b v},H b=some v->(∀l,v≠.lst l)->upd H x o b=some v:=λ{b v} e n=>by rw[Ax (AE e f (n _))];exact e
 refine⟨h.gr.put f q s,h.ok,h.bs,by rw[Ax (K3 t)];exact h.br,h.nbr,c h.hp B0,h.ru.kp λb o e n=>c e λl z=>(by rw[z]at n;cases n),h.rok,h.rest,h.me.kp h.ok (AH.refl h.ok) λb o e w=>?_⟩;rcases w with z|z|z|z
 .have d:=h.me.tp;rw[<-z,e]at d;cases d;exact c e B0
 .rw[z]at e⊢;rw[Ax (K3 u)];exact e
 .obtain⟨j,k⟩:=F7 z;obtain⟨A,d,_⟩:=h.me.sq j b k;rw[e]at d;cases d;exact c e B0
 .obtain⟨y,d,_⟩:=h.me.ce;rw[z]at e⊢;rw[e]at d;cases d;exact c e B0
structure ApZ(g:GA)(m:MA)(x:R_):Prop where
n0:x∉[g.lv,g.pt,g.nm,g.am,g.bx,m.kc]
n1:x∉m.ds
n2:x≠g.br
n3:x≠m.l
section
variable{a:Ad}{H H':Hp}{g:GA}{G G':Gv}{Κ:KTy}{N b i:Nat}{p dx mem pr:R_}{r:AD}{m:MA}
theorem ZS.ap(h:ZS a H g G Κ N b p dx mem pr r m){x:R_}(n:H x=none):ApZ g m x:=by
 obtain⟨c,d⟩:=h.new n;refine⟨c,d,λz=>?_,λz=>?_⟩
 .rw[z,h.fu.br]at n;cases n
 .rw[z,h.jz.jw.me.l]at n;cases n
theorem ZS.putL{x:R_}{xs:List V}{o:HO}(h:ZS a H g G Κ N b p dx mem pr r m)(j:H x=some (.lst xs))(ap:ApZ g m x):ZS a (upd H x o) g G Κ N b p dx mem pr r m:=by
 have k:x≠g.lv:=λz=>ap.n0 (by simp[z]);have pt:x≠g.pt:=λz=>ap.n0 (by simp[z]);obtain⟨f,c⟩:=h.jz.cn;refine⟨⟨h.jz.jw.putL j k pt ap.n2 ap.n3,f,c.kp (i:=0) h.jz.jw.ok (AH.refl h.jz.jw.ok) (λd l o' e=>?_) λn e=>⟨n,?_,B8 _⟩⟩,h.fu.put j k pt ap.n2,h.na,h.nb⟩
 .rw[Ax (λz:d=x=>ap.n1 (z▸l))];exact e
 .rw[Ax (AE e j A3)];exact e
end
theorem SU{G:Gv}(ok:GOk G){n f:Nat}(c:Am G f ((n+1:Nat):Int)){x y:Nat}(a:x<2^(n+1))(b:y<2^(n+1)):CB G (n+1) f x y=(fieldF G n f ((x:Int)-2^n) ((y:Int)-2^n):Nat):=by
 unfold CB fieldF;have p:((2^(n+1):Nat):Int)=2^n+2^n:=by rw[M6];exact Ci n
 rw[K0 A0,cel_F ok c a b];congr 2<;>lia
seal L2.PA L2.PE L2.PS L2.PSs L2.PT L2.PW
section
variable{P:N_}{w:Q_}{K:O_}{mg:C_}{base:T_}{a:Ad}
inductive SpLvF(a:Ad)(vs:List V)(H:Hp)(Q:VK):Prop
|mk (g:GA) (G:Gv) (f n e:Nat) (_:vs=[.ref g.p,.int f,.int e]) (_:AM a H g G) (_:Am G f ((n+1:Nat):Int)) (_:n<=40) (_:e<=40) (_:∀l:Nat,l<=41->n<=l->e<=l->2^n+2^e<=2^l->Q (.int ((l+2:Nat):Int)) H):SpLvF a vs H Q
def ZU(a:Ad):Sp:=λvs H Q _=>SpLvF a vs H Q
theorem ok_lvf(F:Fun K "level_for" "level_for" JQ f fd)(T:Top K mg a)(B:Cal P w K mg base CX0 4 "reach_of" Vr (IO a)):AL P w K mg base CX0 5 f fd Le (ZU a):=by
 refine F.ok FJ D_9 λC A t s H vs Q E N h=>?_
 obtain⟨g,G,c,n,e,rfl,M,O,r,l,k⟩:=h;refine⟨_,(Ac (Aq (i:=3) FJ.nd rfl O_9 (AF AQ (As B (rm N) rfl Ao (Aa (pv 0) (Aa (pv 1) Ab))) (AF NU Ae (pv 2)))) (Ac (Aq (i:=4) FJ.nd rfl O_9 Ae) (Ac (JV K7 (AA JF (AF NU Ae (AF Cv (pv 4) Ae)) (pv 3) (AG _)) (Ah (Aq (i:=4) FJ.nd rfl O_9 (AF AQ (pv 4) Ae)))) (Ah (Av (pv 4)))))),?_⟩
 try dsimp only[cxK]
 refine BU ?_;intro r1 s1 Z o W;refine xw2 rfl rfl ⟨g,G,c,n,rfl,M,O,by lia,?_⟩;refine xwb rfl rfl rfl ⟨⟨by lia,by lia,by decide⟩,(xq2 rfl rfl ?_)⟩;have D:(2:Int)^n+1*2^(e:Int).toNat=((2^n+2^e:Nat):Int):=by
  rw[J7,Int.one_mul,N3,M6,M6];rfl
 have pn:2^n<=2^40:=N9 A4 r;have pe:2^e<=2^40:=N9 A4 l;have U:=AI n;have S:=AI e;rw[show(λi j:Int=>V.int (i+j)) (2^n) ((λi j:Int=>i*2^j.toNat) 1 (e:Int))=V.int ((2^n+2^e:Nat):Int)from A0g V.int D];generalize L:2^n+2^e=R at k;have y:R<=2^41:=by rw[<-L];lia
 refine o ?_;refine BU ?_;intro r2 s2 k2 q X;refine q ?_;refine⟨λm σ d=>∃j:Nat,σ=[some (.ref g.p),some (.int c),some (.int (e:Int)),some (.int (R:Int)),some (.int ((j+2:Nat):Int))]/\d=H/\j+m=41,⟨41,0,rfl,rfl,rfl⟩,?_⟩;rintro m σ d ⟨j,rfl,rfl,Y⟩;refine xwb rfl rfl rfl (xq2 rfl rfl ⟨⟨by lia,by lia,by decide⟩,(xwb rfl rfl rfl (xq1 rfl ?_))⟩);have v:(1:Int)*2^(((j+2:Nat):Int)-2).toNat=((2^j:Nat):Int):=by
  rw[show(((j+2:Nat):Int)-2).toNat=j by lia,Int.one_mul,M6];rfl
 refine JI (λb=>?_) (λb=>?_)
 .have b:=A0d b;have b:(1:Int)*2^(((j+2:Nat):Int)-2).toNat<(R:Int):=b;rw[v]at b;have m0:m≠0:=λz=>by
   subst z;have:j=41:=by lia
   subst this;lia
  refine⟨fun σ' u=>∃x:Nat,σ'=[some (.ref g.p),some (.int c),some (.int (e:Int)),some (.int (R:Int)),some (.int ((x+2:Nat):Int))]/\u=d/\x+(m-1)=41,fun σ' u z=>⟨m-1,by lia,z⟩,?_⟩;have I:((j+2:Nat):Int)+1=((j+1+2:Nat):Int):=by lia
  exact xwb rfl rfl rfl ⟨j+1,A0g (λz:Int=>[some (V.ref g.p),some (V.int c),some (V.int (e:Int)),some (V.int (R:Int)),some (V.int z)]) I,rfl,by lia⟩
 .have b:¬(1:Int)*2^(((j+2:Nat):Int)-2).toNat<(R:Int):=λz=>b (X8 z);rw[v]at b;have le:R<=2^j:=by lia
  refine xq1 rfl (k j A0 ?_ ?_ le)
  .refine P1 λz=>?_;have:2^j<2^n:=W9 A4 z;lia
  .refine P1 λz=>?_;have:2^j<2^e:=W9 A4 z;lia
inductive SpWT(a:Ad)(vs:List V)(H:Hp)(Q:VK):Prop
|mk (g:GA) (G:Gv) (f n k:Nat) (_:vs=[.ref g.p,.int f,.int ((n+k+1:Nat):Int)]) (_:AW a H g G) (_:Am G f ((n+1:Nat):Int)) (_:n+k<=46) (_:G.length<8000000) (_:∀(v:Nat)(G':Gv)(H':Hp),Fr g H H'->AW a H' g G'->AH G G' (5*k)->On G' n f k v->Am G' v ((n+k+1:Nat):Int)->Q (.int v) H'):SpWT a vs H Q
def spWT(a:Ad):Sp:=λvs H Q _=>SpWT a vs H Q
theorem ok_wt(F:Fun K "widened_to" "widened_to" IR f fd)(T:Top K mg a)(O:Ca P w K mg base CX0 3 a.c_Grove "level_of" Lp (MF a))(R:Cal P w K mg base CX0 4 "widened" LG (Wn a)):AL P w K mg base CX0 5 f fd Jj (spWT a):=by
 refine F.ok Ic D_9 λS A D s H vs Q E L h=>?_
 obtain⟨g,G,r,n,kk,rfl,I,W,X,few,k⟩:=h;refine⟨_,(Ac (Aq (i:=3) Ic.nd rfl O_9 (pv 1)) (Ac (JV K7 (AA JF (AK (pv 0) O (rm L) Ao (Aa (pv 3) Ab)) (pv 2) (AG _)) (Ah (Aq (i:=3) Ic.nd rfl O_9 (As R (rm L) rfl Ao (Aa (pv 0) (Aa (pv 3) Ab)))))) (Ah (Av (pv 3))))),?_⟩
 try dsimp only[cxK]
 refine xq1 rfl ?_;refine⟨λm σ v=>∃(d:Gv)(c j:Nat),σ=[some (.ref g.p),some (.int r),some (.int ((n+kk+1:Nat):Int)),some (.int c)]/\Fr g H v/\AW a v g d/\AH G d (5*j)/\j+m=kk/\Am d c ((n+j+1:Nat):Int)/\On d n r j c,⟨kk,G,r,0,rfl,Fr.refl g H,I,AH.refl I.ok,by lia,W,rfl⟩,?_⟩;rintro m σ v ⟨d,c,j,rfl,fr,b,go,U,C,N⟩;have Z:=go.few;obtain⟨q,eq,V⟩:=id C;refine xq1 rfl ⟨g.p,g.dx,(xq1 rfl ⟨b.at'.hp,DY g,(xq1 rfl ⟨g,d,c,q,rfl,b.at',eq,?_⟩)⟩)⟩;rw[V];refine xwb rfl rfl rfl (xq1 rfl (JI (λu=>?_) (λu=>?_)))
 .have u:((n+j+1:Nat):Int)<((n+kk+1:Nat):Int):=A0d u;refine⟨fun σ' y=>∃(l:Gv)(o x:Nat),σ'=[some (.ref g.p),some (.int r),some (.int ((n+kk+1:Nat):Int)),some (.int o)]/\Fr g H y/\AW a y g l/\AH G l (5*x)/\x+(m-1)=kk/\Am l o ((n+x+1:Nat):Int)/\On l n r x o,fun σ' y z=>⟨m-1,by lia,z⟩,?_⟩;refine xw2 rfl rfl ⟨g,d,c,n+j,rfl,b,C,by lia,by lia,λo l Y t B e M=>?_⟩;refine⟨l,o,j+1,rfl,fr.trans t,b.fr t B e,(go.trans e).mono A0,by lia,?_,⟨c,N.app e,M⟩⟩;have:=M.lev;rw[show n+(j+1)+1=n+j+2 by lia];exact this
 .have u:¬((n+j+1:Nat):Int)<((n+kk+1:Nat):Int):=λz=>u (X8 z);have:j=kk:=by lia
  subst this;exact xq1 rfl (k c d v fr b go N C)
end
end J
namespace J
open PySem L2
def sF(r:AD)(φ:D_):Int->Int->Nat:=λx y=>(Cs r (φ x y:Nat) [((φ (x-1) (y-1):Nat):Int),((φ x (y-1):Nat):Int),((φ (x+1) (y-1):Nat):Int),((φ (x-1) y:Nat):Int),((φ (x+1) y:Nat):Int),((φ (x-1) (y+1):Nat):Int),((φ x (y+1):Nat):Int),((φ (x+1) (y+1):Nat):Int)]).toNat
def sFN(r:AD):Nat->(Int->Int->Nat)->Int->Int->Nat
|0,φ=>φ
|n+1,φ=>sF r (sFN r n φ)
theorem MR(r:AD)(φ:D_)(n:Nat):∀m,sFN r (m+n) φ=sFN r m (sFN r n φ)
|0=>by rw[M4];rfl
|m+1=>by
 rw[show m+1+n=(m+n)+1 by lia];show sF r (sFN r (m+n) φ)=sF r (sFN r m (sFN r n φ));rw[MR r φ n m]
theorem Sh(r:AD){φ ψ:D_}{X Y:Int}:∀(k:Nat)(x y:Int),(∀u v,x-k<=u->u<=x+k->y-k<=v->v<=y+k->φ u v=ψ (u+X) (v+Y))->sFN r k φ x y=sFN r k ψ (x+X) (y+Y)
|0,x,y,h=>h x y A0 A0 A0 A0
|k+1,x,y,h=>by
 have c:∀u v,x-1<=u->u<=x+1->y-1<=v->v<=y+1->sFN r k φ u v=sFN r k ψ (u+X) (v+Y):=λu v d e f g=>Sh r k u v λa b i j l m=>h a b A0 A0 A0 A0;show sF r (sFN r k φ) x y=sF r (sFN r k ψ) (x+X) (y+Y);unfold sF;rw[c x y A0 A0 A0 A0,c (x-1) (y-1) A0 A0 A0 A0,c x (y-1) A0 A0 A0 A0,c (x+1) (y-1) A0 A0 A0 A0,c (x-1) y A0 A0 A0 A0,c (x+1) y A0 A0 A0 A0,c (x-1) (y+1) A0 A0 A0 A0,c x (y+1) A0 A0 A0 A0,c (x+1) (y+1) A0 A0 A0 A0];rw[show x-1+X=x+X-1 by lia,show y-1+Y=y+Y-1 by lia,show x+1+X=x+X+1 by lia,show y+1+Y=y+Y+1 by lia]
theorem JU{r:AD}(h:Cs r 0 BI=0):∀k,sFN r k (λ_ _=>0)=λ_ _=>0
|0=>rfl
|k+1=>by
 show sF r (sFN r k λ_ _=>0)=_;rw[JU h k]
 funext x y
 show(Cs r ((0:Nat):Int) BI).toNat=0;rw[show((0:Nat):Int)=0 from rfl,h];rfl
theorem MQ{r:AD}(h:Cs r 0 BI=0){φ:D_}{k:Nat}{x y:Int}(z:sFN r k φ x y≠0):∃u v,x-k<=u/\u<=x+k/\y-k<=v/\v<=y+k/\φ u v≠0:=by
 refine K5 λno=>z ?_;have:=Sh r (φ:=φ) (ψ:=λ_ _=>0) (X:=0) (Y:=0) k x y λu v a b c d=>K5 λq=>no ⟨u,v,a,b,c,d,q⟩;rw[this,JU h]
theorem bec_nn{r:AD}(h:FT r){cell:Int}(d:0<=cell)(ar:I_):0<=Cs r cell ar:=by
 cases e:JJ r cell ar with
 |none=>rw[NA e];exact d
 |some i =>
  obtain⟨c,a,b⟩:=Nz e;rw[b];exact(h.ok c (D0 a)).makes.1
theorem OT{r:AD}(e:FT r){c:Nat->Nat->Int}{φ:D_}{X Y:Int}:∀(k x y:Nat),k<=x->k<=y->(∀u v:Nat,x-k<=u->u<=x+k->y-k<=v->v<=y+k->c u v=(φ ((u:Int)+X) ((v:Int)+Y):Nat))->Br r k c x y=(sFN r k φ ((x:Int)+X) ((y:Int)+Y):Nat)
|0,x,y,_,_,h=>h x y A0 A0 A0 A0
|k+1,x,y,hx,hy,h=>by
 have d:∀u v:Nat,x-1<=u->u<=x+1->y-1<=v->v<=y+1->Br r k c u v=(sFN r k φ ((u:Int)+X) ((v:Int)+Y):Nat):=λu v f g i j=>OT e k u v A0 A0 λa b l m n o=>h a b A0 A0 A0 A0;show Cs r (Br r k c x y) [Br r k c (x-1) (y-1),Br r k c x (y-1),Br r k c (x+1) (y-1),Br r k c (x-1) y,Br r k c (x+1) y,Br r k c (x-1) (y+1),Br r k c x (y+1),Br r k c (x+1) (y+1)]=((sF r (sFN r k φ) ((x:Int)+X) ((y:Int)+Y):Nat):Int)
 unfold sF;rw[N7 (bec_nn e (Int.natCast_nonneg _) _)];rw[d x y A0 A0 A0 A0,d (x-1) (y-1) A0 A0 A0 A0,d x (y-1) A0 A0 A0 A0,d (x+1) (y-1) A0 A0 A0 A0,d (x-1) y A0 A0 A0 A0,d (x+1) y A0 A0 A0 A0,d (x-1) (y+1) A0 A0 A0 A0,d x (y+1) A0 A0 A0 A0,d (x+1) (y+1) A0 A0 A0 A0];rw[show((x-1:Nat):Int)+X=x+X-1 by lia,show((y-1:Nat):Int)+Y=y+Y-1 by lia,show((x+1:Nat):Int)+X=x+X+1 by lia,show((y+1:Nat):Int)+Y=y+Y+1 by lia]
theorem fld_jg{G:Gv}(ok:GOk G){r:AD}(H:FT r)(F:Cs r 0 BI=0){l e f k:Nat}(g:Am G f ((l+1+1:Nat):Int))(jr:JR r G e f k){φ:D_}(h:∀x y,fieldF G (l+1) f x y=φ x y)(b:∀x y,φ x y≠0->-(2^l)+2^e<=x/\x+2^e<2^l/\-(2^l)+2^e<=y/\y+2^e<2^l):Am G k ((l+1:Nat):Int)/\∀x y,fieldF G l k x y=sFN r (2^e) φ x y:=by
 obtain⟨a,n,o,d,s⟩:=jr;have m:a=l:=by
  have:=n.one g;lia
 subst m;have p:((2^(a+1):Nat):Int)=2^a+2^a:=by rw[M6];exact Ci a
 have t:((2^a:Nat):Int)=2^a:=M6 2 a;have M:((2^e:Nat):Int)=2^e:=M6 2 e;have L:((2^(a+2):Nat):Int)=2^a+2^a+(2^a+2^a):=by
  rw[M6];show(2:Int)^(a+2)=_;rw[show(2:Int)^(a+2)=2^(a+1)+2^(a+1)from Ci (a+1),Ci]
 have le:2^e<=2^a:=N9 A4 o;refine⟨d,λx y=>?_⟩;by_cases z:-(2^a)<=x/\x<2^a/\-(2^a)<=y/\y<2^a
 .obtain⟨i,I,j,b2⟩:=z;have at':(fieldF G a k x y:Int)=Br r (2^e) (CB G (a+2) f) ((x+2^a).toNat+2^a) ((y+2^a).toNat+2^a):=by
   rw[<-s _ _ A0 A0,SU ok d A0 A0];congr 2<;>lia
  have c:∀u:Int,-(2^a)<=u->((((u+2^a).toNat+2^a:Nat):Int)+-(2^(a+1)))=u:=λu K=>by
   rw[Ci,N3,t];lia
  rw[OT H (φ:=φ) (X:=-(2^(a+1))) (Y:=-(2^(a+1))) _ _ _ A0 A0 (λu v A B C D=>?_),c x i,c y j]at at'
  .exact K2 at'
  .rw[SU ok g A0 A0,h];rfl
 .unfold fieldF;rw[X7 z];refine(K5 λq=>?_);obtain⟨u,v,A,B,C,D,E⟩:=MQ F (λw=>q w.symm);have:=b u v E;lia
def Kg(r:AD)(F:List (Int->Int->Nat))(T:Nat):KTy:=λl e ψ=>l<47/\((∀x y,x<2^(l+2)->y<2^(l+2)->ψ x y=0)\/∃φ∈F,∃(t:Nat)(i j:Int),t+2^e<=T/\∀x y,x<2^(l+2)->y<2^(l+2)->ψ x y=(sFN r t φ ((x:Int)+2^l*i) ((y:Int)+2^l*j):Nat))
theorem kg_cl{r:AD}(s:FT r)(M:Cs r 0 BI=0)(F:List (Int->Int->Nat))(T:Nat):ClK r (Kg r F T):=by
 have n:∀l,2^(l+1)=2^l*2:=λl=>F9 ..;have q:∀l:Nat,(2:Int)^(l+1)=2^l*2:=λl=>W3 ..;have o:∀l,2^(l+2)=2^l*2*2:=λl=>by rw[F9,F9]
 have p:∀l,2^(l+1+2)=2^l*2*2*2:=λl=>by rw[F9,F9,F9]
 have nine:∀{l e g ψ},Kg r F T (l+1) e ψ->2^g<=2^e->∀i j,i<3->j<3->Kg r F T l g λx y=>ψ (x+2^(l+1)*i) (y+2^(l+1)*j):=λ{l e g ψ} h N i j I K=>by
  have C:2^(l+1)*i<=2^(l+1)*2:=L5 _ A0;have b2:2^(l+1)*j<=2^(l+1)*2:=L5 _ A0;have w:=n l;have A:=o l;have B:=p l;refine⟨by have:=h.1;lia,?_⟩;rcases h.2 with z|⟨φ,b,t,a,f,L,z⟩
  .exact .inl λx y k m=>z _ _ A0 A0
  .refine .inr ⟨φ,b,t,2*a+2*(i:Int),2*f+2*(j:Int),by lia,λx y k m=>?_⟩;show ψ _ _=_;rw[z _ _ A0 A0];have d:∀(x i:Nat)(a:Int),((x+2^(l+1)*i:Nat):Int)+2^(l+1)*a=(x:Int)+2^l*(2*a+2*(i:Int)):=λx i a=>by
    rw[N3,N8,M6];show(x:Int)+2^(l+1)*(i:Int)+2^(l+1)*a=_;rw[q,Y8,Z1,Z1];lia
   rw[d,d]
 refine⟨λh _=>nine h (B8 _),λ{l φ} h=>nine h (by rw[n];lia),λ{l ψ} h i j I K=>?_⟩;have C:2^(l+1)*i<=2^(l+1)*1:=L5 _ A0;have b2:2^(l+1)*j<=2^(l+1)*1:=L5 _ A0;have w:=n l;have A:=o l;have B:=p l;refine⟨by have:=h.1;lia,?_⟩;rcases h.2 with z|⟨φ,b,t,a,f,L,z⟩
 .refine .inl λx y k m=>?_;have:=OT s (c:=ψ) (φ:=λ_ _=>0) (X:=0) (Y:=0) (2^l) (x+(2^(l+1)*i+2^l)) (y+(2^(l+1)*j+2^l)) A0 A0 λu v D E G H=>z u v A0 A0;rw[JU M]at this;exact this
 .refine .inr ⟨φ,b,t+2^l,2*a+(2*(i:Int)+1),2*f+(2*(j:Int)+1),by lia,λx y k m=>?_⟩;have:=OT s (c:=ψ) (φ:=sFN r t φ) (X:=2^(l+1)*a) (Y:=2^(l+1)*f) (2^l) (x+(2^(l+1)*i+2^l)) (y+(2^(l+1)*j+2^l)) A0 A0 λu v D E G H=>z u v A0 A0;show Br r (2^l) ψ _ _=_;rw[this,<-MR,U3];have d:∀(x i:Nat)(a:Int),((x+(2^(l+1)*i+2^l):Nat):Int)+2^(l+1)*a=(x:Int)+2^l*(2*a+(2*(i:Int)+1)):=λx i a=>by
   rw[N3,N3,N8,M6,M6];show(x:Int)+(2^(l+1)*(i:Int)+2^l)+2^(l+1)*a=_;rw[q,Y8,Y8,Z1,Z1,Int.mul_one];lia
  rw[d,d]
def wl(W T l:Nat):Nat:=(W+2*T)/2^l+5
def sg(k T W D l:Nat):Nat:=1+k*(T*(wl W T l*wl D T l))
def mg(k T W D e:Nat):Nat:=if 2^e<=T then((List.range 47).map (sg k T W D)).sum else 47
def ng(k T W D:Nat):Nat:=s47 (mg k T W D)
def winF(ψ:D_)(l:Nat)(i j:Int):Sht:=λx y=>(ψ ((x:Int)+2^l*i) ((y:Int)+2^l*j):Nat)
abbrev Fbx:=(Int->Int->Nat)×Int×Int
def Zy(r:AD)(T W D l:Nat)(q:Fbx):List (Nat×Sht):=(List.range T).flatMap λt=>(List.range (wl W T l*wl D T l)).map λd=>(l,winF (sFN r t q.1) l ((q.2.1-T)/2^l-3+((d%wl W T l:Nat):Int)) ((q.2.2-T)/2^l-3+((d/wl W T l:Nat):Int)))
def WO(r:AD)(T W D:Nat)(qs:List Fbx)(e:Nat):List (Nat×Sht):=(List.range 47).flatMap λl=>(l,λ_ _=>0)::if 2^e<=T then qs.flatMap (Zy r T W D l)else []
theorem Uz{α β:Type}(f:α->List β)(m:α->Nat):∀l:List α,(∀x∈l,(f x).length<=m x)->(l.flatMap f).length<=(l.map m).sum
|[],_=>by simp
|a::l,h=>by
 have:=Uz f m l λx b=>h x (C5 _ b);have:=h a C4;rw[Z8,C1,F4,P0];lia
theorem YY(r:AD)(T W D:Nat)(a:List Fbx)(e:Nat):(WO r T W D a e).length<=mg a.length T W D e:=by
 unfold WO mg;by_cases h:2^e<=T
 .rw[K0 h];simp only[K0 h];refine Uz _ _ _ λl _=>?_;rw[D6];have:=Pd (Zy r T W D l) (T*(wl W T l*wl D T l)) a λq _=>by
   unfold Zy;have:=Pd (λt=>(List.range (wl W T l*wl D T l)).map λd=>(l,winF (sFN r t q.1) l ((q.2.1-T)/2^l-3+((d%wl W T l:Nat):Int)) ((q.2.2-T)/2^l-3+((d/wl W T l:Nat):Int)))) (wl W T l*wl D T l) (List.range T) λt _=>by rw[B4,M9];exact B8 _
   rw[M9]at this;exact this
  unfold sg;lia
 .rw[X7 h];simp only[X7 h];have:=Pd (λl=>[((l,λ_ _=>0):Nat×Sht)]) 1 (List.range 47) λl _=>B8 _;rw[M9]at this;exact this
theorem kg_ext{r:AD}{F:List (Int->Int->Nat)}{T l e:Nat}{φ ψ:Sht}(h:Kg r F T l e φ)(q:Zt l φ ψ):Kg r F T l e ψ:=by
 refine⟨h.1,?_⟩;rcases h.2 with c|⟨d,m,t,i,j,f,c⟩
 .exact .inl λx y a b=>(q x y a b).symm.trans (c x y a b)
 .exact .inr ⟨d,m,t,i,j,f,λx y a b=>(q x y a b).symm.trans (c x y a b)⟩
theorem Zz{l T W t:Nat}{x:Nat}{i X u:Int}(y:x<2^(l+2))(w:t<=T)(p:(x:Int)+2^l*i-t<=u)(r:u<=(x:Int)+2^l*i+t)(s:X<=u)(v:u<X+W):∃d,d<wl W T l/\i=(X-T)/2^l-3+((d:Nat):Int):=by
 have a:(0:Int)<2^l:=by have:=AI l;have e:((2^l:Nat):Int)=2^l:=M6 2 l;lia
 have z:((2^(l+2):Nat):Int)=2^l*4:=by rw[M6];show(2:Int)^(l+2)=_;rw[W3,W3];lia
 have m:(((W+2*T)/2^l:Nat):Int)=((W:Int)+2*T)/2^l:=by rw[S6,M6];rfl
 generalize j:(2:Int)^l=P at *
 generalize eq:(X-T)/P=q;have f:=Int.emod_add_mul_ediv (X-T) P;have g:=Int.emod_nonneg (X-T) (Int.ne_of_gt a);have h:=U8 (X-T) a;rw[eq]at f;have n:=Int.emod_add_mul_ediv ((W:Int)+2*T) P;have o:=U8 ((W:Int)+2*T) a;generalize k:((W:Int)+2*T)/P=b at *
 have lo:P*(q-4)<P*i:=by rw[Int.mul_sub];lia
 have c:P*i<P*(q+b+2):=by rw[Y8,Y8];lia
 have lo:=Int.lt_of_mul_lt_mul_left lo (Int.le_of_lt a);have c:=Int.lt_of_mul_lt_mul_left c (Int.le_of_lt a);refine⟨(i-q+3).toNat,?_,by lia⟩;unfold wl;lia
def InBx(F:List (Int->Int->Nat))(W D:Nat)(qs:List Fbx):Prop:=∀φ∈F,∀u v,φ u v≠0->∃X Y,(φ,X,Y)∈qs/\X<=u/\u<X+W/\Y<=v/\v<Y+D
theorem VG{r:AD}(Q:Cs r 0 BI=0){F:List (Int->Int->Nat)}{T W D:Nat}{f:List Fbx}(N:InBx F W D f):LB (Kg r F T) (ng f.length T W D):=by
 refine⟨⟨mg f.length T W D,B8 _,λe=>⟨WO r T W D f e,YY r T W D f e,λl ψ h=>?_⟩⟩,kg_ext⟩;obtain⟨p,d⟩:=h;have zero:(∀x y,x<2^(l+2)->y<2^(l+2)->ψ x y=0)->∃g,(l,g)∈WO r T W D f e/\Zt l ψ g:=λz=>⟨λ_ _=>0,S5.mpr ⟨l,L7.mpr p,C4⟩,z⟩
 rcases d with d|⟨φ,o,t,i,j,R,d⟩
 .exact zero d
 .by_cases z:∀x y,x<2^(l+2)->y<2^(l+2)->ψ x y=0
  .exact zero z
  .obtain⟨x,z⟩:=Classical.not_forall.mp z;obtain⟨y,z⟩:=Classical.not_forall.mp z;obtain⟨k,z⟩:=Classical.not_imp.mp z;obtain⟨n,z⟩:=Classical.not_imp.mp z;rw[d x y k n]at z;have z:sFN r t φ ((x:Int)+2^l*i) ((y:Int)+2^l*j)≠0:=λq=>z (by rw[q];rfl);obtain⟨u,v,w,A,B,b2,c⟩:=MQ Q z;obtain⟨X,Y,m,I,K,L,M⟩:=N φ o u v c;have S:=AI e;obtain⟨b,s,G⟩:=Zz (T:=T) (W:=W) k A0 w A I K;obtain⟨a,P,H⟩:=Zz (T:=T) (W:=D) n A0 B b2 L M;have O:0<wl W T l:=by unfold wl;lia
   have E:(b+wl W T l*a)%wl W T l=b:=by rw[N6,J8 s]
   have C:(b+wl W T l*a)/wl W T l=a:=by rw[N4 _ _ O,L6 s,M4]
   have lt:b+wl W T l*a<wl W T l*wl D T l:=by
    have:wl W T l*(a+1)<=wl W T l*wl D T l:=L5 _ P;rw[Y5]at this;lia
   refine⟨winF (sFN r t φ) l i j,S5.mpr ⟨l,L7.mpr p,C5 _ ?_⟩,λx y k n=>d x y k n⟩;rw[K0 A0];refine S5.mpr ⟨_,m,S5.mpr ⟨t,L7.mpr A0,C8.mpr ⟨b+wl W T l*a,L7.mpr lt,?_⟩⟩⟩;rw[E,C];show(l,winF (sFN r t φ) l ((X-T)/2^l-3+((b:Nat):Int)) ((Y-T)/2^l-3+((a:Nat):Int)))=_;rw[<-G,<-H]
theorem fld_kg{G:Gv}(ok:GOk G){r:AD}{F:List (Int->Int->Nat)}{T l f e t:Nat}(d:l<47)(g:Am G f ((l+1+1:Nat):Int)){φ:D_}(m:φ∈F)(a:t+2^e<=T)(h:∀x y,fieldF G (l+1) f x y=sFN r t φ x y):Kg r F T l e (CB G (l+2) f):=by
 refine⟨by lia,.inr ⟨φ,m,t,-2,-2,a,λx y b c=>?_⟩⟩;rw[SU ok g b c,h];have e:(2:Int)^(l+1)=2^l*2:=W3 ..;rw[e];congr 2<;>lia
seal L2.PA L2.PE L2.PS L2.PSs L2.PT L2.PW
def QB(φ:D_)(k:Nat):Prop:=∀x y,φ x y≠0->-(2^40)+(k:Int)<=x/\x+k<2^40/\-(2^40)+(k:Int)<=y/\y+k<2^40
theorem near_box {φ:D_} {b:Bx} (t:LA (λx y=>φ x y≠0) b) (k:Nat):GL (b.l-k) (b.t-k) (b.w+2*k) (b.h+2*k) (2^40)↔QB φ k:=by
 unfold GL;constructor
 .rintro⟨a,c,d,e⟩ x y h;have:=t.inn x y h;lia
 .intro h;obtain⟨m,a⟩:=t.le;obtain⟨n,c⟩:=t.to;obtain⟨o,d⟩:=t.ri;obtain⟨p,e⟩:=t.bo;have f:=h _ _ a;have g:=h _ _ c;have i:=h _ _ d;have j:=h _ _ e;lia
section
variable{P:N_}{w:Q_}{K:O_}{mg:C_}{base:T_}{a:Ad}
inductive SpChG(a:Ad)(vs:List V)(H:Hp)(Q:VK):Prop
|mk (g:GA) (G:Gv) (f n k:Nat) (_:vs=[.ref g.p,.int f,.int (k:Int)]) (_:AW a H g G) (_:Am G f ((n+1:Nat):Int)) (_:n<48) (_:G.length<8000000) (_:QB (fieldF G n f) k) (_:∀H',FrQ g H H'->AW a H' g G->Q .non H'):SpChG a vs H Q
def spChG(a:Ad):Sp:=λvs H Q _=>SpChG a vs H Q
theorem ok_chg'(F:Fun K "check_leap" "check_leap" IV f fd)(T:Top K mg a)(N:Cal P w K mg base CX0 1 "is_whole" Vt Yz)(R:Cal P w K mg base CX0 102 "box_of" Vr (OR a))(M:Cal P w K mg base CX0 1 "lies_within" QP Re):AL P w K mg base CX0 103 f fd Jm (spChG a):=by
 refine F.ok LY D_9 λS A v s H vs Q E q h=>?_
 obtain⟨g,G,U,n,k,rfl,C,I,r,few,X,D⟩:=h;refine⟨_,(Ac (AO (PW.pt (PL (Er (DT (As N (rm q) rfl Ao (Aa (pv 2) Ab)))) (Ms (AA JF (pv 2) Ae (AG _))))) (Ah Bl) AC) (Ac (Aq (i:=3) LY.nd rfl O_9 (As R (rm q) rfl Ao (Aa (pv 0) (Aa (pv 1) Ab)))) (Ah (AO (PW.pt (Mt (AA WG (pv 3) Db (AG _)) (Jg (Er (DT (As M (rm q) rfl Ao (Bm (Bn Cv (Aj Al (pv 3) Ae R_9) (pv 2) (Bn Cv (Aj Al (pv 3) Ae R_9) (pv 2) (Bn AQ (Aj Al (pv 3) Ae R_9) (AF EW Ae (pv 2)) (Bn AQ (Aj Al (pv 3) Ae R_9) (AF EW Ae (pv 2)) Ab)))) (Aa (BX rfl T.k_LIMIT) Ab)))))))) (Ah Bl) AC)))),?_⟩
 try dsimp only[cxK]
 refine BU ?_;intro r1 s1 k1 p Y;refine xq1 rfl ⟨(k:Int),rfl,true,rfl,Bd ?_⟩;refine xwb rfl rfl rfl (xq1 rfl ?_);rw[X9 A0];refine Bd ?_;refine p ?_;refine BU ?_;intro r2 s2 k2 e Z;refine xw2 rfl rfl ⟨g,G,U,n,rfl,C,I,r,few,λz d o b=>?_,λO z t d o b c=>?_⟩
 .refine e ?_;refine xq1 rfl ⟨rfl,false,rfl,Bd ?_⟩;exact D d o b
 .refine e ?_;have L:=JL C.ok I z;generalize mvB (2^n) O=B at c L;have c:d t=some (.tup [.int B.l,.int B.t,.int B.w,.int B.h]):=c;have W:=near_box L k;refine xq1 rfl ⟨rfl,true,rfl,BP ?_⟩;refine xwi rfl rfl rfl (SqT.of c) (Ai (j:=0) rfl) (xwb rfl rfl rfl ?_);refine xwi rfl rfl rfl (SqT.of c) (Ai (j:=1) rfl) (xwb rfl rfl rfl ?_);refine xwi rfl rfl rfl (SqT.of c) (Ai (j:=2) rfl) (xwb rfl rfl rfl ⟨.inl ⟨by decide,by decide⟩,(xq2 rfl rfl ?_)⟩);refine xwi rfl rfl rfl (SqT.of c) (Ai (j:=3) rfl) (xwb rfl rfl rfl ⟨.inl ⟨by decide,by decide⟩,(xq2 rfl rfl ?_)⟩);refine⟨by show 4<=sizeLine;decide,λu V=>?_⟩;refine⟨u,B.l-k,B.t-k,B.w+2*k,B.h+2*k,2^40,rfl,Af,?_⟩;generalize y:upd d u _=x;have m:Az d x:=y▸AJ V;clear y;rw[X8 (W.mpr X)];exact⟨true,rfl,Bd (D x (o.trans (Az.frq m)) (b.same m))⟩
end
theorem bare0{G r:Gv}(e:G=G0++r)(ok:GOk G):Am G (bareN 1) ((0+1:Nat):Int)/\JA G 0 (bareN 1)/\∀x y,fieldF G 0 (bareN 1) x y=0:=by
 refine⟨DI e (n:=1) A4,.inl rfl,λx y=>?_⟩;unfold fieldF;by_cases z:-(2^0)<=x/\x<2^0/\-(2^0)<=y/\y<2^0
 .rw[K0 z];exact CZ e ok (n:=1) A4 (by show _<2;have:(2:Int)^0=1:=rfl;lia) (by show _<2;have:(2:Int)^0=1:=rfl;lia)
 .rw[X7 z]
theorem nar{x a b c:Int}(h:-a<=x)(h':x<a)(e:a+c<=b):-b+c<=x/\x+c<b:=by lia
theorem near_lt{φ:D_}{k:Nat}(h:QB φ k){x y:Int}(a:φ x y≠0):k<2^40:=by
 have:=h x y a;lia
theorem WK{r:AD}(e:Cs r 0 BI=0){φ:D_}{k t:Nat}(h:QB φ k)(tk:t<=k){x y:Int}(d:sFN r t φ x y≠0):-(2^40)<=x/\x<2^40/\-(2^40)<=y/\y<2^40:=by
 apply AN;intro b a;obtain⟨u,v,f,g,i,j,c⟩:=MQ e d;apply a;clear a b;have:=h u v c;lia
theorem Wd{G r:Gv}(e:G=G0++r)(ok:GOk G){n f:Nat}(c:n<=47)(t:JA G n f)(h:∀x y,fieldF G n f x y≠0->-(2^40)<=x/\x<2^40/\-(2^40)<=y/\y<2^40):n<=40:=by
 refine P1 λz=>?_;obtain⟨m,rfl⟩:∃m,n=m+1:=⟨n-1,by lia⟩
 obtain⟨x,y,b,a⟩:=ME e ok A0 t;have:=h x y a;have p:2^40<=2^m:=N9 A4 A0;have d:((2^m:Nat):Int)=2^m:=M6 2 m;lia
def UR(Κ:KTy)(r:AD)(φ:D_)(k:Nat):Prop:=∀(j l:Nat)(G:Gv)(f:Nat),k/2^j%2=1->j<=l->l<=41->GOk G->Am G f ((l+1+1:Nat):Int)->(∀x y,fieldF G (l+1) f x y=sFN r (k%2^j) φ x y)->Κ l j (CB G (l+2) f)
theorem SM{r:AD}{F:List (Int->Int->Nat)}{T k t:Nat}{φ:D_}(m:φ∈F)(h:k+t<=T):UR (Kg r F T) r (sFN r t φ) k:=λj l G f e g b ok c a=>by
 refine fld_kg (t:=k%2^j+t) ok A0 c m ?_ λx y=>by rw[a,<-MR]
 have d:=M7 k (2^j);have p:2^j*1<=2^j*(k/2^j):=L5 _ A0;lia
def Yo(H:Hp)(G:Gv)(ψ:D_)(ts:H_):Prop:=∃(t:R_)(sq e res l:Nat),ts.getLast?=some t/\H t=some (.tup [.int sq,.int e,.int res])/\l<=41/\Am G res ((l+1:Nat):Int)/\∀x y,fieldF G l res x y=ψ x y
section
variable{P:N_}{w:Q_}{K:O_}{mg:C_}{base:T_}{a:Ad}
inductive SpRdG(a:Ad)(vs:List V)(H:Hp)(Q:VK):Prop
|mk (p dx mem pr:R_) (g:GA) (G:Gv) (Κ:KTy) (φ:D_) (N b:Nat) (r:AD) (m:MA) (f n k:Nat) (_:vs=[.ref p,.int f,.int (k:Int)]) (_:ZS a H g G Κ N b p dx mem pr r m) (_:LB Κ N) (_:ClK r Κ) (_:UR Κ r φ k) (_:Am G f ((n+1:Nat):Int)) (_:n<=40) (_:JA G n f) (_:∀x y,fieldF G n f x y=φ x y) (_:QB φ k) (_:b+12000+10*N<7900000) (_:∀(L:R_)(ts:H_)(G':Gv)(H':Hp)(i:Nat),FrZ g m H H'->ZS a H' g G' Κ N (b+12000) p dx mem pr r m->AH G G' i->H L=none->H' L=some (.lst (ts.map V.ref))->((ts=[]/\∀x y,sFN r k φ x y=φ x y)\/Yo H' G' (sFN r k φ) ts)->Q (.ref L) H'):SpRdG a vs H Q
def ZO(a:Ad):Sp:=λvs H Q _=>SpRdG a vs H Q
theorem ok_rdg(F:Fun K "road" "road" Ve f fd)(T:Top K mg a)(cG:Cal P w K mg base CX0 103 "check_leap" Jm (spChG a))(aZ:Cal P w K mg base CX0 1 "bare_field" Sy (OS a))(cN:Cal P w K mg base CX0 5 "level_for" Le (ZU a))(cD:Cal P w K mg base CX0 5 "widened_to" Jj (spWT a))(bU:Ca P w K mg base CX0 149 a.c_Jumps "after" QS (Ib a 46))(aR:Cal P w K mg base CX0 4 "trimmed" LG (NC a)):AL P w K mg base CX0 150 f fd Vk (ZO a):=by
 refine F.ok Ef (λvs H Q E h=>?_) (λck A b7 s H vs Q E hr h=>?_)
 .apply AN;intro G_ I;obtain⟨p,dx,mem,pr,g,G,Κ,φ,N,b,r,m,f',n,k,rfl,_⟩:=h;apply I;clear I G_;rfl
 .apply AN;intro G_ I;obtain⟨p,dx,mem,pr,g,G,Κ,φ,N,b,r,m,f',n,k,rfl,zs,fin,cl,a8,lf,b5,tr,hf,nr,few,kn⟩:=h;apply I;clear I G_;refine⟨_,(Ac (Aq (i:=3) Ef.nd rfl O_9 (AB (pv 0) rfl)) (Ac (BW (As cG (rm hr) rfl Ao (Aa (pv 3) (Aa (pv 1) (Aa (pv 2) Ab))))) (Ac (Aq (i:=4) Ef.nd rfl O_9 (Ce Ab)) (Ac (Aq (i:=5) Ef.nd rfl O_9 (pv 1)) (Ac (Aq (i:=6) Ef.nd rfl O_9 (pv 2)) (Ac (Aq (i:=7) Ef.nd rfl O_9 Ae) (Ac (JV K7 (PW.pt (Mt (AA Ri (pv 6) Ae (AG _)) (Jg (AA GV (pv 5) (As aZ (rm hr) rfl Ao (Aa (pv 3) Ab)) (AG _))))) (Ac (AO (AA CG (AF Bq (pv 6) Ae) Ae (AG _)) (Ac (Aq (i:=8) Ef.nd rfl O_9 (As cD (rm hr) rfl Ao (Aa (pv 3) (Aa (pv 5) (Aa (As cN (rm hr) rfl Ao (Aa (pv 3) (Aa (pv 5) (Aa (pv 7) Ab)))) Ab))))) (Ac (Aq (i:=9) Ef.nd rfl O_9 (AK (pv 0) bU (rm hr) Ao (Aa (pv 8) (Aa (pv 7) Ab)))) (Ac (BW (CQ K8 A0a A0b Cc (pv 4) (Bm (Aa (pv 8) (Aa (pv 7) (Aa (pv 9) Ab))) Ab))) (Ah (Aq (i:=5) Ef.nd rfl O_9 (As aR (rm hr) rfl Ao (Aa (pv 3) (Aa (pv 9) Ab)))))))) AC) (Ac (Aq (i:=6) Ef.nd rfl O_9 (AF Ey (pv 6) Ae)) (Ah (Aq (i:=7) Ef.nd rfl O_9 (AF AQ (pv 7) Ae)))))) (Ah (Av (pv 4)))))))))),?_⟩
  try dsimp only[cxK]
  have sz:=zs.jz.sz fin;have re:=zs.jz.jw.rest;have ro:=zs.jz.jw.rok;refine BU ?_;intro r1 s1 k1 bl E1;refine xwf rfl rfl zs.jz.jw.hp T.cl_Jumps T.na_Jumps_grove (EA _ _ _ _ _) ?_;refine bl ?_;refine BU ?_;intro r2 s2 k2 bm E2;refine xw3 rfl rfl rfl ⟨g,G,f',n,k,rfl,zs.fu,lf,by lia,by lia,(λx y h=>nr x y (by rw[<-hf];exact h)),λH1 fq ba=>?_⟩;have as:=zs.frQ fq ba;have bb:FrZ g m H H1:=FrQ.z fq;refine bm ?_;refine BU ?_;intro r3 s3 k3 bn E3;refine⟨by show 0<=sizeLine;decide,λL nL=>?_⟩;generalize eH:upd H1 L _=H2;have a6:Az H1 H2:=eH▸AJ nL;have bg:H2 L=some (.lst (([]:H_).map V.ref)):=eH▸Af;clear eH;have cf:=as.same a6;obtain⟨a5,cr⟩:=as.new nL;have O:=as.ap nL;refine bn ?_;refine BU ?_;intro r4 s4 k4 bo E4;refine xq1 rfl (bo ?_);refine BU ?_;intro r5 s5 k5 bp E5;refine xq1 rfl (bp ?_);refine BU ?_;intro r6 s6 k6 bq E6;refine bq ?_;refine BU ?_;intro r7 s7 k7 br E7;have aw:H L=none:=by
   cases e:H L with
   |none=>rfl
   |some o =>
    have h1:=fq L o e (λz=>a5 (by simp[z])) (λz=>a5 (by simp[z]));rw[nL]at h1;cases h1
  have bc:FrZ g m H H2:=bb.trans (Az.z a6);have bj:k/2^0=k:=by rw[Nat.pow_zero,Nat.div_one]
  have a1:k%2^0=0:=by rw[Nat.pow_zero,Nat.mod_one]
  refine⟨fun μ σ H3=>∃(j:Nat)(C:Gv)(B:H_)(h c:Nat)(u8 u9:Option V)(i:Nat),σ=[some (.ref p),some (.int f'),some (.int (k:Int)),some (.ref g.p),some (.ref L),some (.int h),some (.int ((k/2^j:Nat):Int)),some (.int (j:Int)),u8,u9]/\j+μ=41/\FrZ g m H H3/\ZS a H3 g C Κ N (b+270*B.length) p dx mem pr r m/\AH G C i/\H3 L=some (.lst (B.map V.ref))/\B.length<=j/\(c<=40/\Am C h ((c+1:Nat):Int)/\JA C c h/\∀x y,fieldF C c h x y=sFN r (k%2^j) φ x y)/\((B=[]/\∀x y,sFN r (k%2^j) φ x y=φ x y)\/Yo H3 C (sFN r (k%2^j) φ) B),⟨41,0,G,[],f',n,none,none,0,(by rw[bj];rfl),rfl,bc,cf,AH.refl zs.fu.ok,bg,B8 _,⟨b5,lf,tr,by rw[a1];exact hf⟩,.inl ⟨rfl,by rw[a1];exact λ_ _=>rfl⟩⟩,?_⟩;rintro μ σ H3 ce;apply AN;intro G_ I;obtain⟨j,C,B,h,c,u8,u9,i,rfl,jm,al,D,am,an,tl,⟨aj,lh,th,fh⟩,la⟩:=ce;apply I;clear I G_;have cx:=D.jz.sz fin;obtain⟨cu,e3⟩:=D.fu.g0;have ai:(k/2^j=0\/h=bareN 1)->k7 [some (.ref p),some (.int f'),some (.int (k:Int)),some (.ref g.p),some (.ref L),some (.int h),some (.int ((k/2^j:Nat):Int)),some (.int (j:Int)),u8,u9] H3:=λex=>by
   have eq:sFN r k φ=sFN r (k%2^j) φ:=by
    rcases ex with ex|rfl
    .have:k%2^j=k:=by
      have:=M7 k (2^j);rw[ex,Nat.mul_zero,M4]at this;exact this
     rw[this]
    .obtain⟨b1,b2,b3⟩:=bare0 e3 D.fu.ok;have n0:c=0:=by
      have:=lh.one b1;lia
     subst n0;have z:sFN r (k%2^j) φ=λ_ _=>0:=by
      funext x y
      rw[<-fh,b3]
     have:=MR r φ (k%2^j) (2^j*(k/2^j));rw[M7]at this;rw[this,z,JU re]
   refine br ?_;refine xq1 rfl (kn L B C H3 i al (D.mono A0) am aw an ?_);rw[eq];exact la
  refine xwb rfl rfl rfl (xq1 rfl (JI (λY=>?_) (λY=>?_)))
  .have Y:((k/2^j:Nat):Int) > 0:=A0d Y;have kj:k/2^j≠0:=by lia
   refine xw2 rfl rfl ⟨g,C,rfl,D.fu,rfl,(xq1 rfl ?_)⟩;by_cases hb:h=bareN 1
   .subst hb;rw[X8 rfl];exact Bd (ai (.inr rfl))
   .rw[X9 (λz=>hb (by injection z with z;exact K2 z))];refine BP ?_;obtain⟨x0,y0,h0⟩:∃x y,φ x y≠0:=by
     refine K5 λno=>hb ?_;have z:φ=λ_ _=>0:=by
      funext x y
      exact K5 λz=>no ⟨x,y,z⟩
     obtain⟨b1,b2,b3⟩:=bare0 e3 D.fu.ok;refine(Qv e3 D.fu.ok A0 A4 lh b1 th b2 λx y=>?_).2;rw[b3,fh,z,JU re]
    have bw:=near_lt nr h0;have cm:j<40:=by
     refine V7 λz=>kj (L6 (F5 bw (N9 A4 z)))
    refine⟨fun σ' S=>∃(j:Nat)(C:Gv)(B:H_)(h c:Nat)(u8 u9:Option V)(i:Nat),σ'=[some (.ref p),some (.int f'),some (.int (k:Int)),some (.ref g.p),some (.ref L),some (.int h),some (.int ((k/2^j:Nat):Int)),some (.int (j:Int)),u8,u9]/\j+(μ-1)=41/\FrZ g m H S/\ZS a S g C Κ N (b+270*B.length) p dx mem pr r m/\AH G C i/\S L=some (.lst (B.map V.ref))/\B.length<=j/\(c<=40/\Am C h ((c+1:Nat):Int)/\JA C c h/\∀x y,fieldF C c h x y=sFN r (k%2^j) φ x y)/\((B=[]/\∀x y,sFN r (k%2^j) φ x y=φ x y)\/Yo S C (sFN r (k%2^j) φ) B),fun σ' S z=>⟨μ-1,by lia,z⟩,?_⟩;have dv:k/2^(j+1)=k/2^j/2:=by rw[F9,Nat.div_div_eq_div_mul]
    have md:k%2^(j+1)=k%2^j+2^j*(k/2^j%2):=Nat.mod_pow_succ;refine BU ?_;intro r8 s8 k8 bt E8;apply meetJ (T:=k8) (fun σ' S=>∃(C:Gv)(B:H_)(h c:Nat)(u8 u9:Option V)(i:Nat),σ'=[some (.ref p),some (.int f'),some (.int (k:Int)),some (.ref g.p),some (.ref L),some (.int h),some (.int ((k/2^j:Nat):Int)),some (.int (j:Int)),u8,u9]/\FrZ g m H S/\ZS a S g C Κ N (b+270*B.length) p dx mem pr r m/\AH G C i/\S L=some (.lst (B.map V.ref))/\B.length<=j+1/\(c<=40/\Am C h ((c+1:Nat):Int)/\JA C c h/\∀x y,fieldF C c h x y=sFN r (k%2^(j+1)) φ x y)/\((B=[]/\∀x y,sFN r (k%2^(j+1)) φ x y=φ x y)\/Yo S C (sFN r (k%2^(j+1)) φ) B))
    .intro Z;refine xwb rfl rfl rfl ⟨(by show(0:Int)<2;decide),rfl,(xq1 rfl (JI (λY=>?_) (λY=>?_)))⟩
     .have Y:((k/2^j:Nat):Int)%2=1:=by
       have:=A0d Y;injection this
      have od:k/2^j%2=1:=by lia
      have tk:2^j+k%2^j<=k:=by
       have d:=M7 k (2^j);have p:2^j*1<=2^j*(k/2^j):=L5 _ A0;lia
      refine BU ?_;intro r9 s9 k9 aq E9;refine xw3 rfl rfl rfl (xw2 rfl rfl ⟨g,C,h,c,j,rfl,D.fu.at',lh,aj,by lia,λl a3 nl jl le=>?_⟩);have el:c+(l+1-c)+1=l+2:=by lia
      refine⟨g,C,h,c,l+1-c,by rw[el];rfl,D.fu,lh,by lia,by lia,λv G2 S ak U W wn lv=>?_⟩;have R:=D.fr ak U W;have cy:=R.jz.sz fin;obtain⟨r4,e4⟩:=U.g0;have wf:∀x y,fieldF G2 (l+1) v x y=sFN r (k%2^j) φ x y:=λx y=>by
       have:=IN e4 U.ok (k:=l+1-c) (w:=v) A0 wn x y;rw[show c+(l+1-c)=l+1 by lia]at this;rw[this,Ec D.fu.ok W lh,fh]
      have ae:Am G2 v ((l+1+1:Nat):Int):=by rw[show l+1+1=c+(l+1-c)+1 by lia];exact lv
      have av:=am.trans W;refine aq ?_;refine BU ?_;intro cs cv cn az ci;refine xwn rfl rfl R.jz.jw.hp (YO _ _ _ _ _) rfl (xq1 rfl ⟨p,dx,mem,pr,g,G2,Κ,N,_,r,m,v,l,j,rfl,R.jz,fin,cl,ae,by lia,jl,a8 j l G2 v od jl a3 U.ok ae wf,by lia,λM G3 H5 i5 fj bv ac jr up=>?_⟩);have ag:=R.aft fj bv ac;have cz:=ag.jz.sz fin;have be:FrZ g m H H5:=(al.trans (Fr.z ak)).trans (FrJ.z fj);have cc:∀x y,fieldF G3 (l+1) v x y=sFN r (k%2^j) φ x y:=λx y=>by rw[Ec U.ok ac ae];exact wf x y
      obtain⟨lr,rs⟩:=fld_jg ag.fu.ok ro re (ac.lev ae) jr cc (λx y ad=>by
       rw[<-fh]at ad;have a4:(2:Int)^c+2^j<=2^l:=by exact_mod_cast le
       obtain⟨h1,h2,h3,h4⟩:=K5 λz:¬(-(2^c)<=x/\x<2^c/\-(2^c)<=y/\y<2^c)=>ad (by unfold fieldF;rw[X7 z]);have q:=nar h1 h2 a4;exact⟨q.1,q.2,nar h3 h4 a4⟩)
      have rs:∀x y,fieldF G3 l M x y=sFN r (k%2^(j+1)) φ x y:=λx y=>by rw[rs,<-MR,md,od,Y4,U3]
      have ax:H5 L=some (.lst (B.map V.ref)):=FrJ.z fj _ _ (Fr.z (m:=m) ak _ _ an O.n0 O.n1) O.n0 O.n1;refine az ?_;refine BU ?_;intro ct cw co a0 cj;refine xq1 rfl ⟨.inl ⟨rfl,_,SqL.of ax⟩,(xw3 rfl rfl rfl ⟨by show 3<=sizeLine;decide,λt nt=>?_⟩)⟩;have af:=AJ (o:=.tup [.int (v:Int),.int (j:Int),.int (M:Int)]) nt;have ar:upd H5 t (.tup [.int (v:Int),.int (j:Int),.int (M:Int)]) t=some (.tup [.int (v:Int),.int (j:Int),.int (M:Int)]):=Af;generalize upd H5 t (.tup [.int (v:Int),.int (j:Int),.int (M:Int)])=H6 at af ar⊢;have cg:=ag.same af;have ao:=af _ _ ax;refine⟨L,(xq2 rfl rfl ⟨ao,by rw[B4];exact FG A0,?_⟩)⟩;have ah:=cg.putL (o:=.lst (B.map V.ref++[.ref t])) ao O;have a2:upd H6 L (.lst (B.map V.ref++[.ref t])) t=some (.tup [.int (v:Int),.int (j:Int),.int (M:Int)]):=by rw[Ax (AE ar ao A3)];exact ar
      have au:FrZ g m H (upd H6 L (.lst (B.map V.ref++[.ref t]))):=λb' o e n1 n2=>by
       rw[Ax (Aw e aw)];exact af _ _ (be _ _ e n1 n2)
      have ay:upd H6 L (.lst (B.map V.ref++[.ref t])) L=some (.lst ((B++[t]).map V.ref)):=by rw[Af,C3];rfl
      generalize upd H6 L (.lst (B.map V.ref++[.ref t]))=H7 at ah a2 au ay⊢;refine a0 ?_;refine xw2 rfl rfl ⟨g,G3,M,l,rfl,ah.fu,lr,by lia,λnw G8 H8 aa ab X ca=>?_⟩;have ch:=ah.fr aa ab X;obtain⟨r8,e8⟩:=ab.g0;obtain⟨m8,cp,bz,a7,a9⟩:=FZ e8 ab.ok A0 (X.lev lr) ca;have fa:∀x y,fieldF G8 l M x y=sFN r (k%2^(j+1)) φ x y:=λx y=>by rw[Ec ag.fu.ok X lr];exact rs x y
      have fe:∀x y,fieldF G8 m8 nw x y=sFN r (k%2^(j+1)) φ x y:=λx y=>by rw[a9,fa]
      have b8:k%2^(j+1)<=k:=Nat.mod_le _ _;have b0:=Wd e8 ab.ok A0 a7 (λx y ad=>WK re nr b8 (by rw[<-fe];exact ad));have bu:=ah.keep (Fr.z aa) a2 (by intro xs z;cases z) (by intro xs z;cases z) (by intro xs z;cases z);have bi:H8 L=some (.lst ((B++[t]).map V.ref)):=Fr.z (m:=m) aa _ _ ay O.n0 O.n1;have bf:=(av.trans ac).trans X;refine Z _ _ ⟨G8,B++[t],nw,m8,_,_,_,rfl,au.trans (Fr.z aa),ch.mono ?_,bf,bi,by rw[C1];show B.length+1<=_;lia,⟨b0,bz,a7,fe⟩,.inr ⟨t,v,j,M,l,by rw[List.getLast?_append];rfl,bu,a3,X.lev lr,fa⟩⟩;rw[C1];show _<=b+270*(B.length+1)
      lia
     .have Y:¬((k/2^j:Nat):Int)%2=1:=λz=>Y (X8 (A0g V.int z));have ev:k/2^j%2=0:=by lia
      have md:k%2^(j+1)=k%2^j:=by rw[md,ev,Nat.mul_zero,Z6]
      exact Z _ _ ⟨C,B,h,c,u8,u9,i,rfl,al,D,am,an,by lia,by rw[md];exact⟨aj,lh,th,fh⟩,by rw[md];exact la⟩
    .rintro σ' S cd;apply AN;intro G_ I;obtain⟨G2,cb,h2,b6,v8,v9,i2,rfl,bd,R,W,bh,b9,b4,bx⟩:=cd;apply I;clear I G_;refine bt ?_;refine BU ?_;intro r9 s9 k9 aq E9;refine xwb rfl rfl rfl ⟨⟨by decide,by decide⟩,?_⟩;refine aq ?_;have ed:((k/2^j:Nat):Int)/2=((k/2^(j+1):Nat):Int):=by rw[dv];lia
     have ej:(j:Int)+1=((j+1:Nat):Int):=by lia
     refine xwb rfl rfl rfl ⟨j+1,G2,cb,h2,b6,v8,v9,i2,?_,by lia,bd,R,W,bh,b9,b4,bx⟩;exact(A0g (λu:Int=>[some (V.ref p),some (V.int f'),some (V.int (k:Int)),some (V.ref g.p),some (V.ref L),some (V.int h2),some (V.int u),some (V.int ((j:Int)+1)),v8,v9]) ed).trans (A0g (λv:Int=>[some (V.ref p),some (V.int f'),some (V.int (k:Int)),some (V.ref g.p),some (V.ref L),some (V.int h2),some (V.int ((k/2^(j+1):Nat):Int)),some (V.int v),v8,v9]) ej)
  .have Y:¬((k/2^j:Nat):Int) > 0:=λz=>Y (X8 z);exact Bd (ai (.inl A0))
end
theorem ifT{b:Bool}{A B:Prop}(h:b=true)(x:A):if b=true then A else B:=by rw[h];exact BP x
theorem ifF{b:Bool}{A B:Prop}(h:b=false)(x:B):if b=true then A else B:=by rw[h];exact Bd x
structure Fv(G:Gv)(f:Nat)(φ:D_):Prop where
ex:∃n:Nat,n<=40/\Am G f ((n+1:Nat):Int)/\JA G n f/\∀x y,fieldF G n f x y=φ x y
theorem Fv.app{G a:Gv}{k f:Nat}{φ:D_}(ok:GOk G)(go:AH G a k)(h:Fv G f φ):Fv a f φ:=by
 obtain⟨n,c,b,d,e⟩:=h.ex;exact⟨n,c,go.lev b,d.app go,λx y=>by rw[Ec ok go b];exact e x y⟩
theorem Fv.eq{G r:Gv}(b:G=G0++r)(ok:GOk G){f a:Nat}{φ ψ:D_}(h:Fv G f φ)(h':Fv G a ψ)(e:∀x y,φ x y=ψ x y):f=a:=by
 obtain⟨n,o,i,j,k⟩:=h.ex;obtain⟨m,l,c,d,g⟩:=h'.ex;exact(Qv b ok A0 A0 i c j d λx y=>by rw[k,g,e]).2
theorem Fv.to{G:Gv}{f:Nat}{φ ψ:D_}(h:Fv G f φ)(e:∀x y,φ x y=ψ x y):Fv G f ψ:=by
 obtain⟨n,a,b,c,d⟩:=h.ex;exact⟨n,a,b,c,λx y=>by rw[d,e]⟩
section
variable{P:N_}{w:Q_}{K:O_}{mg:C_}{base:T_}{a:Ad}
inductive SpJpG(a:Ad)(vs:List V)(H:Hp)(Q:VK):Prop
|mk (p dx mem pr:R_) (g:GA) (G:Gv) (Κ:KTy) (φ:D_) (N b:Nat) (r:AD) (m:MA) (f k:Nat) (_:vs=[.ref p,.int f,.int (k:Int)]) (_:ZS a H g G Κ N b p dx mem pr r m) (_:LB Κ N) (_:ClK r Κ) (_:UR Κ r φ k) (_:Fv G f φ) (_:QB φ k) (_:b+12000+10*N<7900000) (_:∀(d:Nat)(G':Gv)(H':Hp)(i:Nat),FrZ g m H H'->ZS a H' g G' Κ N (b+12048) p dx mem pr r m->AH G G' i->Fv G' d (sFN r k φ)->Q (.int d) H'):SpJpG a vs H Q
def ZW(a:Ad):Sp:=λvs H Q _=>SpJpG a vs H Q
theorem ok_jpg(F:Fun K "jump" "jump" Vf f fd)(T:Top K mg a)(dS:Cal P w K mg base CX0 150 "road" Vk (ZO a))(aR:Cal P w K mg base CX0 4 "trimmed" LG (NC a)):AL P w K mg base CX0 151 f fd Vk (ZW a):=by
 refine F.ok Ww D_9 λaf A ac s H vs Q E hr h=>?_
 obtain⟨p,dx,mem,pr,g,G,Κ,φ,N,b,r,m,f',k,rfl,zs,fin,cl,I,fv,nr,few,kn⟩:=h;obtain⟨n,ab,lf,tr,hf⟩:=id fv.ex;have re:=zs.jz.jw.rest;refine⟨_,(Ac (Aq (i:=3) Ww.nd rfl O_9 (As dS (rm hr) rfl Ao (Aa (pv 0) (Aa (pv 1) (Aa (pv 2) Ab))))) (Ac (AO (AA CG (AX Cr rfl T.b_len A1a (Aa (pv 3) Ab)) Ae (AG _)) (Ah (Av (pv 1))) AC) (Ah (Av (As aR (rm hr) rfl Ao (Aa (AB (pv 0) rfl) (Aa (Aj Al (Aj Ay (pv 3) (JX FY Ae) R_9) Ae R_9) Ab))))))),?_⟩
 try dsimp only[cxK]
 refine BU ?_;intro r1 s1 k1 S E1;refine xw3 rfl rfl rfl (.mk p dx mem pr g G Κ φ N b r m f' n k rfl zs fin cl I lf ab tr hf nr few (λL u G1 H1 i1 B c q nL hL M=>?_));refine S ?_;refine BU ?_;intro r2 s2 k2 U E2;refine⟨_,rfl,L,_,rfl,.inl (SqL.of hL),rfl,_,rfl,?_⟩;rcases M with ⟨rfl,M⟩|⟨t,sq,e,C,l,X,ht,ag,Y,rs⟩
 .exact ifT rfl ⟨_,rfl,kn f' G1 H1 i1 B (c.mono A0) q ((fv.app zs.fu.ok q).to λx y=>(M x y).symm)⟩
 .have ne:u≠[]:=λz=>by rw[z]at X;cases X
  have tl:1<=u.length:=T7.mpr ne;refine ifF (X9 (λz=>by injection z with z;rw[B4]at z;lia)) ?_;refine U ?_;have li:atI (u.map V.ref) (-1)=some (.ref t):=by
   unfold atI;have:ixN (u.map V.ref).length (-1)=some (u.length-1):=by
    unfold ixN;rw[B4,X7 A4,K0 A0];congr 1;lia
   rw[this];show(u.map V.ref)[u.length-1]?=_;rw[B6,<-List.getLast?_eq_getElem?,X];rfl
  refine xwf rfl rfl c.jz.jw.hp T.cl_Jumps T.na_Jumps_grove (EA _ _ _ _ _) ?_;refine⟨_,rfl,1,rfl,L,_,-1,.ref t,rfl,rfl,SqL.of hL,li,t,_,2,.int (C:Int),rfl,rfl,SqT.of ht,Ai (j:=2) rfl,?_⟩;have ai:=c.jz.sz fin;refine⟨g,G1,C,l,rfl,c.fu,Y,by lia,λnh G8 H8 v d o ad=>?_⟩;have ae:=c.fr v d o;obtain⟨r8,e8⟩:=d.g0;obtain⟨m8,ah,Z,D,O⟩:=FZ e8 d.ok A0 (o.lev Y) ad;have R:=q.trans o;have fe:∀x y,fieldF G8 m8 nh x y=sFN r k φ x y:=λx y=>by rw[O,Ec c.fu.ok o Y];exact rs x y
  have aa:=Wd e8 d.ok A0 D (λx y W=>WK re nr (B8 k) (by rw[<-fe];exact W));exact kn nh G8 H8 _ (B.trans (Fr.z v)) (ae.mono A0) R ⟨m8,aa,Z,D,fe⟩
end
end J
namespace J
open PySem L2
def stC:List Cl->Int->Int->Nat
|[],_,_=>0
|c::cs,x,y=>if x=c.x/\y=c.y then c.s else stC cs x y
theorem Zi{G v:Gv}(a:G=G0++v)(ok:GOk G){cs:List Cl}{n f:Nat}(h:Th G cs n f):(∀c∈cs,c.s<8)->JA G n f/\∀x y,fieldF G n f x y=stC cs x y:=by
 induction h with
 |nil =>
  intro _;refine⟨.inl rfl,λx y=>?_⟩;unfold fieldF;split
  .rename_i z;exact CZ a ok A4 (Dw z.1 z.2.1) (Dw z.2.2.1 z.2.2.2)
  .rfl
 |@cons cs c n f r k w i m h l p o j =>
  intro b;obtain⟨t,e⟩:=j λc g=>b c (C5 _ g);obtain⟨u,_,q,A,d⟩:=TZ a ok (b c (C4 ..)) p;have:u=m:=by
   have:=K2 (q.uniq o);lia
  subst this;refine⟨A,λx y=>?_⟩;rw[d x y,e x y];rfl
def kvC(ds:List Cl):List (List Key×V):=ds.map λc=>(kOf [c.x,c.y],V.int (c.s:Int))
theorem Pa:∀{ds:List Cl},(ds.map λc=>(c.x,c.y)).Nodup->∀{c:Cl},c∈ds->Bj (kvC ds) (kOf [c.x,c.y])=some (.int (c.s:Int))
|d::ds,nd,c,a=>by
 rw[F4,M8]at nd;show Bj ((kOf [d.x,d.y],V.int (d.s:Int))::kvC ds) (kOf [c.x,c.y])=_;rcases B7.mp a with rfl|a
 .exact BM rfl
 .rw[BF λz=>?_]
  .exact Pa nd.2 a
  .have z:=LI z;injection z with z1 z
   injection z with z2 z
   exact nd.1 (C8.mpr ⟨c,a,by rw[z1,z2]⟩)
def NR(ds:List Cl)(c:Cl):List Cl:=if ds.any (λd=>decide (d.x=c.x/\d.y=c.y))=true then ds.map (λd=>if d.x=c.x/\d.y=c.y then c else d)else ds++[c]
theorem mem_putC{ds:List Cl}{c d:Cl}:d∈NR ds c↔d=c\/(d∈ds/\¬(d.x=c.x/\d.y=c.y)):=by
 unfold NR;by_cases h:ds.any (λd=>decide (d.x=c.x/\d.y=c.y))=true
 .rw[K0 h,C8];obtain⟨z,g,b⟩:=R8.mp h;have b:=A0d b;constructor
  .rintro⟨e,f,rfl⟩;by_cases q:e.x=c.x/\e.y=c.y
   .rw[K0 q];exact .inl rfl
   .rw[X7 q];exact .inr ⟨f,q⟩
  .rintro(rfl|⟨a,q⟩)
   .exact⟨z,g,K0 b⟩
   .exact⟨d,a,X7 q⟩
 .rw[X7 h,D4,C7];have no:∀e∈ds,¬(e.x=c.x/\e.y=c.y):=λe f q=>h (R8.mpr ⟨e,f,X8 q⟩);constructor
  .rintro(a|rfl)
   .exact .inr ⟨a,no d a⟩
   .exact .inl rfl
  .rintro(rfl|⟨a,_⟩)
   .exact .inr rfl
   .exact .inl a
theorem len_putC(ds:List Cl)(c:Cl):(NR ds c).length<=ds.length+1:=by
 unfold NR;split
 .rw[B4];lia
 .rw[C1];exact B8 _
theorem nd_putC {ds:List Cl} {c:Cl} (h:(ds.map λc=>(c.x,c.y)).Nodup):((NR ds c).map λc=>(c.x,c.y)).Nodup:=by
 unfold NR;by_cases q:ds.any (λd=>decide (d.x=c.x/\d.y=c.y))=true
 .rw[K0 q,M5];have:((λc:Cl=>(c.x,c.y)) ∘ λd=>if d.x=c.x/\d.y=c.y then c else d)=λd=>(d.x,d.y):=by
   funext d
   show((if d.x=c.x/\d.y=c.y then c else d).x,(if d.x=c.x/\d.y=c.y then c else d).y)=(d.x,d.y)
   split
   .rename_i z;rw[z.1,z.2]
   .rfl
  rw[this];exact h
 .rw[X7 q,C3,R6];refine⟨h,by simp,λa g b f e=>q ?_⟩;obtain⟨d,i,rfl⟩:=C8.mp g;rw[F4,Z7,C7]at f;rw[f]at e;injection e with e1 e2
  exact R8.mpr ⟨d,i,X8 ⟨e1,e2⟩⟩
theorem kv_putC(ds:List Cl)(c:Cl):Dy (kvC ds) (kOf [c.x,c.y]) (.int (c.s:Int))=kvC (NR ds c):=by
 have a:∀d:Cl,(kOf [d.x,d.y]=kOf [c.x,c.y])↔(d.x=c.x/\d.y=c.y):=λd=>⟨λz=>by
  have z:=LI z;injection z with z1 z
  injection z with z2 z
  exact⟨z1,z2⟩,λz=>by rw[z.1,z.2]⟩
 unfold Dy NR kvC;rw[List.any_map];have:((λb:List Key×V=>decide (b.1=kOf [c.x,c.y])) ∘ λc:Cl=>(kOf [c.x,c.y],V.int (c.s:Int)))=λd=>decide (d.x=c.x/\d.y=c.y):=by
  funext d
  exact decide_eq_decide.mpr (a d)
 rw[this];split
 .rw[M5,M5];congr 1
  funext d
  show(if kOf [d.x,d.y]=kOf [c.x,c.y]then(kOf [d.x,d.y],V.int (c.s:Int))else(kOf [d.x,d.y],V.int (d.s:Int)))=(kOf [(if d.x=c.x/\d.y=c.y then c else d).x,(if d.x=c.x/\d.y=c.y then c else d).y],V.int ((if d.x=c.x/\d.y=c.y then c else d).s:Int))
  by_cases q:d.x=c.x/\d.y=c.y
  .rw[K0 ((a d).mpr q),K0 q,q.1,q.2]
  .rw[X7 λz=>q ((a d).mp z),X7 q]
 .rw[C3];rfl
theorem dput{H:Hp}{D t:R_}{ds:List Cl}{c:Cl}(e:H D=some (.dT (kvC ds)))(a:H t=some (.tup [.int c.x,.int c.y]))(b:ds.length<1000):LX H D (.ref t) (.int (c.s:Int)) (upd H D (.dT (kvC (NR ds c)))):=by
 rw[<-kv_putC];exact LX.t (k:=kOf [c.x,c.y]) e a (FG (by rw[show(kvC ds).length=ds.length from B4 _];lia))
structure Zu(ds:List Cl)(φ:D_):Prop where
nd:(ds.map λc=>(c.x,c.y)).Nodup
mem:∀c:Cl,c∈ds↔(1<=c.s/\φ c.x c.y=c.s)
theorem stC_ds{ds:List Cl}{φ:D_}(h:Zu ds φ)(x y:Int):stC ds.reverse x y=φ x y:=by
 have g:∀{a:List Cl},(∀c∈a,1<=c.s/\φ c.x c.y=c.s)->(∃c∈a,c.x=x/\c.y=y)->stC a x y=φ x y:=by
  intro a;induction a with
  |nil=>rintro _ ⟨c,b,_⟩;cases b
  |cons d a f =>
   intro e ⟨c,b,j,k⟩;show(if x=d.x/\y=d.y then d.s else stC a x y)=_;by_cases q:x=d.x/\y=d.y
   .rw[K0 q,q.1,q.2];exact(e d (C4 ..)).2.symm
   .rw[X7 q];refine f (λc b=>e c (C5 _ b)) ?_;rcases B7.mp b with rfl|b
    .exact absurd ⟨j.symm,k.symm⟩ q
    .exact⟨c,b,j,k⟩
 have i:∀{a:List Cl},(∀c∈a,¬(c.x=x/\c.y=y))->stC a x y=0:=by
  intro a;induction a with
  |nil=>intro _;rfl
  |cons d a f =>
   intro e;show(if x=d.x/\y=d.y then d.s else stC a x y)=_;rw[X7 λq=>e d (C4 ..) ⟨q.1.symm,q.2.symm⟩];exact f λc b=>e c (C5 _ b)
 by_cases z:φ x y=0
 .rw[z];refine i λc b q=>?_;obtain⟨m,l⟩:=(h.mem c).mp (V9.mp b);rw[q.1,q.2,z]at l;lia
 .refine g (λc b=>(h.mem c).mp (V9.mp b)) ⟨⟨x,y,φ x y⟩,V9.mpr ((h.mem _).mpr ⟨by show 1<=φ x y;lia,rfl⟩),rfl,rfl⟩
seal L2.PA L2.PE L2.PS L2.PSs L2.PT L2.PW
def FrO(d:R_)(H H':Hp):Prop:=∀b o,H b=some o->b≠d->H' b=some o
theorem FrO.fx{c:R_}{H d:Hp}{kvs:List (List Key×V)}(a:Rd H c (.dT kvs))(f:FrO c H d):Fx [c] H d:=λb o e z=>by
 refine f b o e λy=>?_;subst y;have z:=z (C7.mpr rfl);rcases a with a|⟨g,a⟩<;>rw[e]at a<;>cases a<;>exact z
theorem OO:∀(cs:List Cl)(x y:Int),(∃c∈cs,c.x=x/\c.y=y/\stC cs x y=c.s)\/((∀c∈cs,¬(c.x=x/\c.y=y))/\stC cs x y=0)
|[],_,_=>.inr ⟨(λc g=>nomatch g),rfl⟩
|c::cs,x,y=>by
 by_cases z:x=c.x/\y=c.y
 .exact .inl ⟨c,C4,z.1.symm,z.2.symm,K0 z⟩
 .have e:stC (c::cs) x y=stC cs x y:=X7 z;rw[e];rcases OO cs x y with ⟨d,a,h⟩|⟨b,f⟩
  .exact .inl ⟨d,C5 _ a,h⟩
  .refine .inr ⟨λd a=>?_,f⟩;rcases B7.mp a with rfl|a
   .exact λq=>z ⟨q.1.symm,q.2.symm⟩
   .exact b d a
def clI(q:It3):Cl:=⟨q.x,q.y,(q.r.headD 0).toNat⟩
theorem WB{H:Hp}:∀{e:H_}{ds:List Cl},Paired (Ti H) e ds->∃b:List It3,(b.map λq=>V.ref q.a)=e.map V.ref/\b.map clI=ds/\∀q∈b,Ti H q.a (clI q)/\H q.a=some (.tup (q.ns.map V.int))
|_,_,.nil=>⟨[],rfl,rfl,λq d=>by cases d⟩
|t::e,c::ds,.cons h pr=>by
 obtain⟨b,g,i,hit⟩:=WB pr;have f:clI ⟨t,c.x,c.y,[(c.s:Int)]⟩=c:=rfl;refine⟨⟨t,c.x,c.y,[(c.s:Int)]⟩::b,by rw[F4,g];rfl,by rw[F4,i,f],λq d=>?_⟩;rcases B7.mp d with rfl|d
 .exact⟨by rw[f];exact h,h⟩
 .exact hit q d
theorem PR{H:Hp}:∀{b:List It3},(∀q∈b,Ti H q.a (clI q))->Paired (Ti H) (b.map (·.a)) (b.map clI)
|[],_=>.nil
|q::b,h=>.cons (h q (C4 ..)) (PR λq c=>h q (C5 _ c))
theorem Zu.perm{ds a:List Cl}{φ:D_}(h:Zu ds φ)(p:a.Perm ds):Zu a φ:=⟨(p.map _).nodup_iff.mpr h.nd,λc=>by rw[p.mem_iff];exact h.mem c⟩
structure Dd(ds:List Cl)(n:Nat)(x y:Int):Prop where
nd:(ds.map λc=>(c.x,c.y)).Nodup
ok:∀c∈ds,(ClOk c/\1<=c.s)/\x<=c.x/\c.x<x+6/\y<=c.y/\c.y<y+3
len:ds.length<=n
theorem Dd.nil(x y:Int):Dd [] 0 x y:=⟨by simp,(λc a=>by cases a),B8 _⟩
theorem Dd.put{ds:List Cl}{n:Nat}{x y:Int}{c:Cl}(h:Dd ds n x y)(f:ClOk c)(b:1<=c.s)(e:x<=c.x/\c.x<x+6/\y<=c.y/\c.y<y+3):Dd (NR ds c) (n+1) x y:=by
 refine⟨nd_putC h.nd,λd a=>?_,D7 (len_putC ds c) (Q6 h.len)⟩;rcases mem_putC.mp a with rfl|⟨a,_⟩
 .exact⟨⟨f,b⟩,e⟩
 .exact h.ok d a
theorem same_s {ds:List Cl} (b:(ds.map λc=>(c.x,c.y)).Nodup) {c d:Cl} (h:c∈ds) (i:d∈ds) (e:d.x=c.x) (f:d.y=c.y):d.s=c.s:=by
 have g:=Pa b h;have a:=Pa b i;rw[e,f,g]at a;injection a with a
 injection a with a
 lia
theorem Dd.dk{ds:List Cl}{n:Nat}{x y:Int}(h:Dd ds n x y):Zu ds (stC ds):=by
 refine⟨h.nd,λc=>⟨λf=>⟨(h.ok c f).1.2,?_⟩,λ⟨j,i⟩=>?_⟩⟩
 .rcases OO ds c.x c.y with ⟨d,g,a,b,e⟩|⟨no,_⟩
  .rw[e];exact same_s h.nd f g a b
  .exact absurd ⟨rfl,rfl⟩ (no c f)
 .rcases OO ds c.x c.y with ⟨d,g,a,b,e⟩|⟨_,e⟩
  .rw[e]at i;have:d=c:=by
    cases d;cases c;cases a;cases b;cases i;rfl
   exact this▸g
  .lia
section
variable{P:N_}{w:Q_}{K:O_}{mg:C_}{base:T_}{a:Ad}
theorem ok_row(F:Fun K "_law_by_rows" "_law_by_rows" Gg f fd)(T:Top K mg a):AL P w K mg base CX0 1 f fd Qe Pk:=by
 refine F.ok OC (λvs H Q E h=>?_) (λd A b s H vs Q E e h=>?_)
 .obtain⟨t,x,y,r,rfl,_⟩:=h;rfl
 .obtain⟨t,x,y,r,rfl,c,k⟩:=h;exact⟨_,(Ah (Av (Dz (Aa (Aj Al (pv 0) Ae R_9) (Aa (Aj Al (pv 0) Ae R_9) Ab))))),(xwi rfl rfl rfl (SqT.of c) (Ai (j:=1) rfl) (xwi rfl rfl rfl (SqT.of c) (Ai (j:=0) rfl) ⟨S_2,k⟩))⟩
inductive SpLsd(vs:List V)(H:Hp)(Q:VK):Prop
|mk (D:R_) (ds:List Cl) (_:vs=[.ref D]) (_:Rd H D (.dT (kvC ds))) (_:(ds.map λc=>(c.x,c.y)).Nodup) (_:ds.length<=40) (_:∀(o:Obj)(L:R_)(ts:H_)(cs:List Cl)(H':Hp),FrO D H H'->H' D=some (.frz o (.dT (kvC ds)))->H L=none->H' L=some (.lst (ts.map V.ref))->Paired (Ti H') ts cs->cs.Perm ds->Q (.ref L) H'):SpLsd vs H Q
def ZV:Sp:=λvs H Q _=>SpLsd vs H Q
theorem ok_lsd(F:Fun K "_law_listed" "_law_listed" Ii f fd)(T:Top K mg a)(bR:Cal P w K mg base CX0 1 "_law_by_rows" Qe Pk):AL P w K mg base CX0 5 f fd Iq ZV:=by
 refine F.ok Ga D_9 λae A ac s H vs Q E hr h=>?_
 obtain⟨D,ds,rfl,rd,nd,af,k⟩:=h;refine⟨_,(Ac (Aq (i:=1) Ga.nd rfl O_9 (Ce Ab)) (Ac (CK K7 rfl (pi_dictF (pv 0)) (BD (i:=2) Ga.nd rfl O_9) (Ah (BW (CQ K8 A0a A0b Cc (pv 1) (Bm (Aa (Aj Al (pv 2) Ae R_9) (Aa (Aj Al (pv 2) Ae R_9) (Aa (Sm (EB hr) (pv 0) (pv 2) R_9) Ab))) Ab))))) (Ah (Av (Vh bR (rm hr) rfl T.b_sorted rfl (Aa (pv 1) Ab)))))),?_⟩
 try dsimp only[cxK]
 have X:∀{x:R_},H x=none->x≠D:=λ{x} n z=>by
  rw[z]at n;rcases rd with y|⟨o,y⟩
  .rw[y]at n;cases n
  .rw[y]at n;cases n
 refine⟨S_0,λS r=>?_⟩;have Y:=AJ (o:=.lst []) r;have h1:upd H S (.lst []) S=some (.lst []):=Af;generalize upd H S (.lst [])=H1 at Y h1⊢;have ad:Rd H1 D (.dT (kvC ds)):=by
  rcases rd with y|⟨o,y⟩
  .exact .inl (Y _ _ y)
  .exact .inr ⟨o,Y _ _ y⟩
 refine xq1 rfl ⟨D,kvC ds,rfl,ad,λo H2 p I=>?_⟩;have h2:=I _ _ h1 (X r);have m:FrO D H H2:=λb u e n=>I _ _ (Y _ _ e) n;have ab:(kvC ds).length=ds.length:=B4 _;refine for_dT (kvs:=kvC ds) (λj σ l=>∃(C:H_)(u2:Option V),σ=[some (.ref D),some (.ref S),u2]/\(∀b u,H2 b=some u->b≠S->l b=some u)/\l S=some (.lst (C.map V.ref))/\Paired (Ti l) C (ds.take j)) ⟨[],none,rfl,λb u e _=>e,h2,.nil⟩ (λj σ l _ z=>by obtain⟨_,_,_,z,_⟩:=z;exact z _ _ p (K3 (X r))) ?_ ?_
 .rintro j kb kv v σ l ev hb ⟨C,u2,rfl,B,W,U⟩;obtain⟨c,G,ee⟩:∃c,ds[j]?=some c/\(kOf [c.x,c.y],V.int (c.s:Int))=(kv,v):=by
   unfold kvC at ev;rw[B6]at ev;obtain⟨c,G,e⟩:=C9.mp ev;exact⟨c,G,e⟩
  cases ee;have jl:j<ds.length:=(B5.mp G).1;have N:l kb=some (.tup [.int c.x,.int c.y]):=hb;have aa:=B _ _ p (K3 (X r));have lt:=K9 U;rw[J0]at lt;refine xq1 rfl ⟨.inl ⟨rfl,_,SqL.of W⟩,(xwi rfl rfl rfl (SqT.of N) (Ai (j:=0) rfl) (xwi rfl rfl rfl (SqT.of N) (Ai (j:=1) rfl) (xw2 rfl rfl ⟨D,.int (c.s:Int),rfl,?_,?_⟩)))⟩
  .exact .inr ⟨kvC ds,kOf [c.x,c.y],kb,.inr ⟨o,aa⟩,rfl,hb,(Pa nd (D0 G)).symm⟩
  refine⟨S_3,λt ht=>?_⟩;have s6:=AJ (o:=.tup [.int c.x,.int c.y,.int (c.s:Int)]) ht;have O:Ti (upd l t (.tup [.int c.x,.int c.y,.int (c.s:Int)])) t c:=Af;generalize upd l t (.tup [.int c.x,.int c.y,.int (c.s:Int)])=H6 at s6 O⊢;have h6:=s6 _ _ W;refine⟨S,(xq2 rfl rfl ⟨h6,by rw[B4];exact FG A0,?_⟩)⟩;have tp:∀{b:R_}{ys:List V},H6 b=some (.tup ys)->upd H6 S (.lst (C.map V.ref++[.ref t])) b=some (.tup ys):=λ{b ys} e=>by rw[Ax (AE e h6 A3)];exact e
  refine⟨C++[t],(xq1 rfl ⟨λb u e n=>?_,by rw[Af,C3];rfl,?_⟩)⟩
  .rw[Ax n];exact s6 _ _ (B _ _ e n)
  .rw[F3,G,R0];exact A2b (PairedM.imp (λb c z=>tp (s6 _ _ z)) U) (tp O)
 .rintro σ l ⟨C,u2,rfl,B,W,U⟩;rw[ab,F6]at U;obtain⟨g,e1,e2,hit⟩:=WB U;have li:g.length=ds.length:=by rw[<-e2,B4]
  refine xq1 rfl ⟨S,g,rfl,by rw[e1];exact SqL.of W,by lia,λq hq=>(hit q hq).2,λL d H4 kp R pm=>?_⟩;have M:=kp _ _ (B _ _ p (K3 (X r)));have Z:=AJ (o:=.lst (d.map λq=>V.ref q.a)) R;have h5:upd H4 L (.lst (d.map λq=>V.ref q.a)) L=some (.lst ((d.map (·.a)).map V.ref)):=by rw[Af,M5];rfl
  generalize upd H4 L (.lst (d.map λq=>V.ref q.a))=H5 at Z h5⊢;refine k o L (d.map (·.a)) (d.map clI) H5 (λb u e n=>Z _ _ (kp _ _ (B _ _ (m _ _ e n) (Aw e r)))) (Z _ _ M) ?_ h5 (PR λq hq=>Z _ _ (kp _ _ (hit q (pm.mem_iff.mp hq)).1)) (by rw[<-e2];exact pm.map _);cases e:H L with
  |none=>rfl
  |some u =>
   by_cases z:L=D
   .rw[z,M]at R;cases R
   .rw[kp _ _ (B _ _ (m _ _ e z) (Aw e r))]at R;cases R
theorem cpow2{n:Int}(h:0<=n)(l:n<=100):CPow 2 n:=⟨h,by lia,by decide⟩
inductive SpBase(vs:List V)(H:Hp)(Q:VK):Prop
|mk (c:Int) (_:vs=[.int c]) (_:∀v:Int,-(2^38)<=v->v<2^38->Q (.int v) H):SpBase vs H Q
def Vb:Sp:=λvs H Q _=>SpBase vs H Q
theorem ok_base(F:Fun K "_law_base" "_law_base" JT f fd)(T:Top K mg a):AL P w K mg base CX0 1 f fd Qe Vb:=by
 refine F.ok Se D_9 λd A b s H vs Q E e h=>?_
 obtain⟨c,rfl,k⟩:=h;refine⟨_,(Ac (AO (AA CG (AF Bq (pv 0) Ae) Ae (AG _)) (Ah (Av (AF Cv (AF Bq (AF Ey (pv 0) Ae) (AF op_pow Ae Ae)) (AF op_pow Ae Ae)))) AC) (Ah (Av (AF Cv (AF Bq (AF Ey (pv 0) Ae) Ae) Ae)))),?_⟩
 try dsimp only[cxK]
 refine xwb rfl rfl rfl ⟨(by show(0:Int)<4;decide),rfl,(xq1 rfl (JI (λ_=>?_) (λ_=>?_)))⟩
 .refine xwb rfl rfl rfl ⟨⟨by decide,by decide⟩,(xq2 rfl rfl ⟨cpow2 A4 A4,(xq2 rfl rfl ⟨(by show(0:Int)<2^39;decide),(xq2 rfl rfl ⟨cpow2 A4 A4,(xq2 rfl rfl (k _ ?_ ?_))⟩)⟩)⟩)⟩
  .show -(2^38)<=c/4%2^39-2^38;lia
  .show c/4%2^39-2^38<2^38;lia
 .refine xwb rfl rfl rfl ⟨⟨by decide,by decide⟩,(xq2 rfl rfl ⟨(by show(0:Int)<12;decide),(xq2 rfl rfl (k _ ?_ ?_))⟩)⟩
  .show -(2^38)<=c/4%12-8;lia
  .show c/4%12-8<2^38;lia
inductive SpHeap(K:O_)(vs:List V)(H:Hp)(Q:VK):Prop
|mk (l:R_) (ns:I_) (fi x y:Int) (m:Nat) (_:vs=[.ref l,.int fi,.int (m:Int),.int x,.int y]) (_:SqL K H l (ns.map V.int)) (_:0<=fi) (_:m<=100) (_:-(2^39)<=x) (_:x<2^39) (_:-(2^39)<=y) (_:y<2^39) (_:∀(D:R_)(ds:List Cl)(H':Hp),Az H H'->H D=none->H' D=some (.dT (kvC ds))->Dd ds m x y->Q (.ref D) H'):SpHeap K vs H Q
def UY(K:O_):Sp:=λvs H Q _=>SpHeap K vs H Q
theorem ok_heap(F:Fun K "_law_heap" "_law_heap" JS f fd)(T:Top K mg a)(W:Cal P w K mg base CX0 1 "_law_at" YV (spAt K)):AL P w K mg base CX0 2 f fd Lh (UY K):=by
 refine F.ok Ej D_9 λX A L s H vs Q E R h=>?_
 obtain⟨l,ns,B,x,y,m,rfl,hS,f0,m1,x1,x2,y1,y2,k⟩:=h;refine⟨_,(Ac (Aq (i:=5) Ej.nd rfl O_9 MW) (Ac (CK K7 rfl (CU rfl T.b_range (Aa (pv 2) Ab)) (BD (i:=6) Ej.nd rfl O_9) (Ac (Aq (i:=7) Ej.nd rfl O_9 (As W (rm R) rfl Ao (Aa (pv 0) (Bn AQ (pv 1) (pv 6) Ab)))) (Ac (Aq (i:=8) Ej.nd rfl O_9 (AF AQ (pv 7) (AF EW Ae (pv 6)))) (Ah (FM (EB R) (pv 5) (Dz (Bn AQ (pv 3) (AF Bq (pv 8) Ae) (Bn AQ (pv 4) (AF Bq (AF Ey (pv 8) Ae) Ae) Ab))) (AF AQ Ae (AF Bq (AF AQ (AF Ey (pv 7) Ae) (pv 6)) Ae)) rfl))))) (Ah (Av (pv 5))))),?_⟩
 try dsimp only[cxK]
 refine λD C=>?_;have S:=AJ (o:=.dT []) C;have p:upd H D (.dT []) D=some (.dT (kvC [])):=Af;generalize upd H D (.dT [])=H1 at S p⊢;refine xw2 rfl rfl ⟨by lia,by lia,?_⟩;rw[J7];refine Dv (n:=m) (λj σ g=>∃(ds:List Cl)(M N O:Option V),σ=[some (.ref l),some (.int B),some (.int (m:Int)),some (.int x),some (.int y),some (.ref D),M,N,O]/\Az H g/\g D=some (.dT (kvC ds))/\Dd ds j x y) ⟨[],none,none,none,rfl,S,p,Dd.nil x y⟩ ?_ ?_
 .rintro j σ g hj ⟨ds,M,N,O,rfl,u,d,r⟩;refine xq1 rfl (xq1 rfl (xq1 rfl (xq2 rfl rfl ⟨l,ns,_,rfl,u.seq hS,by show 0<=B+(0+(j:Int));lia,?_⟩)));generalize atN ns (B+(0+(j:Int)))=v;refine xw2 rfl rfl (xq2 rfl rfl ⟨.inl ⟨by decide,by decide⟩,(xq2 rfl rfl ?_)⟩);refine xwb rfl rfl rfl ⟨⟨by decide,by decide⟩,(xwb rfl rfl rfl (xq2 rfl rfl ⟨(by show(0:Int)<7;decide),(xq2 rfl rfl (xq1 rfl ?_))⟩))⟩;obtain⟨q,I⟩:=J3 (show 0<=1+(v/18+(0+(j:Int)))%7 by lia);refine xw2 rfl rfl (xq2 rfl rfl ⟨(by show(0:Int)<6;decide),(xq2 rfl rfl (xw2 rfl rfl (xq2 rfl rfl ⟨⟨by decide,by decide⟩,(xq2 rfl rfl ⟨B1,(xq2 rfl rfl ⟨S_2,λt ht=>?_⟩)⟩)⟩)))⟩);have Y:(λ(i j:Int)=>V.int (i+j)) 1 ((v/18+(0+(j:Int)))%7)=V.int (q:Int):=A0g V.int I;rw[Y];have U:=AJ (o:=.tup [.int (x+(v+3*(0+(j:Int)))%6),.int (y+(v+3*(0+(j:Int)))/6%3)]) ht;have Z:upd g t (.tup [.int (x+(v+3*(0+(j:Int)))%6),.int (y+(v+3*(0+(j:Int)))/6%3)]) t=some (.tup [.int (x+(v+3*(0+(j:Int)))%6),.int (y+(v+3*(0+(j:Int)))/6%3)]):=Af;have G:=U _ _ d;have dl:=r.len;refine⟨D,(xq1 rfl ⟨dput (c:=⟨x+(v+3*(0+(j:Int)))%6,y+(v+3*(0+(j:Int)))/6%3,q⟩) G Z A0,?_⟩)⟩;refine⟨NR ds ⟨x+(v+3*(0+(j:Int)))%6,y+(v+3*(0+(j:Int)))/6%3,q⟩,_,_,_,rfl,λb o e=>?_,Af,r.put ⟨?_,?_⟩ ?_ ?_⟩
  .rw[Ax (Aw e C)];exact U _ _ (u _ _ e)
  .unfold GL;dsimp only;generalize v+3*(0+(j:Int))=z;refine⟨by lia,by lia,by lia,by lia⟩
  .show q<8;lia
  .show 1<=q;lia
  .dsimp only;generalize v+3*(0+(j:Int))=z;refine⟨by lia,by lia,by lia,by lia⟩
 .rintro σ g ⟨ds,M,N,O,rfl,u,d,r⟩;exact xq1 rfl (k D ds g u C d r)
theorem fld_fv{g:GA}{G:Gv}{H:Hp}{Q:VK}{L:R_}{B:H_}{cs ds:List Cl}{φ:D_}(D:AW a H g G)(E:H L=some (.lst (B.map V.ref)))(ap:Ap g L)(I:Paired (Ti H) B cs)(A:cs.Perm ds)(dk:Zu ds φ)(ok:∀c∈ds,ClOk c)(l:ds.length<=40)(few:G.length<6000000)(k:∀(r:Nat)(o:Gv)(t:Hp),Fr g H t->AW a t g o->AH G o 16000->Fv o r φ->Q (.int r) t):SpFld a [.ref g.p,.ref L] H Q:=by
 have N:=A.length_eq;have m:∀c∈cs,ClOk c:=λc z=>ok c (A.mem_iff.mp z);refine⟨g,G,L,B,cs,rfl,D,E,ap.1,ap.2.1,I,m,by lia,λC F q x f b h j i e=>?_⟩;obtain⟨M,y⟩:=b.g0;obtain⟨n,d⟩:=Zi y b.ok e (λc z=>(m c (V9.mp z)).s);exact k C q x f b (h.mono A0) ⟨F,j,i,n,λu v=>by rw[d,stC_ds (dk.perm A)]⟩
end
end J
namespace J
open PySem L2
theorem IL.new{a:Ad}{H b:Hp}{g:GA}{G:Gv}{N M:Nat}{r:AD}{m:MA}(c:AM a H g G)(nl:H m.l=none)(nk:H m.kc=none)(j:b m.tp=some (.tup [.ref m.l,.ref m.kc]))(k:b m.l=some (.lst (m.ds.map V.ref)))(o:b m.kc=some (.dT []))(q:∀d∈m.ds,b d=some (.dK []))(s:m.ds.length=47)(t:m.ds.Nodup):IL b g G N M r m:=by
 obtain⟨w,i,_⟩:=c.pt;exact⟨j,k,⟨K3 (Aw c.lv nl),K3 (Aw i nl),K3 (Aw c.nm nk)⟩,s,t,λe d h=>⟨[],q d (D0 h),L8 _,λp u=>(nomatch u),λn v f=>by cases f⟩,⟨[],o,L8 _,λks v f=>by cases f⟩⟩
def zL(g:GA)(m:MA):List Addr:=[g.lv,g.pt,g.nm,g.am,g.bx,m.kc]++m.ds
section
variable{a:Ad}{H H':Hp}{g:GA}{G G':Gv}{Κ:KTy}{N b i:Nat}{p dx mem pr:R_}{r:AD}{m:MA}
theorem FrZ.fx(h:ZS a H g G Κ N b p dx mem pr r m)(f:FrZ g m H H'):Fx (zL g m) H H':=λx o e z=>by
 obtain⟨A,q,_⟩:=h.fu.at'.pt;obtain⟨t,d,_⟩:=h.fu.am;obtain⟨u,k,_⟩:=h.fu.bx;obtain⟨v,l,_⟩:=h.jz.jw.me.ce;refine f x o e (λy=>?_) (λy=>?_)
 .have c:=z (D4.mpr (.inl y));clear z;simp only[B7,D3,A0c]at y;rcases y with y|y|y|y|y|y<;>subst y
  .rw[h.fu.at'.lv]at e;cases e;exact c
  .rw[q]at e;cases e;exact c
  .rw[h.fu.at'.nm]at e;cases e;exact c
  .rw[d]at e;cases e;exact c
  .rw[k]at e;cases e;exact c
  .rw[l]at e;cases e;exact c
 .have c:=z (D4.mpr (.inr y));obtain⟨j,s⟩:=F7 y;obtain⟨w,n,_⟩:=h.jz.jw.me.sq j x s;rw[n]at e;cases e;exact c
theorem ZS.fx{l:H_}(h:ZS a H g G Κ N b p dx mem pr r m)(f:Fx l H H')(n:∀x∈[g.br,m.l]++zL g m,x∉l):ZS a H' g G Κ N b p dx mem pr r m:=by
 have k:∀x∈zL g m,x∉l:=λx v=>n x (D4.mpr (.inr v));have j:g.br∉l:=n _ A6;have A:m.l∉l:=n _ A6;have q:=h.fu.fx f λx v=>by
  simp only[DB,B7,D3,A0c]at v;rcases v with z|z|z|z|z|z<;>subst z
  .exact k _ (by simp[zL])
  .exact k _ (by simp[zL])
  .exact k _ (by simp[zL])
  .exact j
  .exact k _ (by simp[zL])
  .exact k _ (by simp[zL])
 have c:=h.jz.jw;obtain⟨y,F,_⟩:=c.me.ce;have s:∀d∈m.ds,∀o,H d=some o->H' d=some o:=λd D o e=>f.get (k d (D4.mpr (.inr D))) e;have t:∀o,H m.kc=some o->H' m.kc=some o:=λo e=>f.get (k _ (by simp[zL])) e;have u:IL H' g G N (b+10*N) r m:=c.me.kp c.ok (AH.refl c.ok) λx o e w=>by
  rcases w with rfl|rfl|w|rfl
  .rw[c.me.tp]at e;cases e;exact f.tup c.me.tp
  .exact f.get A e
  .exact s x w o e
  .exact t o e
 obtain⟨C,B⟩:=h.jz.cn;refine⟨⟨⟨q.at',c.ok,c.bs,f.get j c.br,c.nbr,f _ _ c.hp λ_=>True.intro,c.ru.kp λx o e E=>f _ _ e λ_=>?_,c.rok,c.rest,u⟩,C,B.kp (i:=0) c.ok (AH.refl c.ok) s λy e=>⟨y,t _ e,B8 _⟩⟩,q,h.na,h.nb⟩;cases E<;>exact True.intro
theorem jnew{Q:VK}{c:Hp}(v:AW a c g G)(ro:FT r)(rz:Cs r 0 BI=0)(V:Cg a c pr (De r) r)(W:c p=none)(P:c dx=none)(S:dx≠p)(few:G.length<=b)(k:∀(n:Hp)(mem:R_)(m:MA),Az c n->ZS a n g G Κ N b p dx mem pr r m->(∀y∈m.l::m.kc::m.ds,c y=none)->n mem=some (.dK (mK [(De r,m)]))->c mem=none->mem∉m.ds->Q .non n):Tg a [.ref p,.ref g.p,.ref pr] (upd (upd c dx (.own p)) p (.ins a.c_Jumps dx [])) Q:=by
 have nq:upd c dx (.own p) p=none:=by rw[Ax (K3 S)];exact W
 have U:Az c (upd (upd c dx (.own p)) p (.ins a.c_Jumps dx [])):=(show Az c _ from Ar P).trans (Ar nq);refine⟨p,dx,g.p,pr,De r,r,rfl,Af,V.same U,λn mem m F D K q f L hl B A O R T=>?_⟩;have s:Az c n:=λb o e=>F b o (U b o e) (Aw e W);have t:∀{y:R_},upd (upd c dx (.own p)) p (.ins a.c_Jumps dx []) y=none->c y=none:=λ{y} e=>Az.noneN U e;have d:=v.same s;have hw:IL n g G N (b+10*N) r m:=(IL.new (N:=0) (M:=0) v.at' (t f.2.1) (t f.2.2.1) L hl B A O R).mono (L8 _) (L8 _);have h:∀u∈m.ds,c u=none:=λu I=>t (f.2.2.2 u I);obtain⟨aa,X⟩:=v.g0;have E:Bs G:=λj Z=>by
  have:=Nj j Z;rw[X];exact LJ this
 obtain⟨ka,w,_⟩:=v.am;obtain⟨kb,x,_⟩:=v.bx;refine k n mem m s ⟨⟨⟨d.at',d.ok,E,d.br,⟨d.n1,d.n2⟩,K,V.same s,ro,rz,hw⟩,λ_=>0,λe u Y=>⟨[],A u (D0 Y),rfl,Q7,λk hk=>nomatch hk⟩,D7 few (V8 _ _),[],B,L8 _⟩,d,λz=>?_,λz=>?_⟩ (λy C=>?_) q (t D) (λz=>T mem z rfl)
 .rw[h _ z]at w;cases w
 .rw[h _ z]at x;cases x
 .rcases B7.mp C with rfl|C
  .exact t f.2.1
  .rcases B7.mp C with rfl|C
   .exact t f.2.2.1
   .exact h y C
end
def Dj(m m':MA):Prop:=m.kc≠m'.kc/\∀d∈m.ds,d∉m'.ds
theorem AH.len{G a:Gv}{i n:Nat}(h:AH G a i)(l:a.length<=G.length+n):AH G a n:=⟨h.ok,h.pre,l⟩
section
variable{a:Ad}{H H':Hp}{g:GA}{G G':Gv}{Κ Κ2:KTy}{N b i N2 b2 b3:Nat}{p dx mem pr p2 dx2 mem2 pr2:R_}{r r2:AD}{m m2:MA}
theorem ZS.oth(h:ZS a H g G Κ N b p dx mem pr r m)(A:ZS a H g G Κ2 N2 b2 p2 dx2 mem2 pr2 r2 m2)(f:FrZ g m2 H H')(y:ZS a H' g G' Κ2 N2 b3 p2 dx2 mem2 pr2 r2 m2)(go:AH G G' i)(M:Dj m m2):ZS a H' g G' Κ N (b+i) p dx mem pr r m:=by
 have n:=h.jz.jw;have c:=n.me;obtain⟨C,q,X,_⟩:=c.ce;have D:∀{x:R_}{o:HO},H x=some o->(∀xs,o≠.lst xs)->(∀ks,o≠.dK ks)->(∀ks,o≠.dT ks)->H' x=some o:=λ{x o} e R S T=>A.keep f e R S T;obtain⟨ts,O,_⟩:=h.fu.at'.pt;obtain⟨Y,F,_⟩:=h.fu.am;obtain⟨Z,I,_⟩:=h.fu.bx;obtain⟨U,L,_⟩:=A.jz.jw.me.ce;have u:∀d∈m.ds,∀o,H d=some o->H' d=some o:=λd B o e=>by
  obtain⟨j,t⟩:=F7 B;obtain⟨P,k,_⟩:=c.sq j d t;rw[k]at e;cases e;refine f d _ k (λz=>?_) (M.2 d B);simp only[B7,D3,A0c]at z;rcases z with z|z|z|z|z|z
  .rw[z,h.fu.at'.lv]at k;cases k
  .rw[z,O]at k;cases k
  .rw[z,h.fu.at'.nm]at k;cases k
  .exact h.na (z▸B)
  .exact h.nb (z▸B)
  .rw[z,L]at k;cases k
 have v:∀o,H m.kc=some o->H' m.kc=some o:=λo e=>by
  rw[q]at e;cases e;refine f _ _ q (λz=>?_) (λz=>?_)
  .simp only[B7,D3,A0c]at z;rcases z with z|z|z|z|z|z
   .rw[z,h.fu.at'.lv]at q;cases q
   .rw[z,O]at q;cases q
   .exact c.ap.2.2 z
   .rw[z,F]at q;cases q
   .rw[z,I]at q;cases q
   .exact M.1 z
  .obtain⟨j,t⟩:=F7 z;obtain⟨P,k,_⟩:=A.jz.jw.me.sq j _ t;rw[q]at k;cases k
 have W:H' m.l=some (.lst (m.ds.map V.ref)):=by
  refine f _ _ c.l (λz=>?_) (λz=>?_)
  .have e:=c.l;simp only[B7,D3,A0c]at z;rcases z with z|z|z|z|z|z
   .exact c.ap.1 z
   .exact c.ap.2.1 z
   .rw[z,h.fu.at'.nm]at e;cases e
   .rw[z,F]at e;cases e
   .rw[z,I]at e;cases e
   .rw[z,L]at e;cases e
  .obtain⟨j,t⟩:=F7 z;obtain⟨P,k,_⟩:=A.jz.jw.me.sq j _ t;have e:=c.l;rw[k]at e;cases e
 have E:IL H' g G' N (b+i+10*N) r m:=(c.kp n.ok go λx o e w=>by
  rcases w with rfl|rfl|w|rfl
  .rw[c.tp]at e;cases e;exact D c.tp B0 B0 B0
  .rw[c.l]at e;cases e;exact W
  .exact u x w o e
  .exact v o e).mono (B8 _) A0
 obtain⟨Q,K⟩:=h.jz.cn;refine⟨⟨⟨y.fu.at',y.fu.ok,y.jz.jw.bs,y.fu.br,n.nbr,D n.hp B0 B0 B0,n.ru.kp λx o e s=>D e (by intro _ z;rw[z]at s;cases s) (by intro _ z;rw[z]at s;cases s) (by intro _ z;rw[z]at s;cases s),n.rok,n.rest,E⟩,Q,K.kp n.ok go u λC e=>⟨C,v _ e,by lia⟩⟩,y.fu,h.na,h.nb⟩
end
seal L2.PA L2.PE L2.PS L2.PSs L2.PT L2.PW
def Clo(G:Gv)(S:J_):Prop:=∀o∈S,o<8\/∃(n:Nat)(q:Sq)(a b c d:Nat),EF G n o q a b c d/\a∈S/\b∈S/\c∈S/\d∈S
theorem cast4s{x y z w a b c d:Nat}(e:[(x:Int),(y:Int),(z:Int),(w:Int)]=[(a:Int),(b:Int),(c:Int),(d:Int)]):x=a/\y=b/\z=c/\w=d:=by
 injection e with e1 e
 injection e with e2 e
 injection e with e3 e
 injection e with e4 e
 exact⟨K2 e1,K2 e2,K2 e3,K2 e4⟩
theorem Clo.get{G:Gv}(ok:GOk G){S:J_}(h:Clo G S){n o a b c d:Nat}{q:Sq}(l:o∈S)(j:EF G n o q a b c d):a∈S/\b∈S/\c∈S/\d∈S:=by
 rcases h o l with z|⟨u,p,r,s,t,d',i,m⟩
 .have:=j.g;rw[ok.leaf o z]at this;cases this;have:=j.lev;have:(0:Int)=(n:Int)+1:=this;lia
 .have e:q=p:=K4 (j.g.symm.trans i.g);subst e;apply AN;intro k f;obtain⟨rfl,rfl,rfl,rfl⟩:=cast4s (j.ps.symm.trans i.ps);apply f;clear f k;exact m
inductive R4(G:Gv)(n i r:Nat)(o:L_)(P:Nat->Nat->Prop):Prop
|mk (q q':Sq) (x y z w x' y' z' w':Nat) (nd:EF G n i q x y z w) (nd':EF G n r q' x' y' z' w') (h:∀k,k<4->P (f4 x y z w (o k)) (f4 x' y' z' w' k))
def Rr(o:L_)(G:Gv):Nat->Nat->Nat->Prop
|0,i,r=>r=i
|n+1,i,r=>R4 G n i r o (Rr o G n)
theorem Rr.app{G a:Gv}{k:Nat}{o:L_}(go:AH G a k):∀{n i r:Nat},Rr o G n i r->Rr o a n i r
|0,_,_,h=>h
|n+1,i,r,⟨q,q',x,y,z,w,x',y',z',w',nd,nd',h⟩=>⟨q,q',x,y,z,w,x',y',z',w',nd.app go,nd'.app go,λk b=>Rr.app go (h k b)⟩
theorem Rr.lev{G:Gv}{o:L_}:∀{n i r:Nat},Am G i (n:Int)->Rr o G n i r->Am G r (n:Int)
|0,i,r,l,h=>by
 have h:r=i:=h;rw[h];exact l
|n+1,i,r,_,⟨q,q',x,y,z,w,x',y',z',w',nd,nd',h⟩=>⟨q',nd'.g,by rw[nd'.lev];lia⟩
theorem RL{G r:Gv}(e:G=G0++r){n:Nat}(b:n+1<=48):∃q,EF G n (bareN (n+1)) q (bareN n) (bareN n) (bareN n) (bareN n):=by
 have a:=DI e (n:=n) A0;exact⟨_,VM e n A0,rfl,rfl,a,a,a,a⟩
theorem WA{G r:Gv}(e:G=G0++r){o:L_}:∀{n:Nat},n<=48->Rr o G n (bareN n) (bareN n)
|0,_=>rfl
|n+1,hn=>by
 obtain⟨q,a⟩:=RL e hn;refine⟨q,q,_,_,_,_,_,_,_,_,a,a,λk b=>?_⟩;have f:∀j,f4 (bareN n) (bareN n) (bareN n) (bareN n) j=bareN n:=λj=>by unfold f4;split<;>rfl
 rw[f,f];exact WA e A0
def FrD(g:GA)(d:R_)(H H':Hp):Prop:=∀b o,H b=some o->b≠g.lv->b≠g.pt->b≠g.nm->b≠d->H' b=some o
theorem FrD.refl(g:GA)(d:R_)(H:Hp):FrD g d H H:=λ_ _ e _ _ _ _=>e
theorem FrD.trans{g:GA}{d:R_}{a c f:Hp}(h:FrD g d a c)(m:FrD g d c f):FrD g d a f:=λb o e i j k l=>m b o (h b o e i j k l) i j k l
theorem FrD.tup{a:Ad}{g:GA}{G:Gv}{d t:R_}{H c:Hp}{xs:List V}{ks:List (Key×V)}(h:FrD g d H c)(b:AM a H g G)(f:H d=some (.dK ks))(e:H t=some (.tup xs)):c t=some (.tup xs):=by
 obtain⟨us,i,_⟩:=b.pt;exact h _ _ e (AE e b.lv A3) (AE e i A3) (AE e b.nm A3) (AE e f A3)
structure OutD(a:Ad)(H:Hp)(g:GA)(d:R_):Prop where
am:d≠g.am
bx:d≠g.bx
theorem AW.frD{a:Ad}{H j:Hp}{g:GA}{G k:Gv}{m:Nat}{d:R_}{ks:List (Key×V)}(h:AW a H g G)(y:H d=some (.dK ks))(C:OutD a H g d)(f:FrD g d H j)(p:AM a j g k)(go:AH G k m):AW a j g k:=by
 apply AN;intro n c;obtain⟨at',ok,⟨r,K⟩,q,⟨ks,L,M⟩,⟨s,N,x⟩,A,B,P⟩:=h;obtain⟨us,O,_⟩:=at'.pt;apply c;clear c n;have keep:∀{b:R_}{o:HO},H b=some o->(∀l,o≠.lst l)->(∀l,o≠.dT l)->b≠d->j b=some o:=λ{b o} e D Q R=>f _ _ e (AE e at'.lv (D _)) (AE e O (D _)) (AE e at'.nm (Q _)) R;obtain⟨t,I⟩:=go.pre;refine⟨p,go.ok,⟨r++t,by rw[I,K,Q5]⟩,f _ _ q A B (AE q at'.nm A3) (AE q y A3),⟨ks,keep L (by intro l z;cases z) (by intro l z;cases z) (K3 C.am),M.app ok go⟩,⟨s,keep N (by intro l z;cases z) (by intro l z;cases z) (K3 C.bx),x.keys.app go.le,λi v e=>?_⟩,A,B,P⟩;apply AN;intro n c;obtain⟨l,b,t,u,E,F,w⟩:=x.val i v e;apply c;clear c n;exact⟨l,b,t,go.lev u,by rw[GH ok go l i u];exact E,F,keep w (by intro l z;cases z) (by intro l z;cases z) (AE w y A3)⟩
structure VZ(S:J_)(o:L_)(Gs G:Gv)(ks:List (Key×V)):Prop where
keys:GK Gs ks
sub:∀(i:Nat) v,Bj ks (Sum.inl (i:Int))=some v->i∈S
val:∀(i:Nat) v,Bj ks (Sum.inl (i:Int))=some v->∃l r:Nat,Am Gs i (l:Int)/\v=.int (r:Int)/\Rr o G l i r
few:G.length<=Gs.length+ks.length
def Keyed'(Gs:Gv)(m:Nat)(ks ks':List (Key×V)):Prop:=∀i:Nat,(Bj ks' (Sum.inl (i:Int))).isSome=true->(Bj ks (Sum.inl (i:Int))).isSome=true\/∃l:Nat,Am Gs i (l:Int)/\l<=m
theorem Keyed'.trans{a:Gv}{m:Nat}{b c d:List (Key×V)}(h:Keyed' a m b c)(f:Keyed' a m c d):Keyed' a m b d:=λi e=>(f i e).elim (λz=>h i z) .inr
theorem Keyed'.mono{a:Gv}{m d:Nat}{b c:List (Key×V)}(le:m<=d)(h:Keyed' a m b c):Keyed' a d b c:=λi e=>(h i e).imp id λ⟨l,f,g⟩=>⟨l,f,by lia⟩
theorem putK_len{ks:List (Key×V)}{k:Key}{v:V}(h:Bj ks k=none):(Dy ks k v).length=ks.length+1:=by
 unfold Dy;rw[X7 (by rw[Fn,h];exact D5)];simp
def ord4(o:L_):List V:=[.int (o 0:Int),.int (o 1:Int),.int (o 2:Int),.int (o 3:Int)]
section
variable{P:N_}{w:Q_}{K:O_}{mg:C_}{base:T_}{a:Ad}
inductive SpRe(a:Ad)(K:O_)(n:Nat)(vs:List V)(H:Hp)(Q:VK):Prop
|mk (g:GA) (Gs G:Gv) (i l k0:Nat) (t d:R_) (o:L_) (ks:List (Key×V)) (S:J_) (_:vs=[.ref g.p,.int i,.ref t,.ref d]) (_:AW a H g G) (_:GOk Gs) (_:AH Gs G k0) (_:Am Gs i (l:Int)) (_:l<n) (_:(∀H',SqT K H' t (ord4 o))) (_:(∀k,k<4->o k<4)) (_:H d=some (.dK ks)) (_:OutD a H g d) (_:VZ S o Gs G ks) (_:Clo Gs S) (_:i∈S) (_:Gs.length<4000000) (_:∀(r k1:Nat)(G':Gv)(ks':List (Key×V))(H':Hp),FrD g d H H'->AW a H' g G'->AH G G' k1->H' d=some (.dK ks')->VZ S o Gs G' ks'->Keyed' Gs l ks ks'->Rr o G' l i r->Q (.int r) H'):SpRe a K n vs H Q
def ZN(a:Ad)(K:O_)(n:Nat):Sp:=λvs H Q _=>SpRe a K n vs H Q
theorem ok_re(F:Fun K "rearranged" "rearranged" FL f fd)(T:Top K mg a)(hm:mg "rearranged" = some (.ref f))(Bi:CF K fd Dt [])(a6:Ca P w K mg base CX0 2 a.c_Grove "linked" AU (DQ a)):∀n,AL P w K mg base CX0 (n+3) f fd Dt (ZN a K n)
|0=>by
 refine F.ok CS (λvs H Q E h=>?_) (λaq A ac s H vs Q E hr h=>?_)
 .apply AN;intro D B;obtain⟨g,Gs,G,i,l,k0,t,d,o,ks,S,rfl,_,_,_,_,h0,_⟩:=h;apply B;clear B D;exact absurd h0 (L9 _)
 .apply AN;intro D B;obtain⟨g,Gs,G,i,l,k0,t,d,o,ks,S,rfl,_,_,_,_,h0,_⟩:=h;apply B;clear B D;exact absurd h0 (L9 _)
|n+1=>by
 have aS:Cal P w K mg base CX0 (n+3) "rearranged" Dt (ZN a K n):=⟨f,fd,ok_re F T hm Bi a6 n,hm,F.kp,Bi⟩
 refine F.ok CS (λvs H Q E h=>?_) (λaq A ac s H vs Q E hr h=>?_)
 .apply AN;intro D B;obtain⟨g,Gs,G,i,l,k0,t,d,o,ks,S,rfl,_⟩:=h;apply B;clear B D;rfl
 .apply AN;intro D B;obtain⟨g,Gs,G,i,l,k0,t,d,o,ks,S,rfl,L,ab,gs,hl,ln,ht,o4,hd,od,ro,cS,iS,few,k⟩:=h;apply B;clear B D;have az:=gs.lev hl;obtain⟨r0,e0⟩:=L.g0;obtain⟨q0,ae,l0⟩:=id az;have an:l<=48:=by have:=(L.ok.lev ae).2;lia
  refine⟨_,(Ac (Aq (i:=4) CS.nd rfl O_9 (Aj Ay (AB (pv 0) rfl) (pv 1) R_9)) (Ac (AO (PW.pt (PL (AA CG (pv 4) Ae (AG _)) (Ms (AA CG (pv 1) (Aj Ay (AB (pv 0) rfl) (pv 4) R_9) (AG _))))) (Ah (Av (pv 1))) AC) (Ac (Aq (i:=5) CS.nd rfl O_9 (IE (EB hr) (pv 3) (pv 1) ⟨rfl,rfl,rfl,rfl⟩)) (Ac (AO (AA GB (pv 5) Db (AG _)) (Ac (Aq (i:=6) CS.nd rfl (Or.inr rfl) (Aj Ay (AB (pv 0) rfl) (pv 1) R_9)) (Ac (Aq (i:=5) CS.nd rfl O_9 (AK (pv 0) a6 (rm hr) Ao (Aa (Bw BE rfl T.b_tuple A0f (Aa (BL rfl (Bo.of (So:=Ak FL) (No:=Nd) (N:=["place","grove","order","known","old"]) (k:=1) (cs:=[0,2,3,6]) rfl rfl A1) (PN (pv 2)) (λ_ _ _=>(AZ (i:=0) A1 rfl rfl)) (λ_ _ _=>BC) (λ_ _ _=>(As aS (rm hr) rfl Ao (Aa (pv 1) (Aa (Aj (Jw (K:=K) rfl) (pv 4) (pv 0) R_9) (Aa (pv 2) (Aa (pv 3) Ab))))))) Ab)) Ab))) (Ah (FM (EB hr) (pv 3) (pv 1) (pv 5) rfl)))) AC) (Ah (Av (pv 5))))))),?_⟩
  try dsimp only[cxK]
  refine⟨_,rfl,g.p,_,g.dx,_,_,rfl,L.at'.hp,T.cl_Grove,T.na_Grove_levels,EC g,_,rfl,g.lv,_,(i:Int),.int q0.lev,rfl,rfl,SqL.of L.at'.lv,Ai (by rw[B6,ae];rfl),?_⟩;rw[l0];cases l with
  |zero =>
   have z:((0:Nat):Int)=0:=rfl;refine xq1 rfl ⟨rfl,(xq1 rfl (BP (BP (xq1 rfl (k i 0 G ks H (FrD.refl g d H) L (AH.refl L.ok) hd ro (λj e=>.inl e) rfl)))))⟩
  |succ m =>
   refine xq1 rfl ⟨rfl,(xq1 rfl ?_)⟩;rw[X9 (by intro z;injection z with z;lia)];refine Bd (xw2 rfl rfl (xq5 L.at'.hp T.cl_Grove T.na_Grove_bares (GF g) (xwi rfl rfl rfl (SqL.of L.br) (Ai (bareL_at' an)) ⟨rfl,(xq1 rfl ?_)⟩)));refine JI (λhb=>?_) (λhb=>?_)
   .have hb:i=bareN (m+1):=by
     have:=A0d hb;injection this with this
     lia
    refine xq1 rfl (k i 0 G ks H (FrD.refl g d H) L (AH.refl L.ok) hd ro (λj e=>.inl e) ?_);rw[hb];exact WA e0 an
   .refine xq1 rfl ⟨d,rfl,.inl ⟨_,.inl hd⟩,(xq1 rfl ⟨_,IM.k (k:=Sum.inl (i:Int)) hd,?_⟩)⟩;cases ev:Bj ks (Sum.inl (i:Int))with
    |some v =>
     apply AN;intro D B;obtain⟨l',r,a4,rfl,rr⟩:=ro.val i v ev;apply B;clear B D;have el:l'=m+1:=K2 (a4.uniq hl);subst el;exact xq1 rfl ⟨rfl,(xq1 rfl (Bd (xq1 rfl (k r 0 G ks H (FrD.refl g d H) L (AH.refl L.ok) hd ro (λj e=>.inl e) rr))))⟩
    |none =>
     refine xq1 rfl ⟨rfl,(xq1 rfl (BP ?_))⟩;apply AN;intro D B;obtain⟨q,x,y,z,w',Y⟩:=Bp ab hl;apply B;clear B D;have ar:∀c,f4 x y z w' c∈S:=λc=>by
      have:=cS.get ab iS Y;unfold f4;split
      .exact this.1
      .exact this.2.1
      .exact this.2.2.1
      .exact this.2.2.2
     apply AN;intro D B;obtain⟨ts,tt,h3,et,a7⟩:=DL L.at' (Y.app gs);apply B;clear B D;refine xwf rfl rfl L.at'.hp T.cl_Grove T.na_Grove_parts (BY g) (xwi rfl rfl rfl (SqL.of h3) (Ai et) ?_);refine xq1 rfl ⟨g.p,g.dx,(xq1 rfl ⟨L.at'.hp,BJ g,(xq1 rfl ⟨t,rfl,⟨_,ht H⟩,?_⟩)⟩)⟩;refine Ny (xs:=ord4 o) (λj X W=>∃(U:Gv)(k2:Nat)(ks2:List (Key×V))(rs:J_),FrD g d H W/\AW a W g U/\AH G U k2/\W d=some (.dK ks2)/\VZ S o Gs U ks2/\Keyed' Gs m ks ks2/\X=rs.map (λ(r:Nat)=>V.int (r:Int))/\rs.length=j/\∀c,c<j->Rr o U m (f4 x y z w' (o c)) (rs.getD c 0)) ⟨G,0,ks,[],FrD.refl g d H,L,AH.refl L.ok,hd,ro,λj e=>.inl e,rfl,rfl,λc R=>absurd R (L9 _)⟩ (λj X W _ _=>ht W) ?_ ?_
     .rintro j v X W af be;apply AN;intro D B;obtain⟨U,k2,ks2,rs,fr,M,go,O,I,kd,rfl,lj,Z⟩:=be;apply B;clear B D;have j4:j<4:=by have:=(B5.mp af).1;simpa[ord4] using this
      have as:v=.int (o j:Int):=by
       match j,j4,af with
       |0,_,e=>cases e;rfl
       |1,_,e=>cases e;rfl
       |2,_,e=>cases e;rfl
       |3,_,e=>cases e;rfl
      subst as;have al:=fr.tup L.at' hd a7;have ao:[V.int (x:Int),V.int (y:Int),V.int (z:Int),V.int (w':Int)][o j]?=some (.int (f4 x y z w' (o j):Int)):=by
       have:=o4 j j4;generalize o j=kk at this⊢
       match kk,this with
       |0,_=>rfl
       |1,_=>rfl
       |2,_=>rfl
       |3,_=>rfl
      refine⟨⟨[some (.int (o j:Int))],rfl,rfl⟩,by rw[B4];exact FG A0,FI (xw3 rfl rfl rfl (xq4 rfl rfl (SqT.of al) (Ai ao) (xw2 rfl rfl ?_)))⟩;refine⟨g,Gs,U,f4 x y z w' (o j),m,k0+k2,t,d,o,ks2,S,rfl,M,ab,gs.trans go,(Y.nat (o4 j j4)).2,by lia,ht,o4,O,⟨od.am,od.bx⟩,I,cS,ar (o j),few,λr k3 G3 a9 H3 au av ai ax bb a8 bc=>?_⟩;refine⟨G3,k2+k3,a9,rs++[r],fr.trans au,av,go.trans ai,ax,bb,kd.trans a8,by rw[C3];rfl,by rw[C1,lj];rfl,λc R=>?_⟩;rcases O3.mp R with R|R
      .rw[C6,M0 A0,<-C6];exact(Z c R).app ai
      .rw[R,C6,F8 A0,lj,T9];exact bc
     .rintro X W bd qd hq;apply AN;intro D B;obtain⟨U,k2,ks2,rs,fr,M,go,O,I,kd,rfl,lj,Z⟩:=bd;apply B;clear B D;have lj:rs.length=4:=lj
      match rs,lj with
      |[a0,a1,a2,a3],_ =>
      have s3:=AJ (o:=.lst ([a0,a1,a2,a3].map λ(r:Nat)=>V.int (r:Int))) hq;refine⟨qd,(xq1 rfl (.inl ⟨SqL.of Af,λt4 ak=>?_⟩))⟩;generalize upd W qd (.lst ([a0,a1,a2,a3].map λ(r:Nat)=>V.int (r:Int)))=H3 at s3 ak⊢;have s4:=AJ (o:=.tup ([a0,a1,a2,a3].map λ(r:Nat)=>V.int (r:Int))) ak;have l4:∀c,c<4->Am U ([a0,a1,a2,a3].getD c 0) (m:Int):=λc R=>(Z c R).lev ((gs.trans go).lev (Y.nat (o4 c R)).2);have ad:=s3.trans s4;have gf:U.length<9000000:=by have:=I.few;have:=I.keys.len;lia
      refine⟨g,U,t4,a0,a1,a2,a3,(m:Int),rfl,M.at'.same ad,M.ok,Af,⟨l4 0 A4,l4 1 A4,l4 2 A4,l4 3 A4⟩,by lia,gf,λr G3 H4 ag ay C e4=>?_⟩;have aa:Bj ks2 (Sum.inl (i:Int))=none:=by
       cases e2:Bj ks2 (Sum.inl (i:Int))with
       |none=>rfl
       |some v =>
        rcases kd i (by rw[e2];rfl)with h|⟨l',h1,h2⟩
        .rw[ev]at h;cases h
        .have:=K2 (h1.uniq hl);lia
      obtain⟨us,a5,_⟩:=M.at'.pt;have aj:H4 d=some (.dK ks2):=ag _ _ (ad _ _ O) (AE O M.at'.lv A3) (AE O a5 A3) (AE O M.at'.nm A3);have ah:FrD g d W (upd H4 d (.dK (Dy ks2 (Sum.inl (i:Int)) (.int (r:Int))))):=λb u e n1 n2 n3 n4=>by
       rw[Ax n4];exact ag _ _ (ad _ _ e) n1 n2 n3
      have aw:=M.frD O ⟨od.am,od.bx⟩ ah (ay.dict aj) C;have g4:=C.few;have ba:EF G3 m r _ a0 a1 a2 a3:=⟨e4,rfl,rfl,C.lev (l4 0 A4),C.lev (l4 1 A4),C.lev (l4 2 A4),C.lev (l4 3 A4)⟩
      have rr:Rr o G3 (m+1) i r:=⟨q,_,x,y,z,w',a0,a1,a2,a3,(Y.app gs).app (go.trans C),ba,λc R=>by
       have:=(Z c R).app C
       match c,R with
       |0,_=>exact this
       |1,_=>exact this
       |2,_=>exact this
       |3,_=>exact this⟩
      have bf:=I.keys.len;refine xw3 rfl rfl rfl ⟨d,(xq1 rfl ⟨LX.k (k:=Sum.inl (i:Int)) aj (FG A0),(xq1 rfl ?_)⟩)⟩;refine k r (k2+1) G3 _ _ (fr.trans ah) aw (go.trans C) Af ⟨I.keys.put hl.lt _,λj v e=>?sb,λj v e=>?_,by rw[putK_len aa];have:=I.few;lia⟩ (λj e=>?_) rr
      case sb =>
       rw[Fl]at e;split at e
       .rename_i hj;injection hj with hj
        have:j=i:=by lia
        rw[this];exact iS
       .exact I.sub j v e
      .rw[Fl]at e;split at e
       .rename_i hj;cases e;injection hj with hj
        have:j=i:=by lia
        subst this;exact⟨m+1,r,hl,rfl,rr⟩
       .apply AN;intro D B;obtain⟨l',r',h1,h2,h3⟩:=I.val j v e;apply B;clear B D;exact⟨l',r',h1,h2,h3.app C⟩
      .rw[Fl]at e;split at e
       .rename_i hj;injection hj with hj
        have:j=i:=by lia
        subst this;exact .inr ⟨m+1,hl,B8 _⟩
       .exact(kd.mono (Q9 m)) j e
end
def oL(k:Nat):Nat:=match k with|0=>1|1=>3|2=>0|_=>2
def oM(k:Nat):Nat:=match k with|0=>1|1=>0|2=>3|_=>2
theorem oL_lt(k:Nat)(_:k<4):oL k<4:=by unfold oL;split<;>decide
theorem oM_lt(k:Nat)(_:k<4):oM k<4:=by unfold oM;split<;>decide
theorem ST{h y:Nat}(e:y<2*h):(2*h-1-y)/h=1-y/h/\(2*h-1-y)%h=h-1-y%h/\y/h<2:=by
 have p:0<h:=by lia
 rcases Z5 y h with z|z
 .have a:y/h=0:=L6 z;have b:y%h=y:=J8 z;obtain⟨c,d⟩:=Ng (h:=h) (X:=2*h-1-y) 1 A0 A0;rw[a,b,c,d];exact⟨rfl,by rw[Y4,Nat.two_mul,U5 _ y,U5 _ 1,Z2],by decide⟩
 .obtain⟨a,b⟩:=Ng (h:=h) (X:=y) 1 A0 A0;have c:(2*h-1-y)/h=0:=L6 A0;have d:(2*h-1-y)%h=2*h-1-y:=J8 A0;rw[a,b,c,d];refine⟨rfl,?_,by decide⟩;obtain⟨k,rfl⟩:=Nat.exists_eq_add_of_le z;rw[Y4,Nat.add_sub_cancel_left,Nat.two_mul,U5,Nat.add_sub_add_left,U5]
theorem Wz{G:Gv}:∀{n i r x y:Nat},Rr oL G n i r->x<2^n->y<2^n->Cf G n r x y=Cf G n i (2^n-1-y) x
|0,i,r,x,y,h,_,_=>by
 have h:r=i:=h;rw[h];rfl
|n+1,i,r,x,y,⟨q,q',a,b,c,d,a',b',c',d',nd,nd',h⟩,hx,hy=>by
 have f:=AI n;have e:=Fq n;have m:=BB hx hy;rw[Bb nd' hx hy,Bb nd A0 hx,Wz (h _ m) (F1 _ f) (F1 _ f)];rw[e]at hx hy;rw[e];obtain⟨g,j,o⟩:=ST hy;rw[j];have p:x/2^n<2:=(ST hx).2.2;have:oL (quad n x y)=quad n (2*2^n-1-y) x:=by
  unfold quad;rw[g];generalize x/2^n=A at *
  generalize y/2^n=B at *
  have k:A=0\/A=1:=by lia
  have l:B=0\/B=1:=by lia
  rcases k with rfl|rfl<;>rcases l with rfl|rfl<;>rfl
 rw[this]
theorem Wy{G:Gv}:∀{n i r x y:Nat},Rr oM G n i r->x<2^n->y<2^n->Cf G n r x y=Cf G n i (2^n-1-x) y
|0,i,r,x,y,h,_,_=>by
 have h:r=i:=h;rw[h];rfl
|n+1,i,r,x,y,⟨q,q',a,b,c,d,a',b',c',d',nd,nd',h⟩,hx,hy=>by
 have f:=AI n;have e:=Fq n;have m:=BB hx hy;rw[Bb nd' hx hy,Bb nd A0 hy,Wy (h _ m) (F1 _ f) (F1 _ f)];rw[e]at hx hy;rw[e];obtain⟨g,j,o⟩:=ST hx;rw[j];have p:y/2^n<2:=(ST hy).2.2;have:oM (quad n x y)=quad n (2*2^n-1-x) y:=by
  unfold quad;rw[g];generalize x/2^n=A at *
  generalize y/2^n=B at *
  have k:A=0\/A=1:=by lia
  have l:B=0\/B=1:=by lia
  rcases k with rfl|rfl<;>rcases l with rfl|rfl<;>rfl
 rw[this]
theorem flip_c{y:Int}{n:Nat}(a:-(2^n)<=y)(b:y<2^n):2^(n+1)-1-(y+2^n).toNat=(-1-y+2^n).toNat:=by
 have c:=DE n;have s:=Fq n;lia
theorem Qo{G:Gv}{n f r:Nat}(h:Rr oL G (n+1) f r)(x y:Int):fieldF G n r x y=fieldF G n f (-1-y) x:=by
 unfold fieldF;have c:=DE n;have s:=Fq n;by_cases z:-(2^n)<=x/\x<2^n/\-(2^n)<=y/\y<2^n
 .apply AN;intro i a;obtain⟨b,d,e,g⟩:=z;apply a;clear a i;rw[K0 ⟨b,d,e,g⟩,K0 ⟨by lia,by lia,b,d⟩,Wz h (Dw b d) (Dw e g)];congr 1;exact flip_c e g
 .rw[X7 z,X7 λq=>z ⟨q.2.2.1,q.2.2.2,by lia,by lia⟩]
theorem Qj{G:Gv}{n f r:Nat}(h:Rr oM G (n+1) f r)(x y:Int):fieldF G n r x y=fieldF G n f (-1-x) y:=by
 unfold fieldF;have c:=DE n;have s:=Fq n;by_cases z:-(2^n)<=x/\x<2^n/\-(2^n)<=y/\y<2^n
 .apply AN;intro i a;obtain⟨b,d,e,g⟩:=z;apply a;clear a i;rw[K0 ⟨b,d,e,g⟩,K0 ⟨by lia,by lia,e,g⟩,Wy h (Dw b d) (Dw e g)];congr 1;exact flip_c b d
 .rw[X7 z,X7 λq=>z ⟨by lia,by lia,q.2.2.1,q.2.2.2⟩]
theorem Oq{G r:Gv}(i:G=G0++r)(ok:GOk G){m f:Nat}(t:m<=46)(l:Am G f ((m+2:Nat):Int)){x y:Int}(d:¬(-(2^m)<=x/\x<2^m/\-(2^m)<=y/\y<2^m))(j:fieldF G (m+1) f x y≠0):JA G (m+1) f:=by
 obtain⟨k,ps,e⟩:=WW ok l;refine .inr ⟨m,k,ps,rfl,e,λh=>j ?_⟩;unfold fieldF;split
 .rename_i z;apply AN;intro g a;obtain⟨n,o,p,s⟩:=z;apply a;clear a g;have b:=Dw n o;have c:=Dw p s;rw[LN e b c];have ne:¬quad m ((x+2^(m+1)).toNat%2^(m+1)) ((y+2^(m+1)).toNat%2^(m+1))+quad (m+1) (x+2^(m+1)).toNat (y+2^(m+1)).toNat=3:=λq=>d ((mid_iff' (N7 A0) (N7 A0) b c).mp q);rw[h _ _ (BB b c) (BB (F1 _ (AI _)) (F1 _ (AI _))) ne];exact CZ i ok A0 (F1 _ (AI _)) (F1 _ (AI _))
 .rfl
structure Fd(G:Gv)(n f:Nat):Prop where
lev:Am G f ((n+1:Nat):Int)
tr:JA G n f
le:n<=40
theorem Fd.left{G r:Gv}(c:G=G0++r)(ok:GOk G){n f t:Nat}(h:Fd G n f)(b:Rr oL G (n+1) f t):Fd G n t:=by
 refine⟨b.lev h.lev,?_,h.le⟩;cases n with
 |zero=>exact .inl rfl
 |succ m =>
  have le:=h.le;obtain⟨x,y,a,d⟩:=ME c ok A0 h.tr;refine Oq c ok A0 (b.lev h.lev) (x:=y) (y:=-1-x) (λz=>a ⟨by lia,by lia,by lia,by lia⟩) ?_;rw[Qo b,show -1-(-1-x)=x by lia];exact d
theorem Fd.mirr{G r:Gv}(c:G=G0++r)(ok:GOk G){n f t:Nat}(h:Fd G n f)(b:Rr oM G (n+1) f t):Fd G n t:=by
 refine⟨b.lev h.lev,?_,h.le⟩;cases n with
 |zero=>exact .inl rfl
 |succ m =>
  have le:=h.le;obtain⟨x,y,a,d⟩:=ME c ok A0 h.tr;refine Oq c ok A0 (b.lev h.lev) (x:=-1-x) (y:=y) (λz=>a ⟨by lia,by lia,by lia,by lia⟩) ?_;rw[Qj b,show -1-(-1-x)=x by lia];exact d
section
variable{P:N_}{w:Q_}{K:O_}{mg:C_}{base:T_}{a:Ad}
inductive SpTu(a:Ad)(o:L_)(vs:List V)(H:Hp)(Q:VK):Prop
|mk (g:GA) (G:Gv) (i l:Nat) (S:J_) (_:vs=[.ref g.p,.int i]) (_:AW a H g G) (_:Am G i (l:Int)) (_:Clo G S) (_:i∈S) (_:G.length<4000000) (_:∀(r k1:Nat)(G':Gv)(H':Hp),Fr g H H'->AW a H' g G'->AH G G' k1->G'.length<=G.length+S.length->Rr o G' l i r->Q (.int r) H'):SpTu a o vs H Q
def Yy(a:Ad)(o:L_):Sp:=λvs H Q _=>SpTu a o vs H Q
theorem TU{S:J_}{a:Ad}{H:Hp}{g:GA}{G:Gv}{o:L_}{d:R_}(b:AW a H g G)(c:H d=none):AW a (upd H d (.dK [])) g G/\OutD a (upd H d (.dK [])) g d/\VZ S o G G []:=by
 obtain⟨ks,f,_⟩:=b.am;obtain⟨l,h,_⟩:=b.bx;exact⟨b.same (AJ c),⟨K3 (Aw f c),K3 (Aw h c)⟩,⟨⟨by simp,λk j=>by simp at j⟩,(λi v e=>by cases e),(λi v e=>by cases e),B8 _⟩⟩
theorem few_in(S:J_):∀ns:List Nat,ns.Nodup->(∀i∈ns,i∈S)->ns.length<=S.length:=by
 induction S with
 |nil =>
  intro ns _ h;cases ns with
  |nil=>exact B8 _
  |cons a l=>exact absurd (h a C4) D3
 |cons s S d =>
  intro ns c h;have:=d (ns.erase s) (c.sublist List.erase_sublist) λi b=>((B7.mp (h i (List.mem_of_mem_erase b))).resolve_left λe=>by rw[e]at b;exact(c.not_mem_erase) b)
  rw[D6];by_cases z:s∈ns
  .rw[List.length_erase_of_mem z]at this;lia
  .rw[List.erase_of_not_mem z]at this;lia
theorem VZ.few'{S:J_}{o:L_}{m G:Gv}{ks:List (Key×V)}(h:VZ S o m G ks):ks.length<=S.length:=by
 let f:Key->Nat:=λk=>match k with|.inl i=>i.toNat|.inr _=>0
 have:=few_in S ((ks.map Prod.fst).map f) (by
  rw[O0,V3];refine A5a (λ{a b} p q d z=>d ?_) (O0.mp h.keys.nd);obtain⟨i,_,rfl⟩:=h.keys.lt a p;obtain⟨j,_,rfl⟩:=h.keys.lt b q;have:(i:Int).toNat=(j:Int).toNat:=z;rw[J7,J7]at this;rw[this]) (λx r=>by
  obtain⟨k,l,rfl⟩:=C8.mp r;obtain⟨i,s,rfl⟩:=h.keys.lt k l;show(i:Int).toNat∈S;rw[J7];obtain⟨g,c,e⟩:=C8.mp l;have a:(ks.any λg=>decide (g.1=Sum.inl (i:Int)))=true:=R8.mpr ⟨g,c,X8 e⟩;rw[Fn]at a;obtain⟨v,n⟩:=V4.mp a;exact h.sub i v n)
 rw[B4,B4]at this;exact this
theorem re_end{S:J_}{H f:Hp}{g:GA}{G c:Gv}{o:L_}{d:R_}{ks:List (Key×V)}(h:H d=none)(fr:FrD g d (upd H d (.dK [])) f)(i:VZ S o G c ks):Fr g H f/\c.length<=G.length+S.length:=by
 refine⟨λb u e j k l=>fr b u (AJ h _ _ e) j k l (Aw e h),?_⟩;have:=i.few;have:=i.few';lia
theorem ok_tl(F:Fun K "turn_left" "turn_left" JN f fd)(T:Top K mg a)(v:Cal P w K mg base CX0 53 "rearranged" Dt (ZN a K 50)):AL P w K mg base CX0 54 f fd Vr (Yy a oL):=by
 refine F.ok Sb D_9 λy A j s H vs Q E D h=>?_
 obtain⟨g,G,i,l,S,rfl,b,p,x,I,few,k⟩:=h;obtain⟨q,eq,W⟩:=id p;have N:l<=48:=by have:=(b.ok.lev eq).2;lia
 refine⟨_,(Ah (Av (As v (rm D) rfl Ao (Aa (pv 0) (Aa (pv 1) (Aa (MV rfl T.k_LEFT_ORDER.1) (Aa IC Ab))))))),?_⟩
 try dsimp only[cxK]
 refine⟨_,rfl,_,rfl,λd n=>?_⟩;obtain⟨e,O,R⟩:=TU (S:=S) (o:=oL) b n;refine⟨g,G,G,i,l,0,a.k_LEFT_ORDER,d,oL,[],S,rfl,e,b.ok,AH.refl b.ok,p,by lia,T.k_LEFT_ORDER.2,oL_lt,Af,O,R,x,I,few,λr L t M u fr c go C m V U=>?_⟩;obtain⟨z,B⟩:=re_end n fr m;exact k r L t u z c go B U
theorem ok_mi(F:Fun K "mirror" "mirror" PB f fd)(T:Top K mg a)(v:Cal P w K mg base CX0 53 "rearranged" Dt (ZN a K 50)):AL P w K mg base CX0 54 f fd Vr (Yy a oM):=by
 refine F.ok YB D_9 λy A j s H vs Q E D h=>?_
 obtain⟨g,G,i,l,S,rfl,b,p,x,I,few,k⟩:=h;obtain⟨q,eq,W⟩:=id p;have N:l<=48:=by have:=(b.ok.lev eq).2;lia
 refine⟨_,(Ah (Av (As v (rm D) rfl Ao (Aa (pv 0) (Aa (pv 1) (Aa (MV rfl T.k_MIRROR_ORDER.1) (Aa IC Ab))))))),?_⟩
 try dsimp only[cxK]
 refine⟨_,rfl,_,rfl,λd n=>?_⟩;obtain⟨e,O,R⟩:=TU (S:=S) (o:=oM) b n;refine⟨g,G,G,i,l,0,a.k_MIRROR_ORDER,d,oM,[],S,rfl,e,b.ok,AH.refl b.ok,p,by lia,T.k_MIRROR_ORDER.2,oM_lt,Af,O,R,x,I,few,λr L t M u fr c go C m V U=>?_⟩;obtain⟨z,B⟩:=re_end n fr m;exact k r L t u z c go B U
end
end J
namespace J
open PySem L2
theorem cast4'{x y z w a b c d:Nat}(e:[(x:Int),(y:Int),(z:Int),(w:Int)]=[(a:Int),(b:Int),(c:Int),(d:Int)]):x=a/\y=b/\z=c/\w=d:=by
 injection e with e1 e
 injection e with e2 e
 injection e with e3 e
 injection e with e4 e
 exact⟨K2 e1,K2 e2,K2 e3,K2 e4⟩
theorem Fx.fresh{l:H_}{H a c:Hp}{x:R_}(s:Az H a)(f:Fx (x::l) a c)(n:H x=none):Fx l H c:=λb o e z=>f b o (s _ _ e) λm=>by
 rcases B7.mp m with rfl|m
 .rw[n]at e;cases e
 .exact z m
def frM(g:GA)(kn:R_):List Addr:=[g.lv,g.pt,g.nm,kn]
theorem meetH{T:St->Hp->Prop}{C:Prop}(P:St->Hp->Prop)(h:(∀σ H,P σ H->T σ H)->C)(k:∀σ H,P σ H->T σ H):C:=h k
structure Sc where
Φ:Nat->Nat->Nat
R:Nat
D:Nat
M:Nat
cl:Nat->Nat->Nat->Nat
def NE(Φ:Nat->Nat->Nat)(n i j:Nat):Prop:=∃x y,x<2^(n+1)/\y<2^(n+1)/\Φ (i*2^n+x) (j*2^n+y)≠0
structure ScOk(c:Sc):Prop where
lt:∀n i j,n<=48->NE c.Φ n i j->c.cl n i j<c.M
same:∀n i j i' j',n<=48->NE c.Φ n i j->NE c.Φ n i' j'->c.cl n i j=c.cl n i' j'->∀x y,x<2^(n+1)->y<2^(n+1)->c.Φ (i*2^n+x) (j*2^n+y)=c.Φ (i'*2^n+x) (j'*2^n+y)
def mk1(R n x:Nat):Prop:=R%2^n≠0\/x<2^n
structure Ag(G:Gv)(c:Sc)(n i j:Nat)(q:L_):Prop where
lev:∀k,k<4->Am G (q k) (n:Int)
ag:∀x y,x<2^(n+1)->y<2^(n+1)->mk1 c.R n x->mk1 c.D n y->Cf G n (q (quad n x y)) (x%2^n) (y%2^n)=c.Φ (i*2^n+x) (j*2^n+y)
structure QAt(G:Gv)(c:Sc)(n i j:Nat)(q:L_):Prop where
a:Ag G c n i j q
off:∀x y,x<2^(n+1)->y<2^(n+1)->¬(mk1 c.R n x/\mk1 c.D n y)->Cf G n (q (quad n x y)) (x%2^n) (y%2^n)=0
structure Rs(G:Gv)(c:Sc)(n i j m:Nat):Prop where
lev:Am G m (n:Int)
cell:∀x y,x<2^n->y<2^n->Cf G n m x y=c.Φ (i*2^n+c.R%2^n+x) (j*2^n+c.D%2^n+y)
theorem Ag.app{G a:Gv}{k:Nat}{c:Sc}{n i j:Nat}{q:L_}(ok:GOk G)(go:AH G a k)(h:Ag G c n i j q):Ag a c n i j q:=⟨λk e=>go.lev (h.lev k e),λx y b d m1 m2=>by rw[Ly ok go (h.lev _ (BB b d)) (F1 _ (AI n)) (F1 _ (AI n))];exact h.ag x y b d m1 m2⟩
theorem QAt.app{G b:Gv}{k:Nat}{c:Sc}{n i j:Nat}{q:L_}(ok:GOk G)(go:AH G b k)(h:QAt G c n i j q):QAt b c n i j q:=⟨h.a.app ok go,λx y d e m=>by rw[Ly ok go (h.a.lev _ (BB d e)) (F1 _ (AI n)) (F1 _ (AI n))];exact h.off x y d e m⟩
theorem Rs.app{G a:Gv}{k:Nat}{c:Sc}{n i j m:Nat}(ok:GOk G)(go:AH G a k)(h:Rs G c n i j m):Rs a c n i j m:=⟨go.lev h.lev,λx y b d=>by rw[Ly ok go h.lev b d];exact h.cell x y b d⟩
def wuQ(R D n:Nat)(q:L_)(k:Nat):Nat:=if R%2^n=0 then(if k%2=1 then bareN n else q k)else if D%2^n=0 then(if k/2=1 then bareN n else q k)else q k
theorem Gk{n x y:Nat}(a:x<2^(n+1))(b:y<2^(n+1)):quad n x y%2=x/2^n/\quad n x y/2=y/2^n:=by
 have c:=BT a;have d:=BT b;unfold quad;lia
theorem Np{n x:Nat}(a:x<2^(n+1)):(x/2^n=1 ↔ ¬x<2^n):=by
 have b:=BT a;have c:x/2^n=0↔x<2^n:=by rw[Nat.div_eq_zero_iff];have:=AI n;lia
 lia
theorem Ag.wu{G r:Gv}(g:G=G0++r)(ok:GOk G){c:Sc}{n i j:Nat}{q:L_}(l:n<=48)(h:Ag G c n i j q)(v:¬(c.R%2^n=0/\c.D%2^n=0)):QAt G c n i j (wuQ c.R c.D n q):=by
 have f:=DI g (n:=n) l;have m1:=λx=>F1 x (AI n);unfold wuQ;refine⟨⟨λk d=>?_,λx y a b m o=>?_⟩,λx y a b k=>?_⟩
 .split
  .split
   .exact f
   .exact h.lev k d
  .split
   .split
    .exact f
    .exact h.lev k d
   .exact h.lev k d
 .obtain⟨t,u⟩:=Gk a b;have p:=Np a;have s:=Np b;have e:(if c.R%2^n=0 then(if quad n x y%2=1 then bareN n else q (quad n x y))else if c.D%2^n=0 then(if quad n x y/2=1 then bareN n else q (quad n x y))else q (quad n x y))=q (quad n x y):=by
   unfold mk1 at m o;split
   .rw[X7 A0]
   .split
    .rw[X7 A0]
    .rfl
  rw[e];exact h.ag x y a b m o
 .obtain⟨t,u⟩:=Gk a b;have p:=Np a;have s:=Np b;have e:(if c.R%2^n=0 then(if quad n x y%2=1 then bareN n else q (quad n x y))else if c.D%2^n=0 then(if quad n x y/2=1 then bareN n else q (quad n x y))else q (quad n x y))=bareN n:=by
   unfold mk1 at k;split
   .rw[K0 A0]
   .split
    .rw[K0 A0]
    .lia
  rw[e];exact CZ g ok l (m1 x) (m1 y)
theorem Pc{R n x:Nat}(a:x<2^n):R%2^n+x<2^(n+1)/\mk1 R n (R%2^n+x):=by
 have:=F1 R (AI n);have:=Fq n;refine⟨by lia,?_⟩;unfold mk1;by_cases z:R%2^n=0
 .exact .inr A0
 .exact .inl z
theorem Ag.first{G:Gv}{c:Sc}{n i j:Nat}{q:L_}(h:Ag G c n i j q)(g:c.R%2^n=0)(k:c.D%2^n=0):Rs G c n i j (q 0):=by
 refine⟨h.lev 0 A4,λx y b d=>?_⟩;have e:=Fq n;have a:=h.ag x y A0 A0 (.inr b) (.inr d);have f:quad n x y=0:=by
  unfold quad;rw[L6 b,L6 d]
 rw[f,J8 b,J8 d]at a;rw[a,g,k];rfl
theorem QAt.see{G:Gv}{c:Sc}{n i j:Nat}{q:L_}(h:QAt G c n i j q){x y:Nat}(f:x<2^n)(g:y<2^n):c.Φ (i*2^n+c.R%2^n+x) (j*2^n+c.D%2^n+y)=Cf G n (q (quad n (c.R%2^n+x) (c.D%2^n+y))) ((c.R%2^n+x)%2^n) ((c.D%2^n+y)%2^n):=by
 obtain⟨b,d⟩:=Pc (R:=c.R) f;obtain⟨e,b2⟩:=Pc (R:=c.D) g;rw[h.a.ag _ _ b e d b2,Nat.add_assoc,Nat.add_assoc]
theorem QAt.bare{G r:Gv}(a:G=G0++r)(ok:GOk G){c:Sc}{n i j:Nat}{q:L_}(d:n<=48)(h:QAt G c n i j q)(b:∀k,k<4->q k=bareN n):Rs G c n i j (bareN n):=by
 refine⟨DI a d,λx y e f=>?_⟩;rw[h.see e f,b _ (BB (Pc e).1 (Pc f).1),CZ a ok d e f,CZ a ok d (F1 _ (AI n)) (F1 _ (AI n))]
theorem QAt.hit{G:Gv}{c:Sc}{n i j d e m:Nat}{q:L_}(h:QAt G c n i j q)(h':QAt G c n d e q)(r:Rs G c n d e m):Rs G c n i j m:=⟨r.lev,λx y a b=>by rw[r.cell x y a b,h'.see a b,h.see a b]⟩
def gq(sub:Nat->Nat->Nat)(r c:Nat):Nat:=sub (c/2+2*(r/2)) (c%2+2*(r%2))
structure Zr(G:Gv)(n:Nat)(q:L_)(sub:Nat->Nat->Nat):Prop where
nd:∀k,k<4->∃s,EF G n (q k) s (sub k 0) (sub k 1) (sub k 2) (sub k 3)
theorem sub4_of{G:Gv}(ok:GOk G){n:Nat}{q:L_}(h:∀k,k<4->Am G (q k) ((n+1:Nat):Int)):∃a,Zr G n q a:=by
 obtain⟨z,b,f,j,p,v⟩:=Bp ok (h 0 A4);obtain⟨A,c,g,l,r,w⟩:=Bp ok (h 1 A4);obtain⟨B,d,b2,m,s,x⟩:=Bp ok (h 2 A4);obtain⟨C,e,i,o,t,y⟩:=Bp ok (h 3 A4);refine⟨λk=>match k with|0=>f4 b f j p|1=>f4 c g l r|2=>f4 d b2 m s|_=>f4 e i o t,⟨λk u=>?_⟩⟩
 match k,u with
 |0,_=>exact⟨_,v⟩
 |1,_=>exact⟨_,w⟩
 |2,_=>exact⟨_,x⟩
 |3,_=>exact⟨_,y⟩
theorem Zr.lev{G:Gv}{n:Nat}{q:L_}{a:Nat->Nat->Nat}(h:Zr G n q a){k l:Nat}(d:k<4)(b:l<4):Am G (a k l) (n:Int):=by
 obtain⟨s,c⟩:=h.nd k d;have:=(c.nat b).2;rw[Lu (a k) b]at this;exact this
theorem gq_lev{G:Gv}{n:Nat}{q:L_}{a:Nat->Nat->Nat}(h:Zr G n q a){r c:Nat}(d:r<4)(b:c<4):Am G (gq a r c) (n:Int):=h.lev A0 A0
def SO(sub:Nat->Nat->Nat)(r c k:Nat):Nat:=gq sub (r+k/2) (c+k%2)
theorem GX{n x c:Nat}:(c*2^n+x)/2^n=c+x/2^n/\(c*2^n+x)%2^n=x%2^n:=by
 have p:=AI n;constructor
 .rw[U3,Nat.add_mul_div_right _ _ p,U3]
 .rw[U3,Nat.add_mul_mod_self_right]
theorem LL{n X:Nat}:X/2^(n+1)=X/2^n/2/\X%2^(n+1)/2^n=X/2^n%2:=by
 rw[F9];constructor
 .rw[Nat.div_div_eq_div_mul]
 .rw[Nat.mod_mul_right_div_self]
theorem QAt.inner{G:Gv}{c:Sc}{n i j:Nat}{q:L_}(h:QAt G c (n+1) i j q){d:Nat->Nat->Nat}(r:Zr G n q d){p:Nat}(U:p<4):Ag G c n (2*i+(c.R%2^(n+1)/2^n+p%2)) (2*j+(c.D%2^(n+1)/2^n+p/2)) (SO d (c.D%2^(n+1)/2^n+p/2) (c.R%2^(n+1)/2^n+p%2)):=by
 have e:=Fq n;have N:=Fq (n+1);have M:c.R%2^(n+1)/2^n<2:=BT (F1 _ (AI _));have W:c.D%2^(n+1)/2^n<2:=BT (F1 _ (AI _));refine⟨λk T=>gq_lev r A0 A0,λx y l t E F=>?_⟩;have f:∀{R x b:Nat},x<2^(n+1)->mk1 R n x->b<2->(R%2^(n+1)/2^n+b)*2^n+x<2^(n+2)/\mk1 R (n+1) ((R%2^(n+1)/2^n+b)*2^n+x):=λ{R x b} l k P=>by
  have O:R%2^(n+1)/2^n<2:=BT (F1 _ (AI _));have V:(R%2^(n+1)/2^n+b)*2^n<=2*2^n:=S8 _ A0;refine⟨by lia,?_⟩;by_cases z:R%2^(n+1)=0
  .refine .inr ?_;have L:R%2^n=0:=by rw[<-Ez R n,z,Nat.zero_mod]
   have B:=k.resolve_left (λq=>q L);rw[z,Nat.zero_div,M4];have:b*2^n<=1*2^n:=S8 _ A0;lia
  .exact .inl z
 obtain⟨m,v⟩:=f (b:=p%2) l E A0;obtain⟨o,w⟩:=f (b:=p/2) t F A0;have a:=h.a.ag _ _ m o v w;generalize Q:c.R%2^(n+1)/2^n+p%2=C at *
 generalize S:c.D%2^(n+1)/2^n+p/2=g at *
 obtain⟨s,u⟩:=r.nd _ (BB m o);rw[Bb u (F1 _ (AI _)) (F1 _ (AI _)),Ez,Ez,GX.2,GX.2]at a;have K:quad n ((C*2^n+x)%2^(n+1)) ((g*2^n+y)%2^(n+1))<4:=BB (F1 _ (AI _)) (F1 _ (AI _));rw[Lu _ K]at a;have A:d (quad (n+1) (C*2^n+x) (g*2^n+y)) (quad n ((C*2^n+x)%2^(n+1)) ((g*2^n+y)%2^(n+1)))=SO d g C (quad n x y):=by
  obtain⟨H,I⟩:=Gk l t;unfold SO gq;rw[H,I];congr 1
  .unfold quad;rw[LL.1,LL.1,GX.1,GX.1]
  .unfold quad;rw[LL.2,LL.2,GX.1,GX.1]
 rw[A]at a;rw[a];congr 1
 .rw[F9]
  grind
 .rw[F9]
  grind
theorem Rs.join{G:Gv}{c:Sc}{n i j m:Nat}{a:L_}(h:∀p,p<4->Rs G c n (2*i+(c.R%2^(n+1)/2^n+p%2)) (2*j+(c.D%2^(n+1)/2^n+p/2)) (a p))(f:G[m]?=some ⟨[(a 0:Int),(a 1:Int),(a 2:Int),(a 3:Int)],(n:Int)+1⟩):Rs G c (n+1) i j m:=by
 have nm:EF G n m _ (a 0) (a 1) (a 2) (a 3):=⟨f,rfl,rfl,(h 0 A4).lev,(h 1 A4).lev,(h 2 A4).lev,(h 3 A4).lev⟩
 refine⟨⟨_,f,by show(n:Int)+1=_;lia⟩,λx y b d=>?_⟩;have g:=BB b d;rw[Bb nm b d,Lu a g,(h _ g).cell _ _ (F1 _ (AI n)) (F1 _ (AI n))];obtain⟨k,l⟩:=Gk b d;rw[k,l];have e:∀(R x:Nat),R%2^(n+1)/2^n*2^n+R%2^n=R%2^(n+1):=λR x=>by
  have:=M7 (R%2^(n+1)) (2^n);rw[Ez]at this;rw[R3];exact this
 have dx:∀x:Nat,x/2^n*2^n+x%2^n=x:=λx=>by
  rw[R3];exact M7 _ _
 have o:=e c.R x;have q:=e c.D y;have r:=dx x;have s:=dx y;congr 1
 .rw[show i*2^(n+1)=2*i*2^n by rw[F9];grind,V2,V2];lia
 .rw[show j*2^(n+1)=2*j*2^n by rw[F9];grind,V2,V2];lia
theorem QAt.one{G:Gv}(ok:GOk G){c:Sc}{n i j l s:Nat}{q t:L_}(h:QAt G c n i j q)(h':QAt G c n l s t)(e:∀x y,x<2^(n+1)->y<2^(n+1)->c.Φ (i*2^n+x) (j*2^n+y)=c.Φ (l*2^n+x) (s*2^n+y)){k:Nat}(g:k<4):q k=t k:=by
 refine LP ok (h.a.lev k g) (h'.a.lev k g) λx y u v=>?_;obtain⟨d,f,o,p,r⟩:=EX g u v;by_cases m:mk1 c.R n (x+2^n*(k%2))/\mk1 c.D n (y+2^n*(k/2))
 .have a:=h.a.ag _ _ d f m.1 m.2;have b:=h'.a.ag _ _ d f m.1 m.2;rw[o,p,r]at a b;rw[a,b,e _ _ d f]
 .have a:=h.off _ _ d f m;have b:=h'.off _ _ d f m;rw[o,p,r]at a b;rw[a,b]
theorem QAt.ne{G r:Gv}(s:G=G0++r)(ok:GOk G){c:Sc}{n i j:Nat}{q:L_}(t:n<=48)(h:QAt G c n i j q){k:Nat}(f:k<4)(b:q k≠bareN n):NE c.Φ n i j:=by
 obtain⟨x,y,u,v,l⟩:=Qm s ok t (h.a.lev k f) b;obtain⟨d,e,g,o,p⟩:=EX f u v;refine⟨_,_,d,e,?_⟩;by_cases m:mk1 c.R n (x+2^n*(k%2))/\mk1 c.D n (y+2^n*(k/2))
 .have a:=h.a.ag _ _ d e m.1 m.2;rw[g,o,p]at a;rw[<-a];exact l
 .have a:=h.off _ _ d e m;rw[g,o,p]at a;exact absurd a l
seal L2.PA L2.PE L2.PS L2.PSs L2.PT L2.PW
def kQ(q:L_):List Key:=kOf [(q 0:Int),(q 1:Int),(q 2:Int),(q 3:Int)]
theorem kQ_inj{q a:L_}(e:kQ q=kQ a):∀k,k<4->q k=a k:=by
 have e:=LI e;injection e with e0 e
 injection e with e1 e
 injection e with e2 e
 injection e with e3 _
 intro k b
 match k,b with
 |0,_=>exact K2 e0
 |1,_=>exact K2 e1
 |2,_=>exact K2 e2
 |3,_=>exact K2 e3
theorem kQ_congr{q a:L_}(e:∀k,k<4->q k=a k):kQ q=kQ a:=by
 unfold kQ;rw[e 0 A4,e 1 A4,e 2 A4,e 3 A4]
structure SEnt(G:Gv)(c:Sc)(p:List Key×V)(n i j:Nat)(q:L_)(m:Nat):Prop where
e:p=(kQ q,.int m)
at':QAt G c n i j q
rs:Rs G c n i j m
nb:∃k,k<4/\q k≠bareN n
le:n<=48
structure SOk(G:Gv)(c:Sc)(kvs:List (List Key×V)):Prop where
nd:(kvs.map (·.1)).Nodup
val:∀p∈kvs,∃n i j q m,SEnt G c p n i j q m
theorem sok0(G:Gv)(c:Sc):SOk G c []:=⟨Q7,λp a=>by simp at a⟩
theorem SOk.go{G b:Gv}{k:Nat}{c:Sc}{kvs:List (List Key×V)}(ok:GOk G)(go:AH G b k)(h:SOk G c kvs):SOk b c kvs:=⟨h.nd,λp f=>by
 apply AN;intro d a;obtain⟨n,i,j,q,m,e⟩:=h.val p f;apply a;clear a d;exact⟨n,i,j,q,m,e.e,e.at'.app ok go,e.rs.app ok go,e.nb,e.le⟩⟩
theorem SOk.put{G:Gv}{c:Sc}{kvs:List (List Key×V)}{n i j m:Nat}{q:L_}(h:SOk G c kvs)(b:SEnt G c (kQ q,.int m) n i j q m)(no:Bj kvs (kQ q)=none):SOk G c (Dy kvs (kQ q) (.int m))/\(Dy kvs (kQ q) (.int m)).length=kvs.length+1:=by
 have a:=nd_putK (.int m) h.nd no;rw[IB _ no]at a⊢;refine⟨⟨a,λp d=>?_⟩,by rw[C1];rfl⟩;rcases D4.mp d with z|z
 .exact h.val p z
 .rw[C7]at z;subst z;exact⟨n,i,j,q,m,b⟩
theorem Tl{k:List Key}{v:V}:∀{l:List (List Key×V)},Bj l k=some v->(k,v)∈l
|[],h=>by cases h
|p::r,h=>by
 by_cases e:p.1=k
 .rw[BM e]at h;cases h;rw[<-e];exact C4
 .rw[BF e]at h;exact C5 _ (Tl h)
def KCo(G:Gv)(c:Sc)(k:List Key)(x:Nat):Prop:=∃n i j q,k=kQ q/\QAt G c n i j q/\(∃k,k<4/\q k≠bareN n)/\n<=48/\x=n*c.M+c.cl n i j
theorem SOk.len{G r:Gv}(B:G=G0++r)(ok:GOk G){c:Sc}(w:ScOk c){kvs:List (List Key×V)}(h:SOk G c kvs):kvs.length<=49*c.M:=by
 classical
 have:=LK (49*c.M) ((kvs.map (·.1)).map (λk=>if z:∃x,KCo G c k x then Classical.choose z else 0)) (by
  rw[O0,V3];refine A5a (λ{x y} I K D z=>D ?_) (O0.mp h.nd);obtain⟨p,E,rfl⟩:=C8.mp I;obtain⟨p',F,rfl⟩:=C8.mp K;apply AN;intro d a;obtain⟨n,i,j,q,m,e⟩:=h.val p E;obtain⟨n',i',j',v,m',t⟩:=h.val p' F;apply a;clear a d;have C:=e.e;have e2:=t.e;subst C e2;have o:∃x,KCo G c (kQ q) x:=⟨_,n,i,j,q,rfl,e.at',e.nb,e.le,rfl⟩
  have Z:∃x,KCo G c (kQ v) x:=⟨_,n',i',j',v,rfl,t.at',t.nb,t.le,rfl⟩
  have z:(if z:∃x,KCo G c (kQ q) x then Classical.choose z else 0)=(if z:∃x,KCo G c (kQ v) x then Classical.choose z else 0):=z;rw[dif_pos o,dif_pos Z]at z;apply AN;intro d a;obtain⟨b,L,N,q1,X,s,A,l,P⟩:=A6a o;obtain⟨u,U,W,q2,k2,S,b2,Y,y2⟩:=A6a Z;apply a;clear a d;rw[P,y2]at z;obtain⟨w1,f,g⟩:=A;obtain⟨w2,H,O⟩:=b2;have Q:=s.ne B ok l f g;have R:=S.ne B ok Y H O;have T:=w.lt _ _ _ l Q;have c2:=w.lt _ _ _ Y R;have en:b=u:=by
   have d1:(b*c.M+c.cl b L N)/c.M=b:=by rw[R3,Nat.mul_add_div A0,L6 T,Z6]
   have d2:(u*c.M+c.cl u U W)/c.M=u:=by rw[R3,Nat.mul_add_div A0,L6 c2,Z6]
   rw[<-d1,z,d2]
  subst en;have ec:c.cl b L N=c.cl b U W:=by lia
  show kQ q=kQ v;rw[X,k2];exact kQ_congr λk hk=>s.one ok S (w.same _ _ _ _ _ l Q R ec) hk) (λx I=>by
  obtain⟨y,K,rfl⟩:=C8.mp I;obtain⟨p,E,rfl⟩:=C8.mp K;apply AN;intro d a;obtain⟨n,i,j,q,m,e⟩:=h.val p E;apply a;clear a d;have C:=e.e;subst C;have o:∃x,KCo G c (kQ q) x:=⟨_,n,i,j,q,rfl,e.at',e.nb,e.le,rfl⟩
  show(if z:∃x,KCo G c (kQ q) x then Classical.choose z else 0)<_;rw[dif_pos o];apply AN;intro d a;obtain⟨b,L,N,q1,X,s,A,l,P⟩:=A6a o;obtain⟨w1,f,g⟩:=A;apply a;clear a d;have T:=w.lt _ _ _ l (s.ne B ok l f g);rw[P];have:b*c.M+c.M<=49*c.M:=by
   rw[<-Z3];exact S8 _ A0
  lia)
 rw[B4,B4]at this;exact this
def UnS(G:Gv)(N:Nat)(kvs kvs':List (List Key×V)):Prop:=∀(q:L_)(N':Nat),Am G (q 0) (N':Int)->N<N'->Bj kvs (kQ q)=none->Bj kvs' (kQ q)=none
theorem UnS.refl(G:Gv)(N:Nat)(kvs:List (List Key×V)):UnS G N kvs kvs:=λ_ _ _ _ h=>h
theorem UnS.trans{G d:Gv}{k N:Nat}{a b c:List (List Key×V)}(go:AH G d k)(h:UnS G N a b)(i:UnS d N b c):UnS G N a c:=λq e f g z=>i q e (go.lev f) g (h q e f g z)
section
variable{P:N_}{w:Q_}{K:O_}{mg:C_}{base:T_}{a:Ad}
def Cb(q:L_):List V:=[.int (q 0:Int),.int (q 1:Int),.int (q 2:Int),.int (q 3:Int)]
inductive SpWu(vs:List V)(H:Hp)(Q:VK):Prop
|mk (t:R_) (q:L_) (R D n:Nat) (_:vs=[.ref t,.int ((R%2^n:Nat):Int),.int ((D%2^n:Nat):Int),.int (bareN n:Int)]) (_:H t=some (.tup (Cb q))) (_:∀(t':R_)(H':Hp),Az H H'->H' t'=some (.tup (Cb (wuQ R D n q)))->Q (.ref t') H'):SpWu vs H Q
def spWu:Sp:=λvs H Q _=>SpWu vs H Q
theorem nat0{n:Nat}:decide (V.int (n:Int)=V.int 0)=decide (n=0):=by
 by_cases z:n=0
 .subst z;rw[X8 (rfl:(0:Nat)=0)];exact X8 rfl
 .rw[X9 z,X9];intro q;injection q with q
  lia
theorem ok_wu(F:Fun K "without_unseen" "without_unseen" EJ f fd)(T:Top K mg a):AL P w K mg base CX0 1 f fd NX spWu:=by
 refine F.ok MH (λvs H Q E h=>?_) (λo A l s H vs Q E r h=>?_)
 .apply AN;intro g c;obtain⟨t,q,R,D,n,rfl,_⟩:=h;apply c;clear c g;rfl
 .apply AN;intro g c;obtain⟨t,q,R,D,n,rfl,e,k⟩:=h;apply c;clear c g;refine⟨_,(Ac (AO (AA CG (pv 1) Ae (AG _)) (Ah (Av (Dz (Aa (Aj Al (pv 0) Ae R_9) (Aa (pv 3) (Aa (Aj Al (pv 0) Ae R_9) (Aa (pv 3) Ab))))))) AC) (Ac (AO (AA CG (pv 2) Ae (AG _)) (Ah (Av (Dz (Aa (Aj Al (pv 0) Ae R_9) (Aa (Aj Al (pv 0) Ae R_9) (Aa (pv 3) (Aa (pv 3) Ab))))))) AC) (Ah (Av (pv 0))))),?_⟩
  try dsimp only[cxK]
  have u:∀{m:Hp},Az H m->m t=some (.tup (Cb q)):=λs=>s _ _ e;refine xq1 rfl ⟨rfl,(xq1 rfl ?_)⟩;rw[nat0];by_cases b:R%2^n=0
  .rw[X8 b];refine BP (xwi rfl rfl rfl (SqT.of e) (Ai (j:=0) rfl) (xwj rfl rfl rfl rfl (SqT.of e) (Ai (j:=2) rfl) (xq1 rfl ⟨S_4,λp i=>k p _ (AJ i) ?_⟩)));rw[Af];show some (HO.tup [V.int (q 0:Int),V.int (bareN n:Int),V.int (q 2:Int),V.int (bareN n:Int)])=_;unfold Cb wuQ;rw[K0 b,K0 b,K0 b,K0 b];rfl
  rw[X9 b];refine Bd (xq1 rfl ⟨rfl,(xq1 rfl ?_)⟩);rw[nat0];by_cases d:D%2^n=0
  .rw[X8 d];refine BP (xwi rfl rfl rfl (SqT.of e) (Ai (j:=0) rfl) (xwi rfl rfl rfl (SqT.of e) (Ai (j:=1) rfl) (xw2 rfl rfl ⟨S_4,λp i=>k p _ (AJ i) ?_⟩)));rw[Af];show some (HO.tup [V.int (q 0:Int),V.int (q 1:Int),V.int (bareN n:Int),V.int (bareN n:Int)])=_;unfold Cb wuQ;rw[X7 b,X7 b,X7 b,X7 b,K0 d,K0 d,K0 d,K0 d];rfl
  rw[X9 d];refine Bd (xq1 rfl (k t H (Az.refl H) ?_));rw[e];unfold Cb wuQ;rw[X7 b,X7 b,X7 b,X7 b,X7 d,X7 d,X7 d,X7 d]
inductive SpRq(a:Ad)(vs:List V)(H:Hp)(Q:VK):Prop
|mk (g:GA) (G:Gv) (t:R_) (q:L_) (n:Nat) (sub:Nat->Nat->Nat) (_:vs=[.ref g.p,.ref t]) (_:AW a H g G) (_:H t=some (.tup (Cb q))) (_:Zr G n q sub) (_:∀(L r0 r1 r2 r3:R_)(H':Hp),Az H H'->H L=none->H' L=some (.lst [.ref r0,.ref r1,.ref r2,.ref r3])->H' r0=some (.tup (Cb (gq sub 0)))->H' r1=some (.tup (Cb (gq sub 1)))->H' r2=some (.tup (Cb (gq sub 2)))->H' r3=some (.tup (Cb (gq sub 3)))->Q (.ref L) H'):SpRq a vs H Q
def spRq(a:Ad):Sp:=λvs H Q _=>SpRq a vs H Q
theorem ok_rq(F:Fun K "rows_of_quarters" "rows_of_quarters" DR f fd)(T:Top K mg a):AL P w K mg base CX0 1 f fd Cz (spRq a):=by
 refine F.ok BV (λvs H Q E h=>?_) (λab A V s H vs Q E hr h=>?_)
 .apply AN;intro u b;obtain⟨g,G,t,q,n,c,rfl,_⟩:=h;apply b;clear b u;rfl
 .apply AN;intro u b;obtain⟨g,G,t,q,n,c,rfl,p,R,O,k⟩:=h;apply b;clear b u;refine⟨_,(Ac (Aq (i:=2) BV.nd rfl O_9 (Aj Ay (AB (pv 0) rfl) (Aj Al (pv 1) Ae R_9) R_9)) (Ac (Aq (i:=3) BV.nd rfl O_9 (Aj Ay (AB (pv 0) rfl) (Aj Al (pv 1) Ae R_9) R_9)) (Ac (Aq (i:=4) BV.nd rfl O_9 (Aj Ay (AB (pv 0) rfl) (Aj Al (pv 1) Ae R_9) R_9)) (Ac (Aq (i:=5) BV.nd rfl O_9 (Aj Ay (AB (pv 0) rfl) (Aj Al (pv 1) Ae R_9) R_9)) (Ah (Av (Ce (Bm (Aa (Aj Al (pv 2) Ae R_9) (Aa (Aj Al (pv 2) Ae R_9) (Aa (Aj Al (pv 3) Ae R_9) (Aa (Aj Al (pv 3) Ae R_9) Ab)))) (Bm (Aa (Aj Al (pv 2) Ae R_9) (Aa (Aj Al (pv 2) Ae R_9) (Aa (Aj Al (pv 3) Ae R_9) (Aa (Aj Al (pv 3) Ae R_9) Ab)))) (Bm (Aa (Aj Al (pv 4) Ae R_9) (Aa (Aj Al (pv 4) Ae R_9) (Aa (Aj Al (pv 5) Ae R_9) (Aa (Aj Al (pv 5) Ae R_9) Ab)))) (Bm (Aa (Aj Al (pv 4) Ae R_9) (Aa (Aj Al (pv 4) Ae R_9) (Aa (Aj Al (pv 5) Ae R_9) (Aa (Aj Al (pv 5) Ae R_9) Ab)))) Ab))))))))))),?_⟩
  try dsimp only[cxK]
  obtain⟨s0,n0⟩:=O.nd 0 A4;obtain⟨s1,n1⟩:=O.nd 1 A4;obtain⟨s2,n2⟩:=O.nd 2 A4;obtain⟨s3,n3⟩:=O.nd 3 A4;apply AN;intro u b;obtain⟨ts,ta,h3,ea,D⟩:=DL p.at' n0;obtain⟨ac,tb,S,eb,I⟩:=DL p.at' n1;obtain⟨aa,tc,v,ec,M⟩:=DL p.at' n2;obtain⟨X,td,r,ed,N⟩:=DL p.at' n3;apply b;clear b u;refine xwf rfl rfl p.at'.hp T.cl_Grove T.na_Grove_parts (BY g) (xwi rfl rfl rfl (SqT.of R) (Ai (j:=0) rfl) (xq4 rfl rfl (SqL.of h3) (Ai ea) ?_));refine xwf rfl rfl p.at'.hp T.cl_Grove T.na_Grove_parts (BY g) (xwi rfl rfl rfl (SqT.of R) (Ai (j:=1) rfl) (xq4 rfl rfl (SqL.of S) (Ai eb) ?_));refine xwf rfl rfl p.at'.hp T.cl_Grove T.na_Grove_parts (BY g) (xwi rfl rfl rfl (SqT.of R) (Ai (j:=2) rfl) (xq4 rfl rfl (SqL.of v) (Ai ec) ?_));refine xwf rfl rfl p.at'.hp T.cl_Grove T.na_Grove_parts (BY g) (xwi rfl rfl rfl (SqT.of R) (Ai (j:=3) rfl) (xq4 rfl rfl (SqL.of r) (Ai ed) ?_));have d:=Az.refl H;refine xwi rfl rfl rfl (SqT.of (d _ _ D)) (Ai (j:=0) rfl) (xwi rfl rfl rfl (SqT.of (d _ _ D)) (Ai (j:=1) rfl) (xwi rfl rfl rfl (SqT.of (d _ _ I)) (Ai (j:=0) rfl) (xwi rfl rfl rfl (SqT.of (d _ _ I)) (Ai (j:=1) rfl) ⟨S_4,λZ U=>?_⟩)));have e:=d.trans (AJ (o:=.tup (Cb (gq c 0))) U);refine xwi rfl rfl rfl (SqT.of (e _ _ D)) (Ai (j:=2) rfl) (xwi rfl rfl rfl (SqT.of (e _ _ D)) (Ai (j:=3) rfl) (xwi rfl rfl rfl (SqT.of (e _ _ I)) (Ai (j:=2) rfl) (xwi rfl rfl rfl (SqT.of (e _ _ I)) (Ai (j:=3) rfl) ⟨S_4,λp1 x=>?_⟩)));have l:=e.trans (AJ (o:=.tup (Cb (gq c 1))) x);refine xwi rfl rfl rfl (SqT.of (l _ _ M)) (Ai (j:=0) rfl) (xwi rfl rfl rfl (SqT.of (l _ _ M)) (Ai (j:=1) rfl) (xwi rfl rfl rfl (SqT.of (l _ _ N)) (Ai (j:=0) rfl) (xwi rfl rfl rfl (SqT.of (l _ _ N)) (Ai (j:=1) rfl) ⟨S_4,λp2 y=>?_⟩)));have m:=l.trans (AJ (o:=.tup (Cb (gq c 2))) y);refine xwi rfl rfl rfl (SqT.of (m _ _ M)) (Ai (j:=2) rfl) (xwi rfl rfl rfl (SqT.of (m _ _ M)) (Ai (j:=3) rfl) (xwi rfl rfl rfl (SqT.of (m _ _ N)) (Ai (j:=2) rfl) (xwi rfl rfl rfl (SqT.of (m _ _ N)) (Ai (j:=3) rfl) ⟨S_4,λp3 z=>?_⟩)));have B:=m.trans (AJ (o:=.tup (Cb (gq c 3))) z);refine⟨S_4,λL Y=>?_⟩;have t0:=AJ (o:=.tup (Cb (gq c 1))) x;have t1:=AJ (o:=.tup (Cb (gq c 2))) y;have W:=AJ (o:=.tup (Cb (gq c 3))) z;have C:=AJ (o:=.lst [.ref Z,.ref p1,.ref p2,.ref p3]) Y;exact k L Z p1 p2 p3 _ (B.trans C) (Az.noneOf B Y) Af (C _ _ (W _ _ (t1 _ _ (t0 _ _ Af)))) (C _ _ (W _ _ (t1 _ _ Af))) (C _ _ (W _ _ Af)) (C _ _ Af)
end
theorem OU(q:L_){k:Nat}(a:k<4):(Cb q)[k]?=some (.int (q k:Int)):=by
 match k,a with
 |0,_=>rfl
 |1,_=>rfl
 |2,_=>rfl
 |3,_=>rfl
section
variable{P:N_}{w:Q_}{K:O_}{mg:C_}{base:T_}{a:Ad}
inductive SpSa(a:Ad)(n:Nat)(vs:List V)(H:Hp)(Q:VK):Prop
|mk (g:GA) (G:Gv) (c:Sc) (kn tf:R_) (kvs:List (List Key×V)) (q:L_) (i j N:Nat) (_:vs=[.ref g.p,.ref tf,.int ((c.R%2^N:Nat):Int),.int ((c.D%2^N:Nat):Int),.ref kn]) (_:AW a H g G) (_:H kn=some (.dT kvs)) (_:kn∉DB g) (_:H tf=some (.tup (Cb q))) (_:Ag G c N i j q) (_:SOk G c kvs) (_:ScOk c) (_:N<n) (_:N<=47) (_:G.length+49*c.M<8000000+kvs.length/\49*c.M<4000000) (_:∀(m:Nat)(G':Gv)(kvs':List (List Key×V))(H':Hp),Fx (frM g kn) H H'->AW a H' g G'->H' kn=some (.dT kvs')->SOk G' c kvs'->kvs.length<=kvs'.length->AH G G' (kvs'.length-kvs.length)->UnS G N kvs kvs'->Rs G' c N i j m->Q (.int m) H'):SpSa a n vs H Q
def ZM(a:Ad)(n:Nat):Sp:=λvs H Q _=>SpSa a n vs H Q
inductive SpSq(a:Ad)(n:Nat)(vs:List V)(H:Hp)(Q:VK):Prop
|mk (g:GA) (G:Gv) (c:Sc) (kn tf:R_) (kvs:List (List Key×V)) (q:L_) (i j N:Nat) (_:vs=[.ref g.p,.ref tf,.int ((c.R%2^(N+1):Nat):Int),.int ((c.D%2^(N+1):Nat):Int),.ref kn]) (_:AW a H g G) (_:H kn=some (.dT kvs)) (_:kn∉DB g) (_:H tf=some (.tup (Cb q))) (_:QAt G c (N+1) i j q) (_:SOk G c kvs) (_:ScOk c) (_:N<n) (_:N<=46) (_:G.length+49*c.M<8000000+kvs.length/\49*c.M<4000000) (_:∀(m:Nat)(G':Gv)(kvs':List (List Key×V))(H':Hp),Fx (frM g kn) H H'->AW a H' g G'->H' kn=some (.dT kvs')->SOk G' c kvs'->kvs.length<=kvs'.length->AH G G' (kvs'.length-kvs.length+1)->UnS G N kvs kvs'->Rs G' c (N+1) i j m->Q (.int m) H'):SpSq a n vs H Q
def spSq(a:Ad)(n:Nat):Sp:=λvs H Q _=>SpSq a n vs H Q
theorem ok_sq{n d:Nat}(hd:2<=d)(F:Fun K "seen_quarters" "seen_quarters" DK f fd)(T:Top K mg a)(aJ:Cal P w K mg base CX0 1 "rows_of_quarters" Cz (spRq a))(a6:Ca P w K mg base CX0 2 a.c_Grove "linked" AU (DQ a))(cA:Cal P w K mg base CX0 d "seen_at" FV (ZM a n)):AL P w K mg base CX0 (d+1) f fd FV (spSq a n):=by
 refine F.ok Bu (λvs H Q E h=>?_) (λbp A bi s H vs Q E hr h=>?_)
 .apply AN;intro G_ u;obtain⟨g,G,c,X,tf,kvs,q,i,j,N,rfl,_⟩:=h;apply u;clear u G_;rfl
 .apply AN;intro G_ u;obtain⟨g,G,c,X,tf,kvs,q,i,j,N,rfl,W,hk,nk,az,qa,bj,sc,Nn,a5,⟨few,au⟩,k⟩:=h;apply u;clear u G_;refine⟨_,(Ac (Aq (i:=5) Bu.nd rfl O_9 (AF NU Ae (AF Cv (Aj Ay (AB (pv 0) rfl) (Aj Al (pv 1) Ae R_9) R_9) Ae))) (Ac (Aq (i:=6) Bu.nd rfl O_9 (As aJ (rm hr) rfl Ao (Aa (pv 0) (Aa (pv 1) Ab)))) (Ac (Aq (i:=7) Bu.nd rfl O_9 (Ce Ab)) (Ac (CK K7 rfl (CU rfl T.b_range (AV Ab)) (BD (i:=8) Bu.nd rfl O_9) (Ac (Aq (i:=9) Bu.nd rfl O_9 (AF AQ (AF Na (pv 2) (pv 5)) (AF Bq (pv 8) Ae))) (Ac (Aq (i:=10) Bu.nd rfl O_9 (AF AQ (AF Na (pv 3) (pv 5)) (AF Ey (pv 8) Ae))) (Ac (Aq (i:=11) Bu.nd rfl O_9 (Dz (Aa (Aj Al (Aj Ay (pv 6) (pv 10) R_9) (pv 9) R_9) (Aa (Aj Al (Aj Ay (pv 6) (pv 10) R_9) (AF AQ (pv 9) Ae) R_9) (Aa (Aj Al (Aj Ay (pv 6) (AF AQ (pv 10) Ae) R_9) (pv 9) R_9) (Aa (Aj Al (Aj Ay (pv 6) (AF AQ (pv 10) Ae) R_9) (AF AQ (pv 9) Ae) R_9) Ab)))))) (Ah (BW (CQ K8 A0a A0b Cc (pv 7) (Aa (As cA (rm hr) rfl Ao (Aa (pv 0) (Aa (pv 11) (Bn Bq (pv 2) (pv 5) (Bn Bq (pv 3) (pv 5) (Aa (pv 4) Ab)))))) Ab)))))))) (Ah (Av (AK (pv 0) a6 (rm hr) Ao (Aa (Bw BE rfl T.b_tuple A0f (Aa (pv 7) Ab)) Ab)))))))),?_⟩
  try dsimp only[cxK]
  obtain⟨b,hs⟩:=sub4_of W.ok qa.a.lev;obtain⟨q0,a7,af⟩:=id (qa.a.lev 0 A4);have bb:(1:Int)*2^(q0.lev-1).toNat=((2^N:Nat):Int):=by
   rw[af,show(((N+1:Nat):Int)-1).toNat=N by lia,Int.one_mul,DE]
  refine xwf rfl rfl W.at'.hp T.cl_Grove T.na_Grove_levels (EC g) (xwi rfl rfl rfl (SqT.of az) (Ai (j:=0) rfl) (xq4 rfl rfl (SqL.of W.at'.lv) (Ai (by rw[B6,a7];rfl)) (xq2 rfl rfl (xq2 rfl rfl ⟨⟨by rw[af];lia,by rw[af];lia,by decide⟩,?_⟩))));rw[show(λ(i j:Int)=>V.int (i*2^j.toNat)) 1 ((λ(i j:Int)=>i-j) q0.lev 1)=V.int ((2^N:Nat):Int)from A0g V.int bb];refine xw2 rfl rfl ⟨g,G,tf,q,N,b,rfl,W,az,hs,λL r0 r1 r2 r3 H2 s2 nL hL h0 h1 h2 h3=>?_⟩;refine⟨S_0,λI ab=>?_⟩;have s3:=AJ (o:=.lst []) ab;have aw:upd H2 I (.lst []) I=some (.lst []):=Af;show(Yw _ _) _ _ (upd H2 I (.lst []));generalize upd H2 I (.lst [])=H3 at s3 aw⊢;have al:=s2.trans s3;have ak:H I=none:=Az.noneOf s2 ab;have ae:∀{r:Nat},r<4->∃x,[V.ref r0,V.ref r1,V.ref r2,V.ref r3][r]?=some (.ref x)/\H3 x=some (.tup (Cb (gq b r))):=λ{r} hr=>by
   match r,hr with
   |0,_=>exact⟨r0,rfl,s3 _ _ h0⟩
   |1,_=>exact⟨r1,rfl,s3 _ _ h1⟩
   |2,_=>exact⟨r2,rfl,s3 _ _ h2⟩
   |3,_=>exact⟨r3,rfl,s3 _ _ h3⟩
  have ba:=s3 _ _ hL;have a8:=W.same al;have bd:=al _ _ hk;have Z:I∉DB g:=λz=>by
   obtain⟨oo,e⟩:=(W.same s2).nw.s I z;rw[ab]at e;cases e
  have a0:I≠X:=λz=>by
   rw[z,hk]at ak;cases ak
  have mF:I∉frM g X:=λz=>by
   simp only[frM,B7,D3,A0c]at z;rcases z with z|z|z|z
   .exact Z (by rw[z];simp[DB])
   .exact Z (by rw[z];simp[DB])
   .exact Z (by rw[z];simp[DB])
   .exact a0 z
  have LF:L∉I::frM g X:=λz=>by
   rcases B7.mp z with z|z
   .rw[z]at hL;rw[ab]at hL;cases hL
   .simp only[frM,B7,D3,A0c]at z;have ex:∃o,H L=some o:=by
     rcases z with z|z|z|z
     .exact W.nw.s L (by rw[z];simp[DB])
     .exact W.nw.s L (by rw[z];simp[DB])
     .exact W.nw.s L (by rw[z];simp[DB])
     .exact⟨_,by rw[z];exact hk⟩
    obtain⟨o,e⟩:=ex;rw[nL]at e;cases e
  clear h0 h1 h2 h3 hL s2 s3;have c2:c.R%2^(N+1)/2^N<2:=BT (F1 _ (AI _));have d2:c.D%2^(N+1)/2^N<2:=BT (F1 _ (AI _));have pN:0<2^N:=AI N;have pI:(0:Int)<((2^N:Nat):Int):=by lia
  have a3:((2^N:Nat):Int)<2^64:=by
   have:2^N<=2^46:=N9 A4 a5;lia
  have aq:∀R:Nat,((R%2^(N+1):Nat):Int)%((2^N:Nat):Int)=((R%2^N:Nat):Int):=λR=>by rw[<-Int.natCast_emod,Ez]
  refine⟨4,rfl,by decide,by decide,?_⟩;refine Dv (n:=4) (λp σ H4=>∃(G4:Gv)(l:List (List Key×V))(B:L_)(u8 u9 am an:Option V),σ=[some (.ref g.p),some (.ref tf),some (.int ((c.R%2^(N+1):Nat):Int)),some (.int ((c.D%2^(N+1):Nat):Int)),some (.ref X),some (.int ((2^N:Nat):Int)),some (.ref L),some (.ref I),u8,u9,am,an]/\Fx (I::frM g X) H3 H4/\H4 I=some (.lst ((List.range p).map λx=>V.int (B x:Nat)))/\AW a H4 g G4/\H4 X=some (.dT l)/\SOk G4 c l/\kvs.length<=l.length/\AH G G4 (l.length-kvs.length)/\UnS G N kvs l/\∀x,x<p->Rs G4 c N (2*i+(c.R%2^(N+1)/2^N+x%2)) (2*j+(c.D%2^(N+1)/2^N+x/2)) (B x)) ⟨G,kvs,λ_=>0,none,none,none,none,rfl,Fx.refl _ H3,aw,a8,bd,bj,B8 _,(AH.refl W.ok).mono A0,UnS.refl _ _ _,λx hx=>absurd hx (L9 _)⟩ ?_ ?_
  .rintro p σ H4 hp bo;apply AN;intro G_ u;obtain⟨G4,l,B,u8,u9,am,an,rfl,x4,aj,t,ai,U,a2,M,ao,S⟩:=bo;apply u;clear u G_;have eC:((c.R%2^(N+1):Nat):Int)/((2^N:Nat):Int)+(0+(p:Int))%2=((c.R%2^(N+1)/2^N+p%2:Nat):Int):=by rw[<-S6];lia
   have eD:((c.D%2^(N+1):Nat):Int)/((2^N:Nat):Int)+(0+(p:Int))/2=((c.D%2^(N+1)/2^N+p/2:Nat):Int):=by rw[<-S6];lia
   have ag:=(qa.inner hs hp).app W.ok M;have C2:c.R%2^(N+1)/2^N+p%2<3:=by lia
   have D2:c.D%2^(N+1)/2^N+p/2<3:=by lia
   refine xw2 rfl rfl (xq2 rfl rfl ⟨⟨pI,a3⟩,(xwb rfl rfl rfl ⟨(by show(0:Int)<2;decide),(xq2 rfl rfl ?_)⟩)⟩);rw[show(λ(i j:Int)=>V.int (i+j)) (((c.R%2^(N+1):Nat):Int)/((2^N:Nat):Int)) ((0+(p:Int))%2)=V.int ((c.R%2^(N+1)/2^N+p%2:Nat):Int)from A0g V.int eC];refine xw2 rfl rfl (xq2 rfl rfl ⟨⟨pI,a3⟩,(xwb rfl rfl rfl ⟨⟨by decide,by decide⟩,(xq2 rfl rfl ?_)⟩)⟩);rw[show(λ(i j:Int)=>V.int (i+j)) (((c.D%2^(N+1):Nat):Int)/((2^N:Nat):Int)) ((0+(p:Int))/2)=V.int ((c.D%2^(N+1)/2^N+p/2:Nat):Int)from A0g V.int eD];generalize hC:c.R%2^(N+1)/2^N+p%2=C at ag C2⊢;generalize a9:c.D%2^(N+1)/2^N+p/2=v at ag D2⊢;obtain⟨y0,ar,ac⟩:=ae (r:=v) A0;obtain⟨y1,as,ad⟩:=ae (r:=v+1) A0;have aa:=x4.get LF ba;have ac:=x4.tup ac;have ad:=x4.tup ad;have b0:=OU (gq b v) (k:=C) A0;have b1:=OU (gq b v) (k:=C+1) A0;have b2:=OU (gq b (v+1)) (k:=C) A0;have b3:=OU (gq b (v+1)) (k:=C+1) A0;refine xwj rfl rfl rfl rfl (SqL.of aa) (Ai ar) (xwi rfl rfl rfl (SqT.of ac) (Ai b0) ?_);refine xwj rfl rfl rfl rfl (SqL.of aa) (Ai ar) (xwb rfl rfl rfl (xq4 rfl rfl (SqT.of ac) (Ai b1) ?_));refine xw2 rfl rfl (xq2 rfl rfl (xq4 rfl rfl (SqL.of aa) (Ai as) (xwi rfl rfl rfl (SqT.of ad) (Ai b2) ?_)));refine xw2 rfl rfl (xq2 rfl rfl (xq4 rfl rfl (SqL.of aa) (Ai as) (xwb rfl rfl rfl (xq4 rfl rfl (SqT.of ad) (Ai b3) ?_))));refine⟨S_4,λqp bf=>?_⟩;have Y:=AJ (o:=.tup (Cb (SO b v C))) bf;have h5:upd H4 qp (.tup (Cb (SO b v C))) qp=some (.tup (Cb (SO b v C))):=Af;obtain⟨H5,e5⟩:∃H5,upd H4 qp (.tup (Cb (SO b v C)))=H5:=⟨_,rfl⟩
   have et:[V.int (gq b v C:Int),V.int (gq b v (C+1):Int),V.int (gq b (v+1) C:Int),V.int (gq b (v+1) (C+1):Int)]=Cb (SO b v C):=rfl;rw[et,e5];rw[e5]at Y h5;clear e5 et;have x5:=x4.trans (Az.fx Y);have ax:=Y _ _ aj;have g4:=M.few;refine xq1 rfl ⟨.inl ⟨rfl,_,SqL.of ax⟩,(xw3 rfl rfl rfl (xwb rfl rfl rfl ⟨pI,(xw2 rfl rfl (xq2 rfl rfl ⟨pI,(xq1 rfl ?_)⟩))⟩))⟩;refine⟨g,G4,c,X,qp,l,SO b v C,2*i+C,2*j+v,N,?_,t.same Y,Y _ _ ai,nk,h5,ag,U,sc,Nn,by lia,⟨by lia,au⟩,λm G6 a1 H6 x6 ah be a4 bq O bl bh=>?_⟩
   .show [V.ref g.p,V.ref qp,V.int (((c.R%2^(N+1):Nat):Int)%((2^N:Nat):Int)),V.int (((c.D%2^(N+1):Nat):Int)%((2^N:Nat):Int)),V.ref X]=_;rw[aq,aq]
   have ay:=x6.get mF ax;refine⟨I,_,.int m,rfl,rfl,ay,by rw[B4,M9];exact FG A0,?_⟩;have x7:=fx_up (o':=.lst (((List.range p).map λx=>V.int (B x:Nat))++[.int m])) ay (λz=>z);refine⟨G6,a1,λx=>if x=p then m else B x,_,_,_,_,rfl,(x5.trans (x6.mono (by simp[frM]))).trans (x7.mono A6),?_,ah.fx x7 (λy hy z=>Z (by rw[C7]at z;rw[<-z];exact hy)),x7.get (by simpa using K3 a0) be,a4,by lia,(M.trans O).mono A0,ao.trans M bl,λx hx=>?_⟩
   .rw[Af,S2,C3];congr 3
    .exact T6 λx hx=>by
      show V.int (B x:Nat)=V.int ((if x=p then m else B x:Nat):Int);rw[X7 (by have:=L7.mp hx;lia)]
    .show [V.int m]=[V.int ((if p=p then m else B p:Nat):Int)]
     rw[K0 rfl]
   .dsimp only;by_cases z:x=p
    .subst z;rw[K0 rfl,hC,a9];exact bh
    .rw[X7 z];exact(S x A0).app t.ok O
  .rintro σ H4 bn;apply AN;intro G_ u;obtain⟨G4,l,B,u8,u9,am,an,rfl,x4,aj,t,ai,U,a2,M,ao,S⟩:=bn;apply u;clear u G_;have g4:=M.few;obtain⟨r4,e4⟩:=t.g0;have l4:=U.len e4 t.ok sc;refine xq1 rfl ⟨g.p,g.dx,(xq1 rfl ⟨t.at'.hp,BJ g,(xq1 rfl ⟨I,(xq1 rfl (.inl ⟨SqL.of aj,λtl bg=>?_⟩))⟩)⟩)⟩;have Y:=AJ (o:=.tup [.int (B 0:Nat),.int (B 1:Nat),.int (B 2:Nat),.int (B 3:Nat)]) bg;refine⟨g,G4,tl,B 0,B 1,B 2,B 3,(N:Int),rfl,t.at'.same Y,t.ok,Af,⟨(S 0 A4).lev,(S 1 A4).lev,(S 2 A4).lev,(S 3 A4).lev⟩,by lia,by lia,λm G6 H6 av bc O e6=>?_⟩;have x6:=av.fx (t.at'.same Y);have ah:=(t.same Y).fr av bc O;have bm:Fx (I::frM g X) H3 H6:=(x4.trans (Az.fx Y)).trans (x6.mono (by simp[frM]));have kf:X∉[g.lv,g.pt,g.nm]:=λz=>nk (by simp[DB]at *;lia);exact k m G6 l H6 (Fx.fresh al bm ak) ah (x6.get kf (Y _ _ ai)) (U.go t.ok O) a2 (M.trans O) ao (Rs.join (λx hx=>(S x hx).app t.ok O) e6)
theorem ok_saS{n d:Nat}(F:Fun K "seen_at" "seen_at" LD f fd)(T:Top K mg a)(hd:1<=d)(aP:Cal P w K mg base CX0 1 "without_unseen" NX spWu)(dE:Cal P w K mg base CX0 d "seen_quarters" FV (spSq a n)):AL P w K mg base CX0 (d+1) f fd FV (ZM a (n+1)):=by
 refine F.ok EI (λvs H Q E h=>?_) (λaz A av s H vs Q E hr h=>?_)
 .apply AN;intro S b;obtain⟨g,G,c,kn,tf,kvs,q,i,j,N,rfl,_⟩:=h;apply b;clear b S;rfl
 .apply AN;intro S b;obtain⟨g,G,c,kn,tf,kvs,q,i,j,N,rfl,u,hk,nk,ac,ag,ad,sc,Nn,ay,few,k⟩:=h;apply b;clear b S;refine⟨_,(Ac (AO (PW.pt (Mt (AA CG (pv 2) Ae (AG _)) (Jg (AA CG (pv 3) Ae (AG _))))) (Ah (Av (Aj Al (pv 1) Ae R_9))) AC) (Ac (Aq (i:=5) EI.nd rfl O_9 (Aj Ay (AB (pv 0) rfl) (Aj Ay (AB (pv 0) rfl) (Aj Al (pv 1) Ae R_9) R_9) R_9)) (Ac (Aq (i:=6) EI.nd rfl O_9 (As aP (rm hr) rfl Ao (Aa (pv 1) (Aa (pv 2) (Aa (pv 3) (Aa (pv 5) Ab)))))) (Ac (AO (AA (YH hr.units) (pv 6) (Dz (Aa (pv 5) (Aa (pv 5) (Aa (pv 5) (Aa (pv 5) Ab))))) (AG _)) (Ah (Av (pv 5))) AC) (Ac (Aq (i:=7) EI.nd rfl O_9 (IE (EB hr) (pv 4) (pv 6) ⟨rfl,rfl,rfl,rfl⟩)) (Ac (AO (AA GB (pv 7) Db (AG _)) (Ac (Aq (i:=7) EI.nd rfl O_9 (As dE (rm hr) rfl Ao (Aa (pv 0) (Aa (pv 6) (Aa (pv 2) (Aa (pv 3) (Aa (pv 4) Ab))))))) (Ah (FM (EB hr) (pv 4) (pv 6) (pv 7) rfl))) AC) (Ah (Av (pv 7))))))))),?_⟩
  try dsimp only[cxK]
  obtain⟨r0,e0⟩:=u.g0;have r:∀{m:Nat}{U:Hp},Az H U->Rs G c N i j m->Q (.int m) U:=λ{m U} s' mx=>k m G kvs U (Az.fx s') (u.same s') (s' _ _ hk) ad (B8 _) ((AH.refl u.ok).mono A0) (UnS.refl _ _ _) mx;refine xq1 rfl ⟨rfl,(xq1 rfl ?_)⟩;rw[nat0];apply meetH (fun σ U=>H=U/\σ=[some (.ref g.p),some (.ref tf),some (.int ((c.R%2^N:Nat):Int)),some (.int ((c.D%2^N:Nat):Int)),some (.ref kn),none,none,none]/\¬(c.R%2^N=0/\c.D%2^N=0))
  .intro L;by_cases z1:c.R%2^N=0
   .rw[X8 z1];refine BP (xq1 rfl ⟨rfl,(xq1 rfl ?_)⟩);rw[nat0];by_cases z2:c.D%2^N=0
    .rw[X8 z2];exact BP (xwi rfl rfl rfl (SqT.of ac) (Ai (j:=0) rfl) (r (Az.refl H) (ag.first z1 z2)))
    .rw[X9 z2];exact Bd (L _ _ ⟨rfl,rfl,λz=>z2 z.2⟩)
   .rw[X9 z1];exact Bd (Bd (L _ _ ⟨rfl,rfl,λz=>z1 z.1⟩))
  rintro σ U ⟨rfl,rfl,nz⟩;have C:=ag.wu e0 u.ok A0 nz;obtain⟨q0,aq,an⟩:=id (ag.lev 0 A4);refine⟨_,rfl,g.p,_,g.dx,_,_,rfl,u.at'.hp,T.cl_Grove,T.na_Grove_bares,GF g,_,rfl,g.p,_,g.dx,_,_,rfl,u.at'.hp,T.cl_Grove,T.na_Grove_levels,EC g,_,rfl,tf,_,0,.int (q 0:Int),rfl,rfl,SqT.of ac,Ai (j:=0) rfl,g.lv,_,(q 0:Int),.int q0.lev,rfl,rfl,SqL.of u.at'.lv,Ai (by rw[B6,aq];rfl),g.br,_,(N:Int),.int (bareN N:Int),rfl,by rw[an],SqL.of u.br,Ai (bareL_at' A0),?_⟩;refine xw3 rfl rfl rfl (xq1 rfl ⟨tf,q,c.R,c.D,N,rfl,ac,λt' H1 s1 af=>?_⟩);generalize wuQ c.R c.D N q=l at C af;refine xw3 rfl rfl rfl (xw2 rfl rfl ⟨S_4,λtb ah=>?_⟩);have s2:=AJ (o:=.tup [.int (bareN N:Int),.int (bareN N:Int),.int (bareN N:Int),.int (bareN N:Int)]) ah;have Z:upd H1 tb (.tup [.int (bareN N:Int),.int (bareN N:Int),.int (bareN N:Int),.int (bareN N:Int)]) tb=some (.tup (Cb λ_=>bareN N)):=Af;show ∃_,_;generalize upd H1 tb (.tup [.int (bareN N:Int),.int (bareN N:Int),.int (bareN N:Int),.int (bareN N:Int)])=H2 at s2 Z⊢;have B:=s1.trans s2;have ab:=s2 _ _ af;have tq:∀q:Nat->Nat,Cb q=([(q 0:Int),(q 1:Int),(q 2:Int),(q 3:Int)]:I_).map V.int:=λq=>rfl;refine⟨t',tb,[(l 0:Int),(l 1:Int),(l 2:Int),(l 3:Int)],[(bareN N:Int),(bareN N:Int),(bareN N:Int),(bareN N:Int)],rfl,rfl,SqT.of (by rw[<-tq];exact ab),SqT.of Z,(xq1 rfl (JI (λz=>?_) (λz=>?_)))⟩
  .have z:=A0d z;apply AN;intro S b;obtain⟨z0,z1,z2,z3⟩:=cast4' z;apply b;clear b S;refine xq1 rfl (r B (C.bare e0 u.ok A0 λk hk=>?_))
   match k,hk with
   |0,_=>exact z0
   |1,_=>exact z1
   |2,_=>exact z2
   |3,_=>exact z3
  have nb:∃k,k<4/\l k≠bareN N:=K5 λy=>z (X8 (by
   have y:∀k,k<4->l k=bareN N:=λk hk=>K5 λw=>y ⟨k,hk,w⟩;rw[y 0 A4,y 1 A4,y 2 A4,y 3 A4]))
  clear Z z ah;have aa:=B _ _ hk;have ar:=u.same B;have ai:H2 t'=some (.tup ((kQ l).map kV)):=ab;refine xq1 rfl ⟨kn,rfl,.inr ⟨kvs,.inl aa⟩,(xq1 rfl ⟨_,IM.t aa ai,?_⟩)⟩;cases ev:Bj kvs (kQ l)with
  |some v =>
   apply AN;intro S b;obtain⟨n',i',j',a2,m,en⟩:=ad.val _ (Tl ev);apply b;clear b S;have e2:=en.e;injection e2 with e2 e3
   subst e3;have W:=kQ_inj e2;have ao:n'=N:=K2 ((en.at'.a.lev 0 A4).uniq (by rw[<-W 0 A4];exact C.a.lev 0 A4));subst ao;have aw:QAt G c n' i' j' l:=⟨⟨C.a.lev,λx y hx hy m1 m2=>by rw[W _ (BB hx hy)];exact en.at'.a.ag x y hx hy m1 m2⟩,λx y hx hy m1=>by rw[W _ (BB hx hy)];exact en.at'.off x y hx hy m1⟩
   exact xq1 rfl ⟨rfl,(xq1 rfl (Bd (xq1 rfl (r B (C.hit aw en.rs)))))⟩
  |none =>
   refine xq1 rfl ⟨rfl,(xq1 rfl (BP ?_))⟩;obtain⟨M,rfl⟩:∃M,N=M+1:=by
    cases N with
    |zero=>exact absurd ⟨Nat.mod_one _,Nat.mod_one _⟩ nz
    |succ M=>exact⟨M,rfl⟩
   refine xw3 rfl rfl rfl (xw2 rfl rfl ?_);refine⟨g,G,c,kn,t',kvs,l,i,j,M,rfl,ar,aa,nk,ab,C,ad,sc,by lia,by lia,few,λm G3 I H3 x3 X ae O a1 Y am ak=>?_⟩;have g3:=Y.few;obtain⟨r3,e3⟩:=X.g0;have l3:=O.len e3 X.ok sc;have au:Bj I (kQ l)=none:=am l (M+1) (C.a.lev 0 A4) A0 ev;have aj:H3 t'=some (.tup ((kQ l).map kV)):=x3.tup ai;refine xw3 rfl rfl rfl ⟨kn,(xq1 rfl ⟨LX.t (k:=kQ l) ae aj (FG A0),?_⟩)⟩;obtain⟨al,ax⟩:=O.put ⟨rfl,C.app u.ok Y,ak,nb,by lia⟩ au;have x4:=fx_up (o':=.dT (Dy I (kQ l) (.int m))) ae (λz=>z);have as:=X.fx x4 (λy hy z=>nk (by rw[C7]at z;rw[<-z];exact hy));refine xq1 rfl (k m G3 _ _ (((Az.fx B).trans x3).trans (x4.mono (by simp[frM]))) as Af al A0 (Y.mono A0) ?_ ak);intro q9 N' hN a0 z;rw[Fl,X7]
   .exact am q9 N' hN A0 z
   .intro y;have:=kQ_inj y 0 A4;rw[this]at hN;have:=K2 (hN.uniq (C.a.lev 0 A4));lia
theorem ok_sa{f:R_}{m:E_}{r:R_}{e:E_}(F:Fun K "seen_at" "seen_at" LD f m)(o:Fun K "seen_quarters" "seen_quarters" DK r e)(T:Top K mg a)(B:mg "seen_at" = some (.ref f))(v:CF K m FV [])(l:mg "seen_quarters" = some (.ref r))(k:CF K e FV [])(z:Cal P w K mg base CX0 1 "without_unseen" NX spWu)(y:Cal P w K mg base CX0 1 "rows_of_quarters" Cz (spRq a))(x:Ca P w K mg base CX0 2 a.c_Grove "linked" AU (DQ a)):∀n,AL P w K mg base CX0 (2*n+2) f m FV (ZM a n)
|0=>by
 refine F.ok EI (λvs H Q E h=>?_) (λC A u s H vs Q E L h=>?_)
 .apply AN;intro p b;obtain⟨g,G,c,D,I,kvs,q,i,j,N,rfl,_,_,_,_,_,_,_,t,_⟩:=h;apply b;clear b p;exact absurd t (L9 _)
 .apply AN;intro p b;obtain⟨g,G,c,D,I,kvs,q,i,j,N,rfl,_,_,_,_,_,_,_,t,_⟩:=h;apply b;clear b p;exact absurd t (L9 _)
|n+1=>ok_saS F T A0 z ⟨r,e,ok_sq (d:=2*n+2) A0 o T y x ⟨f,m,ok_sa F o T B v l k z y x n,B,F.kp,v⟩,l,o.kp,k⟩
end
def frA(g:GA):List Addr:=[g.lv,g.pt,g.nm,g.am,g.bx]
theorem Om{G:Gv}{n f:Nat}{x y:Int}(h:¬(-(2^n)<=x/\x<2^n/\-(2^n)<=y/\y<2^n)):fieldF G n f x y=0:=X7 h
def Fu(N px py w k:Nat):Nat:=if k=px+2*py then w else bareN N
theorem four_ag{G r:Gv}(j:G=G0++r)(ok:GOk G){n w a b M R D:Nat}{cl:Nat->Nat->Nat->Nat}(E:n<=46)(F:a<2)(H:b<2)(B:Am G w ((n+1:Nat):Int)){φ:D_}(e:∀u v,fieldF G n w u v=φ u v):Ag G ⟨λx y=>φ ((x:Int)-(a*2^(n+1)+2^n)) ((y:Int)-(b*2^(n+1)+2^n)),R,D,M,cl⟩ (n+1) 0 0 (Fu (n+1) a b w):=by
 have ps:=Fq n;have I:=AI n;have f:=DE n;have d:=DE (n+1);refine⟨λk C=>?_,λx y o p _ _=>?_⟩
 .unfold Fu;split
  .exact B
  .exact DI j A0
 obtain⟨K,L⟩:=Gk o p;have l:=BT o;have m:=BT p;have m1:=F1 x (AI (n+1));have m2:=F1 y (AI (n+1));have g:=M7 x (2^(n+1));have i:=M7 y (2^(n+1));show _=φ (((0*2^(n+1)+x:Nat):Int)-(a*2^(n+1)+2^n)) (((0*2^(n+1)+y:Nat):Int)-(b*2^(n+1)+2^n));rw[Nat.zero_mul,M4,M4,<-e];by_cases z:x/2^(n+1)=a/\y/2^(n+1)=b
 .have eq:Fu (n+1) a b w (quad (n+1) x y)=w:=by
   unfold Fu;rw[K0 A0]
  rw[eq];rw[z.1]at g;rw[z.2]at i;have t:(x:Int)-(a*2^(n+1)+2^n)=((x%2^(n+1):Nat):Int)-2^n:=by
   have:(x:Int)=((2^(n+1)*a+x%2^(n+1):Nat):Int):=by rw[g]
   rw[this,N3,N8,d];rw[Int.mul_comm ((2:Int)^(n+1))];lia
  have A:(y:Int)-(b*2^(n+1)+2^n)=((y%2^(n+1):Nat):Int)-2^n:=by
   have:(y:Int)=((2^(n+1)*b+y%2^(n+1):Nat):Int):=by rw[i]
   rw[this,N3,N8,d];rw[Int.mul_comm ((2:Int)^(n+1))];lia
  rw[t,A];generalize x%2^(n+1)=X at m1;generalize y%2^(n+1)=Y at m2;unfold fieldF;rw[K0 (by rw[<-f];lia)];congr 1
  .lia
  .lia
 .have eq:Fu (n+1) a b w (quad (n+1) x y)=bareN (n+1):=by
   unfold Fu;rw[X7 A0]
  rw[eq,CZ j ok A0 m1 m2];refine(Om ?_).symm;have c:∀{x a:Nat},x/2^(n+1)≠a->¬(-(2^n)<=(x:Int)-(a*2^(n+1)+2^n)/\(x:Int)-(a*2^(n+1)+2^n)<2^n):=λ{x a} ne h=>ne (by
   rw[<-f,<-d]at h;have l:a*2^(n+1)<=x:=by
    have:((a*2^(n+1):Nat):Int)<=x:=by rw[N8];lia
    lia
   have m:x<(a+1)*2^(n+1):=by
    have:(x:Int)<((a*2^(n+1)+2^(n+1):Nat):Int):=by rw[N3,N8];lia
    rw[V2,Nat.one_mul];lia
   exact Nat.div_eq_of_lt_le l m)
  intro h;by_cases s:x/2^(n+1)=a
  .exact c (λq=>z ⟨s,q⟩) ⟨h.2.2.1,h.2.2.2⟩
  .exact c s ⟨h.1,h.2.1⟩
section
variable{P:N_}{w:Q_}{K:O_}{mg:C_}{base:T_}{a:Ad}
theorem ixN_nat{n j:Nat}(h:j<n):ixN n (j:Int)=some j:=by
 unfold ixN;rw[K0 A0,K0 A0,J7]
theorem We{σ:St}{i:Nat}{dx c:Int}{H:Hp}{Q:VK}(h:σ[i]?=some (some (.int dx)))(q:Q (.int (if 0<dx then c else 0)) H):tIf (ZF (tOp (rI0 λi j=>V.bl (decide (j<i))) (GZ i) (tC (V.int 0)))) (tC (V.int c)) (tC (V.int 0)) σ H Q:=by
 refine⟨_,h,(xq2 rfl rfl (xq1 rfl ?_))⟩;by_cases z:0<dx
 .rw[K0 z]at q;rw[X8 z];exact BP q
 .rw[X7 z]at q;rw[X9 z];exact Bd q
theorem TC{n:Nat}{dx l w:Int}(d:-(2^n)<=l)(f:l<2^n)(g:-(2^n)<=l+dx)(h:l+dx<2^n):∃(b R:Nat),b<2/\(if 0<dx then(1:Int)else 0)=b/\R<2^(n+1)/\-dx%(2*2^n)=(R:Int)/\(R:Int)-b*2^(n+1)=-dx:=by
 have e:=Ci n;have c:=DE (n+1);by_cases z:0<dx
 .refine⟨1,(2^(n+1)-dx).toNat,by decide,K0 z,by lia,?_,by lia⟩;rw[show -dx=(2^(n+1)-dx)+(2*2^n)*(-1) by lia,Int.add_mul_emod_self_left,Int.emod_eq_of_lt A0 A0];lia
 .refine⟨0,(-dx).toNat,by decide,X7 z,by lia,?_,by lia⟩;rw[Int.emod_eq_of_lt A0 A0];lia
def Tgt(G:Gv)(n f:Nat)(dx dy:Int)(li:Prop):Prop:=∀b,BZ G (n+1) f=some b->(GL ((mvB (2^n) b).l+dx) ((mvB (2^n) b).t+dy) (mvB (2^n) b).w (mvB (2^n) b).h (2^40)↔li)
inductive SpMv(a:Ad)(vs:List V)(H:Hp)(Q:VK):Prop
|mk (g:GA) (G:Gv) (f n M:Nat) (dx dy:Int) (φ:D_) (_:vs=[.ref g.p,.int f,.int dx,.int dy]) (_:AW a H g G) (_:Fd G n f) (_:∀u v,fieldF G n f u v=φ u v) (_:Tgt G n f dx dy True) (_:∀(ax ay:Int)(R D:Nat),∃cl,ScOk ⟨λx y=>φ ((x:Int)-ax) ((y:Int)-ay),R,D,M,cl⟩) (_:49*M<1000000) (_:G.length<6000000) (_:∀(r m:Nat)(G':Gv)(H':Hp),Fx (frA g) H H'->AW a H' g G'->AH G G' (49*M+700)->Fd G' m r->(∀u v,fieldF G' m r u v=φ (u-dx) (v-dy))->Q (.int r) H'):SpMv a vs H Q
def spMv(a:Ad):Sp:=λvs H Q _=>SpMv a vs H Q
theorem ok_mv(F:Fun K "moved_by" "moved_by" Mj f fd)(T:Top K mg a)(cB:Cal P w K mg base CX0 102 "box_of" Vr (OR a))(a9:Cal P w K mg base CX0 1 "shifted_box" QN LC)(aA:Cal P w K mg base CX0 1 "lies_within" QP Re)(aT:Cal P w K mg base CX0 5 "widened_over" Et (spWO a))(aB:Cal P w K mg base CX0 4 "reach_of" Vr (IO a))(a7:Ca P w K mg base CX0 3 a.c_Grove "level_of" Lp (MF a))(aR:Cal P w K mg base CX0 4 "trimmed" LG (NC a))(cA:Cal P w K mg base CX0 102 "seen_at" FV (ZM a 50)):AL P w K mg base CX0 103 f fd Mv (spMv a):=by
 refine F.ok Df D_9 λbh A be s H vs Q E hr h=>?_
 obtain⟨g,G,f',n,M,dx,O,φ,rfl,fu,I,ef,aw,a6,M1,few,k⟩:=h;refine⟨_,(Ac (Aq (i:=4) Df.nd rfl O_9 (As cB (rm hr) rfl Ao (Aa (pv 0) (Aa (pv 1) Ab)))) (Ac (AO (AA GB (pv 4) Db (AG _)) (Ah (Av (pv 1))) AC) (Ac (Aq (i:=5) Df.nd rfl O_9 (As a9 (rm hr) rfl Ao (Aa (pv 4) (Aa (pv 2) (Aa (pv 3) Ab))))) (Ac (AO (Er (DT (As aA (rm hr) rfl Ao (Aa (pv 5) (Aa (BX rfl T.k_LIMIT) Ab))))) (Ah Bl) AC) (Ac (Aq (i:=6) Df.nd rfl O_9 (As aT (rm hr) rfl Ao (Aa (pv 0) (Aa (pv 1) (Aa (pv 5) Ab))))) (Ac (Aq (i:=7) Df.nd rfl O_9 (AF EW Ae (As aB (rm hr) rfl Ao (Aa (pv 0) (Aa (pv 6) Ab))))) (Ac (Aq (i:=8) Df.nd rfl O_9 (Aj Ay (AB (pv 0) rfl) (AK (pv 0) a7 (rm hr) Ao (Aa (pv 6) Ab)) R_9)) (Ac (Aq (i:=9) Df.nd rfl O_9 (Ce (Aa (pv 8) (Aa (pv 8) (Aa (pv 8) (Aa (pv 8) Ab)))))) (Ac (ps_asg (pv 6) (pg_sub (pv 9) (AF AQ (Ub (AA Ri (pv 2) Ae (AG _)) Ae Ae) (Ub (AA Ri (pv 3) Ae (AG _)) Ae Ae)) TD)) (Ah (Av (As aR (rm hr) rfl Ao (Aa (pv 0) (Aa (As cA (rm hr) rfl Ao (Aa (pv 0) (Aa (Bw BE rfl T.b_tuple A0f (Aa (pv 9) Ab)) (Bn Bq (JX FY (pv 2)) (pv 7) (Bn Bq (JX FY (pv 3)) (pv 7) (Aa MW Ab)))))) Ab)))))))))))))),?_⟩
 try dsimp only[cxK]
 have bd:=I.le;refine xw2 rfl rfl ⟨g,G,f',n,rfl,fu,I.lev,by lia,by lia,λbn H1 X Y=>?_,λb hb t H1 X Y ht=>?_⟩
 .refine xq1 rfl ⟨rfl,(xq1 rfl (BP (xq1 rfl ?_)))⟩;have z:=λu v=>Vo fu.ok I.lev bn u v;exact k f' n G H1 ((X.fx fu).mono (by simp[frA])) Y ((AH.refl fu.ok).mono A0) I λu v=>by rw[z u v,<-ef,z]
 have tg:=(aw b hb).mpr trivial;have ti:=JL fu.ok I.lev hb;generalize mvB (2^n) b=d at tg ti ht;refine xq1 rfl ⟨rfl,(xq1 rfl (Bd ?_))⟩;refine xw3 rfl rfl rfl ⟨t,d,dx,O,rfl,ht,λt2 am=>?_⟩;have s2:=AJ (o:=.tup [.int (d.l+dx),.int (d.t+O),.int d.w,.int d.h]) am;have h2:upd H1 t2 (.tup [.int (d.l+dx),.int (d.t+O),.int d.w,.int d.h]) t2=some (.tup [.int (d.l+dx),.int (d.t+O),.int d.w,.int d.h]):=Af;show(Yw _ _) _ _ _;generalize upd H1 t2 (.tup [.int (d.l+dx),.int (d.t+O),.int d.w,.int d.h])=H2 at s2 h2⊢;have ac:=Y.same s2;refine xq1 rfl ⟨t2,d.l+dx,d.t+O,d.w,d.h,2^40,rfl,h2,(xq1 rfl ?_)⟩;rw[X8 tg];refine Bd (xw3 rfl rfl rfl ⟨g,G,f',n,t2,_,_,_,_,rfl,ac,I.lev,bd,h2,tg,by lia,λj N G3 H3 ai q ae nk wi lw ba _=>?_⟩);have g3:=ae.few;obtain⟨r3,e3⟩:=q.g0;have ew:∀u v,fieldF G3 (n+j) N u v=φ u v:=λu v=>by rw[IN e3 q.ok A0 wi,Ec fu.ok ae I.lev,ef]
 have U:LA (λu v=>φ u v≠0) d:=ti.congr λu v=>by rw[ef]
 have x3:Fx (frA g) H H3:=(((X.fx fu).mono (by simp[frA])).trans (Az.fx s2)).trans ((ai.fx ac.at').mono (by simp[frA]));have bm:j<=40:=by lia
 generalize n+j=c at *
 clear wi ac h2 ai s2 am Y X ht ti aw;obtain⟨qw,a2,ay⟩:=id lw;refine xw2 rfl rfl ⟨g,G3,N,c,rfl,q.at',lw,by lia,(xq2 rfl rfl ⟨.inl ⟨by decide,by decide⟩,?_⟩)⟩;refine xwf rfl rfl q.at'.hp T.cl_Grove T.na_Grove_bares (GF g) (xq1 rfl ⟨g.p,g.dx,(xq1 rfl ⟨q.at'.hp,DY g,(xq1 rfl ⟨g,G3,N,qw,rfl,q.at',a2,g.br,_,((c+1:Nat):Int),.int (bareN (c+1):Int),rfl,by rw[ay],SqL.of q.br,Ai (bareL_at' A0),?_⟩)⟩)⟩);refine xw3 rfl rfl rfl (xq1 rfl ⟨S_4,λL hL=>?_⟩);have s4:=AJ (o:=.lst (Cb λ_=>bareN (c+1))) hL;have a5:upd H3 L (.lst (Cb λ_=>bareN (c+1))) L=some (.lst (Cb λ_=>bareN (c+1))):=Af;have pn:=OW c;have e2:=Ci c;have an:∀{u v:Int},φ u v≠0->-(2^c)<=u/\u<2^c/\-(2^c)<=v/\v<2^c:=λ{u v} z=>K5 λy=>z (by rw[<-ew];exact Om y);obtain⟨vl,hl⟩:=U.le;obtain⟨ut,hu⟩:=U.to;have il:=an hl;have it:=an hu;have bl:=U.inn _ _ hl;have bt:=U.inn _ _ hu;have bc:=ba;unfold GL at bc;obtain⟨C,R,aq,a0,R1,eR,sR⟩:=TC (n:=c) (dx:=dx) (l:=d.l) (w:=d.w) il.1 il.2.1 A0 A0;obtain⟨B,D,ar,a1,D1,eD,sD⟩:=TC (n:=c) (dx:=O) (l:=d.t) (w:=d.h) it.2.2.1 it.2.2.2 A0 A0;have ah:(if 0<O then(2:Int)else 0)=2*B:=by
  rw[<-a1];split<;>rfl
 refine xw2 rfl rfl (We rfl (We rfl ?_));rw[a0,ah];have au:(Cb λ_=>bareN (c+1)).set (C+2*B) (.int N)=Cb (Fu (c+1) C B N):=by
  unfold Cb Fu
  match C,aq,B,ar with
  |0,_,0,_=>rfl
  |1,_,0,_=>rfl
  |0,_,1,_=>rfl
  |1,_,1,_=>rfl
 refine xq2 rfl rfl ⟨L,Cb λ_=>bareN (c+1),((C+2*B:Nat):Int),C+2*B,rfl,A0g V.int A0,a5,ixN_nat (by show C+2*B<4;lia),?_⟩;rw[au];have s5:Az H3 (upd (upd H3 L (.lst (Cb λ_=>bareN (c+1)))) L (.lst (Cb (Fu (c+1) C B N)))):=λb o e=>by rw[Ax (Aw e hL)];exact s4 _ _ e
 have ak:upd (upd H3 L (.lst (Cb λ_=>bareN (c+1)))) L (.lst (Cb (Fu (c+1) C B N))) L=some (.lst (Cb (Fu (c+1) C B N))):=Af;obtain⟨H5,e5⟩:∃H5,upd (upd H3 L (.lst (Cb λ_=>bareN (c+1)))) L (.lst (Cb (Fu (c+1) C B N)))=H5:=⟨_,rfl⟩
 have et:[V.int (bareN (c+1):Int),V.int (bareN (c+1):Int),V.int (bareN (c+1):Int),V.int (bareN (c+1):Int)]=Cb λ_=>bareN (c+1):=rfl;rw[et,e5];rw[e5]at s5 ak;clear e5 et;refine xw3 rfl rfl rfl ⟨L,(xq1 rfl (.inl ⟨SqL.of ak,λtf a8=>?_⟩))⟩;have s6:=s5.trans (AJ (o:=.tup (Cb (Fu (c+1) C B N))) a8);have h6:upd H5 tf (.tup (Cb (Fu (c+1) C B N))) tf=some (.tup (Cb (Fu (c+1) C B N))):=Af;generalize upd H5 tf (.tup (Cb (Fu (c+1) C B N)))=H6 at s6 h6⊢;have sz:(0:Int)<2*2^c:=by lia
 refine xw3 rfl rfl rfl (xq2 rfl rfl ⟨sz,(xw3 rfl rfl rfl (xq2 rfl rfl ⟨sz,λW af=>?_⟩))⟩);have s7:=s6.trans (AJ (o:=.dT []) af);have h7:=AJ (o:=.dT []) af _ _ h6;have al:upd H6 W (.dT []) W=some (.dT []):=Af;generalize upd H6 W (.dT [])=H7 at s7 h7 al⊢;have a4:=q.same s7;have ao:H3 W=none:=Az.noneOf s6 af;have kg:W∉DB g:=λz=>by
  obtain⟨o1,e1⟩:=q.nw.s W z;rw[ao]at e1;cases e1
 obtain⟨cl,as⟩:=a6 (C*2^(c+1)+2^c) (B*2^(c+1)+2^c) R D;have ag:=four_ag (R:=R) (D:=D) (M:=M) (cl:=cl) e3 q.ok A0 aq ar lw ew;refine⟨g,G3,_,W,tf,[],Fu (c+1) C B N,0,0,c+1,?_,a4,al,kg,h7,ag,sok0 _ _,as,by lia,by lia,⟨by show G3.length+49*M<8000000+0;lia,by show 49*M<4000000;lia⟩,λm G8 ab H8 x8 S bi av bo aj bp aa=>?_⟩
 .show [V.ref g.p,V.ref tf,V.int (-dx%(2*2^c)),V.int (-O%(2*2^c)),V.ref W]=[V.ref g.p,V.ref tf,V.int ((R%2^(c+1):Nat):Int),V.int ((D%2^(c+1):Nat):Int),V.ref W]
  rw[eR,eD,J8 R1,J8 D1]
 obtain⟨r8,e8⟩:=S.g0;have l8:=av.len e8 S.ok as;have l8:ab.length<=49*M:=l8;have g8:=aj.few;have g8:G8.length<=G3.length+(ab.length-0):=g8;have ax:∀u v,fieldF G8 c m u v=φ (u-dx) (v-O):=λu v=>by
  by_cases z:-(2^c)<=u/\u<2^c/\-(2^c)<=v/\v<2^c
  .unfold fieldF;rw[K0 z,aa.cell _ _ (Dw z.1 z.2.1) (Dw z.2.2.1 z.2.2.2)];show φ (((0*2^(c+1)+R%2^(c+1)+(u+2^c).toNat:Nat):Int)-(C*2^(c+1)+2^c)) (((0*2^(c+1)+D%2^(c+1)+(v+2^c).toNat:Nat):Int)-(B*2^(c+1)+2^c))=_;rw[J8 R1,J8 D1,Nat.zero_mul,M4,M4];congr 1
   .rw[N3,N7 A0];lia
   .rw[N3,N7 A0];lia
  .rw[Om z];refine(K5 λy=>?_:φ (u-dx) (v-O)=0).symm;have:=U.inn _ _ y;exact z ⟨by lia,by lia,by lia,by lia⟩
 refine⟨g,G8,m,c,rfl,S,aa.lev,by lia,λr G9 H9 a3 ad Z bg=>?_⟩;have g9:=Z.few;obtain⟨r9,e9⟩:=ad.g0;obtain⟨m9,bj,bb,bf,az⟩:=FZ e9 ad.ok A0 (Z.lev aa.lev) bg;have x9:Fx (frA g) H H9:=(x3.trans ((Fx.fresh s7 (x8.mono (m:=[W,g.lv,g.pt,g.nm]) (by intro x hx;simp only[frM,B7,D3,A0c]at hx⊢;rcases hx with h|h|h|h<;>simp[h])) ao).mono (by simp[frA]))).trans ((a3.fx S.at').mono (by simp[frA]));exact k r m9 G9 H9 x9 ad (((ae.trans aj).trans Z).mono (by simp only[P8]at *;lia)) ⟨bb,bf,by lia⟩ λu v=>by rw[az,Ec S.ok Z aa.lev,ax]
end
end J
namespace J
open PySem L2
def tlO(o:J_)(ar:I_):List Int:=o.map λk=>ar.getD k 0
theorem Of{α:Type}(d:α):∀(n:Nat)(xs:List α),xs.length=n->(List.range n).map (λk=>xs.getD k d)=xs:=by
 intro n xs h;refine List.ext_getElem? λi=>?_;rw[B6];by_cases a:i<n
 .rw[O6 a,C0 (by omega)];show some (xs.getD i d)=_;rw[C6,C0 (by omega)];rfl
 .rw[O1 (by rw[M9];omega),O1 (by omega)];rfl
theorem all_perm{α:Type}{p:α->Bool}{l m:List α}(h:l.Perm m):l.all p=m.all p:=by
 rw[Q0,P3,P3];exact⟨λz x a=>z x (h.mem_iff.mpr a),λz x a=>z x (h.mem_iff.mp a)⟩
theorem Zf{o:J_}(b:o.Perm (List.range 8)){d:Bc}(g:d.ok){ar:I_}(c:ar.length=8):(Si o d).holds (tlO o ar)=d.holds ar:=by
 cases d with
 |am s ns =>
  have e:(tlO o ar).Perm ar:=by
   have h:=b.map λk=>ar.getD k 0;rw[Of 0 8 ar c]at h;exact h
  show(ns.any λn=>decide (n=(((tlO o ar).countP (· == s):Nat):Int)))=ns.any λn=>decide (n=((ar.countP (· == s):Nat):Int));rw[e.countP_eq]
 |pl a =>
  show((TQ o a).zip (tlO o ar)).all (λp=>Ct p.1 p.2)=(a.zip ar).all λp=>Ct p.1 p.2;have e:(TQ o a).zip (tlO o ar)=o.map λk=>(a.getD k none,ar.getD k 0):=by unfold TQ tlO;rw[List.zip_map']
  have f:a.zip ar=(List.range 8).map λk=>(a.getD k none,ar.getD k 0):=by
   conv=>lhs;rw[<-Of none 8 a g.1,<-Of 0 8 ar c]
   rw[List.zip_map']
  rw[e,f];exact all_perm (b.map _)
theorem fits_reo{o:J_}(g:o.Perm (List.range 8)){c:AT}(b:c.ok){ar:I_}(i:ar.length=8)(x:Int):(reoC o c).fits x (tlO o ar)=c.fits x ar:=by
 show(Ct c.cell x && (c.conds.map (Si o)).all (Bc.holds (tlO o ar)))=(Ct c.cell x && c.conds.all (Bc.holds ar))
 congr 1;rw[Z9];have a:=b.conds;generalize c.conds=cs at a;induction cs with
 |nil=>rfl
 |cons d r h =>
  rw[Z0,Z0,h λe f=>a e (C5 _ f)];show((Si o d).holds (tlO o ar) && _)=_;rw[Zf g (a d C4) i]
theorem Ta{o:J_}(d:o.Perm (List.range 8)){r:AD}(a:∀c∈r,c.ok){ar:I_}(g:ar.length=8)(x:Int):Cs (EE o r) x (tlO o ar)=Cs r x ar:=by
 induction r with
 |nil=>rfl
 |cons c r f =>
  have i:=f λe b=>a e (C5 _ b);unfold Cs at i⊢;show(match List.find? (AT.fits x (tlO o ar)) (reoC o c::EE o r)with|none=>x|some c=>c.makes)=_;rw[O5,O5,fits_reo d (a c C4) g];cases c.fits x ar with
  |true=>rfl
  |false=>exact i
theorem UV:IA.Perm (List.range 8):=by decide
theorem VA:II.Perm (List.range 8):=by decide
def tnF(φ:D_):Int->Int->Nat:=λx y=>φ (-1-y) x
def mrF(φ:D_):Int->Int->Nat:=λx y=>φ (-1-x) y
def mvF(dx dy:Int)(φ:D_):Int->Int->Nat:=λx y=>φ (x-dx) (y-dy)
theorem sF_tn{r:AD}(a:∀c∈r,c.ok)(φ:D_):sF (EE IA r) (tnF φ)=tnF (sF r φ):=by
 funext x y
 show(Cs (EE IA r) ((φ (-1-y) x:Nat):Int) [((φ (-1-(y-1)) (x-1):Nat):Int),((φ (-1-(y-1)) x:Nat):Int),((φ (-1-(y-1)) (x+1):Nat):Int),((φ (-1-y) (x-1):Nat):Int),((φ (-1-y) (x+1):Nat):Int),((φ (-1-(y+1)) (x-1):Nat):Int),((φ (-1-(y+1)) x:Nat):Int),((φ (-1-(y+1)) (x+1):Nat):Int)]).toNat=(Cs r ((φ (-1-y) x:Nat):Int) [((φ ((-1-y)-1) (x-1):Nat):Int),((φ (-1-y) (x-1):Nat):Int),((φ ((-1-y)+1) (x-1):Nat):Int),((φ ((-1-y)-1) x:Nat):Int),((φ ((-1-y)+1) x:Nat):Int),((φ ((-1-y)-1) (x+1):Nat):Int),((φ (-1-y) (x+1):Nat):Int),((φ ((-1-y)+1) (x+1):Nat):Int)]).toNat;rw[<-Ta UV a (by rfl) _];have e:[((φ (-1-(y-1)) (x-1):Nat):Int),((φ (-1-(y-1)) x:Nat):Int),((φ (-1-(y-1)) (x+1):Nat):Int),((φ (-1-y) (x-1):Nat):Int),((φ (-1-y) (x+1):Nat):Int),((φ (-1-(y+1)) (x-1):Nat):Int),((φ (-1-(y+1)) x:Nat):Int),((φ (-1-(y+1)) (x+1):Nat):Int)]=[((φ ((-1-y)+1) (x-1):Nat):Int),((φ ((-1-y)+1) x:Nat):Int),((φ ((-1-y)+1) (x+1):Nat):Int),((φ (-1-y) (x-1):Nat):Int),((φ (-1-y) (x+1):Nat):Int),((φ ((-1-y)-1) (x-1):Nat):Int),((φ ((-1-y)-1) x:Nat):Int),((φ ((-1-y)-1) (x+1):Nat):Int)]:=by rw[show -1-(y-1)=-1-y+1 by lia,show -1-(y+1)=-1-y-1 by lia]
 rw[e];rfl
theorem sF_mr{r:AD}(a:∀c∈r,c.ok)(φ:D_):sF (EE II r) (mrF φ)=mrF (sF r φ):=by
 funext x y
 show(Cs (EE II r) ((φ (-1-x) y:Nat):Int) [((φ (-1-(x-1)) (y-1):Nat):Int),((φ (-1-x) (y-1):Nat):Int),((φ (-1-(x+1)) (y-1):Nat):Int),((φ (-1-(x-1)) y:Nat):Int),((φ (-1-(x+1)) y:Nat):Int),((φ (-1-(x-1)) (y+1):Nat):Int),((φ (-1-x) (y+1):Nat):Int),((φ (-1-(x+1)) (y+1):Nat):Int)]).toNat=(Cs r ((φ (-1-x) y:Nat):Int) [((φ ((-1-x)-1) (y-1):Nat):Int),((φ (-1-x) (y-1):Nat):Int),((φ ((-1-x)+1) (y-1):Nat):Int),((φ ((-1-x)-1) y:Nat):Int),((φ ((-1-x)+1) y:Nat):Int),((φ ((-1-x)-1) (y+1):Nat):Int),((φ (-1-x) (y+1):Nat):Int),((φ ((-1-x)+1) (y+1):Nat):Int)]).toNat;rw[<-Ta VA a (by rfl) _];have e:[((φ (-1-(x-1)) (y-1):Nat):Int),((φ (-1-x) (y-1):Nat):Int),((φ (-1-(x+1)) (y-1):Nat):Int),((φ (-1-(x-1)) y:Nat):Int),((φ (-1-(x+1)) y:Nat):Int),((φ (-1-(x-1)) (y+1):Nat):Int),((φ (-1-x) (y+1):Nat):Int),((φ (-1-(x+1)) (y+1):Nat):Int)]=[((φ ((-1-x)+1) (y-1):Nat):Int),((φ (-1-x) (y-1):Nat):Int),((φ ((-1-x)-1) (y-1):Nat):Int),((φ ((-1-x)+1) y:Nat):Int),((φ ((-1-x)-1) y:Nat):Int),((φ ((-1-x)+1) (y+1):Nat):Int),((φ (-1-x) (y+1):Nat):Int),((φ ((-1-x)-1) (y+1):Nat):Int)]:=by rw[show -1-(x-1)=-1-x+1 by lia,show -1-(x+1)=-1-x-1 by lia]
 rw[e];rfl
theorem sFN_tn{r:AD}(a:∀c∈r,c.ok)(φ:D_):∀n,sFN (EE IA r) n (tnF φ)=tnF (sFN r n φ)
|0=>rfl
|n+1=>by
 show sF _ (sFN _ n _)=tnF (sF r (sFN r n φ));rw[sFN_tn a φ n,sF_tn a]
theorem sFN_mr{r:AD}(a:∀c∈r,c.ok)(φ:D_):∀n,sFN (EE II r) n (mrF φ)=mrF (sFN r n φ)
|0=>rfl
|n+1=>by
 show sF _ (sFN _ n _)=mrF (sF r (sFN r n φ));rw[sFN_mr a φ n,sF_mr a]
theorem sFN_mv{r:AD}(dx a:Int)(φ:D_)(n:Nat):sFN r n (mvF dx a φ)=mvF dx a (sFN r n φ):=by
 funext x y
 unfold mvF;rw[Sh r (φ:=λx y=>φ (x-dx) (y-a)) (ψ:=φ) (X:=-dx) (Y:=-a) n x y λu v _ _ _ _=>by rw[<-U6,<-U6],<-U6,<-U6]
def bsL:List Nat:=(List.range 49).map bareN
theorem VU{j:Nat}(h:j<=48):bareN j∈bsL:=C8.mpr ⟨j,L7.mpr A0,rfl⟩
theorem bsL_len:bsL.length=49:=by unfold bsL;rw[B4,M9]
theorem VR{G r:Gv}(b:G=G0++r):Clo G bsL:=λo c=>by
 obtain⟨i,a,rfl⟩:=C8.mp c;have a:=L7.mp a;cases i with
 |zero=>exact .inl A4
 |succ i =>
  obtain⟨q,d⟩:=RL b (n:=i) A0;have m:=VU (j:=i) A0;exact .inr ⟨i,q,_,_,_,_,d,m,m,m,m⟩
theorem Clo.sup{G:Gv}{S e:J_}(h:Clo G S)(o:Nat)(f:o∈S)(s:∀x∈S,x∈e):o<8\/∃(n:Nat)(q:Sq)(a b c d:Nat),EF G n o q a b c d/\a∈e/\b∈e/\c∈e/\d∈e:=by
 rcases h o f with z|⟨n,q,a,b,c,d,j,m1,m2,g,i⟩
 .exact .inl z
 .exact .inr ⟨n,q,a,b,c,d,j,s _ m1,s _ m2,s _ g,s _ i⟩
def cq(n k:Nat)(cs:List (Nat×Nat)):List (Nat×Nat):=(cs.filter λp=>quad n p.1 p.2==k).map λp=>(p.1%2^n,p.2%2^n)
theorem cq_len(n:Nat):∀cs:List (Nat×Nat),(cq n 0 cs).length+(cq n 1 cs).length+(cq n 2 cs).length+(cq n 3 cs).length<=cs.length
|[]=>B8 _
|p::cs=>by
 have a:=cq_len n cs;have t:∀k,(cq n k (p::cs)).length=(if quad n p.1 p.2=k then 1 else 0)+(cq n k cs).length:=λk=>by
  unfold cq;rw[List.filter_cons];by_cases z:quad n p.1 p.2=k
  .rw[K0 (by rw[z];exact A4e k),K0 z,F4,D6];lia
  .rw[X7 (by simpa using z),X7 z];lia
 rw[t,t,t,t,D6];generalize quad n p.1 p.2=q;rcases(show q=0\/q=1\/q=2\/q=3\/4<=q by lia)with e|e|e|e|e
 .subst e;simp;lia
 .subst e;simp;lia
 .subst e;simp;lia
 .subst e;simp;lia
 .rw[X7 A0,X7 A0,X7 A0,X7 A0];lia
theorem WZ{G r:Gv}(D:G=G0++r)(ok:GOk G):∀(n:Nat),n<=48->∀{i:Nat}(cs:List (Nat×Nat)),Am G i (n:Int)->(∀x y,x<2^n->y<2^n->Cf G n i x y≠0->(x,y)∈cs)->∃T:List Nat,i∈bsL++T/\Clo G (bsL++T)/\T.length<=(n+1)*cs.length
|0,_,i,cs,l,h=>by
 by_cases z:i=0
 .exact⟨[],by rw[z,P9];exact VU (j:=0) A4,by rw[P9];exact VR D,L8 _⟩
 .have m:=h 0 0 A4 A4 z;have:=List.length_pos_of_mem m;refine⟨[i],D4.mpr (.inr (C7.mpr rfl)),λo f=>?_,by rw[P6];lia⟩;rcases D4.mp f with f|f
  .exact(VR D).sup o f λx g=>D4.mpr (.inl g)
  .rw[C7.mp f];exact .inl (leaf_of ok l)
|n+1,hn,i,cs,l,h=>by
 by_cases z:i=bareN (n+1)
 .exact⟨[],by rw[z,P9];exact VU hn,by rw[P9];exact VR D,L8 _⟩
 .obtain⟨x,y,g,hy,hl⟩:=Qm D ok hn l z;have cp:=List.length_pos_of_mem (h x y g hy hl);obtain⟨q,a,b,c,d,H⟩:=Bp ok l;have p:=AI n;have e:=Fq n;have s:∀k,k<4->∃T:List Nat,f4 a b c d k∈bsL++T/\Clo G (bsL++T)/\T.length<=(n+1)*(cq n k cs).length:=λk Z=>by
   refine WZ D ok n A0 (cq n k cs) (H.nat Z).2 λu v L M w=>?_;have k1:k%2<=1:=by lia
   have k2:k/2<=1:=by lia
   have m1:2^n*(k%2)<=2^n*1:=L5 _ k1;have m2:2^n*(k/2)<=2^n*1:=L5 _ k2;have X:(u+2^n*(k%2))/2^n=k%2:=by rw[N4 _ _ p,L6 L,M4]
   have Y:(v+2^n*(k/2))/2^n=k/2:=by rw[N4 _ _ p,L6 M,M4]
   have N:quad n (u+2^n*(k%2)) (v+2^n*(k/2))=k:=by
    unfold quad;rw[X,Y];lia
   have O:(u+2^n*(k%2))%2^n=u:=by rw[N6,J8 L]
   have P:(v+2^n*(k/2))%2^n=v:=by rw[N6,J8 M]
   have E:u+2^n*(k%2)<2^(n+1):=by lia
   have F:v+2^n*(k/2)<2^(n+1):=by lia
   have:=h _ _ E F (by rw[Bb H E F,N,O,P];exact w);exact C8.mpr ⟨_,T4.mpr ⟨this,by rw[N];exact A4e k⟩,by rw[O,P]⟩
  obtain⟨t,i0,K,l0⟩:=s 0 A4;obtain⟨A,i1,U,l1⟩:=s 1 A4;obtain⟨B,i2,V,l2⟩:=s 2 A4;obtain⟨C,i3,W,l3⟩:=s 3 A4;have I:∀x∈bsL++t,x∈bsL++(i::(t++(A++(B++C)))):=λx g=>by simp only[D4,B7]at g⊢;rcases g with z|z<;>simp[z]
  have Q:∀x∈bsL++A,x∈bsL++(i::(t++(A++(B++C)))):=λx g=>by simp only[D4,B7]at g⊢;rcases g with z|z<;>simp[z]
  have R:∀x∈bsL++B,x∈bsL++(i::(t++(A++(B++C)))):=λx g=>by simp only[D4,B7]at g⊢;rcases g with z|z<;>simp[z]
  have S:∀x∈bsL++C,x∈bsL++(i::(t++(A++(B++C)))):=λx g=>by simp only[D4,B7]at g⊢;rcases g with z|z<;>simp[z]
  refine⟨i::(t++(A++(B++C))),by simp,λo f=>?_,?_⟩
  .rcases D4.mp f with f|f
   .exact K.sup o (D4.mpr (.inl f)) I
   .rcases B7.mp f with rfl|f
    .exact .inr ⟨n,q,a,b,c,d,H,I _ i0,Q _ i1,R _ i2,S _ i3⟩
    .rcases D4.mp f with f|f
     .exact K.sup o (D4.mpr (.inr f)) I
     .rcases D4.mp f with f|f
      .exact U.sup o (D4.mpr (.inr f)) Q
      .rcases D4.mp f with f|f
       .exact V.sup o (D4.mpr (.inr f)) R
       .exact W.sup o (D4.mpr (.inr f)) S
  .rw[D6,C1,C1,C1];have ln:=L5 (n+1) (cq_len n cs);rw[Y5,Y5,Y5]at ln;rw[show n+1+1=(n+1)+1 from rfl,V2];lia
theorem fld_few{G r:Gv}(a:G=G0++r)(ok:GOk G){n f:Nat}(i:n<=40)(g:Am G f ((n+1:Nat):Int)){ps:List (Int×Int)}(h:∀u v,fieldF G n f u v≠0->(u,v)∈ps):∃S:List Nat,f∈S/\Clo G S/\S.length<=49+42*ps.length:=by
 have c:=DE n;have s:=Fq n;obtain⟨T,b,d,e⟩:=WZ a ok (n+1) A0 (ps.map λp=>((p.1+2^n).toNat,(p.2+2^n).toNat)) g λx y j k w=>by
  refine C8.mpr ⟨((x:Int)-2^n,(y:Int)-2^n),h _ _ ?_,by rw[show((x:Int)-2^n+2^n).toNat=x by lia,show((y:Int)-2^n+2^n).toNat=y by lia]⟩;unfold fieldF;rw[K0 ⟨by lia,by lia,by lia,by lia⟩,show((x:Int)-2^n+2^n).toNat=x by lia,show((y:Int)-2^n+2^n).toNat=y by lia];exact w
 refine⟨bsL++T,b,d,?_⟩;rw[C1,bsL_len];rw[B4]at e;have:=S8 ps.length (show n+1+1<=42 by lia);lia
seal L2.PA L2.PE L2.PS L2.PSs L2.PT L2.PW
theorem LB.mono{Κ:KTy}{N a:Nat}(h:LB Κ N)(e:N<=a):LB Κ a:=by
 obtain⟨M,b,c⟩:=h.ls;exact⟨⟨M,D7 b e,c⟩,h.ext⟩
theorem stC_in{ds:List Cl}{n:Nat}{x y:Int}(h:Dd ds n x y){u v:Int}(z:stC ds u v≠0):x<=u/\u<x+6/\y<=v/\v<y+3:=by
 rcases OO ds u v with ⟨c,d,a,b,_⟩|⟨_,e⟩
 .subst a;subst b;exact(h.ok c d).2
 .exact absurd e z
def plc(ax ay:Int)(n:Nat)(p:Int×Int):List (Nat×Nat):=[((p.1+ax).toNat/2^n,(p.2+ay).toNat/2^n),((p.1+ax).toNat/2^n-1,(p.2+ay).toNat/2^n),((p.1+ax).toNat/2^n,(p.2+ay).toNat/2^n-1),((p.1+ax).toNat/2^n-1,(p.2+ay).toNat/2^n-1)]
theorem len_pl(a b:Int)(n:Nat):∀ps:List (Int×Int),(ps.flatMap (plc a b n)).length=4*ps.length
|[]=>rfl
|p::ps=>by
 rw[Z8,C1,len_pl a b n ps];show 4+_=_;rw[D6];lia
theorem sc_cells{φ:D_}{ps:List (Int×Int)}(h:∀u v,φ u v≠0->(u,v)∈ps)(c d:Int)(R D:Nat):∃cl,ScOk ⟨λx y=>φ ((x:Int)-c) ((y:Int)-d),R,D,4*ps.length,cl⟩:=by
 have mem:∀n i j,NE (λx y=>φ ((x:Int)-c) ((y:Int)-d)) n i j->(i,j)∈ps.flatMap (plc c d n):=λn i j ne=>by
  obtain⟨x,y,p,q,z⟩:=ne;have m:=h _ _ z;refine S5.mpr ⟨_,m,?_⟩;have t:((((i*2^n+x:Nat):Int)-c)+c).toNat=i*2^n+x:=by lia
  have w:((((j*2^n+y:Nat):Int)-d)+d).toNat=j*2^n+y:=by lia
  unfold plc;dsimp only;rw[t,w,GX.1,GX.1];have f:=BT p;have g:=BT q;generalize x/2^n=a at f;generalize y/2^n=b at g
  match a,f,b,g with
  |0,_,0,_=>simp
  |1,_,0,_=>simp
  |0,_,1,_=>simp
  |1,_,1,_=>simp
 refine⟨λn i j=>(ps.flatMap (plc c d n)).idxOf (i,j),λn i j _ ne=>?_,λn i j k l _ ne o e x y p q=>?_⟩
 .have:=O8 (mem n i j ne);rw[len_pl]at this;exact this
 .have m1:=mem n i j ne;have m2:=mem n k l o;have r:=List.getElem_idxOf (O8 m1);have s:=List.getElem_idxOf (O8 m2);have e:(ps.flatMap (plc c d n)).idxOf (i,j)=(ps.flatMap (plc c d n)).idxOf (k,l):=e;have:(ps.flatMap (plc c d n))[(ps.flatMap (plc c d n)).idxOf (i,j)]?=(ps.flatMap (plc c d n))[(ps.flatMap (plc c d n)).idxOf (k,l)]?:=by rw[e]
  rw[C0 (O8 m1),C0 (O8 m2),r,s]at this;have:=K4 this;injection this with f g
  rw[f,g]
section
variable{a:Ad}{H H':Hp}{g:GA}{G G':Gv}{Κ:KTy}{N b i:Nat}{p dx mem pr:R_}{r:AD}{m:MA}
theorem ZS.fA(h:ZS a H g G Κ N b p dx mem pr r m)(f:Fx (frA g) H H')(c:AW a H' g G')(go:AH G G' i):ZS a H' g G' Κ N (b+i) p dx mem pr r m:=by
 have q:=h.jz.jw;have n:=q.me;obtain⟨y,s,P,_⟩:=n.ce;obtain⟨U,K,_⟩:=h.fu.at'.pt;obtain⟨Q,E,_⟩:=h.fu.am;obtain⟨R,F,_⟩:=h.fu.bx;have C:∀{x:R_}{o:HO},H x=some o->Fix o->H' x=some o:=λ{x o} e k=>f _ _ e λ_=>k;have u:∀d∈m.ds,∀o,H d=some o->H' d=some o:=λd A o e=>by
  obtain⟨j,B⟩:=F7 A;obtain⟨S,t,_⟩:=n.sq j d B;refine f.get (λz=>?_) e;simp only[frA,B7,D3,A0c]at z;rcases z with z|z|z|z|z
  .rw[z,h.fu.at'.lv]at t;cases t
  .rw[z,K]at t;cases t
  .rw[z,h.fu.at'.nm]at t;cases t
  .exact h.na (z▸A)
  .exact h.nb (z▸A)
 have v:∀o,H m.kc=some o->H' m.kc=some o:=λo e=>by
  refine f.get (λz=>?_) e;simp only[frA,B7,D3,A0c]at z;rcases z with z|z|z|z|z
  .rw[z,h.fu.at'.lv]at s;cases s
  .rw[z,K]at s;cases s
  .exact n.ap.2.2 z
  .rw[z,E]at s;cases s
  .rw[z,F]at s;cases s
 have M:H' m.l=some (.lst (m.ds.map V.ref)):=by
  refine f.get (λz=>?_) n.l;have e:=n.l;simp only[frA,B7,D3,A0c]at z;rcases z with z|z|z|z|z
  .exact n.ap.1 z
  .exact n.ap.2.1 z
  .rw[z,h.fu.at'.nm]at e;cases e
  .rw[z,E]at e;cases e
  .rw[z,F]at e;cases e
 have D:IL H' g G' N (b+i+10*N) r m:=(n.kp q.ok go λx o e w=>by
  rcases w with rfl|rfl|w|rfl
  .rw[n.tp]at e;cases e;exact C n.tp True.intro
  .rw[n.l]at e;cases e;exact M
  .exact u x w o e
  .exact v o e).mono (B8 _) A0
 obtain⟨L,I⟩:=h.jz.cn;have bs:Bs G':=λj B=>by
  obtain⟨T,e⟩:=c.g0;rw[e];exact LJ (Nj j B)
 refine⟨⟨⟨c.at',c.ok,bs,c.br,q.nbr,C q.hp True.intro,q.ru.kp λx o e O=>C e (by cases O<;>exact True.intro),q.rok,q.rest,D⟩,L,I.kp q.ok go u λy e=>⟨y,v _ e,by lia⟩⟩,c,h.na,h.nb⟩
end
structure JP where
Κ:KTy
p:Addr
dx:Addr
mem:Addr
pr:Addr
r:AD
m:MA
structure Y3(a:Ad)(H0 H:Hp)(g:GA)(G:Gv)(N b:Nat)(js:List JP):Prop where
fu:AW a H g G
zs:∀j∈js,ZS a H g G j.Κ N b j.p j.dx j.mem j.pr j.r j.m
fin:∀j∈js,LB j.Κ N
cl:∀j∈js,ClK j.r j.Κ
dj:∀j∈js,∀k∈js,j=k\/Dj j.m k.m
sm:Az H0 H
n0:∀j∈js,∀y∈zL g j.m,H0 y=none
g0:∀y∈frA g,H0 y=none
sz:G.length<=b+10*N
section
variable{a:Ad}{H0 H H':Hp}{g:GA}{G G':Gv}{N b i:Nat}{js:List JP}{Q:VK}{φ:D_}{f:Nat}{ps:List (Int×Int)}
theorem Y3.mono{c:Nat}(h:Y3 a H0 H g G N b js)(e:b<=c):Y3 a H0 H g G N c js:=⟨h.fu,λj d=>(h.zs j d).mono e,h.fin,h.cl,h.dj,h.sm,h.n0,h.g0,by have:=h.sz;lia⟩
theorem Y3.one{j:JP}(h:Y3 a H0 H g G N b js)(d:j∈js):Y3 a H0 H g G N b [j]:=by
 have t:∀k∈[j],k∈js:=λk c=>by rw[C7.mp c];exact d
 exact⟨h.fu,λk c=>h.zs k (t k c),λk c=>h.fin k (t k c),λk c=>h.cl k (t k c),λk c l e=>h.dj k (t k c) l (t l e),h.sm,λk c=>h.n0 k (t k c),h.g0,h.sz⟩
theorem Y3.fA(h:Y3 a H0 H g G N b js)(f:Fx (frA g) H H')(c:AW a H' g G')(go:AH G G' i):Y3 a H0 H' g G' N (b+i) js:=⟨c,λj d=>(h.zs j d).fA f c go,h.fin,h.cl,h.dj,Az.fxn h.sm f h.g0,h.n0,h.g0,by have:=go.few;have:=h.sz;lia⟩
theorem Y3.jump{j:JP}{k:Nat}(h:Y3 a H0 H g G N b js)(l:j∈js)(s:UR j.Κ j.r φ k)(x:Fv G f φ)(A:QB φ k)(few:b+12000+10*N<7900000)(t:Nat)(v:b+12048<=t)(y:js=[j]\/2*b+12048+10*N<=t)(z:∀(d:Nat)(G':Gv)(H':Hp)(i:Nat),Y3 a H0 H' g G' N t js->AH G G' i->Fv G' d (sFN j.r k φ)->Q (.int d) H'):SpJpG a [.ref j.p,.int (f:Int),.int (k:Int)] H Q:=by
 refine⟨j.p,j.dx,j.mem,j.pr,g,G,j.Κ,φ,N,b,j.r,j.m,f,k,rfl,h.zs j l,h.fin j l,h.cl j l,s,x,A,few,λd G' H' i u c go w=>z d G' H' i ?_ go w⟩;have sz:=c.jz.sz (h.fin j l);refine⟨c.fu,λq o=>?_,h.fin,h.cl,h.dj,Az.fxn h.sm (FrZ.fx (h.zs j l) u) (h.n0 j l),h.n0,h.g0,by lia⟩;rcases h.dj q o j l with rfl|d
 .exact c.mono v
 .rcases y with e|e
  .rw[e]at o;rw[C7.mp o];exact c.mono v
  .exact((h.zs q o).oth (h.zs j l) u c (go.len (n:=b+12048+10*N) A0) d).mono A0
theorem Y3.tu{o:L_}{ψ:D_}(C:∀{n f t:Nat}{G r:Gv},G=G0++r->GOk G->Fd G n f->Rr o G (n+1) f t->Fd G n t)(q:∀{n f t:Nat}{G:Gv},(∀x y,fieldF G n f x y=φ x y)->Rr o G (n+1) f t->∀x y,fieldF G n t x y=ψ x y)(h:Y3 a H0 H g G N b js)(B:Fv G f φ)(D:∀x y,φ x y≠0->(x,y)∈ps)(M:ps.length<=154)(few:b+10*N<4000000)(E:∀(d:Nat)(G':Gv)(H':Hp)(i:Nat),Y3 a H0 H' g G' N (b+6517) js->AH G G' i->Fv G' d ψ->Q (.int d) H'):SpTu a o [.ref g.p,.int (f:Int)] H Q:=by
 obtain⟨n,j,k,w,e⟩:=B.ex;obtain⟨O,A⟩:=h.fu.g0;obtain⟨S,I,K,P⟩:=fld_few A h.fu.ok j k (ps:=ps) λu v z=>D u v (by rw[<-e];exact z);refine⟨g,G,f,n+1,S,rfl,h.fu,k,K,I,by have:=h.sz;lia,λr L G' H' fr c go le s=>?_⟩;obtain⟨F,l⟩:=c.g0;have m:=C l c.ok ⟨go.lev k,w.app go,j⟩ s;exact E r G' H' _ ((h.fA ((fr.fx h.fu.at').mono (by simp[frA])) c (go.len (n:=S.length) le)).mono A0) go ⟨n,m.le,m.lev,m.tr,q (λx y=>by rw[Ec h.fu.ok go k];exact e x y) s⟩
theorem Y3.tl(h:Y3 a H0 H g G N b js)(k:Fv G f φ)(l:∀x y,φ x y≠0->(x,y)∈ps)(n:ps.length<=154)(few:b+10*N<4000000)(m:∀(d:Nat)(G':Gv)(H':Hp)(i:Nat),Y3 a H0 H' g G' N (b+6517) js->AH G G' i->Fv G' d (tnF φ)->Q (.int d) H'):SpTu a oL [.ref g.p,.int (f:Int)] H Q:=h.tu (λe ok j c=>j.left e ok c) (λe c x y=>by rw[Qo c];exact e _ _) k l n few m
theorem Y3.mi(h:Y3 a H0 H g G N b js)(k:Fv G f φ)(l:∀x y,φ x y≠0->(x,y)∈ps)(n:ps.length<=154)(few:b+10*N<4000000)(m:∀(d:Nat)(G':Gv)(H':Hp)(i:Nat),Y3 a H0 H' g G' N (b+6517) js->AH G G' i->Fv G' d (mrF φ)->Q (.int d) H'):SpTu a oM [.ref g.p,.int (f:Int)] H Q:=h.tu (λe ok j c=>j.mirr e ok c) (λe c x y=>by rw[Qj c];exact e _ _) k l n few m
theorem Y3.mv{dx c:Int}(h:Y3 a H0 H g G N b js)(C:Fv G f φ)(E:∀x y,φ x y≠0->(x,y)∈ps)(I:ps.length<=154)(j:∀x y,φ x y≠0->-(2^40)<=x+dx/\x+dx<2^40/\-(2^40)<=y+c/\y+c<2^40)(few:b+10*N<6000000)(F:∀(d:Nat)(G':Gv)(H':Hp)(i:Nat),Y3 a H0 H' g G' N (b+31000) js->AH G G' i->Fv G' d (mvF dx c φ)->Q (.int d) H'):SpMv a [.ref g.p,.int (f:Int),.int dx,.int c] H Q:=by
 obtain⟨n,o,w,z,e⟩:=C.ex;refine⟨g,G,f,n,4*ps.length,dx,c,φ,rfl,h.fu,⟨w,z,o⟩,e,λb D=>⟨λ_=>trivial,λ_=>?_⟩,sc_cells E,by lia,by have:=h.sz;lia,λr m G' H' fx l go k A=>F r G' H' _ ((h.fA fx l go).mono A0) go ⟨m,k.le,k.lev,k.tr,A⟩⟩;have t:=JL h.fu.ok w D;generalize mvB (2^n) b=B at t;obtain⟨K,q⟩:=t.le;obtain⟨L,s⟩:=t.to;obtain⟨M,u⟩:=t.ri;obtain⟨O,v⟩:=t.bo;rw[e]at q s u v;have:=j _ _ q;have:=j _ _ s;have:=j _ _ u;have:=j _ _ v;unfold GL;lia
theorem Y3.fx{l:H_}{j:JP}(h:Y3 a H0 H g G N b js)(c:j∈js)(f:Fx l H H')(n:∀j∈js,∀x∈[g.br,j.m.l]++zL g j.m,x∉l)(e:∀y∈l,H0 y=none):Y3 a H0 H' g G N b js:=⟨((h.zs j c).fx f (n j c)).fu,λk d=>(h.zs k d).fx f (n k d),h.fin,h.cl,h.dj,Az.fxn h.sm f e,h.n0,h.g0,h.sz⟩
end
theorem VP{a:Ad}{H:Hp}{g:GA}{G:Gv}{Κ:KTy}{N b:Nat}{p dx mem o:R_}{r:AD}{m m2:MA}(f:ZS a H g G Κ N b p dx mem o r m)(fr:∀y∈m2.l::m2.kc::m2.ds,H y=none):Dj m m2:=by
 obtain⟨e,h,_⟩:=f.jz.jw.me.ce;refine⟨λz=>?_,λd k c=>?_⟩
 .have:=fr m2.kc A6;rw[<-z,h]at this;cases this
 .obtain⟨j,n⟩:=F7 k;obtain⟨q,i,_⟩:=f.jz.jw.me.sq j d n;have:=fr d (by simp[c]);rw[i]at this;cases this
theorem Dj.sym{m m2:MA}(h:Dj m m2):Dj m2 m:=⟨K3 h.1,λd b a=>h.2 d a b⟩
theorem nn_of{H:Hp}{g:GA}{m:MA}(ng:∀y∈DB g,H y=none)(fr:∀y∈m.l::m.kc::m.ds,H y=none):∀y∈[g.br,m.l]++zL g m,H y=none:=λy a=>by
 simp only[zL,List.cons_append,List.nil_append,B7]at a;rcases a with rfl|rfl|rfl|rfl|rfl|rfl|rfl|rfl|a
 .exact ng _ (by simp[DB])
 .exact fr _ A6
 .exact ng _ (by simp[DB])
 .exact ng _ (by simp[DB])
 .exact ng _ (by simp[DB])
 .exact ng _ (by simp[DB])
 .exact ng _ (by simp[DB])
 .exact fr _ A6
 .exact fr _ (by simp[a])
def bxP(X Y:Int)(W D:Nat):List (Int×Int):=(List.range (W*D)).map λk=>(X+((k/D:Nat):Int),Y+((k%D:Nat):Int))
theorem Yc(X Y:Int)(W D:Nat):(bxP X Y W D).length=W*D:=by unfold bxP;rw[B4,M9]
theorem Yb{X Y x y:Int}{W D:Nat}(h:X<=x/\x<X+W/\Y<=y/\y<Y+D):(x,y)∈bxP X Y W D:=by
 obtain⟨i,c⟩:=J3 (show 0<=x-X by lia);obtain⟨j,d⟩:=J3 (show 0<=y-Y by lia);have a:j<D:=by lia
 have b:i<W:=by lia
 refine C8.mpr ⟨D*i+j,L7.mpr ?_,?_⟩
 .have:=L5 D (show i+1<=W from b);rw[Y5,Y4,R3 D W]at this;lia
 .rw[Nat.mul_add_div A0,L6 a,Nat.mul_add_mod,J8 a,Z6,show X+(i:Int)=x by lia,show Y+(j:Int)=y by lia]
section
variable{P:N_}{w:Q_}{K:O_}{mg:C_}{base:T_}{a:Ad}
inductive SpWhI(vs:List V)(H:Hp)(Q:VK):Prop
|mk (i:Int) (_:vs=[.int i]) (_:Q (.bl true) H):SpWhI vs H Q
def ZK:Sp:=λvs H Q _=>SpWhI vs H Q
theorem ok_whi(F:Fun K "_law_whole" "_law_whole" IZ f fd)(T:Top K mg a):AL P w K mg base CX0 1 f fd Sz ZK:=by
 refine F.ok QH D_9 λc A b s H vs Q E d h=>?_
 obtain⟨i,rfl,k⟩:=h;refine⟨_,(Ah (Av (JY (AX IK rfl T.b_isinstance A1b (Aa (pv 0) (Aa (LE (v:=.ty "int") rfl T.b_int A2e rfl) Ab))) (Mu (pe_not (AX IK rfl T.b_isinstance A1b (Aa (pv 0) (Aa (LE (v:=.ty "bool") rfl T.b_bool PyProof.Rows.boot_bool rfl) Ab)))))))),?_⟩
 try dsimp only[cxK]
 exact xq1 rfl ⟨_,_,_,.type "int",true,rfl,rfl,.of (.int i),(kit_ii K).1,true,rfl,BP (xq1 rfl ⟨_,_,_,.type "int",false,rfl,rfl,.of (.int i),(kit_ii K).2,false,rfl,k⟩)⟩
end
theorem ng60:ng 2 4 6 3<=43000:=by decide +kernel
theorem ng61:ng 1 4 3 6<=43000:=by decide +kernel
theorem ng62:ng 1 4 6 3<=43000:=by decide +kernel
theorem re_o{o:J_}(a:o.Perm (List.range 8))(b:tlO o BI=BI){r:AD}(d:FT r)(c:Cs r 0 BI=0):Cs (EE o r) 0 BI=0:=by
 have:=Ta a d.ok (ar:=BI) rfl 0;rw[b]at this;rw[this,c]
theorem ex60{r:AD}(i:FT r)(j:Cs r 0 BI=0){n:Nat}(q:n<=4){φ:D_}{b c:Int}(d:∀u v,φ u v≠0->b<=u/\u<b+6/\c<=v/\v<c+3)(dx f:Int):∃e g h:KTy,(LB e 43000/\ClK r e/\UR e r φ n/\UR e r (mvF dx f φ) n)/\(LB g 43000/\ClK (EE IA r) g/\UR g (EE IA r) (tnF φ) n)/\LB h 43000/\ClK (EE II r) h/\UR h (EE II r) (mrF φ) n:=by
 have k:=re_o UV A4 i j;have l:=re_o VA A4 i j;have m:InBx [φ,mvF dx f φ] 6 3 [(φ,b,c),(mvF dx f φ,b+dx,c+f)]:=fun ψ a u v z=>by
  simp only[B7,D3,A0c]at a;rcases a with rfl|rfl
  .exact⟨b,c,by simp,d u v z⟩
  .have:=d _ _ z;exact⟨b+dx,c+f,by simp,by lia⟩
 have o:InBx [tnF φ] 3 6 [(tnF φ,c,-b-6)]:=fun ψ a u v z=>by
  rw[C7.mp a]at z⊢;have:=d _ _ z;exact⟨c,-b-6,by simp,by lia⟩
 have p:InBx [mrF φ] 6 3 [(mrF φ,-b-6,c)]:=fun ψ a u v z=>by
  rw[C7.mp a]at z⊢;have:=d _ _ z;exact⟨-b-6,c,by simp,by lia⟩
 refine⟨Kg r [φ,mvF dx f φ] 4,Kg (EE IA r) [tnF φ] 4,Kg (EE II r) [mrF φ] 4,⟨(VG j m).mono ng60,kg_cl i j _ _,SM (t:=0) A6 A0,SM (t:=0) (φ:=mvF dx f φ) A6 A0⟩,⟨(VG k o).mono ng61,kg_cl (MS RQ i) k _ _,SM (t:=0) (φ:=tnF φ) A6 A0⟩,(VG l p).mono ng62,kg_cl (MS SI i) l _ _,SM (t:=0) (φ:=mrF φ) A6 A0⟩
theorem VX{a b c d:Prop}(h:a/\b)(g:c/\d):a/\b/\c/\d:=⟨h.1,h.2,g⟩
theorem nb1{l x:Int}{n:Nat}(c:n<=4)(a:-(2^38)<=l)(b:l<2^38)(i:l<=x)(j:x<l+6):-(2^40)+(n:Int)<=x/\x+n<2^40:=by lia
theorem nb2{l x:Int}{n:Nat}(c:n<=4)(a:-(2^38)<=l)(b:l<2^38)(i:l<=-1-x)(j:-1-x<l+6):-(2^40)+(n:Int)<=x/\x+n<2^40:=by lia
theorem nb3{l x d:Int}{n:Nat}(c:n<=4)(a:-(2^38)<=l)(b:l<2^38)(e:-(2^38)<=d)(f:d<2^38)(i:l<=x-d)(j:x-d<l+6):-(2^40)+(n:Int)<=x/\x+n<2^40:=by lia
theorem nb4{l x d:Int}(a:-(2^38)<=l)(b:l<2^38)(e:-(2^38)<=d)(f:d<2^38)(i:l-4<=x)(j:x<l+10):-(2^40)<=x+d/\x+d<2^40:=by lia
theorem nb5{l x s w:Int}{n:Nat}(c:n<=4)(a:x-n<=s)(b:s<=x+n)(i:l<=s)(j:s<l+w):l-4<=x/\x<l+(w+4):=by lia
theorem Tf{p:JP->Prop}{x y z:JP}(a:p x)(b:p y)(c:p z):∀j∈[x,y,z],p j:=λj h=>by
 rcases B7.mp h with rfl|h
 .exact a
 rcases B7.mp h with rfl|h
 .exact b
 rw[C7.mp h];exact c
theorem Y3.m0{a:Ad}{c H:Hp}{g:GA}{G:Gv}{N b:Nat}{x:JP}{l:List JP}(_:Y3 a c H g G N b (x::l)):x∈x::l:=C4
theorem Y3.m1{a:Ad}{c H:Hp}{g:GA}{G:Gv}{N b:Nat}{x y:JP}{l:List JP}(_:Y3 a c H g G N b (x::y::l)):y∈x::y::l:=.tail _ C4
theorem Y3.m2{a:Ad}{c H:Hp}{g:GA}{G:Gv}{N b:Nat}{x y z:JP}{l:List JP}(_:Y3 a c H g G N b (x::y::z::l)):z∈x::y::z::l:=.tail _ (.tail _ C4)
abbrev Yx(l pr:R_)(n lx my:Int)(D:R_)(dx dy:Int)(g:GA)(x:St):St:=some (.ref l)::some (.ref pr)::some (.int n)::some (.int lx)::some (.int my)::some (.ref D)::some (.int dx)::some (.int dy)::some (.ref g.p)::x
theorem mx60{z:Int}(q:Int)(a:0<=z)(b:z<3):∃d:Nat,1+z+(if(if q<10 then q else 10) > 0 then(if q<10 then q else 10)else 0)=(d:Int)/\d<=13:=by
 by_cases c:q<10
 .rw[K0 c];by_cases y:q > 0
  .rw[K0 y];exact⟨(1+z+q).toNat,by lia,by lia⟩
  .rw[X7 y];exact⟨(1+z).toNat,by lia,by lia⟩
 .rw[X7 c,K0 A4];exact⟨(11+z).toNat,by lia,by lia⟩
section
variable{P:N_}{w:Q_}{K:O_}{mg:C_}{base:T_}{a:Ad}
theorem ok_law(F:Fun K "law" "law" s_law f p)(T:Top K mg a)(dO:QY P w K mg base CX0 2 "Grove" a.c_Grove Js (RZ a))(aF:Cal P w K mg base CX0 1 "_law_at" YV (spAt K))(bC:Cal P w K mg base CX0 4 "_law_clauses_by" Ex (spCs K))(cP:Cal P w K mg base CX0 2 "_law_text" Lg spTx)(cL:Cal P w K mg base CX0 8 "read_rule" Ip (spRR a))(bB:Cal P w K mg base CX0 1 "_law_base" Qe Vb)(cQ:Cal P w K mg base CX0 2 "_law_heap" Lh (UY K))(bZ:Cal P w K mg base CX0 5 "_law_listed" Iq ZV)(cH:Cal P w K mg base CX0 1 "_law_whole" Sz ZK)(cU:Cal P w K mg base CX0 56 "field_of" Mw (ZX a))(cX:QY P w K mg base CX0 3 "Jumps" a.c_Jumps SB (RX a))(bW:Cal P w K mg base CX0 9 "turned_rule" Ss (Rc a IA))(bJ:Cal P w K mg base CX0 9 "mirrored_rule" Ss (Rc a II))(bT:Cal P w K mg base CX0 54 "turn_left" Vr (Yy a oL))(cW:Cal P w K mg base CX0 54 "mirror" Vr (Yy a oM))(cF:Cal P w K mg base CX0 103 "moved_by" Mv (spMv a))(cT:Cal P w K mg base CX0 151 "jump" Vk (ZW a)):AL P w K mg base CX0 152 f p p_law (Wr K):=by
 refine F.ok Ei D_9 λff A ek s H vs Q E k h=>?_
 obtain⟨l,ns,rfl,hS,en,kq⟩:=h;refine⟨_,(Ac (Aq (i:=1) Ei.nd rfl O_9 (As cL (rm k) rfl Ao (Aa (As cP (rm k) rfl Ao (Aa (As bC (rm k) rfl Ao (Aa (pv 0) (AV (Bn Bq (As aF (rm k) rfl Ao (Aa (pv 0) (AV Ab))) Ae Ab)))) Ab)) Ab))) (Ac (Aq (i:=2) Ei.nd rfl O_9 (AF Bq (As aF (rm k) rfl Ao (Aa (pv 0) (AV Ab))) Ae)) (Ac (Aq (i:=3) Ei.nd rfl O_9 (As bB (rm k) rfl Ao (Aa (As aF (rm k) rfl Ao (Aa (pv 0) (AV Ab))) Ab))) (Ac (Aq (i:=4) Ei.nd rfl O_9 (AF AQ (AF AQ Ae (AF Bq (As aF (rm k) rfl Ao (Aa (pv 0) (AV Ab))) Ae)) (AX (Zp rfl) rfl T.b_max A5h (AV (Aa (AX (RC rfl) rfl T.b_min A4d (AV (Bn Cv (AX Cr rfl T.b_len A1a (Aa (pv 0) Ab)) Ae Ab))) Ab))))) (Ac (Aq (i:=5) Ei.nd rfl O_9 (As cQ (rm k) rfl Ao (Aa (pv 0) (AV (Aa (pv 4) (Aa (pv 3) (Aa (As bB (rm k) rfl Ao (Aa (As aF (rm k) rfl Ao (Aa (pv 0) (AV Ab))) Ab)) Ab))))))) (Ac (Aq (i:=6) Ei.nd rfl O_9 (As bB (rm k) rfl Ao (Aa (As aF (rm k) rfl Ao (Aa (pv 0) (AV Ab))) Ab))) (Ac (Aq (i:=7) Ei.nd rfl O_9 (As bB (rm k) rfl Ao (Aa (As aF (rm k) rfl Ao (Aa (pv 0) (AV Ab))) Ab))) (Ac (Aq (i:=8) Ei.nd rfl O_9 (pe_calC0 dO (rm k) rfl Ao)) (Ac (Aq (i:=9) Ei.nd rfl O_9 (GS cX (rm k) rfl Ao (Aa (pv 8) (Aa (pv 1) Ab)))) (Ac (Aq (i:=10) Ei.nd rfl O_9 (GS cX (rm k) rfl Ao (Aa (pv 8) (Aa (As bW (rm k) rfl Ao (Aa (pv 1) Ab)) Ab)))) (Ac (Aq (i:=11) Ei.nd rfl O_9 (GS cX (rm k) rfl Ao (Aa (pv 8) (Aa (As bJ (rm k) rfl Ao (Aa (pv 1) Ab)) Ab)))) (Ac (Aq (i:=12) Ei.nd rfl O_9 (As cU (rm k) rfl Ao (Aa (pv 8) (Aa (As bZ (rm k) rfl Ao (Aa (pv 5) Ab)) Ab)))) (Ac (Aq (i:=13) Ei.nd rfl O_9 (As cT (rm k) rfl Ao (Aa (pv 9) (Aa (pv 12) (Aa (pv 2) Ab))))) (Ac (AO (Er (DT (As cH (rm k) rfl Ao (Aa (pv 13) Ab)))) (Ah (Av Ou)) AC) (Ac (AO (AA GV (As cT (rm k) rfl Ao (Aa (pv 10) (Aa (As bT (rm k) rfl Ao (Aa (pv 8) (Aa (pv 12) Ab))) (Aa (pv 2) Ab)))) (As bT (rm k) rfl Ao (Aa (pv 8) (Aa (pv 13) Ab))) (AG _)) (Ah (Av Ou)) AC) (Ac (AO (AA GV (As cT (rm k) rfl Ao (Aa (pv 11) (Aa (As cW (rm k) rfl Ao (Aa (pv 8) (Aa (pv 12) Ab))) (Aa (pv 2) Ab)))) (As cW (rm k) rfl Ao (Aa (pv 8) (Aa (pv 13) Ab))) (AG _)) (Ah (Av Ou)) AC) (Ac (AO (AA GV (As cT (rm k) rfl Ao (Aa (pv 9) (Aa (As cF (rm k) rfl Ao (Aa (pv 8) (Aa (pv 12) (Aa (pv 6) (Aa (pv 7) Ab))))) (Aa (pv 2) Ab)))) (As cF (rm k) rfl Ao (Aa (pv 8) (Aa (pv 13) (Aa (pv 6) (Aa (pv 7) Ab))))) (AG _)) (Ah (Av Ou)) AC) (Ah (Av (Fe CG (As cT (rm k) rfl Ao (Aa (pv 9) (Aa (pv 12) (Aa (pv 2) Ab)))) (pv 13) (AG _))))))))))))))))))))),?_⟩
 try dsimp only[cxK]
 refine BU ?_;intro r1 s1 k1 d0 E1;refine xw2 rfl rfl ⟨l,ns,8,rfl,hS,by decide,(xq2 rfl rfl ⟨(by show(0:Int)<7;decide),l,ns,0,atN ns 8%7,rfl,hS,by decide,by lia,by lia,λqc r H1 dc cs rok bz ga gb=>?_⟩)⟩;refine⟨qc,r,rfl,cs,rok,λH2 dj=>?_⟩;refine⟨r,rfl,rok,bz,λpr H3 dl hR=>?_⟩;refine d0 ?_;have a5:=(dc.trans dj).trans dl;have q:=a5.seq hS;clear dc dj dl cs;refine BU ?_;intro r2 s2 k2 d5 E2;obtain⟨n,hn⟩:=J3 (Int.emod_nonneg (atN ns 9) (by decide:(5:Int)≠0));have n4:n<=4:=by have:=U8 (atN ns 9) (by decide:(0:Int)<5);lia
 refine xq1 rfl ⟨l,ns,9,rfl,q,by decide,(xq2 rfl rfl ⟨(by show(0:Int)<5;decide),?_⟩)⟩;rw[show(λi j:Int=>V.int (i%j)) _ _=V.int (n:Int)from A0g V.int hn];clear hn;refine d5 ?_;refine BU ?_;intro r3 s3 k3 d6 E3;refine xq1 rfl ⟨l,ns,10,rfl,q,by decide,_,rfl,λI x1 x2=>?_⟩;refine d6 ?_;refine BU ?_;intro r4 s4 k4 d7 E4;obtain⟨my,cr,eo⟩:∃my:Nat,_=(my:Int)/\my<=13:=mx60 ((ns.map V.int).length-15) (Int.emod_nonneg (atN ns 14) (by decide:(3:Int)≠0)) (U8 (atN ns 14) A4);refine xq1 rfl ⟨l,ns,14,rfl,q,by decide,(xq2 rfl rfl ⟨B1,(xq2 rfl rfl (xq1 rfl ⟨l,(xq1 rfl ⟨.inl q,(xq2 rfl rfl ⟨_,_,rfl,_,_,rfl,(xq2 rfl rfl ?_)⟩)⟩)⟩))⟩)⟩;rw[show(λi j:Int=>V.int (i+j)) _ _=V.int (my:Int)from A0g V.int cr];refine d7 ?_;refine BU ?_;intro r5 s5 k5 d8 E5;refine xq1 rfl (xq1 rfl (xq1 rfl (xq1 rfl ⟨l,ns,11,rfl,q,by decide,_,rfl,λly y1 y2=>?_⟩)));refine⟨l,ns,15,I,ly,my,rfl,q,by decide,by lia,by lia,by lia,by lia,by lia,λD ds H4 a1 nD hD dd=>?_⟩;have bo:=a1.seq q;refine d8 ?_;refine BU ?_;intro r6 s6 k6 d9 E6;refine xq1 rfl ⟨l,ns,12,rfl,bo,by decide,_,rfl,λdx d1 d2=>?_⟩;refine d9 ?_;refine BU ?_;intro r7 s7 k7 ea E7;refine xq1 rfl ⟨l,ns,13,rfl,bo,by decide,_,rfl,λW d3 d4=>?_⟩;refine ea ?_;refine BU ?_;intro r8 s8 k8 eb E8;refine λx dw nx c5 ed=>⟨x,dw,rfl,Af,λg H5 ce N=>⟨rfl,?_⟩⟩
 have a3:Az H4 H5:=λb o e=>N.kp b o (by rw[Ax (Aw e nx),Ax (Aw e c5)];exact e) (ce▸Aw e nx);subst ce;have ca:=AW.new N;have ng:=N.none;clear N;have bv:=a5.trans a1;have c0:H D=none:=Az.noneN a5 nD;have az:=(hR.same a1).same a3;clear hR q bo cr nx c5 ed;generalize bp:stC ds=φ;have B:∀u v,φ u v≠0->I<=u/\u<I+6/\ly<=v/\v<ly+3:=λu v z=>stC_in dd (by rw[bp];exact z);obtain⟨dn,dp,dq,⟨a7,b2,b1,dt⟩,⟨a8,b3,du⟩,a9,b4,dv⟩:=ex60 rok bz n4 B dx W;refine eb ?_;refine BU ?_;intro r9 s9 k9 ec E9;have es:s9=Yx l pr n I my D dx W g [none,none,none,none,none]:=rfl
 clear_value s9
 subst es;refine xw2 rfl rfl (λp1 q1 np c4 c6=>jnew (Κ:=dn) (N:=43000) (b:=1000) ca rok bz az np c4 c6 (by rw[MD];decide) λH6 cx m1 a4 ai b5 _ _ _=>⟨rfl,?_⟩);refine ec ?_;refine BU ?_;intro fy gc fk ci ep;refine xw2 rfl rfl ⟨pr,r,rfl,az.same a4,rok,λel H7 L cg=>?_⟩;refine λp2 q2 c7 bc be=>jnew (Κ:=dp) (N:=43000) (b:=1000) (ai.fu.same L) (MS RQ rok) (re_o UV A4 rok bz) cg c7 bc be (by rw[MD];decide) λH8 cy m2 ag a6 bg _ _ _=>⟨rfl,?_⟩
 refine ci ?_;refine BU ?_;intro fz ge fl cj er;refine xw2 rfl rfl ⟨pr,r,rfl,((az.same a4).same L).same ag,rok,λem H9 M ch=>?_⟩;refine λp3 q3 c8 bd bf=>jnew (Κ:=dq) (N:=43000) (b:=1000) (a6.fu.same M) (MS SI rok) (re_o VA A4 rok bz) ch c8 bd bf (by rw[MD];decide) λdr cz m3 C bw as _ _ _=>⟨rfl,?_⟩
 refine cj ?_;have dm:=a3.trans a4;have s47:=dm.trans L;have a2:=(s47.trans ag).trans M;have f1:∀y∈m1.l::m1.kc::m1.ds,H4 y=none:=λy G=>Az.noneN a3 (b5 y G);have f2:∀y∈m2.l::m2.kc::m2.ds,H4 y=none:=λy G=>Az.noneN s47 (bg y G);have f3:∀y∈m3.l::m3.kc::m3.ds,H4 y=none:=λy G=>Az.noneN a2 (as y G);have n1:=nn_of ng f1;have n2:=nn_of ng f2;have n3:=nn_of ng f3;have bq:=VP (ai.same L) bg;have br:=VP ((ai.same (L.trans ag)).same M) as;have bt:=VP (a6.same M) as;have ah:∀{y:R_},H4 y=none->H y=none:=λ{y} e=>Az.noneN bv e;have al:Y3 a H dr g G0 43000 1000 [⟨dn,p1,q1,cx,pr,r,m1⟩,⟨dp,p2,q2,cy,el,EE IA r,m2⟩,⟨dq,p3,q3,cz,em,EE II r,m3⟩]:=by
  refine⟨bw.fu,Tf (ai.same (((L.trans ag).trans M).trans C)) (a6.same (M.trans C)) bw,Tf a7 a8 a9,Tf b2 b3 b4,Tf (Tf (.inl rfl) (.inr bq) (.inr br)) (Tf (.inr bq.sym) (.inl rfl) (.inr bt)) (Tf (.inr br.sym) (.inr bt.sym) (.inl rfl)),(bv.trans a2).trans C,Tf (λy G=>ah (n1 y (D4.mpr (.inr G)))) (λy G=>ah (n2 y (D4.mpr (.inr G)))) (λy G=>ah (n3 y (D4.mpr (.inr G)))),λy G=>ah (ng y (by simp only[frA,DB,B7,D3,A0c]at G⊢;lia)),by rw[MD];decide⟩
 have a0:∀x,H4 x=none->x∉[D]:=λx e z=>by
  rw[C7.mp z,hD]at e;cases e
 have af:=C _ _ (a2 _ _ hD);clear ai a6 bw b5 bg as a3 a4 L ag M C dm s47 a2 f1 f2 f3 bq br bt np c4 c6 c7 bc be c8 bd bf ca ng az cg ch ah bv a5 b2 b3 b4 a7 a8 a9;refine BU ?_;intro f0 de fm ck et;have es:de=Yx l pr n I my D dx W g [some (.ref p1),some (.ref p2),some (.ref p3),none,none]:=rfl
 clear_value de
 subst es;refine xw2 rfl rfl ⟨D,ds,rfl,.inl af,dd.nd,by have:=dd.len;lia,λo1 L1 gg fg e2 fo _ c3 cf db da=>?_⟩;have am:=al.fx al.m0 (fo.fx (.inl af)) (Tf (λx e=>a0 x (n1 x e)) (λx e=>a0 x (n2 x e)) (λx e=>a0 x (n3 x e))) λy G=>by rw[C7.mp G];exact c0
 refine fld_fv am.fu cf (Ap.new al.fu.at' c3) db da dd.dk (λc hc=>(dd.ok c hc).1.1) (by have:=dd.len;lia) (by rw[MD];decide) λf1 G1 e3 ba bb R m=>?_;have S:=am.fA ((ba.fx am.fu.at').mono (by simp[frA])) bb R;rw[bp]at m;clear al am fo cf db da c3 ba R bb af n1 n2 n3 a0 c0 dd bp hD nD a1;have ro:=rok.ok;have ct:∀u v,sFN r n φ u v≠0->I-4<=u/\u<I+10/\ly-4<=v/\v<ly+7:=λu v z=>by
  obtain⟨s,t,X,Y,Z,h4,h5⟩:=MQ bz z;obtain⟨q1,q2,q3,q4⟩:=B _ _ h5;exact VX (nb5 (w:=6) n4 X Y q1 q2) (nb5 (w:=3) n4 Z h4 q3 q4)
 have c1:∀x y,φ x y≠0->(x,y)∈bxP I ly 6 3:=λx y z=>Yb (B x y z);have c2:∀x y,sFN r n φ x y≠0->(x,y)∈bxP (I-4) (ly-4) 14 11:=λx y z=>Yb (by have:=ct x y z;lia);have l1:(bxP I ly 6 3).length<=154:=by rw[Yc];decide
 have l2:(bxP (I-4) (ly-4) 14 11).length<=154:=by rw[Yc];decide
 have c9:QB φ n:=λx y z=>by
  obtain⟨X,Y,Z,h4⟩:=B x y z;exact VX (nb1 n4 x1 x2 X Y) (nb1 n4 y1 y2 Z (S4 h4 A0))
 have eh:QB (tnF φ) n:=λx y z=>by
  obtain⟨X,Y,Z,h4⟩:=B _ _ z;exact VX (nb1 n4 y1 y2 Z (S4 h4 A0)) (nb2 n4 x1 x2 X Y)
 have ei:QB (mrF φ) n:=λx y z=>by
  obtain⟨X,Y,Z,h4⟩:=B _ _ z;exact VX (nb2 n4 x1 x2 X Y) (nb1 n4 y1 y2 Z (S4 h4 A0))
 have ej:QB (mvF dx W φ) n:=λx y z=>by
  obtain⟨X,Y,Z,h4⟩:=B _ _ z;exact VX (nb3 n4 x1 x2 d1 d2 X Y) (nb3 n4 y1 y2 d3 d4 Z (S4 h4 A0))
 have ee:∀x y,φ x y≠0->-(2^40)<=x+dx/\x+dx<2^40/\-(2^40)<=y+W/\y+W<2^40:=λx y z=>by
  obtain⟨X,Y,Z,h4⟩:=B _ _ z;exact VX (nb4 x1 x2 d1 d2 (X4 A0 X) (S4 Y A0)) (nb4 y1 y2 d3 d4 (X4 A0 Z) (S4 h4 A0))
 have ef:∀x y,sFN r n φ x y≠0->-(2^40)<=x+dx/\x+dx<2^40/\-(2^40)<=y+W/\y+W<2^40:=λx y z=>by
  obtain⟨X,Y,Z,h4⟩:=ct _ _ z;exact VX (nb4 x1 x2 d1 d2 X Y) (nb4 y1 y2 d3 d4 Z (S4 h4 A0))
 refine ck ?_;refine BU ?_;intro f5 gf fn cl eu;have bu:=S.m0;have cu:=S.m1;have cv:=S.m2;refine xw3 rfl rfl rfl (S.jump bu b1 m c9 A0 476048 A0 (.inr A0) λd G2 e4 i2 an cd p=>?_);have m:=m.app S.fu.ok cd;clear S cd;refine cl ?_;refine BU ?_;intro f6 df fp cm ev;have es:df=Yx l pr n I my D dx W g [some (.ref p1),some (.ref p2),some (.ref p3),some (.int (f1:Int)),some (.int (d:Int))]:=rfl
 clear_value df
 subst es;refine xq1 rfl ⟨(d:Int),rfl,true,rfl,Bd (cm ?_)⟩;refine BU ?_;intro f7 dg fq cn ew;have es:dg=Yx l pr n I my D dx W g [some (.ref p1),some (.ref p2),some (.ref p3),some (.int (f1:Int)),some (.int (d:Int))]:=rfl
 clear_value dg
 subst es;refine xw3 rfl rfl rfl (an.tl m c1 l1 A0 λt1 G3 e5 i3 ao bh b6=>?_);have m:=m.app an.fu.ok bh;have p:=p.app an.fu.ok bh;clear an bh;refine xq1 rfl (ao.jump cu du b6 eh A0 1407178 A0 (.inr A0) λt2 G4 e6 i4 ac bi au=>?_);have m:=m.app ao.fu.ok bi;have p:=p.app ao.fu.ok bi;clear ao bi b6;refine xw2 rfl rfl (ac.tl p c2 l2 A0 λt3 G5 e7 i5 U ax b7=>?_);have m:=m.app ac.fu.ok ax;have p:=p.app ac.fu.ok ax;have au:=au.app ac.fu.ok ax;clear ac ax;have e:t2=t3:=by
  obtain⟨rg,eg⟩:=U.fu.g0;exact Fv.eq eg U.fu.ok au b7 λx y=>A7d (A7d (sFN_tn ro φ n) x) y
 subst e;clear au b7;refine⟨rfl,(xq1 rfl (Qr rfl (cn ?_)))⟩;refine BU ?_;intro f8 dh ft co ex;have es:dh=Yx l pr n I my D dx W g [some (.ref p1),some (.ref p2),some (.ref p3),some (.int (f1:Int)),some (.int (d:Int))]:=rfl
 clear_value dh
 subst es;refine xw3 rfl rfl rfl (U.mi m c1 l1 A0 λu1 G6 e8 i6 aq bj b8=>?_);have m:=m.app U.fu.ok bj;have p:=p.app U.fu.ok bj;clear U bj;refine xq1 rfl (aq.jump cv dv b8 ei A0 3282472 A0 (.inr A0) λu2 G7 e9 i7 ad bm av=>?_);have m:=m.app aq.fu.ok bm;have p:=p.app aq.fu.ok bm;clear aq bm b8;refine xw2 rfl rfl (ad.mi p c2 l2 A0 λu3 G8 fa i8 ar ay b9=>?_);have m:=m.app ad.fu.ok ay;have p:=p.app ad.fu.ok ay;have av:=av.app ad.fu.ok ay;clear ad ay;have e:u2=u3:=by
  obtain⟨rg,eg⟩:=ar.fu.g0;exact Fv.eq eg ar.fu.ok av b9 λx y=>A7d (A7d (sFN_mr ro φ n) x) y
 subst e;clear av b9;refine⟨rfl,(xq1 rfl (Qr rfl (co ?_)))⟩;refine BU ?_;intro f9 di fw cp ey;have es:di=Yx l pr n I my D dx W g [some (.ref p1),some (.ref p2),some (.ref p3),some (.int (f1:Int)),some (.int (d:Int))]:=rfl
 clear_value di
 subst es;have aa:=ar.one bu;have cw:=aa.m0;clear ar bu cu cv;refine xw3 rfl rfl rfl (xw2 rfl rfl (aa.mv m c1 l1 ee A0 λv1 G9 fb i9 aj bn cb=>?_));have m:=m.app aa.fu.ok bn;have p:=p.app aa.fu.ok bn;clear aa bn;refine xq1 rfl (aj.jump cw dt cb ej A0 3332037 A0 (.inl rfl) λv2 ez fc fh ab ae aw=>?_);have m:=m.app aj.fu.ok ae;have p:=p.app aj.fu.ok ae;clear aj ae cb;refine xw3 rfl rfl rfl (xq1 rfl (ab.mv p c2 l2 ef A0 λv3 e0 fe fi ak O cc=>?_));have m:=m.app ab.fu.ok O;have p:=p.app ab.fu.ok O;have aw:=aw.app ab.fu.ok O;clear ab O;have e:v2=v3:=by
  obtain⟨rg,eg⟩:=ak.fu.g0;exact Fv.eq eg ak.fu.ok aw cc λx y=>A7d (A7d (sFN_mv dx W φ n) x) y
 subst e;clear aw cc;refine⟨rfl,(xq1 rfl (Qr rfl (cp ?_)))⟩;refine xw3 rfl rfl rfl (ak.jump cw b1 m c9 A0 4000000 A0 (.inl rfl) λv4 e1 bx fj b0 R dz=>?_);have e:v4=d:=by
  obtain⟨rg,eg⟩:=b0.fu.g0;exact Fv.eq eg b0.fu.ok dz (p.app ak.fu.ok R) λx y=>rfl
 subst e;refine xq1 rfl ⟨rfl,?_⟩;show Q (V.bl (decide (V.int (v4:Int)=V.int (v4:Int)))) bx;rw[X8 rfl];exact kq bx
end
end J
namespace J
open PySem L2
theorem ar1{α:Type}:∀us:List α,us.length=1->∃a,us=[a]
|[a],_=>⟨a,rfl⟩
theorem ar2{α:Type}:∀us:List α,us.length=2->∃a b,us=[a,b]
|[a,b],_=>⟨a,b,rfl⟩
theorem ar3{α:Type}:∀us:List α,us.length=3->∃a b c,us=[a,b,c]
|[a,b,c],_=>⟨a,b,c,rfl⟩
theorem ar4{α:Type}:∀us:List α,us.length=4->∃a b c d,us=[a,b,c,d]
|[a,b,c,d],_=>⟨a,b,c,d,rfl⟩
theorem ar5{α:Type}:∀us:List α,us.length=5->∃a b c d e,us=[a,b,c,d,e]
|[a,b,c,d,e],_=>⟨a,b,c,d,e,rfl⟩
structure Fg(K:O_)(x:Str)(st:Stmt)(f:R_)(fd:E_):Prop where
at_:W.nsIn K mainGlobals x=some (some (.ref f))
fn:Fun K x x st f fd
structure Fm(K:O_)(C:R_)(m q:Str)(st:Stmt)(f:R_)(fd:E_):Prop where
me:QW K C m f
fn:Fun K m q st f fd
structure Fi(K:O_)(C:R_)(q:Str)(st:Stmt)(f:R_)(fd:E_):Prop where
mk_:Mk K C f
fn:Fun K "__init__" q st f fd
theorem bnd{K:O_}{x q:Str}{b:Stmt}{f:R_}{i:E_}{ps:K_}(F:Fun K x q b f i)(h:∀(kV e m:S_)(k:Option Addr)(d l:S_)(us:F_),us.length=ps.length->bindArgs (W.fnOf x q (Nr b) (LM b) (Ak b) .none kV e m k d l) ⟨us,[]⟩=pure (ps.zip us):=by intro _ _ _ _ _ _ us a;first|(obtain⟨c,rfl⟩:=ar1 us a;exact rfl)|(obtain⟨c,g,rfl⟩:=ar2 us a;exact rfl)|(obtain⟨c,g,j,rfl⟩:=ar3 us a;exact rfl)|(obtain⟨c,g,j,n,rfl⟩:=ar4 us a;exact rfl)|(obtain⟨c,g,j,n,o,rfl⟩:=ar5 us a;exact rfl)):CF K i ps []:=F.binds h
theorem fin{l:W.OpenLaw}{w:Q_}{K:O_}{h:T_}{mg:C_}{fa:R_}(X:K.In h)(G:h.Ns mainGlobals mg)(lu:mg "law" = some (.ref fa))
  {i:R_} {y:R_} {j:R_} {a:R_} {U:R_} {g:R_} {f0:R_} {d0:E_} {f1:R_} {d1:E_} {f2:R_} {d2:E_} {f3:R_} {d3:E_} {f4:R_} {d4:E_} {f5:R_} {d5:E_} {f6:R_} {d6:E_} {f7:R_} {d7:E_} {f8:R_} {d8:E_} {f9:R_} {d9:E_} {jb:R_} {gk:E_} {jc:R_} {gl:E_} {jd:R_} {gm:E_} {je:R_} {gn:E_} {jf:R_} {gp:E_} {jg:R_} {gr:E_} {jh:R_} {gs:E_} {ji:R_} {gt:E_} {jj:R_} {gu:E_} {jk:R_} {gv:E_} {jm:R_} {gw:E_} {jn:R_} {gx:E_} {jo:R_} {gy:E_} {jp:R_} {gz:E_} {jq:R_} {ha:E_} {js:R_} {hb:E_} {jt:R_} {hc:E_} {ju:R_} {hd:E_} {jv:R_} {he:E_} {jw:R_} {hf:E_} {jx:R_} {hg:E_} {jy:R_} {hh:E_} {jz:R_} {hi:E_} {j0:R_} {hj:E_} {j1:R_} {hk:E_} {j2:R_} {hl:E_} {j3:R_} {hm:E_} {j4:R_} {hn:E_} {j5:R_} {ho:E_} {j6:R_} {hp:E_} {j7:R_} {hq:E_} {j8:R_} {hr:E_} {j9:R_} {hs:E_} {ka:R_} {ht:E_} {kb:R_} {hu:E_} {kc:R_} {hv:E_} {kd:R_} {hw:E_} {ke:R_} {hx:E_} {kf:R_} {hy:E_} {kg:R_} {hz:E_} {kh:R_} {h0:E_} {ki:R_} {h1:E_} {kj:R_} {h2:E_} {kl:R_} {h3:E_} {km:R_} {h4:E_} {kn:R_} {h5:E_} {ko:R_} {h6:E_} {kq:R_} {h7:E_} {kr:R_} {h8:E_} {ks:R_} {h9:E_} {kt:R_} {ia:E_} {ku:R_} {ib:E_} {kv:R_} {ic:E_} {kw:R_} {ie:E_} {kx:R_} {ig:E_} {ky:R_} {ih:E_} {kz:R_} {gj:E_} {k1:R_} {ij:E_} {k3:R_} {il:E_} {k5:R_} {io:E_} {k7:R_} {iq:E_} {k8:R_} {ir:E_} {k9:R_} {is:E_} {la:R_} {it:E_} {lb:R_} {iu:E_} {lc:R_} {iv:E_} {ld:R_} {iw:E_} {lf:R_} {ix:E_} {lg:R_} {iy:E_} {lh:R_} {iz:E_} {li:R_} {i0:E_} {ll:R_} {i3:E_} {lm:R_} {i4:E_} {ln:R_} {i5:E_} {lo:R_} {i6:E_} {lp:R_} {i7:E_} {lq:R_} {i8:E_} {lr:R_} {i9:E_} {ls:R_} {ja:E_} {k0:R_} {ii:E_} {k2:R_} {ik:E_} {k4:R_} {im:E_} {k6:R_} {ip:E_} {lj:R_} {i1:E_} {lk:R_} {i2:E_} {cp:Tok} {ah:Tok} {L:Tok} {M:Str} {B:Tok} {D:Str} {bo:Tok} {bp:Str} {a0:Tok} {cw:Tok} {R:Tok} {Q:Tok} {S:Str} {bc:Tok} {bd:Str} {N:Tok} {u:R_} {bl:Option Addr} {bn:Array (Option Value)} {dF:Nat} {a1:Tok} {a2:Tok} {a3:Tok} {a4:Tok} {a5:Tok} {a8:Tok} {ba:Tok} {bb:Tok} {n:R_} {ak:Option Addr} {al:Array (Option Value)} {cY:Nat} {Y:Tok} {Z:Tok} {aa:Tok} {ab:Tok} {ac:Tok} {ad:Tok} {ae:Tok} {af:Tok} {E:R_} {ce:Option Addr} {cg:Array (Option Value)} {dN:Nat} {b3:Tok} {b4:Tok} {b5:Tok} {ca:Tok} {t:R_} {bj:Option Addr} {bm:Array (Option Value)} {dG:Nat} {aw:Tok} {ax:Tok} {ay:Tok} {az:Tok}
  (dP:W.nsIn K mainGlobals "Amounts" = some (some (.ref i)))
  (dQ:W.nsIn K mainGlobals "Places" = some (some (.ref y)))
  (dR:W.nsIn K mainGlobals "Clause" = some (some (.ref j)))
  (dW:W.nsIn K mainGlobals "Grove" = some (some (.ref a)))
  (dY:W.nsIn K mainGlobals "Rule" = some (some (.ref U)))
  (dU:W.nsIn K mainGlobals "Jumps" = some (some (.ref g)))
  (cf:Cls K i)
  (co:Cls K y)
  (cn:Cls K j)
  (p:Cls K a)
  (c7:Cls K U)
  (A:Cls K g)
  (ar:findIn K (.ref i) "state" = some none)
  (V:findIn K (.ref i) "numbers" = some none)
  (av:findIn K (.ref y) "wanted" = some none)
  (bx:findIn K (.ref j) "cell" = some none)
  (O:findIn K (.ref j) "conditions" = some none)
  (bg:findIn K (.ref j) "makes" = some none)
  (bh:findIn K (.ref a) "levels" = some none)
  (b1:findIn K (.ref a) "parts" = some none)
  (au:findIn K (.ref a) "numbers" = some none)
  (bz:findIn K (.ref a) "bares" = some none)
  (as:findIn K (.ref a) "amounts" = some none)
  (b0:findIn K (.ref a) "boxes" = some none)
  (cl:findIn K (.ref U) "text" = some none)
  (bi:findIn K (.ref U) "clauses" = some none)
  (b2:findIn K (.ref g) "grove" = some none)
  (aj:findIn K (.ref g) "memories" = some none)
  (cd:findIn K (.ref g) "rule" = some none)
  (I:findIn K (.ref g) "known_squares" = some none)
  (P:findIn K (.ref g) "known_cells" = some none)
  (g0:Fg K "is_whole" Ml f0 d0)
  (g1:Fg K "is_state" Mm f1 d1)
  (g2:Fg K "takes" Sg f2 d2)
  (g3:Fg K "read_clause" Fa f3 d3)
  (g4:Fg K "read_state" IT f4 d4)
  (g5:Fg K "read_wanted" Ig f5 d5)
  (g6:Fg K "read_condition" EK f6 d6)
  (g7:Fg K "read_amounts" Gd f7 d7)
  (g8:Fg K "read_numbers" Gc f8 d8)
  (g9:Fg K "read_places" EZ f9 d9)
  (da:Fg K "shifted_box" Ie jb gk)
  (db:Fg K "least_box" Dg jc gl)
  (dc:Fg K "lies_within" Ih jd gm)
  (dd:Fg K "reach_of" Mi je gn)
  (de:Fg K "bare_field" IW jf gp)
  (df:Fg K "widened" NM jg gr)
  (dg:Fg K "trimmed" NN jh gs)
  (dh:Fg K "middle_of" GP ji gt)
  (di:Fg K "is_bare_around" EL jj gu)
  (dj:Fg K "widened_over" Gb jk gv)
  (dl:Fg K "widened_to" IR jm gw)
  (dm:Fg K "planted" NO jn gx)
  (cz:Fg K "replaced" Mh jo gy)
  (dn:Fg K "field_of" Mo jp gz)
  (dp:Fg K "box_of" PD jq ha)
  (dq:Fg K "jump" Vf js hb)
  (dr:Fg K "road" Ve jt hc)
  (ds:Fg K "check_leap" IV ju hd)
  (dt:Fg K "level_for" JQ jv he)
  (du:Fg K "clause_texts" Ge jw hf)
  (dv:Fg K "read_rule" JO jx hg)
  (dw:Fg K "deciding" Mp jy hh)
  (dx:Fg K "becomes" NP jz hi)
  (dy:Fg K "shown_rule" IS j0 hj)
  (dz:Fg K "turned_rule" Id j1 hk)
  (ea:Fg K "mirrored_rule" Fz j2 hl)
  (eb:Fg K "reordered_rule" Do j3 hm)
  (ec:Fg K "reordered_clause" CI j4 hn)
  (ed:Fg K "reordered_word" Dm j5 ho)
  (ee:Fg K "nine_parts" IU j6 hp)
  (ef:Fg K "fours_of" Mn j7 hq)
  (eg:Fg K "met_in_the_middle" Dx j8 hr)
  (eh:Fg K "moved_by" Mj j9 hs)
  (c0:Fg K "seen_at" LD ka ht)
  (ei:Fg K "without_unseen" EJ kb hu)
  (ej:Fg K "seen_quarters" DK kc hv)
  (ek:Fg K "rows_of_quarters" DR kd hw)
  (el:Fg K "turn_left" JN ke hx)
  (em:Fg K "mirror" PB kf hy)
  (c1:Fg K "rearranged" FL kg hz)
  (en:Fg K "_law_at" NQ kh h0)
  (eo:Fg K "_law_mix" Mq ki h1)
  (ep:Fg K "_law_state_by" FA kj h2)
  (er:Fg K "_law_condition_by" Cy kl h3)
  (es:Fg K "_law_clause_by" EM km h4)
  (et:Fg K "_law_holds" Ja kn h5)
  (eu:Fg K "_law_decides" Gf ko h6)
  (ev:Fg K "_law_becomes" Gh kq h7)
  (ew:Fg K "_law_clauses_by" En kr h8)
  (ey:Fg K "_law_word" Fp ks h9)
  (ez:Fg K "_law_text" GQ kt ia)
  (e0:Fg K "_law_by_rows" Gg ku ib)
  (e1:Fg K "_law_listed" Ii kv ic)
  (e2:Fg K "_law_base" JT kw ie)
  (e3:Fg K "_law_heap" JS kx ig)
  (e4:Fg K "_law_whole" IZ ky ih)
  (e5:Fg K "law" s_law kz gj)
  (e7:Fm K i "holds" "Amounts.holds" FB k1 ij)
  (e9:Fm K y "holds" "Places.holds" Eo k3 il)
  (fc:Fm K j "fits" "Clause.fits" Fc k5 io)
  (ff:Fm K a "kept" "Grove.kept" Je k7 iq)
  (fg:Fm K a "linked" "Grove.linked" Gi k8 ir)
  (fh:Fm K a "check_square" "Grove.check_square" Di k9 is)
  (fi:Fm K a "leaf" "Grove.leaf" Jd la it)
  (fj:Fm K a "level_of" "Grove.level_of" EO lb iu)
  (fk:Fm K a "state_of" "Grove.state_of" EN lc iv)
  (lv:Fm K a "living" "Grove.living" PF ld iw)
  (lw:Fm K a "counted" "Grove.counted" OF lf ix)
  (fl:Fm K a "span" "Grove.span" Jc lg iy)
  (c2:Fm K a "boxed" "Grove.boxed" Fb lh iz)
  (fm:Fm K a "measured" "Grove.measured" Dq li i0)
  (fq:Fm K g "change" "Jumps.change" Ep ll i3)
  (ft:Fm K g "after" "Jumps.after" Ik lm i4)
  (fu:Fm K g "check_jump" "Jumps.check_jump" DS ln i5)
  (c3:Fm K g "reckoned" "Jumps.reckoned" Dp lo i6)
  (fv:Fm K g "fresh" "Jumps.fresh" Cu lp i7)
  (fw:Fm K g "four_halfway" "Jumps.four_halfway" Bv lq i8)
  (fy:Fm K g "middle_after" "Jumps.middle_after" Dh lr i9)
  (fz:Fm K g "cell_after" "Jumps.cell_after" CJ ls ja)
  (e6:Fi K i "Amounts.__init__" Gj k0 ii)
  (e8:Fi K y "Places.__init__" Ij k2 ik)
  (fb:Fi K j "Clause.__init__" Il k4 im)
  (fe:Fi K a "Grove.__init__" Jf k6 ip)
  (fo:Fi K U "Rule.__init__" GR lj i1)
  (fp:Fi K g "Jumps.__init__" Jb lk i2)
  (ga:W.nsIn K mainGlobals "all" = some none)
  (c8:W.nsIn K mainGlobals "bool" = some none)
  (cu:W.nsIn K mainGlobals "enumerate" = some none)
  (gb:W.nsIn K mainGlobals "int" = some none)
  (cm:W.nsIn K mainGlobals "isinstance" = some none)
  (gc:W.nsIn K mainGlobals "len" = some none)
  (c9:W.nsIn K mainGlobals "list" = some none)
  (ge:W.nsIn K mainGlobals "max" = some none)
  (gf:W.nsIn K mainGlobals "min" = some none)
  (c5:W.nsIn K mainGlobals "range" = some none)
  (cy:W.nsIn K mainGlobals "sorted" = some none)
  (gg:W.nsIn K mainGlobals "str" = some none)
  (gh:W.nsIn K mainGlobals "sum" = some none)
  (c6:W.nsIn K mainGlobals "tuple" = some none)
  (gi:W.nsIn K mainGlobals "zip" = some none)
  (cx:W.nsIn K mainGlobals "STATES" = some (some (.int 8 cp)))
  (ci:W.nsIn K mainGlobals "NEIGHBOURS" = some (some (.int 8 ah)))
  (bf:W.nsIn K mainGlobals "STATE_FIGURES" = some (some (.str M L)))
  (ao:M=Str.ofString "01234567")
  (am:W.nsIn K mainGlobals "AMOUNT_FIGURES" = some (some (.str D B)))
  (ai:D=Str.ofString "012345678")
  (cv:W.nsIn K mainGlobals "ANY_SIGN" = some (some (.str bp bo)))
  (ct:bp=Str.ofString "*")
  (cr:W.nsIn K mainGlobals "TOP_LEVEL" = some (some (.int 48 a0)))
  (c4:W.nsIn K mainGlobals "LIMIT" = some (some (.int 1099511627776 cw)))
  (cc:W.nsIn K mainGlobals "LEAST_LEVEL" = some (some (.int 1 R)))
  (cb:W.nsIn K mainGlobals "CLAUSE_MARK" = some (some (.str S Q)))
  (bu:S=Str.ofString "; ")
  (cs:W.nsIn K mainGlobals "WORD_MARK" = some (some (.str bd bc)))
  (cj:bd=Str.ofString " ")
  (bq:W.nsIn K mainGlobals "LEAST_JUMPED" = some (some (.int 2 N)))
  (bt:W.nsIn K mainGlobals "TURNED_ORDER" = some (some (.ref u)))
  (bw:K.lookup u=some ⟨.type "tuple",bl,.seq #[.int 2 a1,.int 4 a2,.int 7 a3,.int 1 a4,.int 6 a5,.int 0 a8,.int 3 ba,.int 5 bb] dF,bn⟩)
  (an:W.nsIn K mainGlobals "MIRRORED_ORDER" = some (some (.ref n)))
  (aq:K.lookup n=some ⟨.type "tuple",ak,.seq #[.int 2 Y,.int 1 Z,.int 0 aa,.int 4 ab,.int 3 ac,.int 7 ad,.int 6 ae,.int 5 af] cY,al⟩)
  (ch:W.nsIn K mainGlobals "LEFT_ORDER" = some (some (.ref E)))
  (ck:K.lookup E=some ⟨.type "tuple",ce,.seq #[.int 1 b3,.int 3 b4,.int 0 b5,.int 2 ca] dN,cg⟩)
  (br:W.nsIn K mainGlobals "MIRROR_ORDER" = some (some (.ref t)))
  (bv:K.lookup t=some ⟨.type "tuple",bj,.seq #[.int 1 aw,.int 0 ax,.int 3 ay,.int 2 az] dG,bm⟩)
  : ∃fd:FuncData,(∀(s:P_)(v:S_),BindsTo s fd ⟨[v],[]⟩ [("_law_script",v)])/\∀ag:Heap,K.In ag->ag.Ns mainGlobals mg->AL l.prog w K mg ag CX0 152 fa fd ["_law_script"] (Wr K):=by
 have e:=lu.symm.trans (K6 X G e5.at_);cases e;have no:∀{x:Str},W.nsIn K mainGlobals x=some none->mg x=none:=λz=>W.mg_none_of X G z;subst cj;subst bu;subst ct;subst ai;subst ao;have T:Top K mg (⟨i,y,j,a,U,g,u,n,E,t⟩:Ad):=⟨no ga,no c8,no cu,no gb,no cm,no gc,no c9,no ge,no gf,no c5,no cy,no gg,no gh,no c6,no gi,⟨cp,K6 X G cx⟩,⟨ah,K6 X G ci⟩,⟨L,K6 X G bf⟩,⟨B,K6 X G am⟩,⟨bo,K6 X G cv⟩,⟨a0,K6 X G cr⟩,⟨cw,K6 X G c4⟩,⟨R,K6 X G cc⟩,⟨Q,K6 X G cb⟩,⟨bc,K6 X G cs⟩,⟨N,K6 X G bq⟩,⟨K6 X G bt,λH=>.inr ⟨_,_,_,bw,rfl,rfl,(by show 8<=sizeLine;decide),.cons ⟨_,rfl⟩ (.cons ⟨_,rfl⟩ (.cons ⟨_,rfl⟩ (.cons ⟨_,rfl⟩ (.cons ⟨_,rfl⟩ (.cons ⟨_,rfl⟩ (.cons ⟨_,rfl⟩ (.cons ⟨_,rfl⟩ (.nil))))))))⟩⟩,⟨K6 X G an,λH=>.inr ⟨_,_,_,aq,rfl,rfl,(by show 8<=sizeLine;decide),.cons ⟨_,rfl⟩ (.cons ⟨_,rfl⟩ (.cons ⟨_,rfl⟩ (.cons ⟨_,rfl⟩ (.cons ⟨_,rfl⟩ (.cons ⟨_,rfl⟩ (.cons ⟨_,rfl⟩ (.cons ⟨_,rfl⟩ (.nil))))))))⟩⟩,⟨K6 X G ch,λH=>.inr ⟨_,_,_,ck,rfl,rfl,S_4,.cons ⟨_,rfl⟩ (.cons ⟨_,rfl⟩ (.cons ⟨_,rfl⟩ (.cons ⟨_,rfl⟩ (.nil))))⟩⟩,⟨K6 X G br,λH=>.inr ⟨_,_,_,bv,rfl,rfl,S_4,.cons ⟨_,rfl⟩ (.cons ⟨_,rfl⟩ (.cons ⟨_,rfl⟩ (.cons ⟨_,rfl⟩ (.nil))))⟩⟩,K6 X G dP,cf,ar,V,K6 X G dQ,co,av,K6 X G dR,cn,bx,O,bg,K6 X G dW,p,bh,b1,au,bz,as,b0,K6 X G dY,c7,cl,bi,K6 X G dU,A,b2,aj,cd,I,P⟩
 refine⟨gj,λs v=>(by obtain⟨_,_,_,_,_,_,_,_,_,rfl,_⟩:=e5.fn.ex;exact .of_eq rfl),λag _ _=>?_⟩;have d:∀{CX:CXT}{k:Nat}{x:Str}{st:Stmt}{f:R_}{fd:E_}{ps:K_}{sp:Sp},Fg K x st f fd->AL l.prog w K mg ag CX k f fd ps sp->CF K fd ps []->Cal l.prog w K mg ag CX k x ps sp:=λF o b=>⟨_,_,o,K6 X G F.at_,F.fn.kp,b⟩
 have r:∀{CX:CXT}{k:Nat}{C:R_}{x q:Str}{st:Stmt}{f:R_}{fd:E_}{ps:K_}{sp:Sp},Fm K C x q st f fd->Cls K C->AL l.prog w K mg ag CX k f fd ps sp->CF K fd ps []->Ca l.prog w K mg ag CX k C x ps sp:=λF c o b=>⟨⟨_,_,o,F.me,b⟩,c⟩
 have be:∀{CX:CXT}{k:Nat}{C:R_}{x q:Str}{st:Stmt}{f:R_}{fd:E_}{ps:K_}{sp:Sp},Fi K C q st f fd->mg x=some (.ref C)->AL l.prog w K mg ag CX k f fd ps sp->CF K fd ps []->QY l.prog w K mg ag CX k x C ps sp:=λF m o b=>⟨_,_,o,F.mk_,m,b⟩
 have aK:=d g0 (ok_iw g0.fn T) (bnd g0.fn);have bG:=d g1 (ok_is g1.fn T aK) (bnd g1.fn);have aW:=r ff p (ok_kept ff.fn T) (bnd ff.fn);have dO:=be fe T.m_Grove (ok_ginit fe.fn T aW) (bnd fe.fn)
 have a6:=r fg p (ok_link fg.fn T aW) (bnd fg.fn);have aE:=r fh p (ok_chk fh.fn T aK) (bnd fh.fn);have aV:=r fi p (ok_leaf fi.fn T bG) (bnd fi.fn);have a7:=r fj p (ok_lev fj.fn T aE) (bnd fj.fn);have bD:=r fk p (ok_sta fk.fn T a7) (bnd fk.fn);have a9:=d da (ok_shift da.fn T) (bnd da.fn);have bA:=d db (ok_least db.fn T) (bnd db.fn);have b7:=r c2 p (ok_box c2.fn fm.fn T c2.me (bnd c2.fn) fm.me (bnd fm.fn) a9 bA 49) (bnd c2.fn);have cC:=r fl p (ok_span fl.fn T aE b7) (bnd fl.fn);have aA:=d dc (ok_lie dc.fn T) (bnd dc.fn);have aB:=d dd (ok_reach dd.fn T a7) (bnd dd.fn);have bK:=d df (ok_wid df.fn T a7 a6) (bnd df.fn);have cM:=d dh (ok_mid dh.fn T a6) (bnd dh.fn);have bH:=d di (ok_ba di.fn T) (bnd di.fn);have aR:=d dg (ok_trim dg.fn T a7 bH cM) (bnd dg.fn);have aT:=d dj (ok_wo dj.fn T aA aB bK) (bnd dj.fn);have aZ:=d de (ok_bareF de.fn T) (bnd de.fn);have bN:=d cz (ok_rep cz.fn T (K6 X G cz.at_) (bnd cz.fn) aV a6 50) (bnd cz.fn);have dA:=d dm (ok_plant dm.fn T aA bG aB aT bN aR) (bnd dm.fn);have cU:=d dn (ok_fld dn.fn T aZ dA) (bnd dn.fn);have cB:=d dp (ok_boxof dp.fn T cC aB a9) (bnd dp.fn);have aS:=d c1 (ok_re c1.fn T (K6 X G c1.at_) (bnd c1.fn) a6 50) (bnd c1.fn);have bT:=d el (ok_tl el.fn T aS) (bnd el.fn);have cW:=d em (ok_mi em.fn T aS) (bnd em.fn);have aP:=d ei (ok_wu ei.fn T) (bnd ei.fn);have aJ:=d ek (ok_rq ek.fn T) (bnd ek.fn);have cA:=d c0 (ok_sa c0.fn ej.fn T (K6 X G c0.at_) (bnd c0.fn) (K6 X G ej.at_) (bnd ej.fn) aP aJ a6 50) (bnd c0.fn);have cF:=d eh (ok_mv eh.fn T cB a9 aA aT aB a7 aR cA) (bnd eh.fn);have cR:=d g2 (ok_takes g2.fn) (bnd g2.fn);have dC:=be e6 T.m_Amounts (YL e6.fn T) (bnd e6.fn)
 have dJ:=be e8 T.m_Places (YJ e8.fn T) (bnd e8.fn)
 have dL:=be fb T.m_Clause (YK fb.fn T) (bnd fb.fn)
 have dD:=r e7 cf (Vn e7.fn T) (bnd e7.fn);have dH:=r e9 co (Vm e9.fn T cR) (bnd e9.fn);have bV:=r fc cn (ok_Fits fc.fn T cR dD dH) (bnd fc.fn);have cV:=d dw (ok_dec dw.fn T bV) (bnd dw.fn);have bL:=d dx (ok_bec dx.fn T cV) (bnd dx.fn);have aN:=d g4 (ok_rs g4.fn T) (bnd g4.fn);have aY:=d g5 (ok_rw g5.fn T aN) (bnd g5.fn);have bO:=d g8 (ok_rn g8.fn T) (bnd g8.fn);have bP:=d g7 (ok_ram g7.fn T aN bO dC) (bnd g7.fn);have bX:=d g9 (ok_rpl g9.fn T aY dJ) (bnd g9.fn);have bF:=d g6 (ok_rcond g6.fn T bP bX) (bnd g6.fn);have bY:=d g3 (ok_rc g3.fn T aN aY bF dL) (bnd g3.fn);have aU:=d du (ok_ct du.fn T) (bnd du.fn);have dB:=be fo T.m_Rule (ok_ri fo.fn T aU bY) (bnd fo.fn)
 have cL:=d dv (ok_rr dv.fn T dB bL) (bnd dv.fn);have bE:=d ed (ok_ow ed.fn T) (bnd ed.fn);have b9:=d ec (ok_oc ec.fn T bE) (bnd ec.fn);have aQ:=d eb (ok_or eb.fn T dB aU b9) (bnd eb.fn);have bW:=d dz (ok_tr2 dz.fn T aQ) (bnd dz.fn);have bJ:=d ea (ok_mr2 ea.fn T aQ) (bnd ea.fn);have cE:=d dy (ok_show dy.fn T) (bnd dy.fn);have bM:=r fq A (ok_chg fq.fn T cE) (bnd fq.fn);have cX:=be fp T.m_Jumps (ok_jinit fp.fn T bM) (bnd fp.fn)
 have aI:=r fz A (ok_cel fz.fn T bD aV bL) (bnd fz.fn);have aD:=r fy A (ok_mid2 fy.fn T a6 aI) (bnd fy.fn);have aO:=d ee (ok_nine ee.fn T a6) (bnd ee.fn);have aX:=d ef (ok_fours ef.fn T) (bnd ef.fn);have aG:=d eg (ok_met eg.fn T a6) (bnd eg.fn);have aC:=r c3 A (WH c3.fn fw.fn fv.fn T c3.me (bnd c3.fn) fw.me (bnd fw.fn) fv.me (bnd fv.fn) aD a6 aO aX aG 46) (bnd c3.fn);have b8:=r fu A (ok_cj fu.fn T a7 aK) (bnd fu.fn);have bU:=r ft A (YI ft.fn T A4 b8 aC) (bnd ft.fn);have cG:=d ds (ok_chg' ds.fn T aK cB aA) (bnd ds.fn);have cN:=d dt (ok_lvf dt.fn T aB) (bnd dt.fn);have cD:=d dl (ok_wt dl.fn T a7 bK) (bnd dl.fn);have dS:=d dr (ok_rdg dr.fn T cG aZ cN cD bU aR) (bnd dr.fn);have cT:=d dq (ok_jpg dq.fn T dS aR) (bnd dq.fn);have aF:=d en (ok_at en.fn T) (bnd en.fn);have aM:=d eo (ok_mix eo.fn) (bnd eo.fn);have aH:=d ep (ok_st ep.fn) (bnd ep.fn);have b6:=d er (ok_co er.fn T aM aH) (bnd er.fn);have bI:=d es (ok_cl es.fn T aM aH b6) (bnd es.fn);have cJ:=d et (ok_ho et.fn T) (bnd et.fn);have bQ:=d eu (ok_de eu.fn T cJ) (bnd eu.fn);have bS:=d ev (ok_be ev.fn T bQ) (bnd ev.fn);have bC:=d ew (ok_cs ew.fn T aF bI bS) (bnd ew.fn);have cO:=d ey (ok_wd ey.fn T) (bnd ey.fn);have cP:=d ez (ok_tx ez.fn T cO) (bnd ez.fn);have bR:=d e0 (ok_row e0.fn T) (bnd e0.fn);have bZ:=d e1 (ok_lsd e1.fn T bR) (bnd e1.fn);have bB:=d e2 (ok_base e2.fn T) (bnd e2.fn);have cQ:=d e3 (ok_heap e3.fn T aF) (bnd e3.fn);have cH:=d e4 (ok_whi e4.fn T) (bnd e4.fn);exact ok_law e5.fn T dO aF bC cP cL bB cQ bZ cH cU cX bW bJ bT cW cF cT
theorem walk{l:W.OpenLaw}{q:N_}{c:K_}{m:(Str->Option Value)->Heap->Prop}{g:World->Heap->Prop}{d:DefRec}{K:Params->W.Frag}(t:l.most=some 63)(e:d.params.defaults=[])
  (p:∀(w:Q_)(h:T_),g w h->(K w.params).In h)
  (F:∀(w:Q_)(mg:C_)(i:R_)(h:T_),(K w.params).In h->h.Ns mainGlobals mg->mg d.name=some (.ref i) ->
   ∃j:FuncData,(∀(s:P_)(u:S_),BindsTo s j ⟨[u],[]⟩ [("_law_script",u)])/\∀b:Heap,(K w.params).In b->b.Ns mainGlobals mg->AL l.prog w (K w.params) mg b CX0 152 i j ["_law_script"] (Wr (K w.params))) :
  W.WalkO q c m g l.row.toRowW d [] (λf vs=>PySem.call f vs) :=
 L2.Wb (n:=63) (k:=152) (x:="_law_script") (CX:=λ_=>CX0) (sp:=λw=>Wr (K w.params)) t A4 e ⟨rfl,by decide,by decide⟩ p F (λ_ _ a ns r _ o=>⟨a,ns,rfl,o,r,λ_=>rfl⟩) λ_ _ _ _ _ z=>z
end J
structure PySem.W.Fast:Prop where(tw3746071695404432327 tw12200978430104906038 tw6273897047349120671 tw11282679773828562214 tw4231456640124629063 tw18373746884873917015 tw12090124216101216013 tw4061861246227786426 tw2038509632322203859 tw4483563897353664251 tw9474924748904460108 tw57500367335422297 tw1389599645855326345 tw14927480054119273689 tw7658695103399411587 tw1403257923399295222 tw11001347199380925133 tw10799049299295873765 tw3349089583188912675 tw13844050806628216392 tw12229977275557810248 tw12008295472581118292 tw8097678233138675724 tw1661165728049713434 tw9604806953822823132 tw6408948630305286842 tw5910544025935777692 tw12215794777113739553 tw1553258258112542319 tw5388753855726949117 tw14996588638712022317 tw15930593697277112077 tw7285546060682400676 tw12775982970900502337 tw10701547992629832878 tw4079865713020410066 tw2716642429529057172 tw9166572035975736149 tw13111757132697531731 tw12444358225549135306 tw11287413881469693204 tw9818436463880164216 tw2364412313943857619 tw1151128039409688060 tw13840473623218064815 tw16272916994764515434 tw17766707319695993208 tw17232758877740568996 tw13095461197573594653 tw7223384570672126026 tw9861208054416022678 tw12495688071223207675 tw16572891919704119644 tw16894315474795836272 tw16432663240284180527 tw440981655875235732 tw7686139079544925450 tw4546000052480992279 tw4664199757171601962 tw1254139734326726633 tw10795415710012323908 tw1596063042624100315 tw6171296236262282334 tw886089112264479830 tw17384355398928181568 tw16161546585614188885 tw5137874197235482532 tw9945573883844925172 tw4768621329165434203 tw3444058690441555787 tw12626006213050862304 tw3565576955065383301 tw7808575291168561829 tw464265931845395477 tw17732788446744666016 tw7451777908407643288 tw13757056443663404722 tw615934130223398327 tw16354857327011984270 tw10772313734700890319 tw2969238078316993597 tw8290818899250504595 tw9812024963060251050 tw5565103799644352380 tw12550932511594344640 tw997130832576048399 tw13161352649626997252 tw16192587615204584972 tw623940712624479857 tw10584712298925273157 tw14250946326811724745 tw12617449741188038654 tw15853384638121385749 tw17101013882756676164 tw5852025456729056582 tw9048184618942085233 tw12309036262504845018 tw1726432935513840060 tw400215214174202556 tw1472108900181813067 tw5736273066445714341 tw2400524227792545373 tw13474591199858896416 tw12605201765365263134 tw13047431943988744737 tw2091207304496410074 tw93998747923488284 tw9446719619605966111 tw10381673856172437126 tw16436676503937559162 tw9993788400269721533 tw16901470253946179312 tw16267569502764369155 tw14143992825923300243 tw9644798605635692689 tw15208881761376737191 tw6995374856240332062 tw17266689790425151029 tw3760331559092115485 tw12305835260113068649 tw9596836615168339777 tw11958891945391346719 tw11477403009498317991 tw11823162475599587880 tw1408758971864635524 tw5471725307924947579 tw9997704027581862179 tw3881660296931074061 tw16402043022324362253 tw5609982194411155288 tw10741692565326670718 tw358742428536482216 tw13970622218798215629 tw11568506161756260594 tw3959144531545453560 tw3220013765495936059 tw18149783507042318051 tw13564363026486053722 tw4942911650469359992 tw17921353385804675257 tw671362098846185807 tw16821021581612218539 tw14789428964862549604 tw4184854786714859312 tw8697715230433732661 tw8715881070398406592 tw10281232101026811697 tw3969697330728966853 tw13252359609193351911 tw15449532155500636278 tw9344565099024053850 tw16795058011273697441 tw13979944610593663777 tw532461060873714597 tw6687369693404999973 tw2530474794235191325 tw14989036049023982534 tw3370948743351725107 tw11110148744221307019 tw1287543785538008114 tw10310834063814360948 tw14328315687356180677 tw2008449586180922927 tw13949540153973196586 tw8201219895717834924 tw9837124519693458854 tw986357583913185516 tw9638078177468477545 tw15215332879562968586 tw4283053740773826421 tw16370328604444638681 tw9943356805573012335 tw15178835485058166718 tw14626371576546384002 tw931642502686462232 tw1831886758916967766 tw14865973335314160888 tw13741053507079135018 tw6326665715236426000 tw15322498847259235490 tw10639288436841928665 tw8070544036685530061 tw6432777860521193132 tw6181555061380549776 tw13171845389469802962 tw4292752761500807619 tw5277011369877525103 tw6382126439217931934 tw17246792373830432391 tw10317901862255765619 tw14136915218877377619 tw3651147550167505001 tw3161967509248084531 tw3134175312852692847 tw14112847368603631545 tw7869107909760779091 tw3449147889859171233 tw4419199376531982848 tw6399841000940629434 tw9242837595080624138 tw14961529414766681977 tw7984162498174761132 tw15430968254785411330 tw17246014150804326060 tw11535715962786116481 tw13926486100163650022 tw186555316306988826 tw13849987953865646982 tw9567502394729945629 tw17559146320865864403 tw7036736311472584116 tw4114997028359336789 tw9106304958128873151 tw16690528299657049762 tw1825931171654903488 tw1317248750196469081 tw11475697977221446326 tw15948368217123539335 tw7741602486427979967 tw4974735898669784749 tw14710203649244358189 tw15003351495892807498 tw3705896214879002408 tw8215500780596265247 tw4910441575429597066 tw3404039298659394252 tw3509189301030098814 tw7865808591311236978 tw15722713987826513970 tw4973846661301366371 tw15125603302303034052 tw1992999054147128736 tw10600736045189645770 tw111327074646875095 tw17596571348955728523 tw11008030305921774972 tw6626280212652970716 tw3046453672439144406 tw11602022910587877334 tw4249650936255281154 tw9415390785078345086 tw11921473368654364387 tw3272447114805130565 tw3611068856116557669 tw5626752976458148773 tw3811146494767199589 tw3856078874897827178 tw2235198824310746258 tw8487503861737481005 tw3319275156186001232 tw5563291668411931668 tw9021368306822105677 tw5523160782476852574 tw15480965852107498716 tw860405598581878431 tw10265298330887247022 tw9145245029846952277 tw9296356205174777218 tw13378222487281956543 tw11215704646118535446 tw10681756558669877015 tw7867956406856738310 tw1980196834147068477 tw9398501153950136066 tw10424351317174927081 tw6819886440875275197 tw9033128110537168397 tw15408811587853388447 tw5259966193754912201 tw5576704936627092391 tw14495116594447072936 tw10181947922196817116 tw13078370495142867645 tw8371402749169243088 tw13481031314382051708 tw4893728948868825053 tw12821499006159421654 tw88454235887562014 tw17450800848039419630 tw13507938337168875800 tw15756123405960320479 tw1109364222954111620 tw136029728631936412 tw15685244933938341780 tw8853023856481236434 tw9196934118067779062 tw16402648844378558751 tw2459031392286294327 tw17755004115699096611 tw4376665779185081438 tw10009644211710157893 tw4529141139974453534 tw10190872482738384474 tw12966976393140343284 tw3280977031222872170 tw7099127871970556783 tw1140110674266492970 tw5263055704978651267 tw4873845130386715566 tw3181493553712694970 tw11919415937229760762 tw12342873401223816411 tw1516732300290883444 tw8128435375061312881 tw9836454938463864905 tw980671032506593229 tw15636556554474457540 tw4146753889425319049 tw2709778791224003581 tw15206396557580435333 tw14631687827616036738 tw1469580918196860800 tw5236199699132941895 tw8035123500579661972 tw15051700393660238786 tw17244566250434239772 tw13266634891067862386 tw4171777651842647302 tw11346303425078484849 tw6505170953483037363 tw18268595718087324505 tw745273753656141305 tw9362995865305544421 tw13445079436581638379 tw10070657603719873905 tw10909159636511233799 tw10228661972019026893 tw12429706718837895431 tw17975382782124362867 tw5682781937375749613 tw16009510195645604908 tw1138920992966367946 tw9654589505952022493 tw2426876364729632499 tw3162231566378807039 tw797681199084522643 tw4159679700394678828 tw12725388707061496125 tw7616184909059892688 tw16117493578708961465 tw16199464546922662931 tw8115996996695535769 tw14010576372261644393 tw9806750838055596594 tw1924515728080905586 tw1229318881537495333 tw18079486623218878530 tw1114797272529606520 tw384836494161094548 tw18179077394903890253 tw15522143688003073742 tw2482421882445526824 tw4273616020312398971 tw1477639033711693592 tw9970402017855728171 tw11783166243533031948 tw11806306847915529401 tw16088843188234922359 tw12742634982551094196 tw5613502934795175568 tw18340503511626380276 tw9305894028515395475 tw9467588270197686541 tw4776160347747699898 tw8321995837751926202 tw16051880170537742637 tw7111141904421807137 tw6488561681778660632 tw17003442833218959457 tw16761149254220376961 tw9725758110631781184 tw6769651592058223307 tw6413967832612704762 tw18388064585032979755 tw8117797957591659715 tw10188981196213607878 tw16955098777620094503 tw17351541866967753309 tw17144817596154109951 tw13165543287317915831 tw1434589252864607450 tw9118803527589948091 tw6123303400637458769 tw11466940555641993990 tw18296453111755536820 tw6377213086137363927 tw14844470715391236920 tw1546841252094264599 tw13111828055109811347 tw1519887176765931964 tw18415377047661828223 tw13343812290662640641 tw6652013316445532062 tw6109699351098930491 tw8025888890082463365 tw5211298295945635137 tw6330707733808016382 tw4251194860275489517 tw4885805582962128456 tw199932808734917141 tw6222660665699816472 tw11408063091642934125 tw3578930625041336604 tw16866540803886992170 tw6072578955057378851 tw9184752405557919947 tw13689889676357908608 tw11674226262350088990 tw10210196161940706241 tw4783464995495582478 tw1357492227804092196 tw10690620278479303707 tw9384975059745509697 tw10720470190432890981 tw17165088420199490041 tw8859296643804656605 tw11575807256635921023 tw3138033997740781078 tw13686004231155112820 tw14206189106653014142 tw4296275939479130305 tw2877012684337217534 tw4454281588897983647 tw18193439674099246388 tw4734345366622314785 tw10978370241803922365 tw7046131447607908984 tw9722730751679787364 tw3036335261611766683 tw10645376973855972973 tw16786591651967804478 tw14058982760655156785 tw4954002010881087295 tw4841855555773712669 tw6423279588972416896 tw6653343689839903189 tw4214350740838122248 tw3381973954931371657 tw1912087226151083860 tw17372979150348491274 tw2486842053348435462 tw14414439417037622465 tw11618203957197908409 tw4400275600792021427 tw15180396168093717529 tw15531834240429805026 tw9731787565951172488 tw433234180223227649 tw1442589670806925922 tw11673480126129248197 tw15016873101885746522 tw3264013506201501947 tw3357234854961851157 tw16580052625743307090 tw6249938117495131307 tw6967542501942113621 tw17930638552283629105 tw5348301115542665856 tw11410673200283251988 tw236849794591631320 tw8345821729404263309 tw5973608196784576194 tw3381176253118617056 tw16231939736854231056 tw15748940327842266435 tw8449431348098249279 tw9630486568400040931 tw16927188081920403602 tw3546972265439821114 tw14501223223644144963 tw6752449477438739757 tw16054031738842936859 tw10535628228170978309 tw1442482133983934434 tw4099840728422141880 tw9838903020258095556 tw3965142985281598028 tw2831997671912160097 tw17201304351255893720 tw11516171769640467065 tw9948195848817411374 tw13017779652328178772 tw4766830322971528120 tw10175736606021116418 tw1908399665111583832 tw13757999805329001232 tw7483679874892750031 tw4067959279295115325 tw18371527893602888579 tw626021610137360008 tw3923316088392088252 tw16623785568897102602 tw10001522318237199312 tw1572157583445232946 tw10727338938720201284 tw9725086367368131037 tw3298104193022211473 tw4102695699848251105 tw9737130357158616035 tw3968378072286711634 tw15872886800806388462 tw4673323753706532608 tw2864270554894840353 tw5559440436824335475 tw4360550746140948991 tw16248374655194075485 tw11350549556894793370 tw4716890788513557812 tw13733138116008669096 tw4824183646352413447 tw11924970516768632170 tw7577586984634902938 tw8836014988805653364 tw4928726918417998460 tw11753358365135822051 tw9720973155735216191 tw1223544039949396947 tw8600203261801736221 tw12433304164305570146 tw11964145628191944991 tw14123425207074134942 tw14493508096359648868 tw7453652373256020266 tw8182139429010138556 tw2060170127771893487 tw2689680860013141475 tw17737734300135416151 tw10880421682509547660 tw5987099876664160598 tw9185279514028016331 tw12998655105348950920 tw15481881679065994845 tw13890090752621840091 tw5987483563384659389 tw12467091114581438703 tw13896819945897347924 tw442698170961764043 tw16156841134986415813 tw4506614474537967780 tw5683838246277359824 tw15614693450455554281 tw14697748002888536149 tw16206014466144424643 tw4221315741309011232 tw14721067361794802052 tw9166726285582197330 tw9281751802936968363 tw15731563586343986116 tw1060274509479956955 tw7309646622803648887 tw8805250607474080073 tw16794495191244579021 tw11686793936891182829 tw9348846045657430936 tw1642136871543735542 tw797909209546406255 tw8537119887678796063 tw4285917908933538286 tw16253512252288727946 tw12919548880005978036 tw1328036099103181071 tw501976982789242548 tw9245481872782443908 tw14990548208978917362 tw2896917951573240594 tw3586222143551447799 tw1168200360949523315 tw18297563460707334371 tw3002525684734253565 tw2997919112239270262 tw15755076651169419082 tw17325097159801619274 tw8843002455751220464 tw11016278035507464457 tw8192675424298538387 tw12548535269284734193 tw4363623285723745051 tw9717199131142246058 tw683097333264359578 tw14098814678135159404 tw11851155518064099265 tw10791893345987570791 tw5743899819453903023 tw12402471719350692000 tw2531350455182906107 tw12535304072175898060 tw4752901445672747167 tw1050274724127314453 tw15889625235914201525 tw13707287025626401694 tw7944890794464068675 tw7500999430468903667 tw1285402715349935184 tw9722207835705427466 tw6736206497524508684 tw9040187805549200971 tw8195877109537514982 tw6961381388629318137 tw17240247615918269009 tw8017409068435976506 tw1255084085556310541 tw8832066130079271179 tw10159377774587494434 tw9851505348178581042 tw220618363074794633 tw12502166912754234995 tw9212288220476868305 tw17238461039330908944 tw11187473384170228891 tw12209752614950455082 tw8783877967809378202 tw11466176982850641394 tw7526115294404551717 tw4402958906946821002 tw3021044992741627419 tw4836073831383835402 tw4987152939910099716 tw5084853518989211599 tw6384845430928082244 tw16429955042657114703 tw17019681731093175003 tw9848691004167834366 tw15409303323163671147 tw17276147141308267072 tw8644598778177631183 tw11695282496368767914 tw3944149213229390443 tw8426563501537185447 tw17336669577419454244 tw1480745221213451950 tw13042343694424370314 tw4072379449592346133 tw17039907991091126246 tw6713216311750520062 tw17701304999413769167 tw6784847249784524071 tw11271285421652776862 tw16017331764603137310 tw7248021608310280735:True)
open PySem PySem.W PyProof.Rows
set_option maxRecDepth 100000 in
set_option maxHeartbeats 0 in
theorem PySem.Challenge.cw_jumpfield_k60_whole_turned_and_moved_holds : PySem.Challenge.rw_jumpfield_k60_whole_turned_and_moved.Holds := by
 w_on; o_law; k_head; (case hw=>w_witness2)
 k_fill
 refine J.walk (l:=PySem.Challenge.rw_jumpfield_k60_whole_turned_and_moved) rfl rfl (fun w h Y=>PySem.W.kIn_of Y) ?F
 case F =>
  intro w mg fa h KX G hmg;refine' J.fin KX G hmg ?h0 ?h1 ?h2 ?h3 ?h4 ?h5 ?h6 ?h7 ?h8 ?h9 ?h10 ?h11 ?h12 ?h13 ?h14 ?h15 ?h16 ?h17 ?h18 ?h19 ?h20 ?h21 ?h22 ?h23 ?h24 ?h25 ?h26 ?h27 ?h28 ?h29 ?h30 ?h31 ?h32 ?h33 ?h34 ?h35 ?h36 ?h37 ?h38 ?h39 ?h40 ?h41 ?h42 ?h43 ?h44 ?h45 ?h46 ?h47 ?h48 ?h49 ?h50 ?h51 ?h52 ?h53 ?h54 ?h55 ?h56 ?h57 ?h58 ?h59 ?h60 ?h61 ?h62 ?h63 ?h64 ?h65 ?h66 ?h67 ?h68 ?h69 ?h70 ?h71 ?h72 ?h73 ?h74 ?h75 ?h76 ?h77 ?h78 ?h79 ?h80 ?h81 ?h82 ?h83 ?h84 ?h85 ?h86 ?h87 ?h88 ?h89 ?h90 ?h91 ?h92 ?h93 ?h94 ?h95 ?h96 ?h97 ?h98 ?h99 ?h100 ?h101 ?h102 ?h103 ?h104 ?h105 ?h106 ?h107 ?h108 ?h109 ?h110 ?h111 ?h112 ?h113 ?h114 ?h115 ?h116 ?h117 ?h118 ?h119 ?h120 ?h121 ?h122 ?h123 ?h124 ?h125 ?h126 ?h127 ?h128 ?h129 ?h130 ?h131 ?h132 ?h133 ?h134 ?h135 ?h136 ?h137 ?h138 ?h139 ?h140 ?h141 ?h142 ?h143 ?h144 ?h145 ?h146 ?h147 ?h148 ?h149 ?h150 ?h151 ?h152 ?h153 ?h154 ?h155 ?h156 ?h157 ?h158 ?h159 ?h160 ?h161 ?h162 ?h163 ?h164
  (case h0 | h1 | h2 | h3 | h4 | h5=>k_is)
  (case h6 | h7 | h8 | h9 | h10 | h11=>(refine' ⟨?_,?_,?_,?_⟩<;>k_is))
  (case h12 | h13 | h14 | h15 | h16 | h17 | h18 | h19 | h20 | h21 | h22 | h23 | h24 | h25 | h26 | h27 | h28 | h29 | h30=>k_is)
  (case h31 | h32 | h33 | h34 | h35 | h36 | h37 | h38 | h39 | h40 | h41 | h42 | h43 | h44 | h45 | h46 | h47 | h48 | h49 | h50 | h51 | h52 | h53 | h54 | h55 | h56 | h57 | h58 | h59 | h60 | h61 | h62 | h63 | h64 | h65 | h66 | h67 | h68 | h69 | h70 | h71 | h72 | h73 | h74 | h75 | h76 | h77 | h78 | h79 | h80 | h81 | h82 | h83 | h84 | h85 | h86 | h87 | h88 | h89 | h90 | h91 | h92 | h93 | h94 | h95 | h96 | h97=>(apply J.Fg.mk; k_is; apply L2.VN<;>k_is))
  (case h98 | h99 | h100 | h101 | h102 | h103 | h104 | h105 | h106 | h107 | h108 | h109 | h110 | h111 | h112 | h113 | h114 | h115 | h116 | h117 | h118 | h119=>(apply J.Fm.mk; (apply L2.QW.mk<;>k_is); apply L2.VN<;>k_is))
  (case h120 | h121 | h122 | h123 | h124 | h125=>(apply J.Fi.mk; (apply L2.Mk.mk<;>k_is); apply L2.VN<;>k_is))
  (case h126 | h127 | h128 | h129 | h130 | h131 | h132 | h133 | h134 | h135 | h136 | h137 | h138 | h139 | h140 | h141 | h142 | h143=>k_is)
  (case h144=>decide +kernel)
  (case h145=>k_is)
  (case h146=>decide +kernel)
  (case h147=>k_is)
  (case h148=>decide +kernel)
  (case h149 | h150 | h151 | h152=>k_is)
  (case h153=>decide +kernel)
  (case h154=>k_is)
  (case h155=>decide +kernel)
  (case h156 | h157 | h158 | h159 | h160 | h161 | h162 | h163 | h164=>k_is)
