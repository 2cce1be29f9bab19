import PyProof.Rows.All
import Wide.All
import OpenK.AllK
import Wide.FinOn
import Lean
import PyProof.EqAt
import PyProof.EqKinds
import PyProof.TupleCall
import PyProof.Rows.CatFin
import PyProof.StrLawsIn
import KE.IntTextLaws
import KE.IntTextText
import PyProof.StrLawsTight
import PyProof.StrLawsChain
import PyProof.Rows.StrLawsPart
import PyProof.Rows.StrFirst
import PyProof.Rows.ReprOcc
import PyProof.Rows.StrItems
import PyProof.SumAny
import PyProof.SeqI3
import PyProof.WalkInts
import PyProof.NeKinds
import KE.KDictLaws
import PyProof.DictIter
import PyProof.DictWalks
import PyProof.Rows.DictUnroll
import KE.KSortTup
import KE.KSortKey
import PyProof.Rows.FStr
import PySem.Challenge.RW_jumpfield_k73_whole_it_goes_on
set_option compiler.extract_closed false
set_option bootstrap.genMatcherCode false
set_option Elab.async false
set_option linter.all false
set_option genSizeOfSpec false
set_option maxRecDepth 100000
set_option maxHeartbeats 8000000
theorem Z{α:Sort u}{a:α}:a=a:=rfl
abbrev A_:=List (PySem.Addr×PySem.Obj)
abbrev B_:=PySem.Value->PySem.Shared->Prop
abbrev C_:=PySem.Str->Option PySem.Value
abbrev D_:=Int->Int->Nat
abbrev E_:=PySem.FuncData
abbrev F_:=List PySem.Value
abbrev H_:=List PySem.Addr
abbrev I_:=List Int
abbrev J_:=List Nat
abbrev K_:=List PySem.Str
abbrev L_:=Nat->Nat
abbrev M_:=Array PySem.Value
abbrev N_:=PySem.Program
abbrev O_:=PySem.W.Frag
abbrev P_:=PySem.Shared
abbrev Q_:=PySem.World
abbrev R_:=PySem.Addr
abbrev S_:=PySem.Value
abbrev T_:=PySem.Heap
theorem O_9{α:Sort u}{a:α}{q:Prop}:a=a∨q:=Or.inl Z
theorem R_9{α:Sort u}{β:Sort v}{γ:Sort w}{f:α->β->γ}:∀a b,f a b=f a b:=λ_ _=>Z
theorem S_4{p:Prop}(h:p:=by show 4<=PySem.sizeLine;decide):p:=h
theorem S_0{p:Prop}(h:p:=by show 0<=PySem.sizeLine;decide):p:=h
theorem S_1{p:Prop}(h:p:=by show 1<=PySem.sizeLine;decide):p:=h
theorem S_2{p:Prop}(h:p:=by show 2<=PySem.sizeLine;decide):p:=h
theorem S_3{p:Prop}(h:p:=by show 3<=PySem.sizeLine;decide):p:=h
theorem D_9{p:Prop}(h:p:=by intro _ _ _ _ h;rcases h;subst_vars;rfl):p:=h
theorem A0{p:Prop}(h:p:=by lia):p:=h
theorem A1{p:Prop}(h:p:=by decide +kernel):p:=h
theorem A3{p:Prop}(h:p:=by decide):p:=h
theorem A4{p:Prop}(h:p:=by intro z; cases z):p:=h
theorem A6{p:Prop}(h:p:=by simp):p:=h
theorem B0{p:Prop}(h:p:=by intro _ z; cases z):p:=h
theorem B1{p:Prop}(h:p:=by show (0:Int) < 3; decide):p:=h
theorem B2{p:Prop}(h:p:=by show 0 < 1000; decide):p:=h
theorem B3{p:Prop}(h:p:=by show 1 < 1000; decide):p:=h
theorem B4{p:Prop}(h:p:=by show (0:Int) < 9; decide):p:=h
theorem B5{p:Prop}(h:p:=by show (0:Int) < 8; decide):p:=h
theorem B6{p:Prop}(h:p:=by show (0:Int) < 4; decide):p:=h
theorem B7{p:Prop}(h:p:=by show (0:Int) < 2; decide):p:=h
open List renaming length_map->B8,getElem?_eq_some_iff->B9,getElem?_map->C0,mem_cons->C3,length_append->C5,getElem?_eq_getElem->C6,map_append->C7,mem_cons_of_mem->C8,mem_cons_self->C9,mem_map->D3,mem_singleton->D4,mem_of_getElem?->D6,not_mem_nil->D8,getD_eq_getElem?_getD->F0,length_cons->F2,size_toArray->F3,mem_append->F4,take_add_one->F9,map_cons->J3,mem_range->J6,take_length->J8,getElem?_append_right->L6,length_range->L7,length_take->L8,getElem?_of_mem->L9,mem_append_right->M0,map_map->N4,getElem?_append_left->N5,nodup_cons->N8,length_replicate->O0,nodup_iff_pairwise_ne->O1,getElem?_range->O3,range_succ->P2,idxOf_lt_length_of_mem->P4,sum_cons->P5,lookup_cons->P9,find?_cons->Q6,nodup_append->Q7,replicate_succ->Q9,map_eq_nil_iff->R0,nodup_nil->R4,length_nil->R9,length_singleton->S2,getElem?_eq_none->S3,flatten_cons->S4,append_assoc->S5,getElem_mem->S8,all_eq_true->S9,mem_filter->T3,foldl_cons->T4,findIdx?_eq_some_iff_getElem->T6,pairwise_map->T7,mem_flatMap->T9,any_eq_true->U0,any_cons->U2,mem_append_left->U4,append_nil->U5,length_pos_iff->U6,getElem?_zip_eq_some->V4,findIdx?_eq_none_iff->V5,getElem?_take_of_lt->V7,mem_reverse->W0,getElem?_replicate->W1,getElem?_cons_succ->W2,countP_cons->W3,pairwise_lt_range->W6,length_zip->Y4,mem_iff_getElem->Z0,filterMap_cons->Z2,map_nil->X5,flatMap_cons->X6
open Nat renaming le_refl->C1,le_trans->D0,lt_of_lt_of_le->F5,mod_lt->F6,lt_of_le_of_lt->F7,pow_succ->J0,ne_of_lt->J9,zero_le->L5,mul_le_mul_left->M4,div_eq_of_lt->M6,not_lt_zero->M7,div_add_mod->M8,zero_add->N3,mod_eq_of_lt->N6,pow_le_pow_right->N7,mul_comm->O8,lt_irrefl->O9,add_mul_div_left->P0,succ_le_succ->P6,min_le_right->P7,le_of_not_lt->P8,add_mul_mod_self_left->Q5,lt_succ_iff_lt_or_eq->Q8,le_add_right->R3,le_succ->S6,add_comm->S7,add_mul->T5,mul_le_mul_right->U3,succ_mul->U8,ne_of_gt->U9,lt_trans->V0,le_of_lt->V1,sub_add_cancel->V2,pow_pos->V6,lt_succ_self->V8,lt_of_not_le->V9,sub_self->W4,div_div_eq_div_mul->W5,div_lt_iff_lt_mul->Y5,pow_lt_pow_right->Y7,lt_one_iff->Y9,add_assoc->Z3,add_sub_cancel->Z7,zero_mul->Z8,lt_succ_of_lt->Z9,add_zero->X4
open PySem.Heap renaming get?_push_of_some->C4,get?_push_size->D9,lt_size->F1,get?_none_of_le->P1,get?_update_ne->P3,size_push->Q4,get?_update_other->W8,get?_update_self->Y6
open Bool renaming false_ne_true->D5,false_eq_true->O7,and_eq_true->Q0,eq_iff_iff->S1,and_true->Z6,eq_false_iff->X7
open Option renaming map_eq_some_iff->D7,toList_some->R6,map_some->W9
open Int renaming eq_ofNat_of_zero_le->F8,toNat_natCast->J7,natCast_pow->M5,natCast_add->M9,natCast_mul->N9,add_zero->O2,toNat_of_nonneg->O4,emod_lt_of_pos->O5,add_sub_cancel->O6,le_refl->R5,sub_eq_add_neg->R8,emod_nonneg->S0,zero_add->T8,natCast_ediv->U1,fdiv_eq_ediv_of_nonneg->V3,pow_succ->W7,mul_add->Z1,mul_assoc->Z4,add_assoc->Z5
open Array renaming getElem?_eq_getElem->T0,length_toList->U7
open PySem renaming wpAny_bind->X8,wpAny_pure->K3,boot_len->A1e,wpAny_truthy_bool->A1f,strLen_append->A1g,mem_of_lookup->A1h,wpAny_mono->A2b,wpAny_field->A2c,wpAny_call_entry->A2e,wpAny_seqItems->A2f,wpAny_typeNameOfWhole_keyiter->A3b,wpAny_Call_Name_kw->A3c,wpAny_setField_rec->A3d,wpAny_passesOwn->A3e,wpAny_holding->A3g,wpAny_newObj_type->A3h,wpAny_attempt->A4d,wpAny_typeNameOf_keyiter->A4f,call_meets->A4g,wpAny_pyIter_list->A5a,tupleKind_room_in1->A5f,codeAny_mono->A6c,typeIs_str->A6d,wpAny_execs_nil->A6e,wpAny_setField->A7a,wpAny_updateSeq_pair->A7b,wpAny_standAt->A7d,wpAny_onRaise->A7e
open Classical renaming byContradiction->K4,choose_spec->A6a
open Int.ofNat renaming inj->K5
open Ne renaming symm->K6
open Option.some renaming inj->K7
open PySem.F renaming plainAttrs_list->K8,slot_list_append->K9,type_list_append->A0a,plainAttrs_str->A1d,slot_str_join->A2h,type_str_join->A3a,slot_dict_keyiterator_next->A3f,slot_tuple_iterator_next->A4b,slot_dict_get->A5g,slot_zip_next->A6f,args_str_split_2->A7f
open PySem.PassesOwn renaming never->A0b
open PySem.Paired renaming length->A0e,snoc->A2d
open PySem.W renaming mg_of->A0f,kia_one->A1c,plainGet_of->A6b,callWith_K->A6g
open PyProof.Rows renaming boot_tuple->A0h,boot_isinstance->A1a,boot_str->A1b,callWith_type1->A2a,boot_int->A2g,boot_min->A4h,boot_max->A5h
open List.Pairwise renaming imp_of_mem->A4c
open PySem.Heap.SameBut renaming update->A5c
open PySem.Obj renaming data_mapFields->A5e
abbrev X9:=@if_neg
abbrev K0:=@decide_eq_true
abbrev K1:=@decide_eq_false
abbrev K2:=@if_pos
abbrev A0c:=@congrArg
abbrev A0d:=@of_decide_eq_true
abbrev A0g:=@or_false
abbrev A4a:=@if_false
abbrev A4e:=@not_false_eq_true
abbrev A5b:=@if_true
abbrev A5d:=@not_or
abbrev A6h:=@beq_iff_eq
abbrev A7c:=@decide_eq_true_eq
open PySem.W (instObj methodObj lookIn plainGet hasDictIn findIn handedIn isFn plainOver takerIn any_some makesIn emptyDict keepIn specialIn takesIn mroIn kitOne kitx_list kitx_dict notCls clsIn)
namespace L2
open PySem PySem.Spec PyProof.Rows
abbrev Key:=Sum Int Str
def QL:Key->Value->Bool
|.inl k,v=>Value.isInt k v
|.inr x,v=>Value.isStrOf x v
def keyH(w:Q_):Key->Int
|.inl k=>hashInt k
|.inr x=>hashStr w x
theorem Cs:∀{k:Key}{v:S_},QL k v=true->(∃i t,k=Sum.inl i/\v=Value.int i t)\/(∃x t,k=Sum.inr x/\v=Value.str x t)
|.inl i,v,h=>by
 obtain⟨t,e⟩:=Value.isInt_shape (k:=i) (v:=v) h;exact .inl ⟨i,t,Z,e⟩
|.inr x,v,h=>by
 obtain⟨t,e⟩:=Value.isStrOf_shape (x:=x) (v:=v) h;exact .inr ⟨x,t,Z,e⟩
theorem Ys(i:Int)(t:Tok):QL (.inl i) (.int i t)=true:=by simp[QL,Value.isInt]
theorem Yr(x:Str)(t:Tok):QL (.inr x) (.str x t)=true:=by simp[QL,Value.isStrOf]
theorem key_ll(a b:Int):decide ((Sum.inl a:Key)=Sum.inl b)=(a==b):=by
 by_cases e:a=b
 .subst e;simp
 .have h:¬(Sum.inl a:Key)=Sum.inl b:=λq=>e (Sum.inl.inj q);rw[K1 h];exact(beq_eq_false_iff_ne.mpr e).symm
theorem key_rr(a b:Str):decide ((Sum.inr a:Key)=Sum.inr b)=decide (a=b):=by
 by_cases e:a=b
 .subst e;simp
 .have h:¬(Sum.inr a:Key)=Sum.inr b:=λq=>e (Sum.inr.inj q);rw[K1 h,K1 e]
theorem key_lr(a:Int)(b:Str):decide ((Sum.inl a:Key)=Sum.inr b)=false:=K1 (λq=>nomatch q)
theorem key_rl(a:Str)(b:Int):decide ((Sum.inr a:Key)=Sum.inl b)=false:=K1 (λq=>nomatch q)
def CB(prog:N_)(w:Q_):PySem.KeyKind prog w Key where
 is:=QL
 hash:=keyH w
 inj:=λv a b ha hb=>by
  rcases Cs ha with ⟨i,t,rfl,rfl⟩|⟨x,t,rfl,rfl⟩
  .rcases Cs hb with ⟨j,u,rfl,e⟩|⟨y,u,rfl,e⟩
   .injection e with e1 _;rw[e1]
   .exact nomatch e
  .rcases Cs hb with ⟨j,u,rfl,e⟩|⟨y,u,rfl,e⟩
   .exact nomatch e
   .injection e with e1 _;rw[e1]
 byValue:=λk v h=>by
  rcases Cs h with ⟨i,t,rfl,rfl⟩|⟨x,t,rfl,rfl⟩<;>rfl
 pyHash:=λhv h=>by
  rcases Cs hv with ⟨i,t,rfl,rfl⟩|⟨x,t,rfl,rfl⟩
  .exact wpAny_pyHash_int h
  .exact wpAny_pyHash_str h
 eqBool:=λhu hv h=>by
  rcases Cs hu with ⟨i,t,rfl,rfl⟩|⟨x,t,rfl,rfl⟩
  .rcases Cs hv with ⟨j,u,rfl,rfl⟩|⟨y,u,rfl,rfl⟩
   .rw[key_ll]at h;exact wpAny_eqBool_int h
   .rw[key_lr]at h;exact SeqAt.EqAt.int_str i t y u _ _ _ _ h
  .rcases Cs hv with ⟨j,u,rfl,rfl⟩|⟨y,u,rfl,rfl⟩
   .rw[key_rl]at h;exact SeqAt.EqAt.str_int x t j u _ _ _ _ h
   .rw[key_rr]at h;exact wpAny_eqBool_str h
 «strs»:=λk x t v h=>by
  rcases Cs h with ⟨i,u,rfl,e⟩|⟨y,u,rfl,e⟩
  .exact nomatch e
  .injection e with e1 _
   subst e1;cases v<;>rfl
theorem TQ(prog:N_)(w:Q_)(i:Int)(t:Tok):(CB prog w).is (.inl i) (.int i t)=true:=Ys i t
theorem TN(prog:N_)(w:Q_)(x:Str)(t:Tok):(CB prog w).is (.inr x) (.str x t)=true:=Yr x t
inductive V where
 |non|bl (b:Bool)|int (i:Int)|str (x:Str)|byt (b:Array UInt8)|flt (b:UInt64)|ref (a:R_)|ty (n:String)
 deriving DecidableEq
def Bh:V->Value->Prop
|.non,u=>u=Value.none
|.bl b,u=>u=Value.bool b
|.int i,u=>∃t,u=Value.int i t
|.str x,u=>∃t,u=Value.str x t
|.byt b,u=>∃t,u=Value.bytes b t
|.flt b,u=>∃t,u=Value.float b t
|.ref a,u=>u=Value.ref a
|.ty n,u=>u=Value.type n
abbrev AS:List V->List Value->Prop:=Paired Bh
theorem AS.length{xs:List V}{us:F_}(r:AS xs us):xs.length=us.length:=A0e r
theorem AS.get:∀{xs:List V}{us:F_}{i:Nat}{x:V},AS xs us->xs[i]?=some x->∃u,us[i]?=some u/\Bh x u
|_,_,_,_,.nil,e=>by simp at e
|_,_,0,_,.cons r _,e=>by simp at e;subst e;exact⟨_,Z,r⟩
|_,_,i+1,x,.cons _ t,e=>by
 obtain⟨u,a,b⟩:=AS.get (i:=i) (x:=x) t (by simpa using e);exact⟨u,by simpa using a,b⟩
theorem AS.set{x:V}{u:S_}(r:Bh x u):∀{xs:List V}{us:F_}(i:Nat),AS xs us->AS (xs.set i x) (us.set i u)
|_,_,_,.nil=>.nil
|_,_,0,.cons _ t=>.cons r t
|_,_,i+1,.cons q t=>.cons q (AS.set r i t)
theorem AS.append:∀{xs ys:List V}{us a:F_},AS xs us->AS ys a->AS (xs++ys) (us++a)
|_,_,_,_,.nil,s=>s
|_,_,_,_,.cons r t,s=>.cons r (AS.append t s)
theorem AS.take:∀{xs:List V}{us:F_}(n:Nat),AS xs us->AS (xs.take n) (us.take n)
|_,_,0,_=>.nil
|_,_,_+1,.nil=>.nil
|_,_,n+1,.cons r t=>.cons r (AS.take n t)
theorem AS.drop:∀{xs:List V}{us:F_}(n:Nat),AS xs us->AS (xs.drop n) (us.drop n)
|_,_,0,r=>r
|_,_,_+1,.nil=>.nil
|_,_,n+1,.cons _ t=>AS.drop n t
theorem AS.none_of:∀{xs:List V}{us:F_}{i:Nat},AS xs us->xs[i]?=none->us[i]?=none:=λ{xs us i} r e=>by
 have a:=r.length;have b:xs.length<=i:=List.getElem?_eq_none_iff.mp e;exact List.getElem?_eq_none_iff.mpr A0
def JD:Option V->Option Value->Prop
|some v,some u=>Bh v u
|none,none=>True
|_,_=>False
def KV{κ:Type}:List (κ×V)->List (κ×Value)->Prop:=Paired λ(p:κ×V)(q:κ×Value)=>p.1=q.1/\Bh p.2 q.2
def kV:Key->V
|.inl i=>.int i
|.inr x=>.str x
inductive HO where
|lst (xs:List V)
|tup (xs:List V)
|dK (kvs:List (Key×V))|dT (kvs:List (List Key×V))
|set (S:Int->Bool) (n:Nat)
|ins (C dx:R_) (fs:List (Str×V))
|own (x:R_)
|xd (fs:List (Str×V))
|met (f x:R_)
|rng (lo hi:Int)
|frz (o:Obj) (u:HO)
|tbl (ps:M_)
|ext (φ:Heap->Prop)
abbrev Hp:=Addr->Option HO
def upd(H:Hp)(a:R_)(o:HO):Hp:=λb=>if b=a then some o else H b
theorem Af{H:Hp}{a:R_}{o:HO}:upd H a o a=some o:=by unfold upd;rw[K2 rfl]
theorem Aw{H:Hp}{a b:R_}{o:HO}(h:b≠a):upd H a o b=H b:=by unfold upd;rw[X9 h]
theorem GG{H:Hp}{a:R_}{o u:HO}:upd (upd H a o) a u=upd H a u:=by
 funext b;unfold upd;split<;>rfl
theorem AH{H:Hp}{a b:R_}{o u:HO}(h:H a=some o)(h':H b=some u)(d:o≠u):a≠b:=by
 intro e;subst e;rw[h]at h';exact d (K7 h')
theorem Ay{H:Hp}{a b:R_}{o:HO}(h:H a=some o)(h':H b=none):a≠b:=by
 intro e;subst e;rw[h]at h';cases h'
section
variable(P:N_)(w:Q_)
def BQ(H:Hp)(h:T_)(a:R_):HO->Prop
|.lst xs=>xs.length<=sizeLine/\∃(its:F_)(n:Nat),AS xs its/\h.get? a=some {cls:=.type "list",data:=.seq its.toArray n}
|.tup xs=>xs.length<=sizeLine/\∃its:List Value,AS xs its/\IsTup h a its.toArray
|.dK kvs=>kvs.length<=sizeLine/\(a==sysModules)=false/\∃vs,KV kvs vs/\h.DictOf (CB P w) a vs
|.dT kvs=>kvs.length<=sizeLine/\(a==sysModules)=false/\∃xs:List (List Key×Addr×Value),
  Paired (λ(p:List Key×V)(q:List Key×Addr×Value)=>p.1=q.1/\H q.2.1=some (.tup (p.1.map kV))/\Bh p.2 q.2.2) kvs xs /\
  ∃o es ep,h.get? a=some o/\o.ExactDict/\o.data=.dict es ep/\es.toList=xs.map (entryOfKey (tupleKind (CB P w)))/\(xs.map (·.1)).Nodup
|.set S n=>h.SetOf (intKind P w) a S n
|.ins C dx fs=>H dx=some (.own a)/\fs.length<=1000/\dx≠a/\h.get? a=some (instObj C dx) /\
  ∃mA,h.Ns1 dx mA/\(∀f,JD (fs.lookup f) (mA f))/\PySem.Within mA (fs.map (·.1))
|.own _=>∃o,h.get? a=some o
|.xd fs=>∃mA,h.Ns1 a mA/\∀f,JD (fs.lookup f) (mA f)
|.rng lo hi=>∃t u v,h.get? a=some {cls:=.type "range",data:=.fields #[.int lo t,.int hi u,.int 1 v]}
|.frz o u=>h.get? a=some o/\BQ H h a u
|.tbl ps=>h.get? a=some {cls:=.none,data:=.fields ps}
|.met f x=>h.get? a=some (methodObj (.ref f) (.ref x))
|.ext φ=>φ h/\(∃o,h.get? a=some o)/\∀h1 h2:Heap,φ h1->(∀o,h1.get? a=some o->h2.get? a=some o)->φ h2
def HOk(H:Hp)(h:T_):Prop:=∀a o,H a=some o->BQ P w H h a o
end
section
variable{P:N_}{w:Q_}{H H':Hp}{h h':T_}{a:R_}{o:HO}
theorem BQ.lt(x:BQ P w H h a o):a<h.objs.size:=by
 cases o with
 |lst xs=>obtain⟨_,_,_,_,e⟩:=x;exact F1 e
 |tup xs=>obtain⟨_,_,_,p⟩:=x;exact p.lt
 |dK kvs=>obtain⟨_,_,_,_,o,_,_,e,_⟩:=x;exact F1 e
 |dT kvs=>obtain⟨_,_,_,_,o,_,_,e,_⟩:=x;exact F1 e
 |set S n=>obtain⟨o,_,_,_,e,_⟩:=x;exact F1 e
 |ins C dx fs=>obtain⟨_,_,_,e,_⟩:=x;exact F1 e
 |own y=>obtain⟨_,e⟩:=x;exact F1 e
 |xd fs=>obtain⟨_,⟨_,_,_,e,_⟩,_⟩:=x;exact F1 e
 |rng lo b=>obtain⟨_,_,_,e⟩:=x;exact F1 e
 |frz c u=>obtain⟨e,_⟩:=x;exact F1 e
 |tbl ps=>exact F1 (show h.get? a=some _ from x)
 |met f y=>exact F1 (show h.get? a=some _ from x)
 |ext φ=>obtain⟨_,⟨_,e⟩,_⟩:=x;exact F1 e
theorem Paired.mapP{α β:Type}{F G:α->β->Prop}:∀{c:List α}{d:List β},Paired F c d->(∀a b,F a b->G a b)->Paired G c d
|_,_,.nil,_=>.nil
|_,_,.cons r t,f=>.cons (f _ _ r) (Paired.mapP t f)
theorem BQ.stay(x:BQ P w H h a o)(k:∀b u,(b=a\/H b=some (.own a))->h.get? b=some u->h'.get? b=some u)
  (D:∀b,H b=some (.own a)->H' b=some (.own a)) (E:∀b xs,H b=some (.tup xs)->H' b=some (.tup xs)):BQ P w H' h' a o:=by
 induction o with
 |lst xs=>obtain⟨z,l,n,r,e⟩:=x;exact⟨z,l,n,r,k _ _ (.inl Z) e⟩
 |tup xs=>obtain⟨z,l,r,g,e,c⟩:=x;exact⟨z,l,r,g,k _ _ (.inl Z) e,c⟩
 |dK kvs=>obtain⟨z,y,vs,r,g,j,i,e,c⟩:=x;exact⟨z,y,vs,r,g,j,i,k _ _ (.inl Z) e,c⟩
 |dT kvs =>
  obtain⟨z,y,xs,r,g,j,i,e,c⟩:=x;exact⟨z,y,xs,Paired.mapP r λp q z=>⟨z.1,E _ _ z.2.1,z.2.2⟩,g,j,i,k _ _ (.inl Z) e,c⟩
 |set S n=>obtain⟨g,j,i,t,e,c⟩:=x;exact⟨g,j,i,t,k _ _ (.inl Z) e,c⟩
 |ins C dx fs =>
  obtain⟨d,z,ne,e,m,⟨s,j,i,B,c⟩,r⟩:=x;exact⟨D _ d,z,ne,k _ _ (.inl Z) e,m,⟨s,j,i,k _ _ (.inr d) B,c⟩,r⟩
 |own y=>obtain⟨g,e⟩:=x;exact⟨g,k _ _ (.inl Z) e⟩
 |xd fs=>obtain⟨m,⟨s,j,i,e,c⟩,r⟩:=x;exact⟨m,⟨s,j,i,k _ _ (.inl Z) e,c⟩,r⟩
 |rng lo G=>obtain⟨t,u,v,e⟩:=x;exact⟨t,u,v,k _ _ (.inl Z) e⟩
 |frz g u F=>obtain⟨e,q⟩:=x;exact⟨k _ _ (.inl Z) e,F q⟩
 |tbl ps =>
  have e:h.get? a=some {cls:=.none,data:=.fields ps}:=x;show h'.get? a=some {cls:=.none,data:=.fields ps};exact k a _ (.inl Z) e
 |met f y =>
  have e:h.get? a=some (methodObj (.ref f) (.ref y)):=x;show h'.get? a=some (methodObj (.ref f) (.ref y));exact k a _ (.inl Z) e
 |ext φ=>obtain⟨p,⟨o,e⟩,A⟩:=x;exact⟨A _ _ p λo q=>k _ _ (.inl Z) q,⟨o,k _ _ (.inl Z) e⟩,A⟩
theorem HOk.lt(x:HOk P w H h)(e:H a=some o):a<h.objs.size:=(x a o e).lt
theorem HOk.fresh(x:HOk P w H h)(e:h.objs.size<=a):H a=none:=by
 cases q:H a with
 |none=>rfl
 |some u=>exact absurd (F5 (x.lt q) e) (O9 _)
theorem HOk.kept(x:HOk P w H h)(k:∀b u,h.get? b=some u->h'.get? b=some u):HOk P w H h':=λa o e =>
 (x a o e).stay (λb u _ q=>k b u q) (λ_ q=>q) λ_ _ q=>q
theorem HOk.laid(x:HOk P w H h)(k:∀b u,h.get? b=some u->h'.get? b=some u)(g:h.objs.size<=a)(new:BQ P w (upd H a o) h' a o):HOk P w (upd H a o) h':=λb u e=>by
 have f:=x.fresh g;by_cases d:b=a
 .subst d;rw[Af]at e;cases e;exact new
 .rw[Aw d]at e;exact(x b u e).stay (λc v _ q=>k c v q) (λc q=>by rw[Aw (Ay q f)];exact q) λc xs q=>by rw[Aw (Ay q f)];exact q
end
def Rd(H:Hp)(a:R_)(u:HO):Prop:=H a=some u\/∃o,H a=some (.frz o u)
theorem Rd.ok{P:N_}{w:Q_}{H:Hp}{h:T_}{a:R_}{u:HO}(r:Rd H a u)(x:HOk P w H h):BQ P w H h a u:=by
 rcases r with r|⟨o,r⟩
 .exact x a u r
 .obtain⟨_,q⟩:=x a _ r;exact q
def Mut:Option HO->Prop
|some (.lst _)=>True
|some (.dK _)=>True
|some (.dT _)=>True
|some (.set _ _)=>True
|some (.ins _ _ _)=>True
|some (.ext _)=>True
|_=>False
section
variable{P:N_}{w:Q_}{H:Hp}{h h':T_}{x e:R_}{o':HO}
theorem HOk.write(ok:HOk P w H h)(j:Mut (H x))(m:e=x\/H e=some (.own x))(k:∀b u,b≠e->h.get? b=some u->h'.get? b=some u)(l:∃u,h'.get? e=some u)
  (new:BQ P w (upd H x o') h' x o'):HOk P w (upd H x o') h':=λb u q=>by
 have d:∀c y,H c=some (.own y)->c≠x:=λc y r z=>by subst z;rw[r]at j;exact j
 have f:∀c xs,H c=some (.tup xs)->c≠x:=λc xs r z=>by subst z;rw[r]at j;exact j
 by_cases g:b=x
 .subst g;rw[Af]at q;cases q;exact new
 .rw[Aw g]at q;by_cases a:b=e
  .have n:H b=some (.own x):=by
    rcases m with z|z
    .exact absurd (a.trans z) g
    .rw[a];exact z
   rw[q]at n;cases n;obtain⟨v,o⟩:=l;exact⟨v,by rw[a];exact o⟩
  .refine(ok b u q).stay (λc v i r=>k c v ?_ r) (λc r=>by rw[Aw (d c b r)];exact r) λc xs r=>by rw[Aw (f c xs r)];exact r
   rcases i with rfl|i
   .exact a
   .rintro rfl;rcases m with z|z
    .exact d c b i z
    .rw[i]at z;cases z;exact g Z
end
structure Un(fs ex:H_)(H H':Hp)(h h':T_):Prop where
keep:∀b o,h.get? b=some o->H b=none->b∉fs->b∉ex->h'.get? b=some o
slot:∀b o,h.get? b=some o->H b=none->b∈fs->b∉ex->∃sl,h'.get? b=some {o with slots:=sl}
free:∀b o,h.get? b=some o->H b=none->b∉ex->H' b=none
there:∀b o,h.get? b=some o->b∉ex->∃o',h'.get? b=some o'
tups:∀b xs,H b=some (.tup xs)->H' b=some (.tup xs)
frzs:∀b o u,H b=some (.frz o u)->H' b=some (.frz o u)
tbls:∀b ps,H b=some (.tbl ps)->∃more,H' b=some (.tbl (ps++more))
section
variable{fs fs' ex ex':H_}{H H1 H2:Hp}{h h1 h2 h':T_}{a x e:R_}{o:HO}
theorem Un.any(u:Un fs ex H H1 h h1){b:R_}{c:Obj}(q:h.get? b=some c)(n:H b=none)(f:b∉ex):∃g,h1.get? b=some {c with slots:=g}:=by
 by_cases d:b∈fs
 .exact u.slot b c q n d f
 .exact⟨c.slots,u.keep b c q n d f⟩
theorem Un.kept(k:∀b u,h.get? b=some u->h'.get? b=some u):Un fs ex H H h h' :=
 ⟨λb c q _ _ _=>k b c q,λb c q _ _ _=>⟨c.slots,k b c q⟩,λ_ _ _ n _=>n,λb c q _=>⟨c,k b c q⟩,λ_ _ q=>q,λ_ _ _ q=>q,λ_ ps q=>⟨#[],by rw[q];simp⟩⟩
theorem Un.refl:Un fs ex H H h h:=Un.kept λ_ _ q=>q
theorem Un.laid(k:∀b u,h.get? b=some u->h'.get? b=some u)(d:h.objs.size<=a)(c:H a=none):Un fs ex H (upd H a o) h h' where
 keep:=λb u q _ _ _=>k b u q
 slot:=λb u q _ _ _=>⟨u.slots,k b u q⟩
 free:=λb u q n _=>by rw[Aw (J9 (F5 (F1 q) d))];exact n
 there:=λb u q _=>⟨u,k b u q⟩
 tups:=λb xs q=>by rw[Aw (Ay q c)];exact q
 frzs:=λb u xs q=>by rw[Aw (Ay q c)];exact q
 tbls:=λb ps q=>⟨#[],by rw[Aw (Ay q c),q];simp⟩
theorem Un.write(d:Mut (H x))(l:e=x\/H e=some (.own x))(k:∀b u,b≠e->h.get? b=some u->h'.get? b=some u)(f:∃u,h'.get? e=some u):Un fs ex H (upd H x o) h h':=by
 have j:∀b,H b=none->b≠x:=λb n z=>by subst z;rw[n]at d;exact d
 have i:∀b,H b=none->b≠e:=λb n z=>by
  subst z;rcases l with r|r
  .exact j b n r
  .rw[n]at r;cases r
 have g:∀b u,H b=some u->¬Mut (some u)->b≠x:=λb u q nm z=>by subst z;rw[q]at d;exact nm d
 refine⟨λb u q n _ _=>k b u (i b n) q,λb u q n _ _=>⟨u.slots,k b u (i b n) q⟩,λb u q n _=>by rw[Aw (j b n)];exact n,λb u q _=>?_,
  λb xs q=>by rw[Aw (g b _ q λz=>z)];exact q,λb u xs q=>by rw[Aw (g b _ q λz=>z)];exact q,λb ps q=>⟨#[],by rw[Aw (g b _ q λz=>z),q];simp⟩⟩
 by_cases c:b=e
 .subst c;exact f
 .exact⟨u,k b u c q⟩
end
def trk(h:T_)(H:Hp):List Addr:=(List.range h.objs.size).filter λa=>(H a).isSome
def Sf(h:T_)(H:Hp):Heap:=W.hideAll h (trk h H)
theorem Yv(h:T_)(H:Hp):(Sf h H).objs.size=h.objs.size:=W.hideAll_size _ _
theorem hidT_get{h:T_}{H:Hp}{b:R_}{o:Obj}(e:h.get? b=some o)(n:H b=none):(Sf h H).get? b=some o :=
 W.hideAll_get _ e λa=>by
  have q:(H b).isSome=true:=(T3.mp a).2;rw[n]at q;simp at q
theorem of_hidT{h:T_}{H:Hp}{b:R_}{o:Obj}(e:(Sf h H).get? b=some o):h.get? b=some o/\H b=none:=by
 have a:h.get? b=some o:=W.of_hideAll (trk h H) e;refine⟨a,?_⟩;cases q:H b with
 |none=>rfl
 |some x =>
  have c:b∈trk h H:=T3.mpr ⟨J6.mpr (F1 a),by simp[q]⟩;have z:(Sf h H).get? b=none:=W.hideAll_none (trk h H) c;rw[z]at e;cases e
structure Mod(K:O_)(mg:C_)(base:T_):Prop where
kin:K.In base
glob:base.Ns mainGlobals mg
blt:∃mb,base.Ns builtinsNs mb/\∀x:Str,x≠"__name__" -> mb x=bootBuiltins x
nolimit:base.NoLimit
structure Cx where
prog:Program
w:World
K:W.Frag
mg:Str->Option Value
base:Heap
A:Around
N:List Str
s₀:Shared
H₀:Hp
env:Env
outer:List Env
stack:List Env
ex:List Addr
fn:Str->Bool
calm:Bool
pn:List (Addr×Obj)
xe:Value->Shared->Prop
def frs(l:List Env):List Addr:=l.filterMap (·.frame)
abbrev Cx.fs(X:Cx):List Addr:=frs X.outer
def Vis(sc:Scope)(x:Str):Prop:=sc.names.lookup x=some .local\/sc.names.lookup x=some .cell\/sc.names.lookup x=some .free
def Loc(sc:Scope)(x:Str):Prop:=sc.names.lookup x=some .local\/sc.names.lookup x=some .cell
def Look(env:Env)(h:T_)(m:C_)(x:Str)(u:S_):Prop :=
 (env.kindOf x=some .local/\m x=some u)\/((env.kindOf x=some .cell\/env.kindOf x=some .free)/\∃c,env.cells.lookup x=some c/\h.IsCell c (some u))
structure Cx.Ok(X:Cx):Prop where
mod:Mod X.K X.mg X.base
kind:X.env.scope.kind=.function
glob:X.env.globals=mainGlobals
blt:X.env.builtins=builtinsNs
above:X.s₀.heap.objs.size<=X.env.locals
inj:∀x y c,X.env.cells.lookup x=some c->X.env.cells.lookup y=some c->x=y
has:∀x,(X.env.kindOf x=some .cell\/X.env.kindOf x=some .free)->∃c,X.env.cells.lookup x=some c
cab:∀x c,X.fn x=true->X.env.cells.lookup x=some c->X.s₀.heap.objs.size<=c
hd:X.calm=true->X.A.handled=none
frames:X.A.frames=some X.stack
stk:X.stack=X.outer\/(X.stack=X.env::X.outer/\X.env.frame=some X.env.locals)
exf:∀b∈X.ex,b≠X.env.locals/\∀x c,X.env.cells.lookup x=some c->c≠b
bs:∀b o,X.base.get? b=some o->X.s₀.heap.get? b=some o/\X.H₀ b=none
bsz:X.base.objs.size<=X.s₀.heap.objs.size
noex:∀b o,X.base.get? b=some o->b∉X.ex
exfs:∀b∈X.ex,b∉X.fs
funs:X.s₀.heap.FunFrames X.base X.outer
frf:∀b∈X.fs,X.H₀ b=none
structure Inv(X:Cx)(pins:A_)(σ:List (Option V))(H:Hp)(s:P_):Prop where
ok:X.Ok
os:s.os=X.s₀.os
bare:AllBare s.gens
base:Un X.fs X.ex X.H₀ H X.s₀.heap s.heap
loc:∃m,s.heap.Ns X.env.locals m/\∀(i:Nat)(x:Str)(v:V),X.N[i]?=some x->σ[i]?=some (some v)->Vis X.env.scope x->∃u,Bh v u/\Look X.env s.heap m x u
cell:∀x c,X.env.cells.lookup x=some c->∃v,s.heap.IsCell c v
free:H X.env.locals=none
freeC:∀x c,X.env.cells.lookup x=some c->H c=none
pin:∀p∈X.pn++pins,s.heap.get? p.1=some p.2/\H p.1=none/\p.1≠X.env.locals/\p.1∉X.fs/\∀v,p.2.data≠.cell v
hok:HOk X.prog X.w H s.heap
len:σ.length=X.N.length
section
variable{X:Cx}{pins:A_}{σ:List (Option V)}{H H':Hp}{s:P_}{h':T_}
theorem Cx.Ok.nofr(ok:X.Ok){b:R_}{o:Obj}(e:X.base.get? b=some o):b∉X.fs:=λa=>by
 have:=(ok.funs.mem a).1;rw[e]at this;cases this
theorem Inv.bs(I:Inv X pins σ H s):∀b o,X.base.get? b=some o->s.heap.get? b=some o/\H b=none:=λb o e =>
 ⟨I.base.keep b o (I.ok.bs b o e).1 (I.ok.bs b o e).2 (I.ok.nofr e) (I.ok.noex b o e),I.base.free b o (I.ok.bs b o e).1 (I.ok.bs b o e).2 (I.ok.noex b o e)⟩
theorem Inv.bk(I:Inv X pins σ H s):∀b o,X.base.get? b=some o->s.heap.get? b=some o:=λb o e=>(I.bs b o e).1
theorem Inv.mod(I:Inv X pins σ H s):Mod X.K X.mg X.base:=I.ok.mod
theorem Inv.kIn(I:Inv X pins σ H s):X.K.In s.heap:=I.ok.mod.kin.keeps I.bk
theorem Inv.lt(I:Inv X pins σ H s):X.env.locals<s.heap.objs.size:=let ⟨_,hn,_⟩:=I.loc;hn.lt
theorem Inv.sz(I:Inv X pins σ H s):X.s₀.heap.objs.size<=s.heap.objs.size:=D0 I.ok.above (V1 I.lt)
theorem Inv.nofs(I:Inv X pins σ H s){a:R_}(h:s.heap.objs.size<=a):a∉X.fs:=λb=>by
 obtain⟨_,o,c,_⟩:=I.ok.funs.mem b;exact absurd (F5 (F1 c) (D0 I.sz h)) (O9 _)
theorem Inv.cne(I:Inv X pins σ H s):∀x c,X.env.cells.lookup x=some c->c≠X.env.locals:=λx c e z=>by
 obtain⟨v,o,f,d⟩:=I.cell x c e;obtain⟨m,⟨o',h,g,b,a,_⟩,_⟩:=I.loc;rw[z,b]at f;cases f;rw[a]at d;cases d
theorem Inv.funs (I:Inv X pins σ H s):s.heap.FunFrames X.base X.outer:=by
 have all:∀(l:List Env),(∀b∈frs l,b∈X.fs)->X.s₀.heap.FunFrames X.base l->s.heap.FunFrames X.base l:=by
  intro l;induction l with
  |nil=>intro _ _;trivial
  |cons g r p =>
   intro f j;obtain⟨i,⟨L,o,d,k,m,h⟩,n⟩:=j;have a:L∈X.fs:=f L (by unfold frs;rw[Z2,d];exact C9);obtain⟨q,e⟩:=I.base.slot L o m (I.ok.frf L a) a λz=>I.ok.exfs L z a;exact⟨i,⟨L,_,d,k,e,h⟩,p (λb c=>f b (by unfold frs;rw[Z2,d];exact C8 _ c)) n⟩
 exact all X.outer (λ_ c=>c) I.ok.funs
theorem Inv.stack(I:Inv X pins σ H s):s.heap.FunFrames X.base X.stack:=by
 rcases I.ok.stk with e|⟨e,a⟩
 .rw[e];exact I.funs
 .rw[e];obtain⟨m,b,_⟩:=I.loc;refine .cons (by rw[I.ok.kind];decide) a b ?_ I.funs;exact P1 (D0 I.ok.bsz I.ok.above)
theorem Inv.stkSub(I:Inv X pins σ H s):∀b∈frs X.stack,b∈X.env.locals::X.fs:=λb a=>by
 rcases I.ok.stk with e|⟨e,c⟩
 .rw[e]at a;exact C8 _ a
 .rw[e]at a;unfold frs at a;rw[Z2,c]at a;exact a
theorem Inv.stkFree(I:Inv X pins σ H s):∀b∈frs X.stack,H b=none:=λb a=>by
 rcases C3.mp (I.stkSub b a)with e|a
 .rw[e];exact I.free
 .obtain⟨_,o,c,_⟩:=I.ok.funs.mem a;exact I.base.free b o c (I.ok.frf b a) λz=>I.ok.exfs b z a
theorem Inv.step{g':Array GenState}{t':Nat}{d':Drawn}{ch:H_}(I:Inv X pins σ H s)
  (h:∀b∈ch,(b∈X.ex\/X.s₀.heap.objs.size<=b)/\b≠X.env.locals/\(∀x c,X.env.cells.lookup x=some c->c≠b)/\∀p∈X.pn++pins,p.1≠b)
  (keep:∀b o,b≠X.env.locals->b∉X.fs->b∉ch->s.heap.get? b=some o->H b=none->h'.get? b=some o)
  (t:∀b o,b≠X.env.locals->b∈X.fs->b∉ch->s.heap.get? b=some o->H b=none->∃O,h'.get? b=some {o with slots:=O}) (a:∀b o,b∉ch->s.heap.get? b=some o->H b=none->H' b=none)
  (there:∀b o,b∉ch->s.heap.get? b=some o->∃o',h'.get? b=some o')
  (D:∀b xs,H b=some (.tup xs)->H' b=some (.tup xs)) (B:∀b o u,H b=some (.frz o u)->H' b=some (.frz o u)) (C:∀b ps,H b=some (.tbl ps)->∃K,H' b=some (.tbl (ps++K)))
  (ns:∀m,s.heap.Ns X.env.locals m->h'.Ns X.env.locals m) (N:HOk X.prog X.w H' h') (U:AllBare g') :
  Inv X pins σ H' {s with heap:=h',gens:=g',drawn:=d',toks:=t'}:=by
 have L:∀b o,X.s₀.heap.get? b=some o->b≠X.env.locals:=λb o e=>J9 (F5 (F1 e) I.ok.above);have A:∀b o,X.s₀.heap.get? b=some o->b∉X.ex->b∉ch:=λb o e f E=>by
  rcases(h b E).1 with z|z
  .exact f z
  .exact absurd (F5 (F1 e) z) (O9 _)
 have g:∀x c,X.env.cells.lookup x=some c->∀v,s.heap.IsCell c v->h'.IsCell c v:=λx c e v ⟨o,F,M⟩=>by
  have j:c∉ch:=λz=>(h c z).2.2.1 x c e Z;by_cases Q:c∈X.fs
  .obtain⟨O,q⟩:=t c o (I.cne x c e) Q j F (I.freeC x c e);exact⟨_,q,M⟩
  .exact⟨o,keep c o (I.cne x c e) Q j F (I.freeC x c e),M⟩
 refine⟨I.ok,I.os,U,⟨λb o e n E f=>?_,λb o e n E f=>?_,λb o e n f=>?_,λb o e f=>?_,λb xs e=>D b xs (I.base.tups b xs e),λb o xs e=>B b o xs (I.base.frzs b o xs e),λb ps e=>?_⟩,?_,λx c e=>?_,?_,λx c e=>?_,λp R=>?_,N,I.len⟩
 .exact keep b o (L b o e) E (A b o e f) (I.base.keep b o e n E f) (I.base.free b o e n f)
 .obtain⟨O,y⟩:=I.base.slot b o e n E f;obtain⟨P,G⟩:=t b _ (L b o e) E (A b o e f) y (I.base.free b o e n f);exact⟨P,G⟩
 .obtain⟨o',y⟩:=I.base.there b o e f;exact a b o' (A b o e f) y (I.base.free b o e n f)
 .obtain⟨o',y⟩:=I.base.there b o e f;exact there b o' (A b o e f) y
 .obtain⟨Y,y⟩:=I.base.tbls b ps e;obtain⟨m2,G⟩:=C b _ y;exact⟨Y++m2,by rw[G,Array.append_assoc]⟩
 .obtain⟨m,W,V⟩:=I.loc;refine⟨m,ns m W,λi x v y G T=>?_⟩;obtain⟨u,r,l⟩:=V i x v y G T;refine⟨u,r,?_⟩;rcases l with l|⟨k,c,e,z⟩
  .exact .inl l
  .exact .inr ⟨k,c,e,g x c e _ z⟩
 .obtain⟨v,z⟩:=I.cell x c e;exact⟨v,g x c e v z⟩
 .obtain⟨m,⟨o,_,_,F,_⟩,_⟩:=I.loc;exact a _ o (λz=>(h _ z).2.1 Z) F I.free
 .obtain⟨v,o,F,M⟩:=I.cell x c e;exact a c o (λz=>(h c z).2.2.1 x c e Z) F (I.freeC x c e)
 .obtain⟨e,n,ne,S,d⟩:=I.pin p R;have j:p.1∉ch:=λz=>(h p.1 z).2.2.2 p R Z;exact⟨keep p.1 p.2 ne S j e n,a p.1 p.2 j e n,ne,S,d⟩
theorem Inv.un{t':Nat}(I:Inv X pins σ H s)(u:Un X.fs [] H H' s.heap h')(g:HOk X.prog X.w H' h'):Inv X pins σ H' {s with heap:=h',toks:=t'}:=by
 obtain⟨m,⟨o,p,l,h,r⟩,_⟩:=id I.loc;obtain⟨t,i⟩:=u.any h I.free A6;exact I.step (g':=s.gens) (d':=s.drawn) (ch:=[]) (λ_ z=>nomatch z) (λb o _ f _ e n=>u.keep b o e n f A6) (λb o _ f _ e n=>u.slot b o e n f A6) (λb o _ e n=>u.free b o e n A6) (λb o _ e=>u.there b o e A6) u.tups u.frzs u.tbls (λq j=>by
  obtain⟨o',d,c,a,k⟩:=j;rw[h]at a;cases a;exact⟨_,d,c,i,k⟩) g I.bare
theorem Inv.call{g':Array GenState}{t':Nat}{d':Drawn}{ch:H_}(I:Inv X pins σ H s)(u:Un (frs X.stack) ch H H' s.heap h')(j:HOk X.prog X.w H' h')(q:AllBare g')
  (d:∀b∈ch,(b∈X.ex\/X.s₀.heap.objs.size<=b)/\b≠X.env.locals/\(∀x c,X.env.cells.lookup x=some c->c≠b)/\∀p∈X.pn++pins,p.1≠b) :
  Inv X pins σ H' {s with heap:=h',gens:=g',drawn:=d',toks:=t'}:=by
 obtain⟨m,⟨o,A,y,k,r⟩,_⟩:=id I.loc;obtain⟨C,i⟩:=u.any k I.free λz=>(d _ z).2.1 Z;exact I.step (ch:=ch) d (λb o i l a e n=>u.keep b o e n (λz=>(C3.mp (I.stkSub b z)).elim i l) a) (λb o _ _ a e n=>u.any e n a) (λb o a e n=>u.free b o e n a) (λb o a e=>u.there b o e a) u.tups u.frzs u.tbls (λB t=>by
  obtain⟨o',h,g,f,v⟩:=t;rw[k]at f;cases f;exact⟨_,h,g,i,v⟩) j q
theorem Inv.turned{t':Nat}{it:R_}(I:Inv X pins σ H s)(k:∀b o,b≠it->s.heap.get? b=some o->h'.get? b=some o)(y:H it=none)(f:it≠X.env.locals)
  (i:it∈X.ex\/X.s₀.heap.objs.size<=it) (j:∀x c,X.env.cells.lookup x=some c->c≠it) (l:∀p∈X.pn++pins,p.1≠it):Inv X pins σ H {s with heap:=h',toks:=t'}:=by
 have d:∀b u,H b=some u->b≠it:=λb u e z=>by rw[z,y]at e;cases e
 refine I.step (g':=s.gens) (d':=s.drawn) (ch:=[it]) (λb t=>?_) (λb o _ _ a e _=>k b o (λz=>a (by simp[z])) e) (λb o _ _ a e _=>⟨o.slots,k b o (λz=>a (by simp[z])) e⟩) (λ_ _ _ _ n=>n)
  (λb o a e=>⟨o,k b o (λz=>a (by simp[z])) e⟩) (λ_ _ e=>e) (λ_ _ _ e=>e) (λb ps e=>⟨#[],by rw[e];simp⟩) (λm w=>?_) (λb u e=>?_) I.bare
 .have e:b=it:=by simpa using t
  subst e;exact⟨i,f,j,l⟩
 .obtain⟨o,h,g,A,r⟩:=w;exact⟨o,h,g,k _ o (K6 f) A,r⟩
 .refine(I.hok b u e).stay (λc v a q=>k c v ?_ q) (λ_ q=>q) λ_ _ q=>q;rcases a with z|z
  .rw[z];exact d b u e
  .exact d c _ z
theorem Inv.tok(I:Inv X pins σ H s)(t:Nat):Inv X pins σ H {s with toks:=t}:=I.un (h':=s.heap) (t':=t) Un.refl I.hok
theorem Inv.kept{t':Nat}(I:Inv X pins σ H s)(k:∀b u,s.heap.get? b=some u->h'.get? b=some u):Inv X pins σ H {s with heap:=h',toks:=t'}:=I.un (Un.kept k) (I.hok.kept k)
theorem Inv.laid{a:R_}{o:HO}{t':Nat}(I:Inv X pins σ H s)(k:∀b u,s.heap.get? b=some u->h'.get? b=some u)(c:s.heap.objs.size<=a)(new:BQ X.prog X.w (upd H a o) h' a o) :
 Inv X pins σ (upd H a o) {s with heap:=h',toks:=t'}:=I.un (Un.laid k c (I.hok.fresh c)) (I.hok.laid k c new)
theorem Inv.write{x e:R_}{o:HO}{t':Nat}(I:Inv X pins σ H s)(d:Mut (H x))(c:e=x\/H e=some (.own x))(k:∀b u,b≠e->s.heap.get? b=some u->h'.get? b=some u)(a:∃u,h'.get? e=some u)
 (new:BQ X.prog X.w (upd H x o) h' x o):Inv X pins σ (upd H x o) {s with heap:=h',toks:=t'}:=I.un (Un.write d c k a) (I.hok.write d c k a new)
theorem Inv.weak{σ':List (Option V)}(I:Inv X pins σ H s)(d:σ'.length=σ.length)(w:∀(i:Nat) v,σ'[i]?=some (some v)->σ[i]?=some (some v)):Inv X pins σ' H s :=
 ⟨I.ok,I.os,I.bare,I.base,let ⟨m,hn,hl'⟩:=I.loc;⟨m,hn,λi x v a b c=>hl' i x v a (w i v b) c⟩,I.cell,I.free,I.freeC,I.pin,I.hok,d.trans I.len⟩
theorem Inv.pins_of{a:A_}(I:Inv X pins σ H s)(h:∀p∈a,s.heap.get? p.1=some p.2/\H p.1=none/\p.1≠X.env.locals/\p.1∉X.fs/\∀v,p.2.data≠.cell v):Inv X a σ H s :=
 ⟨I.ok,I.os,I.bare,I.base,I.loc,I.cell,I.free,I.freeC,λp b=>(F4.mp b).elim (λz=>I.pin p (U4 _ z)) (h p),I.hok,I.len⟩
theorem Tz{N:K_}(e:N.Nodup){i j:Nat}{x:Str}(a:N[i]?=some x)(b:N[j]?=some x):i=j:=by
 obtain⟨f,c⟩:=B9.mp a;obtain⟨g,d⟩:=B9.mp b;exact(List.getElem_inj e).mp (c.trans d.symm)
theorem QC{M:Model}{A:Around}{E:B_}{i:Nat}{x:Str}{v:V}{u:S_}{Q:Unit->Shared->Prop}(I:Inv X pins σ H s)(hN:X.N.Nodup)(T:X.N[i]?=some x)(B:Loc X.env.scope x)(r:Bh v u)
  (h:∀s',Inv X pins (σ.set i (some v)) H s'->(∃a,Heap.SameBut a s.heap s'.heap/\(a=X.env.locals\/X.env.cells.lookup x=some a))->Q () s') (hf:X.fn x=true\/X.env.scope.names.lookup x=some .local:=by first|exact .inl rfl|exact .inr rfl|assumption):wpAny M A (storeName X.env x u) Q E s:=by
 obtain⟨m,hn,hl⟩:=id I.loc;have S:(X.env.scope.kind==.class || (X.env.scope.kind==.module && X.env.locals != X.env.globals))=false:=by rw[I.ok.kind];rfl
 have F:i<σ.length:=by rw[I.len];exact(B9.mp T).1
 have cne:=I.cne;have l:∀{a:R_}{h':T_},(∃o,s.heap.get? a=some o/\H a=none)->Heap.SameBut a s.heap h'->HOk X.prog X.w H h':=λ{a h'} ha f b ob e=>by
  obtain⟨_,_,C⟩:=ha;refine(I.hok b ob e).stay (λc w' t q=>(f.2 c ?_).trans q) (λ_ q=>q) λ_ _ q=>q;rintro rfl;rcases t with rfl|t
  .rw[C]at e;cases e
  .rw[C]at t;cases t
 rcases B with G|G
 .refine wpAny_storeName_local G hn (λh' aa f=>?_) S;obtain⟨oL,_,_,ab,_⟩:=id hn;refine h _ ⟨I.ok,I.os,I.bare,⟨λb o e n K B=>?_,λb o e n K B=>?_,I.base.free,λb o e B=>?_,I.base.tups,I.base.frzs,I.base.tbls⟩,⟨_,aa,λj y v' g D e3=>?_⟩,λy c e=>?_,I.free,I.freeC,λp hp=>?_,l ⟨oL,ab,I.free⟩ f,by simpa using I.len⟩ ⟨_,f,.inl Z⟩
  .exact(f.2 b (J9 (F5 (F1 e) I.ok.above))).trans (I.base.keep b o e n K B)
  .obtain⟨sl,g⟩:=I.base.slot b o e n K B;exact⟨sl,(f.2 b (J9 (F5 (F1 e) I.ok.above))).trans g⟩
  .obtain⟨o',g⟩:=I.base.there b o e B;exact⟨o',(f.2 b (J9 (F5 (F1 e) I.ok.above))).trans g⟩
  .by_cases O:j=i
   .subst O;rw[T]at g;cases g;rw[List.getElem?_set_self F]at D;cases D;exact⟨u,r,.inl ⟨G,by simp⟩⟩
   .rw[List.getElem?_set_ne (K6 O)]at D;obtain⟨u',r',q⟩:=hl j y v' g D e3;refine⟨u',r',?_⟩;rcases q with ⟨k,e⟩|⟨k,c,e,z⟩
    .refine .inl ⟨k,?_⟩;have:y≠x:=λe=>O (Tz hN g (e▸T));simp[this,e]
    .exact .inr ⟨k,c,e,z.sameBut f (cne y c e)⟩
  .obtain⟨w',z⟩:=I.cell y c e;exact⟨w',z.sameBut f (cne y c e)⟩
  .obtain⟨e,n,ne,nf,d⟩:=I.pin p hp;exact⟨(f.2 p.1 ne).trans e,n,ne,nf,d⟩
 .have L:X.fn x=true:=by
   rcases hf with z|z
   .exact z
   .rw[z]at G;cases G
  obtain⟨c,t⟩:=I.ok.has x (.inl G);obtain⟨w',z⟩:=I.cell x c t;refine wpAny_storeName_cell I.ok.kind G t z (λh' P f=>?_);obtain⟨oc,U,W⟩:=id z;refine h {s with heap:=h'} ⟨I.ok,I.os,I.bare,⟨λb o e n K B=>?_,λb o e n K B=>?_,I.base.free,λb o e B=>?_,I.base.tups,I.base.frzs,I.base.tbls⟩,⟨m,hn.sameBut f (K6 (cne x c t)),λj y v' g D e3=>?_⟩,λy Y e=>?_,I.free,I.freeC,λp hp=>?_,l ⟨oc,U,I.freeC x c t⟩ f,by simpa using I.len⟩ ⟨c,f,.inr t⟩
  .exact(f.2 b (J9 (F5 (F1 e) (I.ok.cab x c L t)))).trans (I.base.keep b o e n K B)
  .obtain⟨sl,g⟩:=I.base.slot b o e n K B;exact⟨sl,(f.2 b (J9 (F5 (F1 e) (I.ok.cab x c L t)))).trans g⟩
  .obtain⟨o',g⟩:=I.base.there b o e B;exact⟨o',(f.2 b (J9 (F5 (F1 e) (I.ok.cab x c L t)))).trans g⟩
  .by_cases O:j=i
   .subst O;rw[T]at g;cases g;rw[List.getElem?_set_self F]at D;cases D;exact⟨u,r,.inr ⟨.inl G,c,t,P⟩⟩
   .rw[List.getElem?_set_ne (K6 O)]at D;obtain⟨u',r',q⟩:=hl j y v' g D e3;refine⟨u',r',?_⟩;rcases q with q|⟨k,Y,e,z'⟩
    .exact .inl q
    .refine .inr ⟨k,Y,e,z'.sameBut f ?_⟩;rintro rfl;exact O (Tz hN g (I.ok.inj _ _ _ e t▸T))
  .by_cases R:Y=c
   .subst R;exact⟨_,P⟩
   .obtain⟨w2,z2⟩:=I.cell y Y e;exact⟨w2,z2.sameBut f R⟩
  .obtain⟨e,n,ne,nf,d⟩:=I.pin p hp;refine⟨(f.2 p.1 ?_).trans e,n,ne,nf,d⟩;intro q;rw[q,U]at e;have q':oc=p.2:=K7 e;exact d w' (by rw[<-q'];exact W)
theorem SW{M:Model}{A:Around}{E:B_}{i:Nat}{x:Str}{v:V}{u:S_}{Q:Unit->Shared->Prop}(I:Inv X pins σ H s)(c:X.N.Nodup)(e:X.N[i]?=some x)(f:Loc X.env.scope x)(r:Bh v u)
  (h:∀a,Inv X pins (σ.set i (some v)) H a->Q () a) (d:X.fn x=true\/X.env.scope.names.lookup x=some .local:=by first|exact .inl rfl|exact .inr rfl|assumption):wpAny M A (storeName X.env x u) Q E s :=
 QC I c e f r (λa b _=>h a b) d
theorem Inv.call'{a:P_}{ch:H_}(I:Inv X pins σ H s)(h:a.os=s.os)(u:Un (frs X.stack) ch H H' s.heap a.heap)(f:HOk X.prog X.w H' a.heap)(g:AllBare a.gens)
  (d:∀b∈ch,(b∈X.ex\/X.s₀.heap.objs.size<=b)/\b≠X.env.locals/\(∀x c,X.env.cells.lookup x=some c->c≠b)/\∀p∈X.pn++pins,p.1≠b):Inv X pins σ H' a:=by
 obtain⟨h',g',d',t',o'⟩:=a;have e:o'=s.os:=h;subst e;exact I.call (g':=g') (t':=t') (d':=d') u f g d
end
abbrev XK:=Value->Option Addr->Hp->Prop
abbrev St:=List (Option V)
abbrev VK:=V->Hp->Prop
abbrev TE:=St->Hp->VK->Prop
abbrev TT:=St->Hp->(Bool->Hp->Prop)->Prop
abbrev TA:=St->Hp->(List V->Hp->Prop)->Prop
structure Nh where
nx:St->Hp->Prop
rt:VK
bk:St->Hp->Prop:=λ_ _=>False
ct:St->Hp->Prop:=λ_ _=>False
abbrev TS:=Nh->St->Hp->Prop
def EP(X:Cx)(pins:A_)(σ:St)(Q:VK)(u:S_)(s':P_):Prop:=∃v H',Inv X pins σ H' s'/\Bh v u/\Q v H'
def TP(X:Cx)(pins:A_)(σ:St)(Q:Bool->Hp->Prop)(b:Bool)(s':P_):Prop:=∃H',Inv X pins σ H' s'/\Q b H'
def AP(X:Cx)(pins:A_)(σ:St)(Q:List V->Hp->Prop)(us:F_)(s':P_):Prop:=∃vs H',Inv X pins σ H' s'/\AS vs us/\Q vs H'
def SP(X:Cx)(pins:A_)(D:Nh)(f:Flow)(s':P_):Prop :=
 match f with
 |.next=>∃σ' H',Inv X pins σ' H' s'/\D.nx σ' H'
 |.brk=>∃σ' H',Inv X pins σ' H' s'/\D.bk σ' H'
 |.cont=>∃σ' H',Inv X pins σ' H' s'/\D.ct σ' H'
 |.ret u=>∃v σ' H',Inv X pins σ' H' s'/\Bh v u/\D.rt v H'
def PE(X:Cx)(e:Expr)(t:TE):Prop :=
 ∀(pins:A_)(s:P_)(σ:St)(H:Hp)(Q:VK),Inv X pins σ H s->t σ H Q->wpAny (model X.prog X.w) X.A (eval e X.env) (EP X pins σ Q) X.xe s
def PT(X:Cx)(e:Expr)(t:TT):Prop :=
 ∀(pins:A_)(s:P_)(σ:St)(H:Hp)(Q:Bool->Hp->Prop),Inv X pins σ H s->t σ H Q->wpAny (model X.prog X.w) X.A (isTrue e X.env (eval e X.env)) (TP X pins σ Q) X.xe s
def PW(X:Cx)(e:Expr)(t:TT):Prop :=
 ∀(whole:Sem Value)(pins:A_)(s:P_)(σ:St)(H:Hp)(Q:Bool->Hp->Prop),Inv X pins σ H s->t σ H Q->wpAny (model X.prog X.w) X.A (isTrue e X.env whole) (TP X pins σ Q) X.xe s
theorem PW.pt{X:Cx}{e:Expr}{t:TT}(h:PW X e t):PT X e t:=h _
def PA(X:Cx)(es:List Expr)(t:TA):Prop :=
 ∀(pos:Pos)(pins:A_)(s:P_)(σ:St)(H:Hp)(Q:List V->Hp->Prop),Inv X pins σ H s->t σ H Q->wpAny (model X.prog X.w) X.A (spliced (backTo pos (starEach es X.env))) (AP X pins σ Q) X.xe s
def PS(X:Cx)(st:Stmt)(t:TS):Prop :=
 ∀(pins:A_)(s:P_)(σ:St)(H:Hp)(D:Nh),Inv X pins σ H s->t D σ H->wpAny (model X.prog X.w) X.A (exec st X.env) (SP X pins D) X.xe s
def PSs(X:Cx)(st:List Stmt)(t:TS):Prop :=
 ∀(pins:A_)(s:P_)(σ:St)(H:Hp)(D:Nh),Inv X pins σ H s->t D σ H->wpAny (model X.prog X.w) X.A (execs st X.env) (SP X pins D) X.xe s
theorem thn{α:Type}{t:Sem α}{Q b:α->Shared->Prop}{M:Model}{A:Around}{E:B_}{s:P_}(h:wpAny M A t Q E s)(c:∀a s,Q a s->b a s):wpAny M A t b E s:=A2b h c λ_ _ x=>x
section
variable{X:Cx}
def GR(i:Nat):TE:=fun σ H Q=>∃v,σ[i]?=some (some v)/\Q v H
def tC(v:V):TE:=λ_ H Q=>Q v H
theorem pe_var{i:Nat}{x:Str}{pos:Pos}(k:X.N[i]?=some x)(q:Vis X.env.scope x)(g:(x==("__debug__" : Str))=false:=by decide)(f:(x==("__classdict__" : Str))=false:=by decide):PE X (.Name x pos) (GR i):=by
 intro d s σ H Q I h;obtain⟨v,e,h⟩:=h;obtain⟨m,p,n⟩:=I.loc;obtain⟨u,r,l⟩:=n i x v k e q;have fin:EP X d σ Q u s:=⟨v,H,I,r,h⟩
 rcases l with ⟨b,o⟩|⟨b,c,j,a⟩
 .exact wpAny_Name (wpAny_loadName_local I.ok.kind b p o fin) g
 .rcases b with b|b
  .exact wpAny_Name (wpAny_loadName_cell I.ok.kind b j a fin) g
  .exact wpAny_Name (wpAny_loadName_free I.ok.kind b j a fin f) g
theorem Ab{i j pos}:PE X (.Constant (.int i) j pos) (tC (.int i)):=λ_ _ _ H _ I h=>wpAny_Constant_int ⟨.int i,H,I.tok _,⟨_,Z⟩,h⟩
theorem Po{b j pos}:PE X (.Constant (.bool b) j pos) (tC (.bl b)):=λ_ _ _ H _ I h=>Constant_bool ⟨.bl b,H,I,Z,h⟩
theorem Cw{j pos}:PE X (.Constant .none j pos) (tC .non):=λ_ _ _ H _ I h=>Constant_none ⟨.non,H,I,Z,h⟩
theorem Dk{x j pos}:PE X (.Constant (.str x) j pos) (tC (.str x)):=λ_ _ _ H _ I h=>Calls.Constant_str ⟨.str x,H,I.tok _,⟨_,Z⟩,h⟩
def Gl(X:Cx)(x:Str):Prop:=X.env.kindOf x=some .globalImplicit
theorem OI{E:B_}{a:A_}{s:P_}{σ:St}{H:Hp}{x:Str}{u:S_}{pos:Pos}{Q:B_}(I:Inv X a σ H s)(c:Gl X x)(d:X.mg x=some u)(h:Q u s)
  (b:(x==("__debug__" : Str))=false:=by decide):wpAny (model X.prog X.w) X.A (eval (.Name x pos) X.env) Q E s :=
 Calls.Name_function_global I.ok.kind c (Calls.loadGlobal_global (by rw[I.ok.glob];exact I.mod.glob.keeps I.bk) d h) b
theorem Li{E:B_}{a:A_}{s:P_}{σ:St}{H:Hp}{x:Str}{u:S_}{pos:Pos}{Q:B_}(I:Inv X a σ H s)(e:Gl X x)(f:X.mg x=none)(i:bootBuiltins x=some u)(h:Q u s)
  (g:x≠"__name__" := by decide) (d:(x==("__debug__" : Str))=false:=by decide):wpAny (model X.prog X.w) X.A (eval (.Name x pos) X.env) Q E s:=by
 obtain⟨j,b,c⟩:=I.mod.blt;exact Calls.Name_function_global I.ok.kind e (Calls.loadGlobal_builtin (by rw[I.ok.glob];exact I.mod.glob.keeps I.bk) f (by rw[I.ok.blt];exact b.keeps I.bk) ((c x g).trans i) h) d
theorem RB{x:Str}{v:V}{u:S_}{pos:Pos}(b:Gl X x)(c:X.mg x=some u)(r:Bh v u)(a:(x==("__debug__" : Str))=false:=by decide):PE X (.Name x pos) (tC v) :=
 λ_ _ _ H _ I h=>OI I b c ⟨v,H,I,r,h⟩ a
theorem Jc{x:Str}{v:V}{u:S_}{pos:Pos}(b:Gl X x)(c:X.mg x=none)(e:bootBuiltins x=some u)(r:Bh v u)(d:x≠"__name__" := by decide)(a:(x==("__debug__" : Str))=false:=by decide):PE X (.Name x pos) (tC v) :=
 λ_ _ _ H _ I h=>Li I b c e ⟨v,H,I,r,h⟩ d a
variable{a b:Expr}{ta tb:TE}{pos:Pos}
def PC(X:Cx)(op:CmpOp)(a b:Expr)(t:TE):Prop :=
 ∀(pins:A_)(s:P_)(σ:St)(H:Hp)(Q:VK),Inv X pins σ H s->t σ H Q ->
  wpAny (model X.prog X.w) X.A (eval a X.env) (λv s₁=>wpAny (model X.prog X.w) X.A (eval b X.env) (λu s₂=>wpAny (model X.prog X.w) X.A (compareOp op v u) (EP X pins σ Q) X.xe s₂) X.xe s₁) X.xe s
def tB(t:TE):TT:=fun σ H Q=>t σ H λx H1=>∃c,x=.bl c/\Q c H1
theorem pt_cmp{g:CmpOp}{t:TE}(h:PC X g a b t)(f:behindInMarks g b=false:=by first|exact nobehind _ A3 A3|rfl):PT X (.Compare a [g] [b] pos) (tB t):=by
 intro e s σ H Q I l;refine wpAny_isTrue_Compare1 (thn (h e s σ H _ I l) λv o f=>thn f λu p k=>thn k λc r ⟨x,i,j,n,m⟩=>?_) f;obtain⟨d,rfl,q⟩:=m;cases n;exact A1f ⟨i,j,q⟩
theorem Cu{e:Expr}{t:TE}(h:PE X e t)(j:∀c,isTrue e X.env c=(do let v <-c;standAt e.pos;holding [v] (truthy v)):=by intro _;rfl):PT X e (tB t):=by
 intro f s σ H Q I k;refine isTrue_plain (thn (h f s σ H _ I k) λv n ⟨x,g,i,m,l⟩=>?_) (j _);obtain⟨d,rfl,q⟩:=l;cases m;exact A1f ⟨g,i,q⟩
variable{tA tB':TT}{rest:List Expr}
def tAnd(t u:TT):TT:=fun σ H Q=>t σ H λc H1=>if c=true then u σ H1 Q else Q false H1
def tOr(t u:TT):TT:=fun σ H Q=>t σ H λc H1=>if c=true then Q true H1 else u σ H1 Q
def tNot(t:TT):TT:=fun σ H Q=>t σ H λc H1=>Q (!c) H1
theorem Ja(f:PT X a tA):PW X (.BoolOp .And [a] pos) tA:=by
 intro i d s σ H Q I h;refine isTrue_and (thn (f d s σ H Q I h) λc g e=>?_);cases c with
 |true=>exact isTrue_and_nil e
 |false=>exact e
theorem JK(f:PT X a tA):PW X (.BoolOp .Or [a] pos) tA:=by
 intro i d s σ H Q I h;refine isTrue_or (thn (f d s σ H Q I h) λc g e=>?_);cases c with
 |false=>exact isTrue_or_nil e
 |true=>exact e
theorem Mj(i:PT X a tA)(j:PW X (.BoolOp .And (b::rest) pos) tB'):PW X (.BoolOp .And (a::b::rest) pos) (tAnd tA tB'):=by
 intro l d s σ H Q I h;refine isTrue_and (thn (i d s σ H _ I h) λc k ⟨e,f,g⟩=>?_);cases c with
 |true=>exact j l d k σ e Q f g
 |false=>exact⟨e,f,g⟩
theorem Jz(i:PT X a tA)(j:PW X (.BoolOp .Or (b::rest) pos) tB'):PW X (.BoolOp .Or (a::b::rest) pos) (tOr tA tB'):=by
 intro l d s σ H Q I h;refine isTrue_or (thn (i d s σ H _ I h) λc k ⟨e,f,g⟩=>?_);cases c with
 |true=>exact⟨e,f,g⟩
 |false=>exact j l d k σ e Q f g
theorem CS(f:PT X a tA):PT X (.UnaryOp .Not a pos) (tNot tA):=by
 intro d s σ H Q I h;exact isTrue_not (f d s σ H (λc e=>Q (!c) e) I h)
def tAndV(ta tb:TE):TE:=fun σ H Q=>ta σ H λx H1=>∃c,x=.bl c/\if c=true then tb σ H1 Q else Q (.bl false) H1
def tOrV(ta tb:TE):TE:=fun σ H Q=>ta σ H λx H1=>∃c,x=.bl c/\if c=true then Q (.bl true) H1 else tb σ H1 Q
def tNotV(ta:TE):TE:=fun σ H Q=>ta σ H λx H1=>∃c,x=.bl c/\Q (.bl (!c)) H1
theorem JM{op}{t:TE}(h:PE X a t):PE X (.BoolOp op [a] pos) t:=λc s σ H Q I d=>BoolOp_one (h c s σ H Q I d)
theorem Jd(i:PE X a ta)(j:PE X (.BoolOp .And (b::rest) pos) tb):PE X (.BoolOp .And (a::b::rest) pos) (tAndV ta tb):=by
 intro d s σ H Q I h;refine BoolOp_and (thn (i d s σ H _ I h) λv l ⟨x,f,g,k,e⟩=>?_);obtain⟨c,rfl,e⟩:=e;cases k;refine A1f ?_;cases c with
 |true=>exact j d l σ f Q g e
 |false=>exact⟨.bl false,f,g,Z,e⟩
theorem pe_or(i:PE X a ta)(j:PE X (.BoolOp .Or (b::rest) pos) tb):PE X (.BoolOp .Or (a::b::rest) pos) (tOrV ta tb):=by
 intro d s σ H Q I h;refine BoolOp_or (thn (i d s σ H _ I h) λv l ⟨x,f,g,k,e⟩=>?_);obtain⟨c,rfl,e⟩:=e;cases k;refine A1f ?_;cases c with
 |false=>exact j d l σ f Q g e
 |true=>exact⟨.bl true,f,g,Z,e⟩
theorem Zz(i:PE X a ta):PE X (.UnaryOp .Not a pos) (tNotV ta):=by
 intro d s σ H Q I h;refine UnaryOp_ (thn (i d s σ H _ I h) λv k ⟨x,f,g,j,e⟩=>?_);obtain⟨c,rfl,e⟩:=e;cases j;exact not_of (A1f ⟨.bl (!c),f,g,Z,e⟩)
def tIf(t:TT)(ta tb:TE):TE:=fun σ H Q=>t σ H λc H1=>if c=true then ta σ H1 Q else tb σ H1 Q
theorem Ty{c:Expr}(m:PT X c tA)(k:PE X a ta)(l:PE X b tb):PE X (.IfExp c a b pos) (tIf tA ta tb):=by
 intro e s σ H Q I h;refine wpAny_IfExp (thn (m e s σ H _ I h) λd j ⟨f,g,i⟩=>?_);cases d with
 |true=>exact k e j σ f Q g i
 |false=>exact l e j σ f Q g i
end
def SqL(K:O_)(H:Hp)(a:R_)(xs:List V):Prop :=
 Rd H a (.lst xs) \/
  ∃(o:Obj)(its:M_)(n:Nat),K.lookup a=some o/\o.cls=.type "list" /\ o.dict=none/\o.data=.seq its n/\its.size<=sizeLine/\AS xs its.toList
def SqT(K:O_)(H:Hp)(a:R_)(xs:List V):Prop :=
 Rd H a (.tup xs) \/
  ∃(o:Obj)(its:M_)(n:Nat),K.lookup a=some o/\o.cls=.type "tuple" /\ o.data=.seq its n/\its.size<=sizeLine/\AS xs its.toList
def absV:Value->Option V
|.none=>some .non
|.bool b=>some (.bl b)
|.int i _=>some (.int i)
|.str x _=>some (.str x)
|.bytes b _=>some (.byt b)
|.float b _=>some (.flt b)
|.ref a=>some (.ref a)
|.type n=>some (.ty n)
|_=>none
theorem Bh.abs{x:V}{u:S_}(r:Bh x u):absV u=some x:=by
 cases x with
 |non=>cases r;rfl
 |bl _=>cases r;rfl
 |int _=>obtain⟨t,rfl⟩:=r;rfl
 |str _=>obtain⟨t,rfl⟩:=r;rfl
 |byt _=>obtain⟨t,rfl⟩:=r;rfl
 |flt _=>obtain⟨t,rfl⟩:=r;rfl
 |ref _=>cases r;rfl
 |ty _=>cases r;rfl
theorem Bh.inj{x y:V}{u:S_}(r:Bh x u)(q:Bh y u):x=y:=K7 (r.abs.symm.trans q.abs)
theorem AS.inj:∀{xs ys:List V}{us:F_},AS xs us->AS ys us->xs=ys
|_,_,_,.nil,.nil=>rfl
|_,_,_,.cons r t,.cons r' t'=>by rw[r.inj r',AS.inj t t']
section
variable{X:Cx}{pins:A_}{σ:St}{H:Hp}{s:P_}{a:R_}{xs ys:List V}
theorem SqL.of{K:O_}(h:H a=some (.lst xs)):SqL K H a xs:=.inl (.inl h)
theorem SqT.of{K:O_}(h:H a=some (.tup xs)):SqT K H a xs:=.inl (.inl h)
theorem Inv.list(I:Inv X pins σ H s)(h:SqL X.K H a xs):∃b:List Value,AS xs b/\PlainL s.heap a b.toArray/\xs.length<=sizeLine:=by
 rcases h with h|⟨o,b,n,f,c,d,g,i,r⟩
 .obtain⟨z,b,n,r,e⟩:=h.ok I.hok;exact⟨b,r,⟨_,n,e,Z,Z,Z⟩,z⟩
 .refine⟨b.toList,r,⟨o,n,I.kIn a o f,c,d,by simpa using g⟩,?_⟩;have e:=r.length;simp only[U7]at e;lia
theorem Inv.tuple(I:Inv X pins σ H s)(h:SqT X.K H a xs):∃b:List Value,AS xs b/\IsTup s.heap a b.toArray/\xs.length<=sizeLine:=by
 rcases h with h|⟨o,b,n,d,c,f,g,r⟩
 .obtain⟨z,b,r,p⟩:=h.ok I.hok;exact⟨b,r,p,z⟩
 .refine⟨b.toList,r,⟨o,I.kIn a o d,c,n,by simpa using f⟩,?_⟩;have e:=r.length;simp only[U7]at e;lia
theorem Inv.list_inj(I:Inv X pins σ H s)(h:SqL X.K H a xs)(h':SqL X.K H a ys):xs=ys:=by
 obtain⟨b,r,⟨o,n,e,_,_,d⟩,_⟩:=I.list h;obtain⟨its',f,⟨o',g,c,_,_,d'⟩,_⟩:=I.list h';rw[e]at c;cases c;rw[d]at d';injection d' with d1 _
 have:b=its':=by simpa using A0c Array.toList d1
 subst this;exact r.inj f
theorem Inv.tuple_inj(I:Inv X pins σ H s)(h:SqT X.K H a xs)(h':SqT X.K H a ys):xs=ys:=by
 obtain⟨b,r,⟨o,e,_,n,d⟩,_⟩:=I.tuple h;obtain⟨its',f,⟨o',c,_,g,d'⟩,_⟩:=I.tuple h';rw[e]at c;cases c;rw[d]at d';injection d' with d1 _
 have:b=its':=by simpa using A0c Array.toList d1
 subst this;exact r.inj f
end
abbrev Cx.wish(X:Cx)(E:B_):Cx:={X with xe:=E}
abbrev Cx.nox(X:Cx):Cx:=X.wish λ_ _=>False
theorem Cx.Ok.wish{X:Cx}(ok:X.Ok)(E:B_):(X.wish E).Ok :=
 ⟨ok.mod,ok.kind,ok.glob,ok.blt,ok.above,ok.inj,ok.has,ok.cab,ok.hd,ok.frames,ok.stk,ok.exf,ok.bs,ok.bsz,ok.noex,ok.exfs,ok.funs,ok.frf⟩
theorem Cx.Ok.unwish{X:Cx}{E:B_}(ok:(X.wish E).Ok):X.Ok :=
 ⟨ok.mod,ok.kind,ok.glob,ok.blt,ok.above,ok.inj,ok.has,ok.cab,ok.hd,ok.frames,ok.stk,ok.exf,ok.bs,ok.bsz,ok.noex,ok.exfs,ok.funs,ok.frf⟩
section
variable{X:Cx}{pins:A_}{σ:St}{H:Hp}{s:P_}{E:B_}
theorem Inv.wish(I:Inv X pins σ H s)(E:B_):Inv (X.wish E) pins σ H s:=⟨I.ok.wish E,I.os,I.bare,I.base,I.loc,I.cell,I.free,I.freeC,I.pin,I.hok,I.len⟩
theorem Inv.unwish(I:Inv (X.wish E) pins σ H s):Inv X pins σ H s:=⟨I.ok.unwish,I.os,I.bare,I.base,I.loc,I.cell,I.free,I.freeC,I.pin,I.hok,I.len⟩
theorem SP.unwish{D:Nh}{f:Flow}{b:P_}(h:SP (X.wish E) pins D f b):SP X pins D f b:=by
 cases f with
 |next=>obtain⟨σ',a,I,q⟩:=h;exact⟨σ',a,I.unwish,q⟩
 |brk=>obtain⟨σ',a,I,q⟩:=h;exact⟨σ',a,I.unwish,q⟩
 |cont=>obtain⟨σ',a,I,q⟩:=h;exact⟨σ',a,I.unwish,q⟩
 |ret u=>obtain⟨v,σ',a,I,r,q⟩:=h;exact⟨v,σ',a,I.unwish,r,q⟩
theorem PSs.nox{a:List Stmt}{t:TS}(h:PSs X.nox a t):PSs X a t:=λpins s σ H D I b =>
 A2b (h pins s σ H D (I.wish _) b) (λ_ _ q=>q.unwish) λ_ _ z=>False.elim z
end
section
variable{X:Cx}{st:Stmt}{rest:List Stmt}{t u:TS}{e:Expr}{te:TE}{pos:Pos}
def tNext:TS:=λD σ H=>D.nx σ H
def WS(t u:TS):TS:=λD σ H=>t {D with nx:=u D} σ H
theorem AC:PSs X [] tNext:=λ_ _ σ H _ I h=>A6e ⟨σ,H,I,h⟩
theorem Ac(d:PS X st t)(g:PSs X rest u):PSs X (st::rest) (WS t u):=by
 intro a s σ H D I h;refine wpAny_execs_cons (thn (d a s σ H {D with nx:=u D} I h) λf i q=>?_);cases f with
 |next =>
  obtain⟨σ',b,c,q⟩:=q;exact g a i σ' b D c q
 |ret v=>exact q
 |brk=>exact q
 |cont=>exact q
theorem Ai(b:PS X st t):PSs X [st] t:=by
 intro a s σ H D I h;refine wpAny_execs_cons (thn (b a s σ H D I h) λf c q=>?_);cases f with
 |next=>exact A6e q
 |ret v=>exact q
 |brk=>exact q
 |cont=>exact q
theorem Inv.quiet{a:A_}{σ:St}{H:Hp}{s:P_}(I:Inv X a σ H s):interactive X.env=false:=by simp[interactive,I.ok.kind]
def tDrop(te:TE):TS:=λD σ H=>te σ H λ_ H1=>D.nx σ H1
theorem BJ(d:PE X e te)(f:swapsWith e none pos.line X.env=pure false:=by rfl):PS X (.Expr e pos) (tDrop te):=by
 intro a s σ H D I h;exact wpAny_Expr_any (thn (d a s σ H _ I h) λv j ⟨x,b,c,i,g⟩=>⟨σ,b,c,g⟩) I.quiet f
def tRet(te:TE):TS:=λD σ H=>te σ H D.rt
theorem Av(d:PE X e te):PS X (.Return (some e) pos) (tRet te):=by
 intro a s σ H D I h;exact wpAny_Return_some (thn (d a s σ H _ I h) λv i ⟨x,b,c,g,f⟩=>⟨x,σ,b,c,g,f⟩)
def tIfS(c:TT)(t u:TS):TS:=λD σ H=>c σ H λb H1=>if b=true then t D σ H1 else u D σ H1
theorem AQ{c:Expr}{a b:List Stmt}{tc:TT}(n:PT X c tc)(l:PSs X a t)(m:PSs X b u):PS X (.If c a b pos) (tIfS tc t u):=by
 intro f s σ H D I h;refine wpAny_If (thn (n f s σ H _ I h) λd k ⟨g,i,j⟩=>?_);cases d with
 |true=>exact l f k σ g D i j
 |false=>exact m f k σ g D i j
def tNever:TS:=λ_ _ _=>False
theorem Bl:PS X st tNever:=λ_ _ _ _ _ _ h=>h.elim
end
abbrev TG:=V->St->Hp->(St->Hp->Prop)->Prop
abbrev TGs:=List V->St->Hp->(St->Hp->Prop)->Prop
def PG(X:Cx)(target:Expr)(t:TG):Prop :=
 ∀(pins:A_)(s:P_)(σ:St)(H:Hp)(v:V)(u:S_)(Q:St->Hp->Prop),Inv X pins σ H s->Bh v u->t v σ H Q ->
  wpAny (model X.prog X.w) X.A (assign target X.env u) (λ_ s'=>∃σ' H',Inv X pins σ' H' s'/\Q σ' H') X.xe s
def PGs(X:Cx)(ts:List Expr)(t:TGs):Prop :=
 ∀(pins:A_)(s:P_)(σ:St)(H:Hp)(vs:List V)(us:F_)(Q:St->Hp->Prop),Inv X pins σ H s->AS vs us->t vs σ H Q ->
  wpAny (model X.prog X.w) X.A (assignInOrder ((assignEach ts X.env).map (·.2)) us) (λ_ s'=>∃σ' H',Inv X pins σ' H' s'/\Q σ' H') X.xe s
abbrev TSet:=V->V->V->Hp->(Hp->Prop)->Prop
def PSet(X:Cx)(t:TSet):Prop :=
 ∀(pins:A_)(s:P_)(σ:St)(H:Hp)(o i v:V)(ov iv u:S_)(Q:Hp->Prop),Inv X pins σ H s->Bh o ov->Bh i iv->Bh v u->t o i v H Q ->
  wpAny (model X.prog X.w) X.A (setItem ov iv u) (λ_ s'=>∃H',Inv X pins σ H' s'/\Q H') X.xe s
section
variable{X:Cx}{pos:Pos}
def PR(i:Nat):TG:=λv σ H Q=>Q (σ.set i (some v)) H
theorem Bn{i:Nat}{x:Str}(c:X.N.Nodup)(e:X.N[i]?=some x)(f:Loc X.env.scope x)(d:X.fn x=true\/X.env.scope.names.lookup x=some .local:=by first|exact .inl rfl|exact .inr rfl|assumption):PG X (.Name x pos) (PR i):=by
 intro a s σ H v u Q I r h;exact wpAny_assign_Name (SW I c e f r (λg b=>⟨_,H,b,h⟩) d)
def gNil:TGs:=λvs σ H Q=>vs=[]/\Q σ H
def TZ(t:TG)(u:TGs):TGs:=λvs σ H Q=>∃v r,vs=v::r/\t v σ H fun σ' H'=>u r σ' H' Q
theorem MI:PGs X [] gNil:=by
 intro a s σ H vs us Q I r h;obtain⟨e,h⟩:=h;subst e;cases r;exact assignInOrder_nil ⟨σ,H,I,h⟩
theorem DJ{e:Expr}{b:List Expr}{t:TG}{u:TGs}(i:PG X e t)(j:PGs X b u)
  (k:(assignEach (e::b) X.env).map (·.2)=assign e X.env::(assignEach b X.env).map (·.2):=by rfl):PGs X (e::b) (TZ t u):=by
 intro a s σ H vs us Q I r h;obtain⟨v,o,g,h⟩:=h;subst g;cases r with
 |cons r m =>
  rw[k];refine assignInOrder_cons (thn (i a s σ H _ _ _ I r h) λ_ n ⟨c,d,f,l⟩=>?_);exact j a n c d _ _ Q f m l
def gTup(K:O_)(n:Nat)(t:TGs):TG:=λv σ H Q=>∃a xs,v=.ref a/\SqT K H a xs/\xs.length=n/\t xs σ H Q
theorem Pn{d:List Expr}{k:Nat}{t:TGs}{n:Nat}(m:X.calm=true)(h:PGs X d t)
  (q:(assignEach d X.env).length=n:=by rfl) (f:(assignEach d X.env).findIdx? (·.1)=none:=by rfl):PG X (.Tuple d k pos) (gTup X.K n t):=by
 intro c s σ H v u Q I r g;obtain⟨a,xs,l,w,p,g⟩:=g;subst l;cases r;obtain⟨z,i,x,A⟩:=I.tuple w;refine assign_Tuple_tuple (I.ok.hd m) x (by simp[q,<-p,i.length]) f λh' y=>?_;have j:Inv X c σ H {s with heap:=h'}:=I.kept (t':=s.toks) λb o e=>y b o (J9 (F1 e)) e;exact h c _ σ H xs _ Q j (by simpa using i) g
def gSub(to ti:TE)(t:TSet):TG:=λv σ H Q=>to σ H λo H1=>ti σ H1 λi H2=>t o i v H2 λH3=>Q σ H3
theorem Zy{o i:Expr}{to d:TE}{t:TSet}(p:PE X o to)(n:PE X i d)(q:PSet X t)
  (m:∀v,assign (.Subscript o i pos) X.env v=(do
   let b <-holding [v] (eval o X.env);let c <-holding [v,b] (eval i X.env)
   standAt pos
   holding [v,b,c] (setItem b c v)
   release [v,b,c] []):=by intro _;rfl):PG X (.Subscript o i pos) (gSub to d t):=by
 intro a s σ H v u Q I r h;rw[m];refine X8 (A3g (thn (p a s σ H _ I h) λb D ⟨x,e,j,B,w⟩=>?_));refine X8 (A3g (thn (n a D σ e _ j w) λc E ⟨y,f,k,C,z⟩=>?_));refine X8 (A7d (X8 (A3g (thn (q a E σ f x y v b c u _ k B C r z) λ_ F ⟨g,l,A⟩=>?_))));exact wpAny_release ⟨σ,g,l,A⟩
def tAsg(te:TE)(g:TG):TS:=λD σ H=>te σ H λx H1=>g x σ H1 D.nx
theorem Zt{b e:Expr}{c:TE}{g:TG}(j:PE X e c)(k:PG X b g)(l:swapsWithSole [b] e pos.line X.env=pure false:=by rfl)(m:swappedStores [b] e X.env=pure none:=by rfl)
  (i:(assignEach [b] X.env).map (·.2)=[assign b X.env]:=by rfl):PS X (.Assign [b] e pos) (tAsg c g):=by
 intro a s σ H D I h;refine wpAny_Assign_stores (thn (j a s σ H _ I h) λv p ⟨x,d,f,o,n⟩=>?_) l m;rw[i];exact thn (k a p σ d x v _ f o n) λ_ r q=>q
theorem Ao{i:Nat}{x:Str}{e:Expr}{c:TE}{a:Pos}(j:X.N.Nodup)(m:X.N[i]?=some x)(o:Loc X.env.scope x)(k:PE X e c)(n:swapsWith e (some (.Name x a)) pos.line X.env=pure false:=by rfl)(l:X.fn x=true\/X.env.scope.names.lookup x=some .local:=by first|exact .inl rfl|exact .inr rfl|assumption) :
  PS X (.Assign [.Name x a] e pos) (tAsg c (PR i)):=by
 intro b s σ H D I h;refine wpAny_Assign_Name (thn (k b s σ H _ I h) λv r ⟨y,d,f,q,p⟩=>?_) n;exact SW f j m o q (λt g=>⟨_,d,g,p⟩) l
def tWhile(c:TT)(tb:TS):TS:=λD σ H=>∃W:Nat->St->Hp->Prop,(∃m,W m σ H)/\∀m σ H,W m σ H ->
 c σ H λb H1=>if b=true then ∃N:St->Hp->Prop,(∀σ' H',N σ' H'->∃m',m'<m/\W m' σ' H')/\tb {D with nx:=N,ct:=N,bk:=D.nx} σ H1 else D.nx σ H1
theorem JL{c:Expr}{g:List Stmt}{tc:TT}{B:TS}(z:PassesOwn (model X.prog X.w) X.A X.env X.xe)(F:PT X c tc)(E:PSs X g B):PS X (.While c g [] pos) (tWhile tc B):=by
 intro a s σ H D I h;obtain⟨W,⟨G,O⟩,turn⟩:=h;refine wpAny_While (codeAny_whileLoop (λn K=>∃σ' r,Inv X a σ' r K/\W n σ' r) ?_ G ⟨σ,H,I,O⟩);rintro n L ⟨e,t,C,P⟩;refine A3e z (thn (F a L e t _ C (turn n e t P)) λb M ⟨u,x,j⟩=>?_);cases b with
 |true =>
  obtain⟨N,y,j⟩:=j;rw[K2 rfl];refine A3e z (thn (E a M e u _ x j) λf Q k=>?_);cases f with
  |next =>
   obtain⟨d,i,l,p⟩:=k;obtain⟨o,m,q⟩:=y d i p;exact⟨o,m,d,i,l,q⟩
  |cont =>
   obtain⟨d,i,l,p⟩:=k;obtain⟨o,m,q⟩:=y d i p;exact⟨o,m,d,i,l,q⟩
  |brk=>exact k
  |ret v=>exact k
 |false =>
  rw[X9 D5];exact A6e ⟨e,u,x,j⟩
end
structure It where
go:Nat->Hp->Prop
yld:Nat->Hp->V->Hp->Prop
stop:Nat->Hp->Prop
def DL(X:Cx)(pins:A_)(H:Hp)(b:R_):Prop :=
 H b=none/\b≠X.env.locals/\b∉X.fs/\(b∈X.ex\/X.s₀.heap.objs.size<=b)/\(∀x c,X.env.cells.lookup x=some c->c≠b)/\∀p∈X.pn++pins,p.1≠b
theorem Inv.fpOk{X:Cx}{a:A_}{σ:St}{H f:Hp}{s:P_}{b:R_}(I:Inv X a σ H s)(d:s.heap.objs.size<=b)(g:f b=none):DL X a f b:=by
 refine⟨g,U9 (F5 I.lt d),I.nofs d,.inr (D0 I.sz d),λx c e z=>?_,λp h z=>?_⟩
 .obtain⟨v,q⟩:=I.cell x c e;exact absurd (F5 q.lt (by rw[z];exact d)) (O9 _)
 .exact absurd (F5 (F1 (I.pin p h).1) (by rw[z];exact d)) (O9 _)
structure Qv(P:N_)(w:Q_)(K:O_)(tg:Expr)(J:It)(fp:H_)(it:R_)(tn:Nat->Heap->Prop):Prop where
mem:it∈fp
obj:∀i h,tn i h->∀b∈fp,∃o,h.get? b=some o/\∀v,o.data≠.cell v
keep:∀i h h',tn i h->(∀b∈fp,∀o,h.get? b=some o->h'.get? b=some o)->tn i h'
item:∀(X:Cx),X.prog=P->X.w=w->X.K=K->X.calm=true->∀(i:Nat)(pins:A_)(s:P_)(σ:St)(H:Hp)(E:B_),Inv X pins σ H s->(∀b∈fp,DL X pins H b)->tn i s.heap->J.go i H ->
 wpAny (model P w) X.A (pyNext (.ref it)) (λr s1=>∃u,r=some u /\
  wpAny (model P w) X.A (letOwnedTupleGo tg (.ref it) u) (λ_ s2=>∃x H',Inv X pins σ H' s2/\Bh x u/\J.yld i H x H'/\tn (i+1) s2.heap/\∀b∈fp,H' b=none) E s1) E s
done:∀(X:Cx),X.prog=P->X.w=w->X.K=K->X.calm=true->∀(i:Nat)(pins:A_)(s:P_)(σ:St)(H:Hp)(E:B_),Inv X pins σ H s->(∀b∈fp,DL X pins H b)->tn i s.heap->J.stop i H ->
 wpAny (model P w) X.A (pyNext (.ref it)) (λr s1=>r=none/\Inv X pins σ H s1) E s
self:∀(A:Around)(i:Nat)(s:P_)(Q:B_)(E:B_),tn i s.heap->Q (.ref it) s->wpAny (model P w) A (pyIter (.ref it)) Q E s
abbrev TI:=St->Hp->(It->Hp->Prop)->Prop
def PIE(X:Cx)(pins:A_)(σ:St)(tg:Expr)(R:It->Hp->Prop)(itv:S_)(s2:P_):Prop :=
 ∃(it:R_)(fp:H_)(tn:Nat->Heap->Prop)(J:It)(H':Hp),itv=.ref it/\Inv X pins σ H' s2/\Qv X.prog X.w X.K tg J fp it tn/\tn 0 s2.heap/\(∀b∈fp,DL X pins H' b)/\R J H'
def PI(X:Cx)(tg iter:Expr)(wi:TI):Prop :=
 ∀(pins:A_)(s:P_)(σ:St)(H:Hp)(R:It->Hp->Prop),Inv X pins σ H s->wi σ H R ->
  wpAny (model X.prog X.w) X.A (eval iter X.env) (λv s1=>wpAny (model X.prog X.w) X.A (pyIter v) (PIE X pins σ tg R) X.xe s1) X.xe s
theorem TY{M:Model}{A:Around}{E:B_}{s:P_}{b:Expr}{it:R_}{u:S_}{o:Obj}{n:String}{vs:M_}{Q:Unit->Shared->Prop}(f:s.heap.get? it=some o)(c:o.cls=.type n)(d:o.data=.fields vs)
   (e:["enumerate","zip","dict_itemiterator","dict_reverseitemiterator","odict_iterator","itertools.zip_longest","itertools.pairwise"].contains n=false) (a:Q () s):wpAny M A (letOwnedTupleGo b (.ref it) u) Q E s:=by
 unfold letOwnedTupleGo;cases b<;>first
   |exact K3 a
   | (cases u<;>first
       |exact K3 a
       | (refine X8 (wpAny_load f ?_)
          rw[c,d];show wpAny M A (if(["enumerate","zip","dict_itemiterator","dict_reverseitemiterator","odict_iterator","itertools.zip_longest","itertools.pairwise"].contains n && vs[0]?==some (rawInt _))=true then _ else _) Q E s;rw[X9 (by intro h;rw[e,Bool.false_and]at h;cases h)];exact K3 a))
def Itl(K:O_)(a:R_):It :=
 ⟨λi H=>∃xs x,SqL K H a xs/\xs[i]?=some x,λi H x H'=>H'=H/\∀xs,SqL K H a xs->xs[i]?=some x,λi H=>∃xs,SqL K H a xs/\xs.length<=i⟩
def Itt(K:O_)(a:R_):It :=
 ⟨λi H=>∃xs x,SqT K H a xs/\xs[i]?=some x,λi H x H'=>H'=H/\∀xs,SqT K H a xs->xs[i]?=some x,λi H=>∃xs,SqT K H a xs/\xs.length<=i⟩
def Itr(lo:Int)(n:Nat):It:=⟨λi _=>i<n,λi H x H'=>H'=H/\x=.int (lo+i),λi _=>n<=i⟩
theorem WP{P:N_}{w:Q_}{K:O_}{Y:Expr}(a it:R_):Qv P w K Y (Itl K a) [it] it (λi h=>h.IsListIter it a i) where
 mem:=by simp
 obj:=λi h f b j=>by
  have e:b=it:=by simpa using j
  subst e;obtain⟨o,e,c,d⟩:=f;exact⟨o,e,λv z=>by rw[d]at z;cases z⟩
 keep:=λi h h' f k=>f.at λo e=>k it A6 o e
 item:=by
  intro X B D A M i g s σ H E I m f C;subst B D A;obtain⟨xs,x,n,F⟩:=C;obtain⟨G,L,p,T⟩:=I.list n;obtain⟨u,R,U⟩:=L.get F;obtain⟨q,r,Q,t,f4,y⟩:=m it A6;refine wpAny_pyNext_list_item f p.isList (x:=u) (by simpa using R) λh' l V=>?_;have N:Inv X g σ H {s with heap:=h'}:=I.turned (t':=s.toks) (λb o j e=>(V.2 b j).trans e) q r t f4 y;obtain⟨o,e,c,d⟩:=id l;exact⟨u,Z,TY (s:={s with heap:=h'}) e c d A3 ⟨x,H,N,U,⟨Z,λys S=>by rw[I.list_inj S n];exact F⟩,l,λb j=>(m b j).1⟩⟩
 done:=by
  intro X B D A M i g s σ H E I m f C;subst B D A;obtain⟨xs,n,F⟩:=C;obtain⟨G,L,p,T⟩:=I.list n;obtain⟨q,r,Q,t,f4,y⟩:=m it A6;have hl:=L.length;exact wpAny_pyNext_list_end (I.ok.hd M) f p.isList (by simp;lia) λh' O=>⟨Z,I.turned (t':=s.toks) (λb o j e=>O b o j e) q r t f4 y⟩
 self:=λ_ _ _ _ _ f h=>wpAny_pyIter_listiter f h
theorem Uy{P:N_}{w:Q_}{K:O_}{Y:Expr}(a it:R_):Qv P w K Y (Itt K a) [it] it (λi h=>h.IsTupleIter it a i) where
 mem:=by simp
 obj:=λi h f b j=>by
  have e:b=it:=by simpa using j
  subst e;obtain⟨o,e,c,d⟩:=f;exact⟨o,e,λv z=>by rw[d]at z;cases z⟩
 keep:=λi h h' f k=>f.at λo e=>k it A6 o e
 item:=by
  intro X C F B M i g s σ H E I n f D;subst C F B;obtain⟨xs,x,q,G⟩:=D;obtain⟨l,L,p,T⟩:=I.tuple q;obtain⟨u,R,U⟩:=L.get G;obtain⟨r,t,Q,y,f4,A⟩:=n it A6;refine wpAny_pyNext_tuple_item f (show s.heap.IsTuple a l.toArray from p) (x:=u) (by simpa using R) λh' m V=>?_;have N:Inv X g σ H {s with heap:=h'}:=I.turned (t':=s.toks) (λb o j e=>(V.2 b j).trans e) r t y f4 A;obtain⟨o,e,c,d⟩:=id m;exact⟨u,Z,TY (s:={s with heap:=h'}) e c d A3 ⟨x,H,N,U,⟨Z,λys S=>by rw[I.tuple_inj S q];exact G⟩,m,λb j=>(n b j).1⟩⟩
 done:=by
  intro X C F B M i g s σ H E I n f D;subst C F B;obtain⟨xs,q,G⟩:=D;obtain⟨l,L,p,T⟩:=I.tuple q;obtain⟨r,t,Q,y,f4,A⟩:=n it A6;have hl:=L.length;exact wpAny_pyNext_tuple_end (I.ok.hd M) f (show s.heap.IsTuple a l.toArray from p) (by simp;lia) λh' O=>⟨Z,I.turned (t':=s.toks) (λb o j e=>O b o j e) r t y f4 A⟩
 self:=λ_ _ _ _ _ f h=>wpAny_pyIter_tupleiter f h
theorem Uz{P:N_}{w:Q_}{K:O_}{F:Expr}(it:R_)(lo:Int)(n:Nat):Qv P w K F (Itr lo n) [it] it (λi h=>IsRangeIter h it (lo+(i:Nat)*1) ((n:Int)-(i:Nat)) 1) where
 mem:=by simp
 obj:=λi h a b d=>by
  have e:b=it:=by simpa using d
  subst e;exact⟨_,a,λv z=>by
   have G:Data.fields _=Data.cell v:=z;cases G⟩
 keep:=λi h h' a k=>k it A6 _ a
 item:=by
  intro X r y q u i c s σ H E I g a x;subst r y q;obtain⟨j,l,C,m,f4,p⟩:=g it A6;have W:=Walks.range (prog:=X.prog) (w:=X.w) (I.ok.hd u) it lo 1 n;refine W.item i s _ _ x a λv h' tk D f kk=>?_;obtain⟨t,rfl⟩:=D;have A:Inv X c σ H {s with heap:=h',toks:=tk}:=I.turned (λb o d e=>kk b o (by simpa using d) e) j l m f4 p;refine⟨_,Z,TY (s:={s with heap:=h',toks:=tk}) (n:="range_iterator") f Z Z A3 ⟨.int (lo+i),H,A,⟨t,?_⟩,⟨Z,Z⟩,f,λb d=>(g b d).1⟩⟩;rw[Int.mul_one]
 done:=by
  intro X r y q u i c s σ H E I g a x;subst r y q;obtain⟨j,l,C,m,f4,p⟩:=g it A6;exact wpAny_pyNext_range_end (I.ok.hd u) a (by have:n<=i:=x;lia) λh' B=>⟨Z,I.turned (t':=s.toks) (λb o d e=>B b o d e) j l m f4 p⟩
 self:=λ_ _ _ _ _ a h=>wpAny_pyIter_rangeiter a h
section
variable{X:Cx}{tg:Expr}
def iList(K:O_)(tl:TE):TI:=fun σ H R=>tl σ H λx H1=>∃a,x=.ref a/\(∃xs,SqL K H1 a xs)/\R (Itl K a) H1
def iTup(K:O_)(tl:TE):TI:=fun σ H R=>tl σ H λx H1=>∃a,x=.ref a/\(∃xs,SqT K H1 a xs)/\R (Itt K a) H1
theorem Ci{l:Expr}{tl:TE}(j:PE X l tl):PI X tg l (iList X.K tl):=by
 intro c s σ H R I h;refine thn (j c s σ H _ I h) λv f ⟨x,g,d,r,n⟩=>?_;obtain⟨a,e,⟨xs,k⟩,q⟩:=n;subst e;cases r;obtain⟨m,u,p,t⟩:=d.list k;refine A5a p.isList ?_;refine⟨f.heap.objs.size,[f.heap.objs.size],_,_,g,Z,d.kept (t':=f.toks) λb o e=>C4 _ e,WP a _,⟨_,D9 _ Z,Z,Z⟩,λb i=>?_,q⟩;have e:b=f.heap.objs.size:=by simpa using i
 subst e;exact d.fpOk (C1 _) (d.hok.fresh (C1 _))
theorem UM{l:Expr}{tl:TE}(k:PE X l tl):PI X tg l (iTup X.K tl):=by
 intro c s σ H R I h;refine thn (k c s σ H _ I h) λv d ⟨x,i,f,r,n⟩=>?_;obtain⟨a,e,⟨xs,m⟩,q⟩:=n;subst e;cases r;obtain⟨g,u,p,t⟩:=f.tuple m;refine wpAny_pyIter_tuple (show d.heap.IsTuple a g.toArray from p) ?_;refine⟨d.heap.objs.size,[d.heap.objs.size],_,_,i,Z,f.kept (t':=d.toks) λb o e=>C4 _ e,Uy a _,⟨_,D9 _ Z,Z,Z⟩,λb j=>?_,q⟩;have e:b=d.heap.objs.size:=by simpa using j
 subst e;exact f.fpOk (C1 _) (f.hok.fresh (C1 _))
theorem Tr{c:A_}{σ:St}{H:Hp}{s:P_}{R:It->Hp->Prop}{E:B_}{lo a:Int}{t u v:Tok}{tk:Nat}(I:Inv X c σ H s)(h:-(2^62)<=lo)(i:lo<2^62)(j:-(2^62)<=a)(k:a<2^62)
  (q:R (Itr lo (a-lo).toNat) H):wpAny (model X.prog X.w) X.A (pyIter (.ref s.heap.objs.size)) (PIE X c σ tg R) E {s with heap:=s.heap.push {cls:=.type "range",data:=.fields #[.int lo t,.int a u,.int 1 v]},toks:=tk}:=by
 refine wpAny_pyIter_range (IsRange.new ..) (small_one h i j k) ?_;have d:Inv X c σ H {s with heap:=s.heap.push {cls:=.type "range",data:=.fields #[.int lo t,.int a u,.int 1 v]},toks:=tk}:=I.kept λb o e=>C4 _ e;refine⟨(s.heap.push {cls:=.type "range",data:=.fields #[.int lo t,.int a u,.int 1 v]}).objs.size,[(s.heap.push {cls:=.type "range",data:=.fields #[.int lo t,.int a u,.int 1 v]}).objs.size],_,_,H,Z,
  d.kept (t':=tk) λb o e=>C4 _ e,Uz _ lo (a-lo).toNat,?_,λb l=>?_,q⟩
 .have f:lo+((0:Nat):Int)*1=lo:=by simp
  have g:(((a-lo).toNat:Nat):Int)-((0:Nat):Int)=Builtin.Range.rangeSize lo a 1:=by rw[rangeSize_one];split<;>lia
  show IsRangeIter _ _ (lo+((0:Nat):Int)*1) ((((a-lo).toNat:Nat):Int)-((0:Nat):Int)) 1;rw[f,g];exact D9 _ Z
 .have e:b=(s.heap.push {cls:=.type "range",data:=.fields #[.int lo t,.int a u,.int 1 v]}).objs.size:=by simpa using l
  subst e;exact d.fpOk (C1 _) (d.hok.fresh (C1 _))
def iRng1(ta:TA):TI:=fun σ H R=>ta σ H λvs H1=>∃j:Int,vs=[.int j]/\-(2^62)<=j/\j<2^62/\R (Itr 0 j.toNat) H1
def iRng2(ta:TA):TI:=fun σ H R=>ta σ H λvs H1=>∃i j:Int,vs=[.int i,.int j]/\(-(2^62)<=i/\i<2^62/\-(2^62)<=j/\j<2^62)/\R (Itr i (j-i).toNat) H1
theorem CC{a:Expr}{d:TA}{p pos:Pos}(i:Gl X "range")(k:X.mg "range" = none)(g:PA X [a] d)(l:starEach [a] X.env=[(false,eval a X.env)]:=by rfl):PI X tg (.Call (.Name "range" p) [a] [] pos) (iRng1 d):=by
 intro b s σ H R I h;refine Call_ (Li I i k boot_range (A2a (thn (g pos b s σ H _ I h) λus v ⟨vs,u,f,n,c⟩=>?_) l Z));obtain⟨j,e,c,m,q⟩:=c;subst e;cases n with
 |cons r o =>
  cases o;obtain⟨t,rfl⟩:=r;exact call_range_1 (Tr f A0 A0 c m (by simpa using q))
theorem NC{a b:Expr}{k:TA}{p pos:Pos}(n:Gl X "range")(o:X.mg "range" = none)(m:PA X [a,b] k)(u:starEach [a,b] X.env=[(false,eval a X.env),(false,eval b X.env)]:=by rfl)(c:starEach [b] X.env=[(false,eval b X.env)]:=by rfl) :
  PI X tg (.Call (.Name "range" p) [a,b] [] pos) (iRng2 k):=by
 intro d s σ H R I h;refine Call_ (Li I n o boot_range (A2a (thn (m pos d s σ H _ I h) λus B ⟨vs,A,l,z,f⟩=>?_) (by rw[u,c]) (by rw[c];rfl)));obtain⟨i,j,e,⟨f,v,w,x⟩,q⟩:=f;subst e;cases z with
 |cons r g =>
  cases g with
  |cons y g =>
   cases g;obtain⟨t,rfl⟩:=r;obtain⟨t',rfl⟩:=y;exact call_range_2 (Tr l f v w x q)
def tFor(wi:TI)(g:TG)(tb:TS):TS:=λD σ H=>wi σ H λJ H1=>∃W:Nat->Nat->St->Hp->Prop,(∃m,W 0 m σ H1)/\∀i m σ H,W i m σ H ->
 (J.stop i H/\D.nx σ H)\/(J.go i H/\∃N:St->Hp->Prop,(∀σ' H',N σ' H'->∃m',m'<m/\W (i+1) m' σ' H')/\∀x H',J.yld i H x H'->g x σ H' fun σ2 H2=>tb {D with nx:=N,ct:=N,bk:=D.nx} σ2 H2)
def NB(fp:H_)(h:T_):List (Addr×Obj):=fp.filterMap λb=>(h.get? b).map λo=>(b,o)
theorem Jp{fp:H_}{h:T_}{b:R_}{o:Obj}(a:b∈fp)(e:h.get? b=some o):(b,o)∈NB fp h:=List.mem_filterMap.mpr ⟨b,a,by rw[e];rfl⟩
theorem QG{fp:H_}{h:T_}{p:Addr×Obj}(d:p∈NB fp h):p.1∈fp/\h.get? p.1=some p.2:=by
 obtain⟨b,c,e⟩:=List.mem_filterMap.mp d;cases q:h.get? b with
 |none=>rw[q]at e;cases e
 |some o =>
  rw[q]at e;have a:(b,o)=p:=K7 e;subst a;exact⟨c,q⟩
theorem Inv.pinned{a:A_}{σ:St}{H:Hp}{s:P_}{fp:H_}(I:Inv X a σ H s)(j:∀b∈fp,DL X a H b)(k:∀b∈fp,∃o,s.heap.get? b=some o/\∀v,o.data≠.cell v):Inv X (a++NB fp s.heap) σ H s :=
 I.pins_of λp l=>(F4.mp l).elim (λz=>I.pin p (M0 _ z)) λz=>by
  obtain⟨f,e⟩:=QG z;obtain⟨g,h,i,_⟩:=j p.1 f;obtain⟨o,c,d⟩:=k p.1 f;rw[e]at c;cases c;exact⟨e,g,h,i,d⟩
theorem Inv.unpinned{a pl:A_}{σ:St}{H:Hp}{s:P_}(I:Inv X (a++pl) σ H s):Inv X a σ H s:=I.pins_of λp b=>I.pin p (M0 _ (U4 _ b))
theorem Cv{q:Expr}{B:List Stmt}{wi:TI}{g:TG}{tb:TS}{pos:Pos}(G:PassesOwn (model X.prog X.w) X.A X.env X.xe)(hc:X.calm=true)(hi:PI X tg q wi)(hg:PG X tg g)(p:PSs X B tb)
  (hs:∀x,foldedSetIterable q X.env x=pure x:=by intro _;rfl):PS X (.For tg q B [] pos) (tFor wi g tb):=by
 intro a s σ H D I h;refine wpAny_For (thn (hi a s σ H _ I h) λv s1 h1=>thn h1 λaa s2 h2=>?_) hs;obtain⟨it,fp,tn,J,H2,e,I2,T,U,f2,W,⟨m0,w0⟩,turn⟩:=h2;subst e;have t:∀{z:Hp},(∀b∈fp,z b=none)->∀b∈fp,DL X a z b:=λhn b p=>⟨hn b p,(f2 b p).2⟩
 refine codeAny_forLoop_any (λn s'=>∃i σ' z,Inv X a σ' z s'/\tn i s'.heap/\(∀b∈fp,z b=none)/\W i n σ' z) ?_ m0 ⟨0,σ,H2,I2,U,λb p=>(f2 b p).1,w0⟩;rintro n s3 ⟨i,y,O,I3,L,F,w3⟩;rcases turn i n y O w3 with ⟨M,qn⟩|⟨go,N,hN,step⟩
 .refine A3e G (thn (T.done X Z Z Z hc i a s3 y O X.xe I3 (t F) L M) λr s4 ⟨R,I4⟩=>?_);subst R;exact A6e ⟨y,O,I4,qn⟩
 .refine A3e G (thn (T.item X Z Z Z hc i a s3 y O X.xe I3 (t F) L go) λr s4 ⟨u,R,h4⟩=>?_);subst R;refine A3e G (thn h4 λ_ s5 ⟨x,Y,I5,r5,y5,E,Q⟩=>?_);have P:=I5.pinned (t Q) (T.obj _ _ E);refine A3e G (thn (hg _ s5 y Y x u _ P r5 (step x Y y5)) λ_ s6 ⟨V,H6,I6,q6⟩=>?_);refine A3e G (thn (p _ s6 V H6 _ I6 q6) λf S C=>?_);have l:∀{c:St}{j:Hp},Inv X (a++NB fp s5.heap) c j S->N c j->∃m,m<n/\∃i σ' z,Inv X a σ' z S/\tn i S.heap/\(∀b∈fp,z b=none)/\W i m σ' z:=λ{c j} k K=>by
   obtain⟨m',hm,w7⟩:=hN c j K;refine⟨m',hm,i+1,c,j,k.unpinned,T.keep _ _ _ E λb p o e=>(k.pin (b,o) (M0 _ (M0 _ (Jp p e)))).1,λb p=>?_,w7⟩;obtain⟨o,e,d⟩:=T.obj _ _ E b p;exact(k.pin (b,o) (M0 _ (M0 _ (Jp p e)))).2.1
  cases f with
  |next=>obtain⟨c,j,k,K⟩:=C;exact l k K
  |cont=>obtain⟨c,j,k,K⟩:=C;exact l k K
  |brk=>obtain⟨c,j,k,C⟩:=C;exact⟨c,j,k.unpinned,C⟩
  |ret v=>obtain⟨x7,c,j,k,r7,C⟩:=C;exact⟨x7,c,j,k.unpinned,r7,C⟩
end
theorem MX{K:O_}{a:R_}{xs:List V}{g:TG}{k:TS}{D:Nh}{σ:St}{H:Hp}(b:Nat->St->Hp->Prop)(l:b 0 σ H)(r:∀i σ H,i<=xs.length->b i σ H->SqL K H a xs)
  (s:∀i x σ H,xs[i]?=some x->b i σ H->g x σ H fun d h=>k {D with nx:=b (i+1),ct:=b (i+1),bk:=D.nx} d h) (n:∀σ H,b xs.length σ H->D.nx σ H) :
  ∃W:Nat->Nat->St->Hp->Prop,(∃m,W 0 m σ H)/\∀i m σ H,W i m σ H ->
   ((Itl K a).stop i H/\D.nx σ H)\/((Itl K a).go i H/\∃N:St->Hp->Prop,(∀σ' c,N σ' c->∃j,j<m/\W (i+1) j σ' c)/\∀x c,(Itl K a).yld i H x c->g x σ c fun d h=>k {D with nx:=N,ct:=N,bk:=D.nx} d h):=by
 refine⟨λi m σ H=>m=xs.length-i/\i<=xs.length/\b i σ H,⟨xs.length,by simp,L5 _,l⟩,?_⟩;rintro i m σ H ⟨rfl,o,p⟩;have q:=r i σ H o p;by_cases f:i<xs.length
 .refine .inr ⟨⟨xs,xs[i],q,by simp[f]⟩,b (i+1),fun σ' c t=>⟨xs.length-(i+1),by lia,Z,f,t⟩,λx c y=>?_⟩;obtain⟨e,y⟩:=y;subst e;exact s i x σ _ (y xs q) p
 .have e:i=xs.length:=by lia
  subst e;exact .inl ⟨⟨xs,q,C1 _⟩,n σ H p⟩
theorem CF{lo:Int}{n:Nat}{g:TG}{j:TS}{D:Nh}{σ:St}{H:Hp}(b:Nat->St->Hp->Prop)(k:b 0 σ H)
  (o:∀i σ H,i<n->b i σ H->g (.int (lo+i)) σ H fun d f=>j {D with nx:=b (i+1),ct:=b (i+1),bk:=D.nx} d f) (l:∀σ H,b n σ H->D.nx σ H) :
  ∃W:Nat->Nat->St->Hp->Prop,(∃m,W 0 m σ H)/\∀i m σ H,W i m σ H ->
   ((Itr lo n).stop i H/\D.nx σ H)\/((Itr lo n).go i H/\∃N:St->Hp->Prop,(∀σ' a,N σ' a->∃h,h<m/\W (i+1) h σ' a)/\∀x a,(Itr lo n).yld i H x a->g x σ a fun d f=>j {D with nx:=N,ct:=N,bk:=D.nx} d f):=by
 refine⟨λi m σ H=>m=n-i/\i<=n/\b i σ H,⟨n,by simp,L5 _,k⟩,?_⟩;rintro i m σ H ⟨rfl,r,p⟩;by_cases c:i<n
 .refine .inr ⟨c,b (i+1),fun σ' a q=>⟨n-(i+1),by lia,Z,c,q⟩,λx a y=>?_⟩;obtain⟨e,y⟩:=y;subst e y;exact o i σ _ c p
 .have e:i=n:=by lia
  subst e;exact .inl ⟨C1 _,l σ H p⟩
abbrev R2:=V->V->Hp->VK->Prop
def OpR(X:Cx)(f:Value->Value->Sem Value)(r:R2):Prop :=
 ∀(pins:A_)(s:P_)(σ:St)(H:Hp)(x y:V)(v u:S_)(Q:VK),Inv X pins σ H s->Bh x v->Bh y u->r x y H Q ->
  wpAny (model X.prog X.w) X.A (f v u) (EP X pins σ Q) X.xe s
def UnR(X:Cx)(f:Value->Sem Value)(r:V->Hp->VK->Prop):Prop :=
 ∀(pins:A_)(s:P_)(σ:St)(H:Hp)(x:V)(v:S_)(Q:VK),Inv X pins σ H s->Bh x v->r x H Q ->
  wpAny (model X.prog X.w) X.A (f v) (EP X pins σ Q) X.xe s
def GP(X:Cx)(f:S_)(r:List V->Hp->VK->Prop):Prop :=
 ∀(pins:A_)(s:P_)(σ:St)(H:Hp)(xs:List V)(us:F_)(Q:VK),Inv X pins σ H s->AS xs us->r xs H Q ->
  wpAny (model X.prog X.w) X.A (call f us) (EP X pins σ Q) X.xe s
def tOp(r:R2)(ta tb:TE):TE:=fun σ H Q=>ta σ H λx H1=>tb σ H1 λy H2=>r x y H2 Q
def tUn(r:V->Hp->VK->Prop)(ta:TE):TE:=fun σ H Q=>ta σ H λx H1=>r x H1 Q
def rI(C:Int->Int->Prop)(g:Int->Int->V):R2:=λx y H Q=>∃i j,x=.int i/\y=.int j/\C i j/\Q (g i j) H
def rI0(g:Int->Int->V):R2:=λx y H Q=>∃i j,x=.int i/\y=.int j/\Q (g i j) H
def rU(g:Int->V):V->Hp->VK->Prop:=λx H Q=>∃i,x=.int i/\Q (g i) H
section
variable{X:Cx}{a b c:Expr}{ta tb tc:TE}{pos:Pos}
theorem binT(n:PE X a ta)(o:PE X b tb){d:A_}{s:P_}{σ:St}{H:Hp}{R:V->V->Hp->Prop}(I:Inv X d σ H s)
  (h:ta σ H λx k=>tb σ k λy e=>R x y e) {Q:B_} {f:Value->Value->Sem Value}
  (p:∀v u j x y e,Inv X d σ e j->Bh x v->Bh y u->R x y e->wpAny (model X.prog X.w) X.A (f v u) Q X.xe j) :
  wpAny (model X.prog X.w) X.A (eval a X.env) (λv g=>wpAny (model X.prog X.w) X.A (eval b X.env) (λu i=>wpAny (model X.prog X.w) X.A (f v u) Q X.xe i) X.xe g) X.xe s:=by
 refine thn (n d s σ H _ I h) λv B ⟨x,k,l,t,q⟩=>?_;refine thn (o d B σ k _ l q) λu j ⟨y,e,m,z,r⟩=>?_;exact p v u j x y e m t z r
theorem AB{e:Operator}{r:R2}(k:OpR X (binaryOp e) r)(i:PE X a ta)(j:PE X b tb):PE X (.BinOp a e b pos) (tOp r ta tb):=by
 intro d s σ H Q I h;exact wpAny_BinOp (binT i j I h λv u n x y f g l m q=>k d n σ f x y v u Q g l m q)
theorem Iz{e:UnaryOp}{r:V->Hp->VK->Prop}(j:UnR X (unaryOp e) r)(i:PE X a ta):PE X (.UnaryOp e a pos) (tUn r ta):=by
 intro d s σ H Q I h;exact UnaryOp_ (thn (i d s σ H _ I h) λv m ⟨x,f,g,l,k⟩=>j d m σ f x v Q g l k)
theorem opI{f:Value->Value->Sem Value}{C:Int->Int->Prop}{g:Int->Int->Int}
  (d:∀(i j:Int)(t u:Tok)(s:P_)(Q:B_)(E:B_),C i j->Q (.int (g i j) s.toks) {s with toks:=s.toks+1}->wpAny (model X.prog X.w) X.A (f (.int i t) (.int j u)) Q E s) :
  OpR X f (rI C λi j=>.int (g i j)):=by
 intro e s σ H x y v u Q I l m h;obtain⟨i,j,rfl,rfl,k,q⟩:=h;obtain⟨t,rfl⟩:=l;obtain⟨t',rfl⟩:=m;exact d i j t t' s _ _ k ⟨.int (g i j),H,I.tok _,⟨_,Z⟩,q⟩
theorem opI0{f:Value->Value->Sem Value}{g:Int->Int->Int}
  (d:∀(i j:Int)(t u:Tok)(s:P_)(Q:B_)(E:B_),Q (.int (g i j) s.toks) {s with toks:=s.toks+1}->wpAny (model X.prog X.w) X.A (f (.int i t) (.int j u)) Q E s) :
  OpR X f (rI0 λi j=>.int (g i j)):=by
 intro e s σ H x y v u Q I k l h;obtain⟨i,j,rfl,rfl,q⟩:=h;obtain⟨t,rfl⟩:=k;obtain⟨t',rfl⟩:=l;exact d i j t t' s _ _ ⟨.int (g i j),H,I.tok _,⟨_,Z⟩,q⟩
theorem opB0{f:Value->Value->Sem Value}{g:Int->Int->Bool}
  (d:∀(i j:Int)(t u:Tok)(s:P_)(Q:B_)(E:B_),Q (.bool (g i j)) s->wpAny (model X.prog X.w) X.A (f (.int i t) (.int j u)) Q E s) :
  OpR X f (rI0 λi j=>.bl (g i j)):=by
 intro e s σ H x y v u Q I k l h;obtain⟨i,j,rfl,rfl,q⟩:=h;obtain⟨t,rfl⟩:=k;obtain⟨t',rfl⟩:=l;exact d i j t t' s _ _ ⟨.bl (g i j),H,I,Z,q⟩
def CDiv(i j:Int):Prop:=0<j/\j<1073741824
def CPow(i j:Int):Prop:=0<=j/\j<=1000000/\i.natAbs<2^64
def CMul(i j:Int):Prop:=(-(2^64)<i/\i<2^64)\/(-(2^64)<j/\j<2^64)
theorem CMul.ok{i j:Int}(h:CMul i j):IntMulOk i j:=by
 rcases h with ⟨d,e⟩|⟨d,e⟩
 .exact .of_left (intBits_le_64 d e)
 .exact .of_right (intBits_le_64 d e)
theorem Uw(k:Nat):(0:Int)<=2^k:=by
 rw[two_pow_cast];exact Int.natCast_nonneg _
theorem AO:OpR X (binaryOp .Add) (rI0 λi j=>.int (i+j)):=opI0 λ_ _ _ _ _ _ _ q=>add_int q
theorem BI:OpR X (binaryOp .Sub) (rI0 λi j=>.int (i-j)):=opI0 λ_ _ _ _ _ _ _ q=>sub_int q
theorem DE:OpR X (binaryOp .Mult) (rI CMul λi j=>.int (i*j)):=opI λ_ _ _ _ _ _ _ d q=>mul_int q d.ok
theorem Do:OpR X (binaryOp .FloorDiv) (rI CDiv λi j=>.int (i/j)):=opI λi j _ _ _ _ _ d q=>by
 have e:(0:Int)<j:=d.1;have f:j<1073741824:=d.2;exact floordiv_int A0 (by rw[V3 i A0];exact q) (.inl (PyProof.noPylong_small A0))
theorem Bc:OpR X (binaryOp .Mod) (rI (λ_ j=>0<j) λi j=>.int (i%j)):=opI λi j _ _ _ _ _ d q=>by
 have e:(0:Int)<j:=d;exact mod_int' A0 (by rw[Int.fmod_eq_emod_of_nonneg i A0];exact q)
theorem Mq:OpR X (binaryOp .LShift) (rI CPow λi j=>.int (i*2^j.toNat)):=opI λ_ _ _ _ _ _ _ d q=>lshift_int_small d.1 d.2.1 d.2.2 q
theorem op_shr:OpR X (binaryOp .RShift) (rI (λ_ j=>0<=j) λi j=>.int (i/2^j.toNat)):=opI λi j _ _ _ _ _ d q =>
 rshift_int d (by rw[V3 i (Uw _)];exact q)
theorem op_and:OpR X (binaryOp .BitAnd) (rI0 λi j=>.int (Builtin.bitAnd i j)):=opI0 λ_ _ _ _ _ _ _ q=>and_int q
theorem unI{f:Value->Sem Value}{g:Int->Int}
  (d:∀(i:Int)(t:Tok)(s:P_)(Q:B_)(E:B_),Q (.int (g i) s.toks) {s with toks:=s.toks+1}->wpAny (model X.prog X.w) X.A (f (.int i t)) Q E s) :
  UnR X f (rU λi=>.int (g i)):=by
 intro e s σ H x v Q I j h;obtain⟨i,rfl,q⟩:=h;obtain⟨t,rfl⟩:=j;exact d i t s _ _ ⟨.int (g i),H,I.tok _,⟨_,Z⟩,q⟩
theorem EI:UnR X (unaryOp .USub) (rU λi=>.int (-i)):=unI λ_ _ _ _ _ q=>neg_int q
end
def scal:V->V->Bool
|.non,.non=>true|.non,.int _=>true|.int _,.non=>true|.non,.bl _=>true|.bl _,.non=>true|.non,.str _=>true|.str _,.non=>true
|.int _,.int _=>true|.bl _,.bl _=>true|.str _,.str _=>true|.byt _,.byt _=>true
|.int _,.str _=>true|.str _,.int _=>true|.bl _,.str _=>true|.str _,.bl _=>true
|_,_=>false
def rEq:R2:=λx y H Q=>scal x y=true/\Q (.bl (decide (x=y))) H
def rNe:R2:=λx y H Q=>scal x y=true/\Q (.bl (!decide (x=y))) H
theorem Jr{i j:Int}:decide (V.int i=V.int j)=(i==j):=by
 rw[S1];simp
theorem dec_bl{i j:Bool}:decide (V.bl i=V.bl j)=(i==j):=by
 rw[S1];simp
theorem Ww{i j:Str}:decide (V.str i=V.str j)=(i==j):=by
 rw[S1];simp
theorem Wx{i j:Array UInt8}:decide (V.byt i=V.byt j)=(i.toList==j.toList):=by
 rw[S1];cases i;cases j;simp
section
variable{X:Cx}{a b c:Expr}{ta tb tc:TE}{pos:Pos}
theorem Bk{d:A_}{σ:St}{H:Hp}{s:P_}{Q:VK}{k f:Bool}(I:Inv X d σ H s)(q:Q (.bl k) H)(e:k=f):EP X d σ Q (.bool f) s:=by
 subst e;exact⟨.bl k,H,I,Z,q⟩
theorem CK:OpR X (compareOp .Eq) rEq:=by
 intro g s σ H x y v u Q I f d h;obtain⟨e,q⟩:=h;cases x with
 |non =>
  cases f;cases y with
  |non=>cases d;exact PySem.EqNone.eq_none_none (Bk I q A6)
  |bl j=>cases d;exact PySem.EqNone.eq_none_bool (Bk I q A6)
  |int j=>obtain⟨t',rfl⟩:=d;exact PySem.EqNone.eq_none_int (Bk I q A6)
  |str j=>obtain⟨t',rfl⟩:=d;exact PySem.EqNone.eq_none_str (Bk I q A6)
  |_=>exact absurd (show false=true from e) D5
 |bl i =>
  cases f;cases y with
  |non=>cases d;exact PySem.EqNone.eq_bool_none (Bk I q A6)
  |bl j=>cases d;exact eq_bool (Bk I q dec_bl)
  |str j=>obtain⟨t',rfl⟩:=d;exact PySem.EqMixed.eq_bool_str (Bk I q A6)
  |_=>exact absurd (show false=true from e) D5
 |int i =>
  obtain⟨t,rfl⟩:=f;cases y with
  |non=>cases d;exact PySem.EqNone.eq_int_none (Bk I q A6)
  |int j=>obtain⟨t',rfl⟩:=d;exact eq_int (Bk I q Jr)
  |str j=>obtain⟨t',rfl⟩:=d;exact PySem.EqMixed.eq_int_str (Bk I q A6)
  |_=>exact absurd (show false=true from e) D5
 |str i =>
  obtain⟨t,rfl⟩:=f;cases y with
  |non=>cases d;exact PySem.EqNone.eq_str_none (Bk I q A6)
  |bl j=>cases d;exact PySem.EqMixed.eq_str_bool (Bk I q A6)
  |int j=>obtain⟨t',rfl⟩:=d;exact PySem.EqMixed.eq_str_int (Bk I q A6)
  |str j=>obtain⟨t',rfl⟩:=d;exact eq_str (Bk I q Ww)
  |_=>exact absurd (show false=true from e) D5
 |byt i =>
  obtain⟨t,rfl⟩:=f;cases y with
  |byt j=>obtain⟨t',rfl⟩:=d;exact W.eq_bytes (Bk I q Wx)
  |_=>exact absurd (show false=true from e) D5
 |_=>cases y<;>exact absurd (show false=true from e) D5
theorem JY:OpR X (compareOp .NotEq) rNe:=by
 intro g s σ H x y v u Q I f d h;obtain⟨e,q⟩:=h;cases x with
 |non =>
  cases f;cases y with
  |non=>cases d;exact PySem.EqNone.ne_none_none (Bk I q A6)
  |bl j=>cases d;exact PySem.EqNone.ne_none_bool (Bk I q A6)
  |int j=>obtain⟨t',rfl⟩:=d;exact PySem.EqNone.ne_none_int (Bk I q A6)
  |str j=>obtain⟨t',rfl⟩:=d;exact PySem.EqNone.ne_none_str (Bk I q A6)
  |_=>exact absurd (show false=true from e) D5
 |bl i =>
  cases f;cases y with
  |non=>cases d;exact PySem.EqNone.ne_bool_none (Bk I q A6)
  |bl j=>cases d;exact ne_bool (Bk I q (A0c not dec_bl))
  |str j=>obtain⟨t',rfl⟩:=d;exact PySem.EqMixed.ne_bool_str (Bk I q A6)
  |_=>exact absurd (show false=true from e) D5
 |int i =>
  obtain⟨t,rfl⟩:=f;cases y with
  |non=>cases d;exact PySem.EqNone.ne_int_none (Bk I q A6)
  |int j=>obtain⟨t',rfl⟩:=d;exact ne_int (Bk I q (A0c not Jr))
  |str j=>obtain⟨t',rfl⟩:=d;exact PySem.EqMixed.ne_int_str (Bk I q A6)
  |_=>exact absurd (show false=true from e) D5
 |str i =>
  obtain⟨t,rfl⟩:=f;cases y with
  |non=>cases d;exact PySem.EqNone.ne_str_none (Bk I q A6)
  |bl j=>cases d;exact PySem.EqMixed.ne_str_bool (Bk I q A6)
  |int j=>obtain⟨t',rfl⟩:=d;exact PySem.EqMixed.ne_str_int (Bk I q A6)
  |str j=>obtain⟨t',rfl⟩:=d;exact ne_str (Bk I q (A0c not Ww))
  |_=>exact absurd (show false=true from e) D5
 |byt i =>
  obtain⟨t,rfl⟩:=f;cases y with
  |byt j=>obtain⟨t',rfl⟩:=d;exact W.ne_bytes (Bk I q (A0c not Wx))
  |_=>exact absurd (show false=true from e) D5
 |_=>cases y<;>exact absurd (show false=true from e) D5
theorem FH:OpR X (compareOp .Lt) (rI0 λi j=>.bl (decide (i<j))):=opB0 λ_ _ _ _ _ _ _ q=>lt_int q
theorem ML:OpR X (compareOp .LtE) (rI0 λi j=>.bl (decide (i<=j))):=opB0 λ_ _ _ _ _ _ _ q=>le_int q
theorem Oc:OpR X (compareOp .Gt) (rI0 λi j=>.bl (decide (j<i))):=opB0 λ_ _ _ _ _ _ _ q=>gt_int q
theorem WY:OpR X (compareOp .In) (λx y H Q=>∃i j,x=.str i/\y=.str j/\Q (.bl (!(Builtin.Str.occurrences j i 0 j.length 1).isEmpty)) H):=by
 intro d s σ H x y v u Q I e f h;obtain⟨i,j,rfl,rfl,q⟩:=h;obtain⟨t,rfl⟩:=e;obtain⟨t',rfl⟩:=f;exact in_str (Bk I q Z)
theorem FE:OpR X (compareOp .Is) (λx y H Q=>y=.non/\Q (.bl (decide (x=.non))) H):=by
 intro d s σ H x y v u Q I e f h;obtain⟨rfl,q⟩:=h;cases f;refine is_none_gen (Bk I q ?_);cases x<;>first
  | (cases e;rfl)
  | (obtain⟨t,rfl⟩:=e;rfl)
theorem RF:OpR X (compareOp .IsNot) (λx y H Q=>y=.non/\Q (.bl (!decide (x=.non))) H):=by
 intro d s σ H x y v u Q I e f h;obtain⟨rfl,q⟩:=h;cases f;refine isnot_none_gen (Bk I q ?_);cases x<;>first
  | (cases e;rfl)
  | (obtain⟨t,rfl⟩:=e;rfl)
theorem MK:OpR X (compareOp .NotIn) (λx y H Q=>∃i j,x=.str i/\y=.str j/\Q (.bl (!(!(Builtin.Str.occurrences j i 0 j.length 1).isEmpty))) H):=by
 intro d s σ H x y v u Q I e f h;obtain⟨i,j,rfl,rfl,q⟩:=h;obtain⟨t,rfl⟩:=e;obtain⟨t',rfl⟩:=f;exact notIn_str (Bk I q Z)
theorem AF(b:Expr){d:CmpOp}(h:d≠.In:=by decide)(g:d≠.NotIn:=by decide):behindInMarks d b=false:=by
 have e:(d==CmpOp.In)=false:=by cases d<;>first|rfl|exact absurd rfl h
 have f:(d==CmpOp.NotIn)=false:=by cases d<;>first|rfl|exact absurd rfl g
 cases b<;>simp[behindInMarks,e,f]
theorem Et{e:CmpOp}{r:R2}(l:OpR X (compareOp e) r)(i:PE X a ta)(j:PE X b tb)(k:behindInMarks e b=false):PE X (.Compare a [e] [b] pos) (tOp r ta tb):=by
 intro d s σ H Q I h;exact wpAny_Compare1 (binT i j I h λv u o x y f g m n q=>l d o σ f x y v u Q g m n q) k
def YV(t:TE):TT:=fun σ H Q=>t σ H λx H'=>∃k,x=.bl k/\Q k H'
theorem Az{f:CmpOp}{r:R2}(t:OpR X (compareOp f) r)(o:PE X a ta)(p:PE X b tb)(q:behindInMarks f b=false):PT X (.Compare a [f] [b] pos) (YV (tOp r ta tb)):=by
 intro d s σ H Q I h;refine wpAny_isTrue_Compare1 (thn (o d s σ H _ I h) λv F ⟨x,g,l,C,w⟩=>thn (p d F σ g _ l w) λu G ⟨y,i,m,D,A⟩ =>
  thn (t d G σ i x y v u _ m C D A) λc K ⟨z,j,n,E,k,e,B⟩=>?_) q
 subst e;cases E;exact A1f ⟨j,n,B⟩
def YX(r r':R2)(ta tb tc:TE):TE:=fun σ H Q=>ta σ H λx H1=>tb σ H1 λy H2=>r x y H2 λz H3=>∃k,z=.bl k /\
 (if k=true then tc σ H3 λw' H4=>r' y w' H4 Q else Q (.bl false) H3)
theorem ZB{j g:CmpOp}{r o:R2}(K:OpR X (compareOp j) r)(i:OpR X (compareOp g) o)(D:PE X a ta)(E:PE X b tb)(F:PE X c tc)
  (G:lastMarks [j,g] [b,c]=false:=by with_unfolding_all rfl):PE X (.Compare a [j,g] [b,c] pos) (YX r o ta tb tc):=by
 intro f s σ H Q I h;refine Compare_chain (thn (D f s σ H _ I h) λv S ⟨x,q,A,O,L⟩=>chain_link (thn (E f S σ q _ A L) λu T ⟨y,t,B,p,M⟩ =>
  thn (K f T σ t x y v u _ B O p M) λd U ⟨z,l,m,P,k,e,n⟩=>?_)) G
 subst e;cases P;refine A1f ?_;cases k with
 |false=>exact ite_ff ⟨.bl false,l,m,Z,n⟩
 |true=>exact ite_tt (chain_last (thn (F f U σ l _ m n) λW V ⟨Y,w,C,R,N⟩=>i f V σ w y Y u W Q C p R N))
theorem Tu{j g:CmpOp}{r o:R2}(O:OpR X (compareOp j) r)(i:OpR X (compareOp g) o)(K:PE X a ta)(L:PE X b tb)(M:PE X c tc)
  (N:lastMarks [j,g] [b,c]=false:=by with_unfolding_all rfl):PT X (.Compare a [j,g] [b,c] pos) (YV (YX r o ta tb tc)):=by
 intro f s σ H Q I h;refine isTrue_chain (thn (K f s σ H _ I h) λv s1 ⟨x,q,B,V,R⟩=>test_link (thn (L f s1 σ q _ B R) λu s2 ⟨y,t,C,p,S⟩ =>
  thn (O f s2 σ t x y v u _ C V p S) λd s3 ⟨z,l,m,W,k,e,n⟩=>?_)) N
 subst e;cases W;refine A1f ?_;cases k with
 |false =>
  obtain⟨k',F,P⟩:=n;cases F;exact ite_ff ⟨l,m,P⟩
 |true =>
  refine ite_tt (test_last (thn (M f s3 σ l _ m n) λw' s4 ⟨z',w,D,Y,T⟩=>thn (i f s4 σ w y z' u w' _ D p Y T) λd' s5 ⟨z2,A,E,r5,k2,G,U⟩=>?_));subst G;cases r5;exact A1f ⟨A,E,U⟩
theorem NR:(sizeLine:Nat)<2^63:=by rw[sizeLine_eq];decide
theorem CV:OpR X (binaryOp .Add) (λx y H Q=>∃i j,x=.str i/\y=.str j/\i.length+j.length<=sizeLine/\Q (.str (i++j)) H):=by
 intro d s σ H x y v u Q I f g h;obtain⟨i,j,rfl,rfl,e,q⟩:=h;obtain⟨t,rfl⟩:=f;obtain⟨t',rfl⟩:=g;exact add_str (λt' tk=>⟨.str (i++j),H,I.tok _,⟨_,Z⟩,q⟩) e
theorem SJ{x:V}{us:F_}(r:AS [x] us):∃u,us=[u]/\Bh x u:=by
 cases r with
 |cons d e=>cases e;exact⟨_,Z,d⟩
theorem vals2{x y:V}{us:F_}(r:AS [x,y] us):∃u d,us=[u,d]/\Bh x u/\Bh y d:=by
 cases r with
 |cons e f =>
  cases f with
  |cons g h=>cases h;exact⟨_,_,Z,e,g⟩
theorem YF(f:X.calm=true):GP X (.builtin "max") (λxs H Q=>∃i j,xs=[.int i,.int j]/\Q (.int (if j > i then j else i)) H):=by
 intro e s σ H xs us Q I r h;obtain⟨i,j,rfl,q⟩:=h;obtain⟨u,g,rfl,⟨t,rfl⟩,⟨t',rfl⟩⟩:=vals2 r;refine max_two_ints (I.ok.hd f) λh' tk k=>⟨_,H,I.kept k,?_,q⟩
 by_cases d:j > i
 .rw[K2 d,K2 d];exact⟨_,Z⟩
 .rw[X9 d,X9 d];exact⟨_,Z⟩
theorem QX(f:X.calm=true):GP X (.builtin "min") (λxs H Q=>∃i j,xs=[.int i,.int j]/\Q (.int (if j<i then j else i)) H):=by
 intro e s σ H xs us Q I r h;obtain⟨i,j,rfl,q⟩:=h;obtain⟨u,g,rfl,⟨t,rfl⟩,⟨t',rfl⟩⟩:=vals2 r;refine min_two_ints (I.ok.hd f) λh' tk k=>⟨_,H,I.kept k,?_,q⟩
 by_cases d:j<i
 .rw[K2 d,K2 d];exact⟨_,Z⟩
 .rw[X9 d,X9 d];exact⟨_,Z⟩
theorem CY:GP X (.type "str") (λxs H Q=>∃i,xs=[.int i]/\i.natAbs.log2<1920/\Q (.str (toString i)) H):=by
 intro d s σ H xs us Q I r h;obtain⟨i,rfl,e,q⟩:=h;obtain⟨u,rfl,t,rfl⟩:=SJ r;exact PySem.P.str_of_int e ⟨.str _,H,I.tok _,⟨_,Z⟩,q⟩
end
structure VA(h:T_)(x dx C:R_)(mA:C_):Prop where
obj:h.get? x=some (instObj C dx)
ns:h.Ns1 dx mA
ne:dx≠x
theorem Yo{h:T_}{dx:R_}{d:C_}(n:h.Ns1 dx d):∃f,h.get? dx=some f/\∀name,lookIn name f=some (d name):=by
 obtain⟨o,c,p,l,i,j,_,k⟩:=n;refine⟨o,l,λname=>?_⟩;have e:=k name;unfold nsFind findBy at e;rw[<-Array.find?_toList]at e;unfold lookIn;rw[i];dsimp only;split
 .rename_i y q;rw[q]at e;exact A0c some e
 .rename_i q;rw[q]at e;have a:c.toList.any (·.refKey)=false:=by
   rw[List.any_eq_false];intro y m;obtain⟨z,t,b⟩:=j y (Array.mem_toList_iff.mp m);simp[DictEntry.refKey,b]
  have g:¬c.toList.any (·.refKey)=true:=by rw[a];exact D5
  rw[X9 g];exact A0c some e
theorem VA.look{h:T_}{x dx C:R_}{b:C_}(I:VA h x dx C b):∃a,W.InstAt h x (instObj C dx) C (some a)/\∀name,lookIn name a=some (b name) :=
 let ⟨a,ho,hl⟩:=Yo I.ns
 ⟨a,⟨I.obj,Z,Z,ho⟩,hl⟩
section
variable{prog:N_}{w:Q_}{A:Around}{E:B_}{s:P_}{K:O_}{x dx C f:R_}{mA:C_}{name:Str}{v:S_}
theorem get_map{a:Bool}{Q:B_}(X:K.In s.heap)(I:VA s.heap x dx C mA)(d:plainGet K C name=true)(e:hasDictIn K C=true)
  (c:findIn K (.ref C) name=some none) (i:mA name=some v) (b:handedIn v=true) (h:Q v {s with toks:=s.toks+1}) :
  wpAny (model prog w) A (getAttr (.ref x) name a) Q E s:=by
 obtain⟨j,J,g⟩:=I.look;exact W.get_value X J (A6b d).1 (W.findObj_own e c Z (by rw[g,i])) b h
theorem get_meth{pl:Sem Bool}{Q:Value×List Value->Shared->Prop}(X:K.In s.heap)(I:VA s.heap x dx C mA)(a:plainGet K C name=true)
  (b:findIn K (.ref C) name=some (some (.ref f))) (d:isFn K (.ref f)=true) (e:mA name=none) (h:Q (.ref f,[.ref x]) s) :
  wpAny (model prog w) A (getMethod (.ref x) name pl) Q E s:=by
 obtain⟨g,J,c⟩:=I.look;exact W.method_fn X J (A6b a).1 (A6b a).2 b (beq_iff_eq.mp d) (by show(lookIn name g).map (·.isSome)=some false;rw[c,e];rfl) h
theorem set_map{ns:K_}{Q:Unit->Shared->Prop}(X:K.In s.heap)(I:VA s.heap x dx C mA)
  (p:findIn K (.ref C) "__setattr__" = some (some (.builtin "object.__setattr__"))) (o:plainOver K C=true) (q:takerIn K C name=some none) (n:hasDictIn K C=true)
  (t:PySem.Within mA ns) (hsz:ns.length<=sizeLine)
  (h:∀h',VA h' x dx C (λy=>if y=name then some v else mA y)->Heap.SameBut dx s.heap h'->Q () {s with heap:=h',toks:=s.toks+2}) :
  wpAny (model prog w) A (setAttr (.ref x) name v) Q E s:=by
 obtain⟨F,J,B⟩:=I.look;refine W.set_plain X J p (W.osa_open (s:={s with toks:=s.toks+1}) (r:=none) X J o q λb=>?_)
 obtain⟨z,m,g⟩:=any_some n;have u:s.heap.get? x=some ⟨.ref C,some dx,.plain,#[]⟩:=I.obj;refine X8 (K3 (X8 (X8 (wpAny_loadPart u (X8 (W.Looks.here (s:={s with toks:=s.toks+1}) (W.looks_clsIn X m) ?_))))))
 rw[g];refine K3 (a:=some dx) (X8 (K3 (X8 ?_)));refine wpAny_nsSet1 (s:={s with toks:=s.toks+1}) I.ns λh' c d=>?_;obtain⟨D,l,k,j,i,e⟩:=c.count (PySem.Within.cons name v t);refine X8 (wpAny_lookBehind j (by rw[i];exact pastItsLine_dict (D0 e (by rw[F2];lia))) ?_);exact K3 (h _ ⟨(d.2 _ (K6 I.ne)).trans I.obj,c,I.ne⟩ d)
theorem make_map{R:Result->Shared->Prop}{vs:F_}{kw:List (Str×Value)}(X:K.In s.heap)(e:makesIn K C=true)
  (c:findIn K (.ref C) "__init__" = some (some (.ref f))) (b:W.typeIn K (.ref f)=some (.type "function"))
  (h:codeAny (model prog w) (A.under (.builtin "type.__call__" ⟨.ref C::vs,kw⟩)) (.call (.ref f) ⟨.ref (s.heap.objs.size+1)::vs,kw⟩) (W.InitBack (s.heap.objs.size+1) R)
   {s with heap:=(s.heap.push emptyDict).push (instObj C s.heap.objs.size)}) :
  codeAny (model prog w) A (.call (.ref C) ⟨vs,kw⟩) R s:=by
 obtain⟨i,g,d,t,j⟩:=s;exact W.make_core (W.makes_of X e) (W.looks_findIn X c) (λa=>W.bind_fn X a b) (.inl Z) h
end
def AZ(f:Str)(v:V):List (Str×V)->List (Str×V)
|[]=>[(f,v)]
| (g,x)::r=>if g=f then(g,v)::r else(g,x)::AZ f v r
theorem Am(f g:Str)(v:V):∀fs:List (Str×V),(AZ f v fs).lookup g=if g=f then some v else fs.lookup g
|[]=>by
 show List.lookup g [(f,v)]=_;by_cases h:g=f
 .have a:(g==f)=true:=beq_iff_eq.mpr h;simp only[List.lookup,a,K2 h]
 .have a:(g==f)=false:=beq_eq_false_iff_ne.mpr h;simp only[List.lookup,a,X9 h]
| (k,x)::r=>by
 have c:=Am f g v r;rw[show AZ f v ((k,x)::r)=(if k=f then(k,v)::r else(k,x)::AZ f v r)from rfl];by_cases b:k=f
 .rw[K2 b];by_cases h:g=k
  .have a:(g==k)=true:=beq_iff_eq.mpr h;simp only[List.lookup,a,K2 (h.trans b)]
  .have a:(g==k)=false:=beq_eq_false_iff_ne.mpr h;simp only[List.lookup,a,X9 (λe:g=f=>h (e.trans b.symm))]
 .rw[X9 b];by_cases h:g=k
  .have a:(g==k)=true:=beq_iff_eq.mpr h;simp only[List.lookup,a,X9 (λe:g=f=>b (h.symm.trans e))]
  .have a:(g==k)=false:=beq_eq_false_iff_ne.mpr h;simp only[List.lookup,a];exact c
theorem NS(f:Str)(v:V):∀fs:List (Str×V),f∈(AZ f v fs).map (·.1)/\∀g,g∈fs.map (·.1)->g∈(AZ f v fs).map (·.1)
|[]=>⟨by simp[AZ],λg h=>by simp at h⟩
| (k,x)::r=>by
 obtain⟨b,c⟩:=NS f v r;rw[show AZ f v ((k,x)::r)=(if k=f then(k,v)::r else(k,x)::AZ f v r)from rfl];by_cases a:k=f
 .rw[K2 a];subst a;exact⟨by simp,λg h=>by simpa using h⟩
 .rw[X9 a];refine⟨?_,λg h=>?_⟩
  .rw[J3];exact C8 _ b
  .rw[J3]at h⊢;rcases C3.mp h with e|e
   .exact C3.mpr (.inl e)
   .exact C8 _ (c g e)
theorem BH(f:Str)(v:V):∀fs:List (Str×V),(AZ f v fs).length<=fs.length+1
|[]=>by simp[AZ]
| (k,x)::r=>by
 have b:=BH f v r;rw[show AZ f v ((k,x)::r)=(if k=f then(k,v)::r else(k,x)::AZ f v r)from rfl];by_cases a:k=f
 .rw[K2 a,F2,F2];lia
 .rw[X9 a,F2,F2];lia
theorem JD.some_of{v:V}{o:Option Value}(r:JD (some v) o):∃u,o=some u/\Bh v u:=by
 cases o with
 |none=>exact(show False from r).elim
 |some u=>exact⟨u,Z,r⟩
theorem JD.none_of{o:Option Value}(r:JD none o):o=none:=by
 cases o with
 |none=>rfl
 |some u=>exact(show False from r).elim
theorem Yw{v:V}{u:S_}(r:Bh v u):handedIn u=true:=by
 cases v with
 |non=>cases(show u=Value.none from r);rfl
 |bl b=>cases(show u=Value.bool b from r);rfl
 |int i=>obtain⟨t,e⟩:=(show ∃t,u=Value.int i t from r);cases e;rfl
 |str x=>obtain⟨t,e⟩:=(show ∃t,u=Value.str x t from r);cases e;rfl
 |byt b=>obtain⟨t,e⟩:=(show ∃t,u=Value.bytes b t from r);cases e;rfl
 |flt b=>obtain⟨t,e⟩:=(show ∃t,u=Value.float b t from r);cases e;rfl
 |ref a=>cases(show u=Value.ref a from r);rfl
 |ty n=>cases(show u=Value.type n from r);rfl
section
variable{P:N_}{w:Q_}{H H':Hp}{h h':T_}{a C dx:R_}{fs fs':List (Str×V)}
theorem OK(c:HOk P w H h)(e:H a=some (.ins C dx fs)):∃b,VA h a dx C b/\(∀f,JD (fs.lookup f) (b f))/\PySem.Within b (fs.map (·.1))/\fs.length<=1000/\H dx=some (.own a):=by
 obtain⟨d,z,ne,g,b,n,r,q⟩:=(show BQ P w H h a (.ins C dx fs)from c a _ e)
 exact⟨b,⟨g,n,ne⟩,r,q,z,d⟩
end
structure Cls(K:O_)(C:R_):Prop where
pg:plainGet K C Str.empty=true
hd:hasDictIn K C=true
po:plainOver K C=true
sa:findIn K (.ref C) "__setattr__" = some (some (.builtin "object.__setattr__"))
theorem Cls.get{K:O_}{C:R_}(c:Cls K C)(f:Str):plainGet K C f=true:=c.pg
def BK(K:O_)(C:R_)(f:Str):Prop:=findIn K (.ref C) f=some none
theorem BK.taker{K:O_}{C:R_}{f:Str}(n:BK K C f):takerIn K C f=some none:=by
 unfold takerIn;rw[show findIn K (.ref C) f=some none from n];rfl
structure Qw(K:O_)(C:R_)(m:Str)(f:R_):Prop where
at_:findIn K (.ref C) m=some (some (.ref f))
fn:isFn K (.ref f)=true
kp:keepIn K (.ref f)=true
section
variable{X:Cx}{pins:A_}{σ:St}{H:Hp}{s:P_}{a C dx:R_}{fs:List (Str×V)}{f:Str}{v:V}{A:Around}{E:B_}
theorem Vp{b:Bool}{Q:B_}(I:Inv X pins σ H s)(e:H a=some (.ins C dx fs))(c:Cls X.K C)(n:BK X.K C f)(l:fs.lookup f=some v)
  (h:∀u g,Inv X pins σ H g->Bh v u->Q u g):wpAny (model X.prog X.w) A (getAttr (.ref a) f b) Q E s:=by
 obtain⟨j,O,r,_,_,_⟩:=OK I.hok e;obtain⟨u,i,d⟩:=JD.some_of (v:=v) (o:=j f) (by rw[<-l];exact r f);exact get_map I.kIn O (c.get f) c.hd n i (Yw d) (h u _ (I.tok _) d)
theorem Vo{m:Str}{g:R_}{pl:Sem Bool}{Q:Value×List Value->Shared->Prop}(I:Inv X pins σ H s)(e:H a=some (.ins C dx fs))(c:Cls X.K C)(k:Qw X.K C m g)(l:fs.lookup m=none)
  (h:Q (.ref g,[.ref a]) s):wpAny (model X.prog X.w) A (getMethod (.ref a) m pl) Q E s:=by
 obtain⟨d,O,r,_,_,_⟩:=OK I.hok e;have b:d m=none:=JD.none_of (by rw[<-l];exact r m);exact get_meth I.kIn O (c.get m) k.at_ k.fn b h
theorem UH{y:V}{u:S_}{Q:Unit->Shared->Prop}(I:Inv X pins σ H s)(e:H a=some (.ins C dx fs))(c:Cls X.K C)(n:BK X.K C f)(G:fs.length<1000)(D:Bh y u)
  (h:∀l,Inv X pins σ (upd H a (.ins C dx (AZ f y fs))) l->Q () l):wpAny (model X.prog X.w) A (setAttr (.ref a) f u) Q E s:=by
 obtain⟨k,O,r,m,_,j⟩:=OK I.hok e;have B:(fs.map (·.1)).length<=sizeLine:=by rw[B8,sizeLine_eq];lia
 refine set_map I.kIn O c.sa c.po n.taker c.hd m B λh' d F=>h _ ?_;have i:∃o,h'.get? dx=some o:=let ⟨o,_,_,e',_⟩:=d.ns;⟨o,e'⟩;refine I.write (x:=a) (e:=dx) (by rw[e];exact True.intro) (.inr j) (λb q p z=>(F.2 b p).trans z) i ?_;refine⟨by rw[Aw O.ne];exact j,?_,O.ne,d.obj,_,d.ns,λg=>?_,λg t=>?_⟩
 .have:=BH f y fs;lia
 .show JD ((AZ f y fs).lookup g) (if g=f then some u else k g);rw[Am];by_cases q:g=f
  .rw[K2 q,K2 q];exact D
  .rw[X9 q,X9 q];exact r g
 .by_cases q:g=f
  .rw[q];exact(NS f y fs).1
  .refine(NS f y fs).2 g (m g λz=>t ?_);show(if g=f then some u else k g)=none;rw[X9 q];exact z
theorem Inv.made(I:Inv X pins σ H s):Inv X pins σ (upd (upd H s.heap.objs.size (.own (s.heap.objs.size+1))) (s.heap.objs.size+1) (.ins C s.heap.objs.size []))
  {s with heap:=(s.heap.push emptyDict).push (instObj C s.heap.objs.size)}:=by
 have c:(s.heap.push emptyDict).get? s.heap.objs.size=some emptyDict:=D9 s.heap Z;have g:((s.heap.push emptyDict).push (instObj C s.heap.objs.size)).get? (s.heap.objs.size+1)=some (instObj C s.heap.objs.size):=by
  have:=D9 (s.heap.push emptyDict) (o:=instObj C s.heap.objs.size) Z
  rwa [Q4]at this
 have h:(s.heap.push emptyDict).Ns s.heap.objs.size (λ_=>none):=⟨emptyDict,#[],_,c,Z,(λe i=>absurd i A6),λ_=>Z⟩
 have d:=I.laid (a:=s.heap.objs.size) (o:=.own (s.heap.objs.size+1)) (h':=s.heap.push emptyDict) (t':=s.toks) (λb u q=>C4 _ q) (C1 _) ⟨_,c⟩;refine d.laid (a:=s.heap.objs.size+1) (o:=.ins C s.heap.objs.size []) (t':=s.toks) (λb u q=>C4 _ q) (Nat.le_of_eq (Q4 _ _)) ?_;have ne:s.heap.objs.size≠s.heap.objs.size+1:=J9 (V8 _);refine⟨by rw[Aw ne,Af],L5 _,ne,g,λ_=>none,(Heap.Ns1.of_empty h).at λo q=>C4 _ q,λ_=>True.intro,λy j=>absurd rfl j⟩
theorem attr_of{prog:N_}{w:Q_}{b:Env}{e:Expr}{f:Str}{pos:Pos}{s:P_}{Q:B_}(d:attributeBase e f b (eval e b)=eval e b)
  (h:wpAny (model prog w) A (eval e b) (λo c=>wpAny (model prog w) A (getAttr o f true) Q E c) E s):wpAny (model prog w) A (eval (.Attribute e f pos) b) Q E s :=
 Attribute_any_ h (by rw[arm_eval_Attribute,d])
end
def tFld(K:O_)(ta:TE)(f:Str):TE:=fun σ H Q=>ta σ H λx H1=>∃a C dx fs v,x=.ref a/\H1 a=some (.ins C dx fs)/\Cls K C/\BK K C f/\fs.lookup f=some v/\Q v H1
def sFld(K:O_)(ta tv:TE)(f:Str):TS:=λD σ H=>tv σ H λy H1=>ta σ H1 λx H2=>∃a C dx fs,x=.ref a/\H2 a=some (.ins C dx fs)/\Cls K C/\BK K C f/\fs.length<1000 /\
 D.nx σ (upd H2 a (.ins C dx (AZ f y fs)))
section
variable{X:Cx}{o e value:Expr}{f:Str}{pos pos' tpos:Pos}{ta tv:TE}
theorem AE(p:PE X e ta)(m:attributeBase e f X.env (eval e X.env)=eval e X.env):PE X (.Attribute e f pos) (tFld X.K ta f):=by
 intro b s σ H Q I h;refine attr_of m (thn (p b s σ H _ I h) λu w ⟨x,d,g,t,a,C,dx,fs,v,k,j,c,n,l,q⟩=>?_);subst k;obtain rfl:u=Value.ref a:=t;exact Vp g j c n l λz y i r=>⟨v,d,i,r,q⟩
theorem CT(p:PE X o ta)(t:PE X value tv)(r:swapsWith value (some (.Attribute o f pos')) pos.line X.env=pure false):PS X (.Assign [.Attribute o f pos'] value pos) (sFld X.K ta tv f):=by
 intro b s σ H D I h;refine plainObj_wpAny_Assign_Attribute (thn (t b s σ H _ I h) λu B ⟨y,d,g,A,q⟩=>thn (p b B σ d _ g q) λv F ⟨x,E,i,z,a,C,dx,fs,m,k,c,n,l,w⟩=>?_) r;subst m;obtain rfl:v=Value.ref a:=z;exact UH i k c n l A λG j=>⟨σ,_,j,w⟩
end
section
variable{X:Cx}{pins:A_}{σ:St}{H:Hp}{s:P_}{A:Around}{E:B_}{Q:B_}{c:S_}{b:Bool}
inductive NX(K:O_)(H:Hp):V->Value->Prop where
|non:NX K H .non (.type "NoneType")
|bl (x:Bool):NX K H (.bl x) (.type "bool")
|int (i:Int):NX K H (.int i) (.type "int")
|str (x:Str):NX K H (.str x) (.type "str")
|flt (x:UInt64):NX K H (.flt x) (.type "float")
|lst {a:R_} {xs:List V} (e:H a=some (.lst xs)):NX K H (.ref a) (.type "list")
|frz {a:R_} {o:Obj} {xs:List V} (e:H a=some (.frz o (.lst xs))):NX K H (.ref a) (.type "list")
|tup {a:R_} {xs:List V} (e:H a=some (.tup xs)):NX K H (.ref a) (.type "tuple")
|dK {a:R_} {kvs:List (Key×V)} (e:H a=some (.dK kvs)):NX K H (.ref a) (.type "dict")
|dT {a:R_} {kvs:List (List Key×V)} (e:H a=some (.dT kvs)):NX K H (.ref a) (.type "dict")
|ins {a C dx:R_} {fs:List (Str×V)} (e:H a=some (.ins C dx fs)) (cl:Cls K C) (ha:findIn K (.ref C) "__class__" = some (some (.builtin "object.__class__")))
  (hn:specialIn K (.builtin "object.__class__") "__get__" = some (some (.builtin "getset_descriptor.__get__"))) (htk:takesIn K (.builtin "object.__class__")=some true)
  (hm:mroIn K C (.type "object")=some true):NX K H (.ref a) (.ref C)
theorem Yt{x:V}{u t:S_}(I:Inv X pins σ H s)(f:Bh x u)(F:NX X.K H x t)(e:kitOne X.K t c=some b)(h:∀tk,Q (.bool b) {s with toks:=tk}) :
  wpAny (model X.prog X.w) A (call (.builtin "isinstance") [u,c]) Q E s:=by
 cases F with
 |non=>cases(show u=Value.none from f);exact A1c W.kitx_none I.kIn True.intro e (λz=>nomatch z) h
 |bl y=>cases(show u=Value.bool y from f);exact A1c W.kitx_bool I.kIn True.intro e (λz=>nomatch z) h
 |int i=>obtain⟨t,q⟩:=(show ∃t,u=Value.int i t from f);cases q;exact A1c W.kitx_int I.kIn True.intro e (λz=>nomatch z) h
 |str y=>obtain⟨t,q⟩:=(show ∃t,u=Value.str y t from f);cases q;exact A1c W.kitx_str I.kIn True.intro e (λz=>nomatch z) h
 |flt y=>obtain⟨t,q⟩:=(show ∃t,u=Value.float y t from f);cases q;exact A1c W.kitx_float I.kIn True.intro e (λz=>nomatch z) h
 |@lst a xs d =>
  cases(show u=Value.ref a from f);obtain⟨_,_,n,_,g⟩:=(show BQ X.prog X.w H s.heap a (.lst xs)from I.hok a _ d)
  exact A1c kitx_list I.kIn ⟨_,g,Z⟩ e (λz=>nomatch z) h
 |@frz a D xs d =>
  cases(show u=Value.ref a from f);obtain⟨_,_,_,n,_,g⟩:=(show BQ X.prog X.w H s.heap a (.frz D (.lst xs))from I.hok a _ d)
  exact A1c kitx_list I.kIn ⟨_,g,Z⟩ e (λz=>nomatch z) h
 |@tup a xs d =>
  cases(show u=Value.ref a from f);obtain⟨_,_,_,p⟩:=(show BQ X.prog X.w H s.heap a (.tup xs)from I.hok a _ d)
  obtain⟨o,g,j,_⟩:=p;exact A1c W.kitx_tuple I.kIn ⟨o,g,j⟩ e (λz=>nomatch z) h
 |@dK a kvs d =>
  cases(show u=Value.ref a from f);obtain⟨_,_,vs,_,p⟩:=(show BQ X.prog X.w H s.heap a (.dK kvs)from I.hok a _ d)
  obtain⟨o,m,l,g,j,_⟩:=p;exact A1c kitx_dict I.kIn ⟨o,g,j.1⟩ e (λz=>nomatch z) h
 |@dT a kvs d =>
  cases(show u=Value.ref a from f);obtain⟨_,_,xs,_,o,m,l,g,j,_⟩:=(show BQ X.prog X.w H s.heap a (.dT kvs)from I.hok a _ d)
  exact A1c kitx_dict I.kIn ⟨o,g,j.1⟩ e (λz=>nomatch z) h
 |@ins a C dx fs d cl r B k v =>
  cases(show u=Value.ref a from f);obtain⟨G,O,_⟩:=OK I.hok d;obtain⟨L,J,_⟩:=O.look;exact A1c (W.kitx_own (cl.get _) cl.hd r B k v) I.kIn J e (λz=>nomatch z) h
end
structure Dl(k:Nat)(A:Around):Prop where
hd:A.handled=none
dp:A.depth+3*k+5<recursionLimit
un:A.units+16*k+200<cLine
theorem Dl.mono{j k:Nat}{A:Around}(r:Dl k A)(h:j<=k):Dl j A:=⟨r.hd,by have:=r.dp;lia,by have:=r.un;lia⟩
theorem Dl.deeper{k:Nat}{A:Around}(r:Dl (k+1) A)(a:Env):Dl k (A.deeper a) :=
 ⟨r.hd,by have:=r.dp;show A.depth+1+3*k+5<_;lia,by have:=r.un;show A.units+3+16*k+200<_;lia⟩
theorem Dl.in1{k:Nat}{A:Around}(r:Dl (k+1) A):Dl k A.in1 :=
 ⟨r.hd,by have:=r.dp;show A.depth+3*k+5<_;lia,by have:=r.un;show A.units+1+16*k+200<_;lia⟩
theorem Vj{A:Around}{C:R_}{us:F_}{kw:List (Str×Value)}:(A.under (.builtin "type.__call__" ⟨.ref C::us,kw⟩)).depth=A.depth+1:=by
 first|rfl|simp[Around.under,Code.weight,Code.isCreation,Code.isGuard,Code.isCaller,Code.frames,Code.isFrame,guardIds]
theorem Vi{A:Around}{C:R_}{us:F_}{kw:List (Str×Value)}:(A.under (.builtin "type.__call__" ⟨.ref C::us,kw⟩)).units=A.units+1:=by
 first|rfl|simp[Around.under,Code.cUnits,Code.frames,Code.isFrame]
theorem Dl.make{k:Nat}{A:Around}(r:Dl (k+1) A)(C:R_)(us:F_)(kw:List (Str×Value)):Dl k (A.under (.builtin "type.__call__" ⟨.ref C::us,kw⟩)) :=
 ⟨r.hd,by have:=r.dp;rw[Vj];lia,by have:=r.un;rw[Vi];lia⟩
theorem Dl.depth{k:Nat}{A:Around}(r:Dl k A):A.depth<recursionLimit:=by have:=r.dp;lia
theorem Dl.units{k:Nat}{A:Around}(r:Dl k A):A.units+64<cLine:=by have:=r.un;lia
def Qc:TA:=λ_ H Q=>Q [] H
def Db(ta:TE)(tr:TA):TA:=fun σ H Q=>ta σ H λx H1=>tr σ H1 λxs H2=>Q (x::xs) H2
section
variable{X:Cx}{e:Expr}{es:List Expr}{te:TE}{t:TA}{pos:Pos}
theorem Ae:PA X [] Qc:=λ_ _ _ _ H Q I h=>Calls.spliced_nil ⟨[],H,I,.nil,h⟩
theorem Aa(g:PE X e te)(i:PA X es t)(j:starEach (e::es) X.env=(false,eval e X.env)::starEach es X.env:=by rfl):PA X (e::es) (Db te t):=by
 intro pos a s σ H Q I h;rw[j];show wpAny _ _ (spliced ((false,eval e X.env)::backTo pos (starEach es X.env))) _ _ s;refine Calls.spliced_cons (thn (g a s σ H _ I h) λu o ⟨x,b,d,m,k⟩=>?_);exact thn (i pos a o σ b _ d k) λus p ⟨xs,c,f,n,l⟩=>⟨x::xs,c,f,.cons m n,l⟩
def YU(t:TA):TE:=fun σ H Q=>t σ H λxs H1=>xs.length<=sizeLine/\∀p,H1 p=none->Q (.ref p) (upd H1 p (.tup xs))
def tLst(t:TA):TE:=fun σ H Q=>t σ H λxs H1=>xs.length<=sizeLine/\∀p,H1 p=none->Q (.ref p) (upd H1 p (.lst xs))
theorem CD{x1}(h:PA X es t):PE X (.Tuple es x1 pos) (YU t):=by
 intro a s σ H Q I i;refine wpAny_Tuple_spliced (thn (h pos a s σ H _ I i) λus c ⟨xs,d,f,r,z,q⟩=>⟨by rw[<-r.length];exact z,?_⟩);have g:d c.heap.objs.size=none:=f.hok.fresh (C1 _);refine⟨.ref c.heap.objs.size,upd d c.heap.objs.size (.tup xs),f.laid (t':=c.toks) (λb u e=>C4 _ e) (C1 _) ?_,Z,q _ g⟩;exact⟨z,us,r,⟨_,D9 _ Z,Z,_,Z⟩⟩
theorem BX(h:PA X es t):PE X (.List es pos) (tLst t):=by
 intro a s σ H Q I i;refine wpAny_List_spliced (thn (h pos a s σ H _ I i) λus c ⟨xs,d,f,r,z,q⟩=>⟨by rw[<-r.length];exact z,?_⟩);have g:d c.heap.objs.size=none:=f.hok.fresh (C1 _);refine⟨.ref c.heap.objs.size,upd d c.heap.objs.size (.lst xs),f.laid (t':=c.toks) (λb u e=>C4 _ e) (C1 _) ?_,Z,q _ g⟩;exact⟨z,us,0,r,D9 _ Z⟩
end
abbrev Sp:=List V->Hp->VK->XK->Prop
abbrev CXT:=List Env->Hp->Shared->XK->Value->Shared->Prop
structure Ow(P:N_)(w:Q_)(K:O_)(mg:C_)(base:T_)(A:Around)(outer:List Env)(s:P_)(H:Hp):Prop where
frames:A.frames=some outer
mod:Mod K mg base
bs:∀b o,base.get? b=some o->s.heap.get? b=some o/\H b=none
bsz:base.objs.size<=s.heap.objs.size
funs:s.heap.FunFrames base outer
frf:∀b∈frs outer,H b=none
hok:HOk P w H s.heap
bare:AllBare s.gens
def CE(outer:List Env)(P:N_)(w:Q_)(H:Hp)(s:P_)(Q:VK)(u:S_)(s':P_):Prop :=
 ∃v H',s'.os=s.os/\AllBare s'.gens/\Un (frs outer) [] H H' s.heap s'.heap/\HOk P w H' s'.heap/\Bh v u/\Q v H'
def CR(CX:CXT)(outer:List Env)(P:N_)(w:Q_)(H:Hp)(s:P_)(Q:VK)(E:XK)(r:Result)(s':P_):Prop :=
 match r with
 |.ok (.ret u)=>CE outer P w H s Q u s'
 |.ok _=>False
 |.error e=>CX outer H s E e s'
structure AL(P:N_)(w:Q_)(K:O_)(mg:C_)(base:T_)(CX:CXT)(k:Nat)(f:R_)(fd:E_)(ps:K_)(sp:Sp):Prop where
len:∀vs H Q E,sp vs H Q E->vs.length=ps.length
run:∀(A:Around)(outer:List Env)(s:P_)(H:Hp)(args:Args)(us:F_)(vs:List V)(Q:VK)(E:XK),Dl k A->Ow P w K mg base A outer s H->BindsTo s fd args (ps.zip us)->AS vs us->sp vs H Q E ->
 codeAny (model P w) A (.call (.ref f) args) (CR CX outer P w H s Q E) s
theorem AL.imp{P:N_}{w:Q_}{K:O_}{g:C_}{a:T_}{CX:CXT}{k:Nat}{f:R_}{e:E_}{ps:K_}{sp d:Sp}(F:AL P w K g a CX k f e ps sp)
  (h:∀vs H Q E,d vs H Q E->sp vs H Q E):AL P w K g a CX k f e ps d :=
 ⟨λvs H Q E q=>F.len vs H Q E (h _ _ _ _ q),λA b s H c us vs Q E l j i n m=>F.run A b s H c us vs Q E l j i n (h _ _ _ _ m)⟩
theorem Ow.make{P:N_}{w:Q_}{K:O_}{c:C_}{b:T_}{A:Around}{a:List Env}{s:P_}{H:Hp}(e:Ow P w K c b A a s H)(C:R_)(us:F_)(kw:List (Str×Value)) :
 Ow P w K c b (A.under (.builtin "type.__call__" ⟨.ref C::us,kw⟩)) a s H:=⟨by first|exact e.frames|(simpa[Around.under,Code.envs,Code.isFrame,pushEnvs] using e.frames),e.mod,e.bs,e.bsz,e.funs,e.frf,e.hok,e.bare⟩
theorem Ow.in1{P:N_}{w:Q_}{K:O_}{c:C_}{b:T_}{A:Around}{a:List Env}{s:P_}{H:Hp}(e:Ow P w K c b A a s H) :
 Ow P w K c b A.in1 a s H:=⟨e.frames,e.mod,e.bs,e.bsz,e.funs,e.frf,e.hok,e.bare⟩
section
variable{X:Cx}{pins:A_}{σ:St}{H:Hp}{s s':P_}
theorem Inv.env0(I:Inv X pins σ H s):Ow X.prog X.w X.K X.mg X.base X.A X.stack s H :=
 ⟨I.ok.frames,I.ok.mod,I.bs,D0 I.ok.bsz I.sz,I.stack,I.stkFree,I.hok,I.bare⟩
theorem Inv.after{Q:VK}{u:S_}(I:Inv X pins σ H s)(h:CE X.stack X.prog X.w H s Q u s'):EP X pins σ Q u s':=by
 obtain⟨v,f,e,bare,un,a,r,q⟩:=h;obtain⟨i,g,d,t,c⟩:=s';obtain rfl:c=s.os:=e;exact⟨v,f,I.call (h':=i) (g':=g) (d':=d) (t':=t) (ch:=[]) un a bare (λb z=>absurd z A6),r,q⟩
end
def tCall(sp:Sp)(dvs:List V)(E:XK)(t:TA):TE:=fun σ H Q=>t σ H λvs H1=>sp (vs++dvs) H1 Q E
def VH(C:R_)(m:Str)(sp:Sp)(dvs:List V)(E:XK)(ta:TE)(t:TA):TE:=fun σ H Q=>ta σ H λx H1=>∃a dx fs,x=.ref a/\H1 a=some (.ins C dx fs)/\fs.lookup m=none /\
 t σ H1 λvs H2=>sp (x::(vs++dvs)) H2 Q E
def VI(C:R_)(sp:Sp)(dvs:List V)(E:XK)(t:TA):TE:=fun σ H Q=>t σ H λvs H1=>∀x dx,H1 x=none->H1 dx=none->dx≠x ->
 sp (.ref x::(vs++dvs)) (upd (upd H1 dx (.own x)) x (.ins C dx [])) (λv H2=>v=.non/\Q (.ref x) H2) E
def CN(K:O_)(fd:E_)(ps:K_)(ds:F_):Prop :=
 ∀(s:P_)(us:F_),K.In s.heap->(us++ds).length=ps.length->BindsTo s fd ⟨us,[]⟩ (ps.zip (us++ds))
theorem CN.all{K:O_}{a:E_}{ps:K_}(h:∀us:List Value,us.length=ps.length->bindArgs a ⟨us,[]⟩=pure (ps.zip us)):CN K a ps []:=λs us _ b=>by
 rw[U5]at b⊢;exact .of_eq (h us b)
def GE(CX:CXT)(X:Cx)(E:XK):Prop:=∀(pins:A_)(σ:St)(H:Hp)(s:P_)(e:S_)(s':P_),Inv X pins σ H s->CX X.stack H s E e s'->X.xe e s'
section
variable{X:Cx}{CX:CXT}{k:Nat}{f C:R_}{fd:E_}{ps:K_}{sp:Sp}{dvs:List V}{ds:F_}{E:XK}{x m:Str}{p pos apos:Pos}{e o:Expr}{es:List Expr}{ta:TE}{t:TA}
theorem Zq{a:A_}{σ:St}{H:Hp}{s:P_}{Q:VK}{us:F_}{vs:List V}(F:AL X.prog X.w X.K X.mg X.base CX k f fd ps sp)(l:Dl k X.A)(g:CN X.K fd ps ds)(i:AS dvs ds)(n:GE CX X E)
  (I:Inv X a σ H s) (r:AS vs us) (h:sp (vs++dvs) H Q E):wpAny (model X.prog X.w) X.A (call (.ref f) us) (EP X a σ Q) X.xe s:=by
 have c:AS (vs++dvs) (us++ds):=r.append i;have j:(us++ds).length=ps.length:=by rw[<-c.length];exact F.len _ _ _ _ h
 refine wpAny_call (A6c (F.run X.A X.stack s H ⟨us,[]⟩ (us++ds) (vs++dvs) Q E l I.env0 (g s us I.kIn j) c h) λr q b=>?_);cases r with
 |error e=>exact n a σ H s e q I b
 |ok d =>
  cases d with
  |ret u=>exact I.after b
  |next=>exact False.elim b
  |brk=>exact False.elim b
  |cont=>exact False.elim b
theorem pe_call(F:AL X.prog X.w X.K X.mg X.base CX k f fd ps sp)(y:Dl k X.A)(n:Gl X x)(v:X.mg x=some (.ref f))(u:keepIn X.K (.ref f)=true)(i:CN X.K fd ps ds)(j:AS dvs ds)(z:GE CX X E)
  (g:PA X (e::es) t) (b:(x==("__debug__" : Str))=false:=by decide) (l:starEach (e::es) X.env=(false,eval e X.env)::starEach es X.env:=by rfl) (c:(backTo pos (starEach es X.env)).any (·.1)=false:=by rfl) :
  PE X (.Call (.Name x p) (e::es) [] pos) (tCall sp dvs E t):=by
 intro a s σ H Q I h;refine A3c (OI I n v ?_ b);refine A6g (h₀:=X.base) I.ok.mod.kin u (thn (g pos a s σ H _ I h) λus D ⟨vs,B,d,r,q⟩=>⟨d.kIn,?_⟩) l c;exact Zq F y i j z d r q
theorem pe_meth{pl:Sem Bool}(M:PE X o ta)(c:Cls X.K C)(n:Qw X.K C m f)(F:AL X.prog X.w X.K X.mg X.base CX k f fd ps sp)(N:Dl k X.A)(G:CN X.K fd ps ds)(L:AS dvs ds)(P:GE CX X E)(D:PA X (e::es) t)
  (g:starEach (e::es) X.env=(false,eval e X.env)::starEach es X.env:=by rfl) (d:(backTo pos (starEach es X.env)).any (·.1)=false:=by rfl)
  (O:eval (.Call (.Attribute o m apos) (e::es) [] pos) X.env=(do
   let v <-eval o X.env
   standAt apos.atName
   let (f,first) <-holding [v] (getMethod v m pl)
   callWith pos f first (backTo pos (starEach (e::es) X.env)) (backToKw pos (keywordEach [] X.env))):=by rfl) :
  PE X (.Call (.Attribute o m apos) (e::es) [] pos) (VH C m sp dvs E ta t):=by
 intro b s σ H Q I h;refine W.methodCall_KW (pl:=pl) (thn (M b s σ H _ I h) λu T ⟨x,y,i,S,a,dx,fs,B,z,l,q⟩=>?_) O;subst B;obtain rfl:u=Value.ref a:=S;refine Vo i z c n l ?_;refine A6g (first:=[.ref a]) (h₀:=X.base) I.ok.mod.kin n.kp (thn (D pos b T σ y _ i q) λus V ⟨vs,U,j,r,R⟩=>⟨j.kIn,?_⟩) g d;exact Zq (us:=.ref a::us) (vs:=.ref a::vs) F N G L P j (.cons Z r) R
structure Mk(K:O_)(C f:R_):Prop where
makes:makesIn K C=true
init:findIn K (.ref C) "__init__" = some (some (.ref f))
fn:isFn K (.ref f)=true
kp:keepIn K (.ref C)=true
theorem Tj{b:A_}{σ:St}{H:Hp}{s:P_}{Q:VK}{us:F_}{vs:List V}(M:Mk X.K C f)(F:AL X.prog X.w X.K X.mg X.base CX k f fd ps sp)(D:Dl (k+1) X.A)(y:CN X.K fd ps ds)(z:AS dvs ds)
  (G:GE CX X E) (I:Inv X b σ H s) (r:AS vs us)
  (h:∀x dx,H x=none->H dx=none->dx≠x->sp (.ref x::(vs++dvs)) (upd (upd H dx (.own x)) x (.ins C dx [])) (λv j=>v=.non/\Q (.ref x) j) E) :
  wpAny (model X.prog X.w) X.A (call (.ref C) us) (EP X b σ Q) X.xe s:=by
 have d:=h (s.heap.objs.size+1) s.heap.objs.size (I.hok.fresh (S6 _)) (I.hok.fresh (C1 _)) (J9 (V8 _));have c:=Inv.made (C:=C) I;have g:AS (V.ref (s.heap.objs.size+1)::(vs++dvs)) (Value.ref (s.heap.objs.size+1)::(us++ds)):=.cons Z (r.append z);have B:(Value.ref (s.heap.objs.size+1)::us++ds).length=ps.length:=by
  have e:=g.length;rw[F.len _ _ _ _ d]at e;exact e.symm
 refine wpAny_call (make_map (f:=f) I.kIn M.makes M.init (beq_iff_eq.mp M.fn) (A6c (F.run _ X.stack _ _ ⟨Value.ref (s.heap.objs.size+1)::us,[]⟩ (Value.ref (s.heap.objs.size+1)::(us++ds)) _ _ E (D.make C us [])
  (c.env0.make C us []) (y _ (Value.ref (s.heap.objs.size+1)::us) c.kIn B) g d) λr O a=>?_))
 cases r with
 |error e=>exact G b σ _ _ e O c a
 |ok q =>
  cases q with
  |ret u =>
   obtain⟨v,i,l,N,n,L⟩:=c.after a;subst n;exact⟨N,⟨V.ref (s.heap.objs.size+1),i,l,Z,L⟩⟩
  |next=>exact False.elim a
  |brk=>exact False.elim a
  |cont=>exact False.elim a
theorem pe_make(M:Mk X.K C f)(F:AL X.prog X.w X.K X.mg X.base CX k f fd ps sp)(v:Dl (k+1) X.A)(n:Gl X x)(u:X.mg x=some (.ref C))(i:CN X.K fd ps ds)(j:AS dvs ds)(y:GE CX X E)
  (g:PA X (e::es) t) (b:(x==("__debug__" : Str))=false:=by decide) (l:starEach (e::es) X.env=(false,eval e X.env)::starEach es X.env:=by rfl) (c:(backTo pos (starEach es X.env)).any (·.1)=false:=by rfl) :
  PE X (.Call (.Name x p) (e::es) [] pos) (VI C sp dvs E t):=by
 intro a s σ H Q I h;refine A3c (OI I n u ?_ b);refine A6g (h₀:=X.base) I.ok.mod.kin M.kp (thn (g pos a s σ H _ I h) λus B ⟨vs,z,d,r,q⟩=>⟨d.kIn,?_⟩) l c;exact Tj M F v i j y d r q
theorem ZA(M:Mk X.K C f)(F:AL X.prog X.w X.K X.mg X.base CX k f fd ps sp)(j:Dl (k+1) X.A)(g:Gl X x)(i:X.mg x=some (.ref C))(c:CN X.K fd ps ds)(d:AS dvs ds)(l:GE CX X E)
  (a:(x==("__debug__" : Str))=false:=by decide):PE X (.Call (.Name x p) [] [] pos) (VI C sp dvs E Qc):=by
 intro b s σ H Q I h;refine A3c (OI I g i ?_ a);exact W.callWith_K0 I.kIn M.kp (Tj (us:=[]) M F j c d l I .nil h)
end
def PK(X:Cx)(kws:List Keyword)(t:TA):Prop :=
 ∀(pos:Pos)(pins:A_)(s:P_)(σ:St)(H:Hp)(Q:List V->Hp->Prop),Inv X pins σ H s->t σ H Q->wpAny (model X.prog X.w) X.A (evalAll ((backToKw pos (keywordEach kws X.env)).map (·.2))) (AP X pins σ Q) X.xe s
section
variable{X:Cx}{CX:CXT}{k:Nat}{f C:R_}{fd:E_}{ps ks:K_}{sp:Sp}{E:XK}{x m:Str}{p pos apos kpos:Pos}{e o:Expr}{es:List Expr}{kws:List Keyword}{te ta:TE}{t tk:TA}{nm:Option Str}
theorem pk_nil:PK X [] Qc:=λ_ _ _ _ H Q I h=>wpAny_evalAll_nil ⟨[],H,I,.nil,h⟩
theorem pk_cons(i:PE X e te)(j:PK X kws t):PK X (⟨nm,e,kpos⟩::kws) (Db te t):=by
 intro pos a s σ H Q I h;show wpAny _ _ (evalAll ((do let v <-eval e X.env;standAt pos;pure v)::(backToKw pos (keywordEach kws X.env)).map (·.2))) _ _ s;refine wpAny_evalAll_cons (X8 (thn (i a s σ H _ I h) λu w ⟨x,b,d,q,l⟩=>X8 (A7d (K3 ?_))));exact thn (j pos a w σ b _ d l) λus y ⟨xs,c,g,r,n⟩=>⟨x::xs,c,g,.cons q r,n⟩
variable{g:List Value->List Value->List Value}{gV:List V->List V->List V}
end
structure Au(N P:K_)(sc:Scope):Prop where
kind:sc.kind=.function
co:sc.isCoroutine=false
gen:sc.isGenerator=false
nd:N.Nodup
pre:N.take P.length=P
par:∀x∈P,sc.names.lookup x=some .local\/sc.names.lookup x=some .cell
nofree:∀y∈sc.names,y.2≠.free
theorem QZ{a:Str->Option NameKind}{x:Str}:∀{binds:List (Str×Value)}{m:C_},(∀v,(x,v)∉binds)->bindL a binds m x=m x
|[],_,_=>rfl
| (n,v)::r,m,h=>by
 unfold bindL;rw[QZ λw b=>h w (C8 _ b)];split
 .have:x≠n:=by rintro rfl;exact h v C9
  simp[this]
 .rfl
theorem Rb{a:Str->Option NameKind}{x:Str}:∀{binds:List (Str×Value)}{m:C_},(∀v,(x,v)∉binds)->bindC a binds m x=m x
|[],_,_=>rfl
| (n,v)::r,m,h=>by
 unfold bindC;rw[Rb λw b=>h w (C8 _ b)];split
 .rfl
 .have:x≠n:=by rintro rfl;exact h v C9
  simp[this]
theorem Ra{a:Str->Option NameKind}{x:Str}{v:S_}:∀{P:K_}{vs:F_}{i:Nat}{m:C_},P.Nodup->P[i]?=some x->vs[i]?=some v->a x=some .local ->
 bindL a (P.zip vs) m x=some v
|[],_,_,_,_,h,_,_=>by simp at h
|_::_,[],_,_,_,_,h,_=>by simp at h
|p::P,w::vs,0,m,nd,h1,h2,hk=>by
 simp at h1 h2;subst h1;subst h2;show bindL a ((p,w)::P.zip vs) m p=_;unfold bindL;rw[QZ λv b=>(N8.mp nd).1 (List.of_mem_zip b).1,K2 hk];simp
|p::P,w::vs,i+1,m,nd,h1,h2,hk=>by
 show bindL a ((p,w)::P.zip vs) m x=_;unfold bindL;exact Ra (i:=i) (N8.mp nd).2 (by simpa using h1) (by simpa using h2) hk
theorem Rc{a:Str->Option NameKind}{x:Str}{v:S_}:∀{P:K_}{vs:F_}{i:Nat}{m:C_},P.Nodup->P[i]?=some x->vs[i]?=some v->a x≠some .local ->
 bindC a (P.zip vs) m x=some v
|[],_,_,_,_,h,_,_=>by simp at h
|_::_,[],_,_,_,_,h,_=>by simp at h
|p::P,w::vs,0,m,nd,h1,h2,hk=>by
 simp at h1 h2;subst h1;subst h2;show bindC a ((p,w)::P.zip vs) m p=_;unfold bindC;rw[Rb λv b=>(N8.mp nd).1 (List.of_mem_zip b).1,X9 hk];simp
|p::P,w::vs,i+1,m,nd,h1,h2,hk=>by
 show bindC a ((p,w)::P.zip vs) m x=_;unfold bindC;exact Rc (i:=i) (N8.mp nd).2 (by simpa using h1) (by simpa using h2) hk
def NZ(N:K_)(vs:List V):St:=vs.map some++List.replicate (N.length-vs.length) none
def YD(CX:CXT)(P:N_)(w:Q_)(K:O_)(mg:C_)(base:T_)(N:K_)(qual:Str)(scope:Scope)(f:R_)(cd:S_)(A:Around)(outer:List Env)(s:P_)(H:Hp)(E:XK):Cx where
 prog:=P
 w:=w
 K:=K
 mg:=mg
 base:=base
 A:=A.deeper (envOfC qual scope s.heap.objs.size f cd)
 N:=N
 s₀:=s
 H₀:=H
 env:=envOfC qual scope s.heap.objs.size f cd
 outer:=outer
 stack:=envOfC qual scope s.heap.objs.size f cd::outer
 ex:=[]
 calm:=true
 fn:=λ_=>true
 pn:=[]
 xe:=λe s'=>wpAny (model P w) (A.deeper (envOfC qual scope s.heap.objs.size f cd)) (leaving (envOfC qual scope s.heap.objs.size f cd) e) (λ_ s''=>CX outer H s E e s'') (λe' s''=>CX outer H s E e' s'') s'
theorem Uh{a:Scope}{n:Nat}{x:Str}(h:a.names.lookup x=some .cell):∃c,(cellsFrom n a.names []).lookup x=some c:=by
 have q:=W.cellsFrom_some a.names n [] (.inl h);exact Option.isSome_iff_exists.mp q
theorem Yu{CX:CXT}{P:N_}{w:Q_}{K:O_}{L:C_}{m:T_}{N ps:K_}{j:Str}{d:Scope}{f:R_}{F:S_}{A:Around}{g:List Env}{s Q:P_}{H:Hp}{E:XK}{us:F_}{vs:List V}
  (S:Au N ps d) (T:A.handled=none) (o:Ow P w K L m A g s H) (hl:vs.length=ps.length) (r:AS vs us)
  (x:InCallC s s.heap.objs.size (bindL (envOfC j d s.heap.objs.size f F).kindOf (ps.zip us) λ_=>none) (cellsFrom (s.heap.objs.size+1) d.names []) (bindC (envOfC j d s.heap.objs.size f F).kindOf (ps.zip us) λ_=>none) Q) :
  Inv (YD CX P w K L m N j d f F A g s H E) [] (NZ N vs) H Q:=by
 have U:ps.length<=N.length:=by have:=A0c List.length S.pre;rw[L8]at this;lia
 obtain⟨G,tk,rfl,M⟩:=x.done;have B:∀b:Addr,b∉(YD CX P w K L m N j d f F A g s H E).ex:=λb z=>absurd (show b∈([]:H_)from z) A6;refine⟨⟨o.mod,S.kind,Z,Z,C1 _,λy z c G l=>?_,λy t=>?_,λy c _ h=>?_,λ_=>T,Around.frames_deeper o.frames,.inr ⟨Z,Z⟩,λb z=>absurd z (B b),o.bs,o.bsz,λb _ _=>B b,λb z=>absurd z (B b),o.funs,o.frf⟩,
  rfl,o.bare,Un.kept M,⟨_,x.toInCall.ns,λi y v G l Y=>?_⟩,λy c h=>⟨_,x.cell y c h⟩,o.hok.fresh (C1 _),λy c h=>?_,λp C=>absurd (show p∈([]:A_)from C) A6,o.hok.kept M,?_⟩
 .exact name_of_addr x.apart (A1h G) (A1h l)
 .have t:d.names.lookup y=some .cell\/d.names.lookup y=some .free:=t;rcases t with t|t
  .exact Uh t
  .exact absurd Z (S.nofree _ (A1h t))
 .exact V1 (x.above y c (A1h h))
 .have I:i<vs.length:=by
   unfold NZ at l;by_cases I:i<vs.length
   .exact I
   .rw[L6 (by simpa using I)]at l;rw[W1]at l;split at l<;>cases l
  have R:vs[i]?=some v:=by
   unfold NZ at l;rw[N5 (by simpa using I),C0]at l;cases e:vs[i]? with
   |none=>rw[e]at l;cases l
   |some a=>rw[e]at l;cases l;rfl
  obtain⟨u,O,X⟩:=r.get R;have C:ps[i]?=some y:=by
   rw[<-S.pre,V7 A0];exact G
  have D:ps.Nodup:=by rw[<-S.pre];exact S.nd.sublist (List.take_sublist _ _)
  refine⟨u,X,?_⟩;rcases S.par y (D6 C)with k|k
  .exact .inl ⟨k,Ra D C O k⟩
  .obtain⟨c,e⟩:=Uh (n:=s.heap.objs.size+1) k;refine .inr ⟨.inl k,c,e,?_⟩;have q:=x.cell y c e;rw[Rc D C O (by show d.names.lookup y≠_;rw[k];decide)]at q;exact q
 .exact o.hok.fresh (V1 (x.above y c (A1h h)))
 .unfold NZ;show _=N.length;rw[C5,B8,O0];lia
theorem fn_of{CX:CXT}{P:N_}{w:Q_}{K:O_}{F:C_}{g:T_}{k:Nat}{f:R_}{name d:Str}{i:Arguments}{j:List Stmt}{a:Scope}{dV kV B pm h ct oc:S_}{X od:Option Addr}
  {O:Array (Option Value)} {N ps:K_} {sp:Sp} (lk:K.lookup f=some ⟨oc,od,.func (W.fnOf name d i j a dV kV B pm X h ct),O⟩) (G:W.codeIn K h d=true) (S:Au N ps a)
  (len:∀vs H Q E,sp vs H Q E->vs.length=ps.length)
  (m:∀(A:Around)(c:List Env)(s:P_)(H:Hp)(vs:List V)(Q:VK)(E:XK),Dl k (A.deeper (envOfC d a s.heap.objs.size f h))->sp vs H Q E ->
   ∃t,PSs (YD CX P w K F g N d a f h A c s H E) j t/\t {nx:=λ_ l=>Q .non l,rt:=Q} (NZ N vs) H) :
  AL P w K F g CX (k+1) f (W.fnOf name d i j a dV kV B pm X h ct) ps sp:=by
 refine⟨len,λA c s H Y us vs Q E L C hb r D=>?_⟩;have hl:=len _ _ _ _ D;have U:K.In s.heap:=C.mod.kin.keeps λb o e=>(C.bs b o e).1;have M:s.heap.NoLimit:=C.mod.nolimit.keeps λb o e=>(C.bs b o e).1;have p:∀y∈ps.zip us,a.names.lookup y.1=some .local\/(a.names.lookup y.1=some .cell/\((cellsFrom (s.heap.objs.size+1) a.names []).lookup y.1).isSome=true):=λ⟨n,v⟩ hy=>by
  rcases S.par n (List.of_mem_zip hy).1 with q|q
  .exact .inl q
  .exact .inr ⟨q,W.cellsFrom_some _ _ _ (.inl q)⟩
 refine codeAny_call_function L.depth (U _ _ lk) Z S.co S.gen Z (W.codeRec_of U G) (hb _ _ _ _ ?_);refine wpAny_newFunctionEnv_cells S.kind p λaa he s1 x=>?_;subst he;refine⟨M.keeps x.toInCall.keep,codeAny_func ?_⟩;obtain⟨t,ht,hq⟩:=m A c s H vs Q E (L.deeper _) D;have I:Inv (YD CX P w K F g N d a f h A c s H E) [] (NZ N vs) H s1:=Yu S L.hd C hl r x;refine A2b (ht [] s1 (NZ N vs) H _ I hq) (λfl T z=>?_) λe T z=>z;have fin:∀{σ':St}{l:Hp}{v:V}{u:S_},Inv (YD CX P w K F g N d a f h A c s H E) [] σ' l T->Bh v u->Q v l->CE c P w H s Q u T :=
  λ{σ' l v u} J R q=>⟨v,l,J.os,J.bare,J.base,J.hok,R,q⟩
 cases fl with
 |ret u =>
  obtain⟨v,σ',l,J,R,q⟩:=z;exact fin J R q
 |next =>
  obtain⟨σ',l,J,q⟩:=z;exact fin (v:=V.non) (u:=Value.none) J Z q
 |brk =>
  obtain⟨_,_,_,q⟩:=z;exact False.elim q
 |cont =>
  obtain⟨_,_,_,q⟩:=z;exact False.elim q
section
variable{X:Cx}{x:Str}{p pos:Pos}{e:Expr}{es:List Expr}{t:TA}{id T:String}{r:List V->Hp->VK->Prop}
def tCB(r:List V->Hp->VK->Prop)(t:TA):TE:=fun σ H Q=>t σ H λvs H1=>r vs H1 Q
theorem AU(i:GP X (.builtin id) r)(k:Gl X x)(l:X.mg x=none)(n:bootBuiltins x=some (.builtin id))(g:PA X (e::es) t)(m:x≠"__name__" := by decide)(b:(x==("__debug__" : Str))=false:=by decide)
  (j:starEach (e::es) X.env=(false,eval e X.env)::starEach es X.env:=by rfl) (c:(backTo pos (starEach es X.env)).any (·.1)=false:=by rfl):PE X (.Call (.Name x p) (e::es) [] pos) (tCB r t):=by
 intro a s σ H Q I h;refine A3c (Li I k l n ?_ m b);exact PyProof.Rows.callWith_builtin1 (thn (g pos a s σ H _ I h) λus u ⟨vs,d,f,q,o⟩=>i a u σ d vs us Q f q o) j c
theorem Bd(i:GP X (.type T) r)(k:Gl X x)(l:X.mg x=none)(n:bootBuiltins x=some (.type T))(g:PA X (e::es) t)(m:x≠"__name__" := by decide)(b:(x==("__debug__" : Str))=false:=by decide)
  (j:starEach (e::es) X.env=(false,eval e X.env)::starEach es X.env:=by rfl) (c:(backTo pos (starEach es X.env)).any (·.1)=false:=by rfl):PE X (.Call (.Name x p) (e::es) [] pos) (tCB r t):=by
 intro a s σ H Q I h;refine A3c (Li I k l n ?_ m b);exact A2a (thn (g pos a s σ H _ I h) λus u ⟨vs,d,f,q,o⟩=>i a u σ d vs us Q f q o) j c
end
end L2
namespace HT
open PySem PyProof.Rows
section
variable{prog:N_}{w:Q_}{A:Around}{E:B_}{s:P_}
def sIx(n d:Nat):Option Int->Nat
|none=>d
|some v=>if v<0 then(v+(n:Int)).toNat else min v.toNat n
end
end HT
namespace L2
open PySem PySem.Spec PyProof.Rows
abbrev TO:=St->Hp->(Option Int->Hp->Prop)->Prop
def PO(X:Cx)(e:Option Expr)(t:TO):Prop :=
 ∀(pins:A_)(s:P_)(σ:St)(H:Hp)(Q:Option Int->Hp->Prop),Inv X pins σ H s->t σ H Q ->
  wpAny (model X.prog X.w) X.A (evalPart e X.env) (λu s'=>∃o H',Inv X pins σ H' s'/\IsPart u o/\Q o H') X.xe s
def tNoPart:TO:=λ_ H Q=>Q none H
def tPart(t:TE):TO:=fun σ H Q=>t σ H λx H1=>∃i,x=.int i/\Q (some i) H1
section
variable{X:Cx}{e:Expr}{te:TE}{lo hi:Option Expr}{tl th:TO}{pos p2:Pos}
theorem po_none:PO X none tNoPart:=by
 intro a s σ H Q I h;rw[evalPart_none];exact K3 ⟨none,H,I,.none,h⟩
theorem Rz(h:PE X e te):PO X (some e) (tPart te):=by
 intro a s σ H Q I d;rw[evalPart_some];refine thn (h a s σ H _ I d) λu j ⟨x,b,c,g,f⟩=>?_;obtain⟨i,rfl,q⟩:=f;obtain⟨t,rfl⟩:=g;exact⟨some i,b,c,.int i t,q⟩
def SlR(X:Cx)(r:V->Option Int->Option Int->Hp->VK->Prop):Prop :=
 ∀(pins:A_)(s:P_)(σ:St)(H:Hp)(x:V)(v vl vu:S_)(lo hi:Option Int)(sl:R_)(Q:VK),Inv X pins σ H s->Bh x v->s.heap.IsSliceOf sl vl vu .none->IsPart vl lo->IsPart vu hi->r x lo hi H Q ->
  ∃T id,typeLookup (.type T) "__getitem__" = pure (some (.builtin id))/\s.TypeIs v T/\wpAny (model X.prog X.w) X.A (getItem v (.ref sl)) (EP X pins σ Q) X.xe s
def tSl(r:V->Option Int->Option Int->Hp->VK->Prop)(te:TE)(tl th:TO):TE:=fun σ H Q=>te σ H λx H1=>tl σ H1 λl H2=>th σ H2 λu H3=>r x l u H3 Q
theorem Tw{r:V->Option Int->Option Int->Hp->VK->Prop}(B:SlR X r)(t:PE X e te)(z:PO X lo tl)(D:PO X hi th):PE X (.Subscript e (.Slice lo hi none p2) pos) (tSl r te tl th):=by
 intro a s σ H Q I h;refine Subscript_ (thn (t a s σ H _ I h) λv M ⟨x,i,k,L,F⟩=>?_);refine wpAny_Slice (thn (z a M σ i _ k F) λd N ⟨l,j,m,pl,G⟩=>thn (D a N σ j _ m G) λf c ⟨u,g,n,E,K⟩=>?_);rw[evalPart_none];refine K3 ?_;have o:Inv X a σ g {c with heap:=c.heap.push {cls:=.type "slice",data:=.fields #[d,f,.none]} }:=n.kept (t':=c.toks) λb O q=>C4 _ q;obtain⟨T,id,p,C,y⟩:=B a {c with heap:=c.heap.push {cls:=.type "slice",data:=.fields #[d,f,.none]} } σ g x v d f l u c.heap.objs.size Q o L (Heap.IsSliceOf.new ..) pl E K;show wpAny (model X.prog X.w) X.A (subscriptTail e (.Slice lo hi none p2) v (.ref c.heap.objs.size)) (EP X a σ Q) X.xe {c with heap:=c.heap.push {cls:=.type "slice",data:=.fields #[d,f,.none]} };exact tail_any (ops:=[.ref c.heap.objs.size,v]) C p y (by with_unfolding_all rfl)
def Vs(xs:List V)(lo hi:Option Int):List V:=(xs.drop (HT.sIx xs.length 0 lo)).take (HT.sIx xs.length xs.length hi-HT.sIx xs.length 0 lo)
theorem Uc(xs:List V)(lo hi:Option Int):(Vs xs lo hi).length<=xs.length:=by
 unfold Vs;rw[L8,List.length_drop];lia
end
def ixN(n:Nat)(i:Int):Option Nat:=if 0<=i then(if i<n then some i.toNat else none)else if -(n:Int)<=i then some (i+n).toNat else none
def atI{α:Type}(xs:List α)(i:Int):Option α:=(ixN xs.length i).bind λj=>xs[j]?
theorem Wq{n:Nat}{i:Int}{j:Nat}(h:ixN n i=some j):seqIndex? i n=some j/\j<n/\-(n:Int)<=i/\i<n:=by
 unfold ixN at h;by_cases b:0<=i
 .rw[K2 b]at h;by_cases a:i<n
  .rw[K2 a]at h;have e:i.toNat=j:=K7 h;exact⟨by rw[seqIndex_of b a,e],by lia,by lia,a⟩
  .rw[X9 a]at h;cases h
 .rw[X9 b]at h;by_cases a:-(n:Int)<=i
  .rw[K2 a]at h;have e:(i+n).toNat=j:=K7 h;exact⟨by rw[seqIndex_neg A0 a,e],by lia,a,by lia⟩
  .rw[X9 a]at h;cases h
theorem Sx{α:Type}{xs:List α}{i:Int}{v:α}(h:atI xs i=some v):∃j,seqIndex? i xs.length=some j/\xs[j]?=some v/\j<xs.length/\-(xs.length:Int)<=i/\i<xs.length:=by
 unfold atI at h;cases e:ixN xs.length i with
 |none=>rw[e]at h;cases h
 |some j =>
  rw[e]at h;obtain⟨a,b,c,d⟩:=Wq e;exact⟨j,a,h,b,c,d⟩
theorem Ah{α:Type}{xs:List α}{j:Nat}{v:α}(h:xs[j]?=some v):atI xs (j:Int)=some v:=by
 have a:j<xs.length:=(B9.mp h).1;have e:ixN xs.length (j:Int)=some j:=by
  unfold ixN;rw[K2 A0,K2 A0];simp
 unfold atI;rw[e];exact h
def PlainIx(b:Expr):Prop:=∀o i,subscripted b false o i=operate [o,i] (getItem o i)
def IxR(X:Cx)(r:R2):Prop :=
 ∀(value slice:Expr)(pins:A_)(s:P_)(σ:St)(H:Hp)(x y:V)(v u:S_)(Q:VK),Inv X pins σ H s->Bh x v->Bh y u->r x y H Q ->
  subscripted slice false v u=operate [v,u] (getItem v u)->wpAny (model X.prog X.w) X.A (subscriptTail value slice v u) (EP X pins σ Q) X.xe s
def MtR(X:Cx)(id:String)(r:V->List V->Hp->VK->Prop):Prop :=
 ∀(pins:A_)(s:P_)(σ:St)(H:Hp)(x:V)(xs:List V)(v:S_)(us:F_)(Q:VK),Inv X pins σ H s->Bh x v->AS xs us->r x xs H Q ->
  wpAny (model X.prog X.w) X.A (call (.builtin id) (v::us)) (EP X pins σ Q) X.xe s
section
variable{X:Cx}{a b:Expr}{ta tb:TE}{pos:Pos}
theorem Aj{r:R2}(i:IxR X r)(f:PE X a ta)(g:PE X b tb)(j:PlainIx b):PE X (.Subscript a b pos) (tOp r ta tb):=by
 intro c s σ H Q I h;exact Subscript_ (binT f g I h λv u m x y d e k l q=>i a b c m σ d x y v u Q e k l q (j _ _))
def rIxL(K:O_):R2:=λx y H Q=>∃p xs i v,x=.ref p/\y=.int i/\SqL K H p xs/\atI xs i=some v/\Q v H
def LL(K:O_):R2:=λx y H Q=>∃p xs i v,x=.ref p/\y=.int i/\SqT K H p xs/\atI xs i=some v/\Q v H
def rIxS:R2:=λx y H Q=>∃z i c,x=.str z/\y=.int i/\z.length<=sizeLine/\atI z.cps.toList i=some c/\Q (.str ⟨#[c]⟩) H
theorem Ax:IxR X (rIxL X.K):=by
 intro l k c s σ H x y v u Q I G L h o;obtain⟨p,xs,i,z,rfl,rfl,F,D,q⟩:=h;cases G;obtain⟨t,rfl⟩:=L;obtain⟨f,r,pl,P⟩:=I.list F;obtain⟨j,d,A,N,B,C⟩:=Sx D;obtain⟨w,m,g⟩:=r.get A;have E:=r.length;have O:=NR;have fin:EP X c σ Q w s:=⟨z,H,I,g,q⟩
 by_cases n:0<=i
 .have e:i.toNat=j:=by
   rw[seqIndex_of n C]at d;exact K7 d
  exact item_listR pl.isList n A0 (by rw[e];simpa using m) fin o
 .have e:(i+(f.toArray.size:Int)).toNat=j:=by
   rw[seqIndex_neg A0 B]at d;rw[F3,<-E];exact K7 d
  exact subscriptTail_builtinR (x:=w) pl.isList.typeIs slot_list_getitem.lookup
   (wpAny_getItem_list_neg (Q:=λr M=>r=w/\EP X c σ Q r M) pl.isList A0 (by rw[F3]<;>lia) A0 (by rw[e];simpa using m) ⟨Z,fin⟩) o
theorem Ak:IxR X (LL X.K):=by
 intro f e c s σ H x y v u Q I C D h A;obtain⟨p,xs,i,z,rfl,rfl,o,m,q⟩:=h;cases C;obtain⟨t,rfl⟩:=D;obtain⟨B,r,pl,N⟩:=I.tuple o;obtain⟨j,k,l,F,G,L⟩:=Sx m;obtain⟨w,g,d⟩:=r.get l;have n:=r.length;have M:=NR;have fin:EP X c σ Q w s:=⟨z,H,I,d,q⟩
 exact subscriptTail_builtinR (x:=w) pl.typeIs slot_tuple_getitem.lookup
  (getItem_tuple (j:=j) (Q:=λr E=>r=w/\EP X c σ Q r E) pl A0 A0 (by rw[F3,<-n];exact k) (by simpa using g) ⟨Z,fin⟩) A
theorem ix_str:IxR X rIxS:=by
 intro e d g s σ H x y v u Q I A B h w;obtain⟨z,i,c,rfl,rfl,E,p,q⟩:=h;obtain⟨t,rfl⟩:=A;obtain⟨t',rfl⟩:=B;obtain⟨j,f,m,C,n,o⟩:=Sx p;have r:z.cps.toList.length=z.length:=by simp[Str.length]
 rw[r]at f n o;have D:=NR;exact tail_any (A6d s z t) slot_str_getitem.lookup (getItem_str (c:=c) (by
  have k:decide (i < -(2^63:Int))=false:=K1 A0;have l:decide (i ≥ 2^63)=false:=K1 A0;rw[k,l,Bool.or_false]) (by rw[f];simpa using m) ⟨.str ⟨#[c]⟩,H,I.tok _,⟨_,Z⟩,q⟩) w
theorem Vh(c:F_)(n j:Nat)(u:S_):Obj.mapSeq (·.setIfInBounds j u) {cls:=.type "list",data:=.seq c.toArray n}={cls:=.type "list",data:=.seq (c.set j u).toArray n}:=by
 simp[Obj.mapSeq]
theorem Inv.lst{d:A_}{σ:St}{H:Hp}{s:P_}{p:R_}{xs:List V}(I:Inv X d σ H s)(h:H p=some (.lst xs)) :
  ∃(c:F_)(n:Nat),AS xs c/\s.heap.get? p=some {cls:=.type "list",data:=.seq c.toArray n}/\xs.length<=sizeLine:=by
 obtain⟨z,c,n,r,e⟩:=I.hok p _ h;exact⟨c,n,r,e,z⟩
theorem Inv.lstUpd{c:A_}{σ:St}{H:Hp}{s:P_}{p:R_}{xs ys:List V}{d its':F_}{n g:Nat}{f:Obj->Obj}(I:Inv X c σ H s)(h:H p=some (.lst xs))
  (k:s.heap.get? p=some {cls:=.type "list",data:=.seq d.toArray n}) (i:f {cls:=.type "list",data:=.seq d.toArray n}={cls:=.type "list",data:=.seq its'.toArray g}) (r:AS ys its') (l:ys.length<=sizeLine) (t:Nat) :
  Inv X c σ (upd H p (.lst ys)) {s with heap:=s.heap.update p f,toks:=t}:=by
 have e:(s.heap.update p f).get? p=some {cls:=.type "list",data:=.seq its'.toArray g}:=by
  rw[Y6 f k (by rw[i]<;>rfl),i]
 refine I.write (x:=p) (e:=p) (by rw[h];trivial) (.inl Z) (λb u j q=>(W8 _ _ (K6 j)).trans q) ⟨_,e⟩ ?_;exact⟨l,its',g,r,e⟩
def rSetL:V->V->V->Hp->(Hp->Prop)->Prop:=λo i v H Q=>∃p xs k j,o=.ref p/\i=.int k/\H p=some (.lst xs)/\ixN xs.length k=some j/\Q (upd H p (.lst (xs.set j v)))
theorem Te:PSet X rSetL:=by
 intro d s σ H o i v L K u Q I D C E h;obtain⟨p,xs,k,j,rfl,rfl,z,A,q⟩:=h;cases D;obtain⟨t,rfl⟩:=C;obtain⟨c,n,r,l,B⟩:=I.lst z;obtain⟨e,F,x,y⟩:=Wq A;have g:=r.length;have G:=NR;have m:Inv X d σ (upd H p (.lst (xs.set j v))) {s with heap:=s.heap.update p (Obj.mapSeq (·.setIfInBounds j u))} :=
  I.lstUpd z l (Vh c n j u) (r.set E j) (by rw[List.length_set];exact B) s.toks
 by_cases w:0<=k
 .have f:k.toNat=j:=by
   rw[seqIndex_of w y]at e;exact K7 e
  exact W.ki_setAt l w A0 (by rw[F3,<-g];exact y) (by rw[f];exact⟨_,m,q⟩)
 .have f:(k+(c.toArray.size:Int)).toNat=j:=by
   rw[seqIndex_neg A0 x]at e;rw[F3,<-g];exact K7 e
  exact W.ki_setBack l A0 (by rw[F3,<-g];exact x) A0 (by rw[f];exact⟨_,m,q⟩)
theorem Ru(lo c:Option Int)(n:Nat):(sliceBounds lo c none n).1=((HT.sIx n 0 lo:Nat):Int)/\(sliceBounds lo c none n).2.1=((HT.sIx n n c:Nat):Int)/\(sliceBounds lo c none n).2.2=1:=by
 refine⟨?_,?_,Z⟩
 .cases lo with
  |none=>simp[sliceBounds,HT.sIx]
  |some i =>
   simp only[sliceBounds,HT.sIx,Option.getD_none,show(1:Int) > 0 by decide,A5b];by_cases h:i<0
   .simp only[h,A5b]<;>lia
   .simp only[h,A4a]<;>lia
 .cases c with
  |none=>simp[sliceBounds,HT.sIx]
  |some i =>
   simp only[sliceBounds,HT.sIx,Option.getD_none,show(1:Int) > 0 by decide,A5b];by_cases h:i<0
   .simp only[h,A5b]<;>lia
   .simp only[h,A4a]<;>lia
theorem Qd(c:F_)(lo d:Option Int):slicePick c.toArray lo d none=((c.drop (HT.sIx c.length 0 lo)).take (HT.sIx c.length c.length d-HT.sIx c.length 0 lo)).toArray:=by
 obtain⟨e,f,g⟩:=Ru lo d c.toArray.size;unfold slicePick;rw[e,f,g];simp only[sliceRange_one,pick_run,F3]<;>rfl
def rSlL(K:O_):V->Option Int->Option Int->Hp->VK->Prop:=λx lo hi H Q=>∃a xs,x=.ref a/\SqL K H a xs/\∀p,H p=none->Q (.ref p) (upd H p (.lst (Vs xs lo hi)))
theorem VX:SlR X (rSlL X.K):=by
 intro f s σ H x v t u lo d p Q I m g pl l h;obtain⟨a,xs,rfl,i,q⟩:=h;cases m;obtain⟨k,r,e,j⟩:=I.list i;have c:=r.length;refine⟨"list",_,slot_list_getitem.lookup,e.isList.typeIs,?_⟩;refine wpAny_getItem_list_slice e.isList g pl l .none A6 ?_ (by rw[F3]<;>lia);rw[Qd,<-c];refine⟨.ref s.heap.objs.size,_,I.laid (t':=s.toks) (o:=.lst (Vs xs lo d)) (λb n q=>C4 _ q) (C1 _) ?_,Z,q _ (I.hok.fresh (C1 _))⟩;exact⟨D0 (Uc xs lo d) j,_,0,(r.drop (HT.sIx xs.length 0 lo)).take (HT.sIx xs.length xs.length d-HT.sIx xs.length 0 lo),D9 _ Z⟩
def MZ:V->Bool
|.non=>true
|.bl _=>true
|.int _=>true
|.str _=>true
|_=>false
def eqV:V->V->Bool
|.non,.non=>true
|.bl a,.bl b=>a==b
|.bl a,.int b=>(if a then 1 else 0)==b
|.int a,.bl b=>a==(if b then 1 else 0)
|.int a,.int b=>a==b
|.str a,.str b=>a==b
|_,_=>false
theorem eqAt_V{A:Around}{s:P_}{y x:V}{u v:S_}(d:Bh y u)(c:Bh x v)(e:MZ y=true)(fx:MZ x=true):SeqAt.EqAt A s u v (eqV y x):=by
 cases y with
 |non =>
  cases d;cases x with
  |non=>cases c;exact SeqAt.EqAt.same _
  |bl b=>cases c;exact SeqAt.EqAt.none_bool b
  |int b=>obtain⟨t,rfl⟩:=c;exact SeqAt.EqAt.none_int b t
  |str b=>obtain⟨t,rfl⟩:=c;exact SeqAt.EqAt.none_str b t
  |_=>exact absurd (show false=true from fx) D5
 |bl a =>
  cases d;cases x with
  |non=>cases c;exact SeqAt.EqAt.bool_none a
  |bl b=>cases c;exact SeqAt.EqAt.bool_bool a b
  |int b=>obtain⟨t,rfl⟩:=c;exact SeqAt.EqAt.bool_int a b t
  |str b=>obtain⟨t,rfl⟩:=c;exact SeqAt.EqAt.bool_str a b t
  |_=>exact absurd (show false=true from fx) D5
 |int a =>
  obtain⟨t',rfl⟩:=d;cases x with
  |non=>cases c;exact SeqAt.EqAt.int_none a t'
  |bl b=>cases c;exact SeqAt.EqAt.int_bool a t' b
  |int b=>obtain⟨t,rfl⟩:=c;exact SeqAt.EqAt.int_int a t' b t
  |str b=>obtain⟨t,rfl⟩:=c;exact SeqAt.EqAt.int_str a t' b t
  |_=>exact absurd (show false=true from fx) D5
 |str a =>
  obtain⟨t',rfl⟩:=d;cases x with
  |non=>cases c;exact SeqAt.EqAt.str_none a t'
  |bl b=>cases c;exact SeqAt.EqAt.str_bool a t' b
  |int b=>obtain⟨t,rfl⟩:=c;exact SeqAt.EqAt.str_int a t' b t
  |str b=>obtain⟨t,rfl⟩:=c;exact SeqAt.EqAt.str_str a t' b t
  |_=>exact absurd (show false=true from fx) D5
 |_=>exact absurd (show false=true from e) D5
def eqU(x:V)(u:S_):Bool:=match u with
|.none=>eqV .non x
|.bool b=>eqV (.bl b) x
|.int i _=>eqV (.int i) x
|.str z _=>eqV (.str z) x
|_=>false
theorem eqU_of{x y:V}{u:S_}(r:Bh y u)(f:MZ y=true):eqU x u=eqV y x:=by
 cases y with
 |non=>cases r;rfl
 |bl b=>cases r;rfl
 |int i=>obtain⟨t,rfl⟩:=r;rfl
 |str z=>obtain⟨t,rfl⟩:=r;rfl
 |_=>exact absurd (show false=true from f) D5
theorem SA{x:V}:∀{xs:List V}{us:F_},AS xs us->xs.all MZ=true->us.any (eqU x)=xs.any λy=>eqV y x
|_,_,.nil,_=>rfl
|y::xs,u::us,.cons r t,f=>by
 rw[List.all_cons,Q0]at f;rw[U2,U2,eqU_of r f.1,SA t f.2]
theorem PJ{A:Around}{s:P_}{x:V}{v:S_}(d:Bh x v)(fx:MZ x=true):∀{xs:List V}{us:F_},AS xs us->xs.all MZ=true->∀u∈us,SeqAt.EqAt A s u v (eqU x u)
|_,_,.nil,_=>λu c=>by cases c
|y::xs,u::us,.cons r t,f=>λe c=>by
 rw[List.all_cons,Q0]at f;rcases C3.mp c with rfl|c
 .rw[eqU_of r f.1];exact eqAt_V r d f.1 fx
 .exact PJ d fx t f.2 e c
def inV(x:V)(xs:List V):Bool:=xs.any λy=>eqV y x
def rIn(K:O_)(neg:Bool):R2:=λx y H Q=>∃p xs,y=.ref p/\(SqL K H p xs\/SqT K H p xs)/\MZ x=true/\xs.all MZ=true/\Q (.bl (if neg then !inV x xs else inV x xs)) H
theorem NG:OpR X (compareOp .In) (rIn X.K false):=by
 intro f s σ H x y v u Q I g j h;obtain⟨p,xs,rfl,d,fx,fs,q⟩:=h;cases j;rcases d with d|d
 .obtain⟨c,r,pl,i⟩:=I.list d;refine SeqAt.in_listAt (eqU x) pl.isList (λw e=>PJ g fx r fs w (by simpa using e)) ⟨.bl _,H,I,Z,?_⟩;rw[show c.toArray.any (eqU x)=c.any (eqU x) by simp,SA r fs];exact q
 .obtain⟨c,r,pl,i⟩:=I.tuple d;refine SeqAt.in_tupleAt (eqU x) pl (λw e=>PJ g fx r fs w (by simpa using e)) ⟨.bl _,H,I,Z,?_⟩;rw[show c.toArray.any (eqU x)=c.any (eqU x) by simp,SA r fs];exact q
theorem Ca:GP X (.builtin "len") (λxs H Q=>∃p ys,xs=[.ref p]/\(SqL X.K H p ys\/SqT X.K H p ys)/\Q (.int ys.length) H):=by
 intro g s σ H xs us Q I r h;obtain⟨p,ys,rfl,d,q⟩:=h;obtain⟨u,rfl,j⟩:=SJ r;cases j;have k:=NR;rcases d with d|d
 .obtain⟨e,f,pl,i⟩:=I.list d;have c:=f.length;exact Calls.call_len_list pl.isList (by simp only[F3]<;>lia) ⟨.int ys.length,H,I.tok _,⟨s.toks+1,by rw[F3,c]⟩,q⟩
 .obtain⟨e,f,pl,i⟩:=I.tuple d;have c:=f.length;exact len_tuple pl (by simp only[F3]<;>lia) ⟨.int ys.length,H,I.tok _,⟨s.toks+1,by rw[F3,c]⟩,q⟩
theorem Jt:GP X (.builtin "len") (λxs H Q=>∃z,xs=[.str z]/\z.length<=sizeLine/\Q (.int z.length) H):=by
 intro c s σ H xs us Q I r h;obtain⟨z,rfl,e,q⟩:=h;obtain⟨u,rfl,t,rfl⟩:=SJ r;have d:=NR;exact len_str A0 ⟨.int z.length,H,I.tok _,⟨_,Z⟩,q⟩
theorem Su:GP X (.type "list") (λxs H Q=>∃p ys,xs=[.ref p]/\(SqL X.K H p ys\/SqT X.K H p ys)/\∀l,H l=none->Q (.ref l) (upd H l (.lst ys))):=by
 intro k s σ H xs us Q I r h;obtain⟨p,ys,rfl,i,q⟩:=h;obtain⟨u,rfl,x⟩:=SJ r;cases x;have fin:∀(c:F_),AS ys c->ys.length<=sizeLine->∀(h':T_)(d:Nat),(∀b o',s.heap.get? b=some o'->h'.get? b=some o') ->
   h'.get? s.heap.objs.size=some {cls:=.type "list",dict:=none,data:=.seq c.toArray d,slots:=#[]}->EP X k σ Q (.ref s.heap.objs.size) {s with heap:=h'}:=λc f j h' d kp e =>
  ⟨.ref s.heap.objs.size,_,I.laid (t':=s.toks) kp (C1 _) (show BQ X.prog X.w _ h' _ (.lst ys)from⟨j,c,d,f,e⟩),Z,q _ (I.hok.fresh (C1 _))⟩
 rcases i with i|i
 .obtain⟨c,f,pl,j⟩:=I.list i;have g:=f.length;obtain⟨o,v,m,n,t⟩:=pl.isList;exact call_list_seq p (.inl Z) v m t (λh' d kp e=>fin c f j h' d kp e) (by simp only[F3]<;>lia)
 .obtain⟨c,f,pl,j⟩:=I.tuple i;have g:=f.length;obtain⟨o,v,m,n,t⟩:=pl;exact call_list_seq p (.inr Z) v m t (λh' d kp e=>fin c f j h' d kp e) (by simp only[F3]<;>lia)
theorem BM:GP X (.type "tuple") (λxs H Q=>∃p ys,xs=[.ref p]/\((SqL X.K H p ys/\∀l,H l=none->Q (.ref l) (upd H l (.tup ys)))\/(SqT X.K H p ys/\Q (.ref p) H))):=by
 intro c s σ H xs us Q I r h;obtain⟨p,ys,rfl,h⟩:=h;obtain⟨u,rfl,n⟩:=SJ r;cases n;rcases h with ⟨f,q⟩|⟨f,q⟩
 .obtain⟨d,g,pl,k⟩:=I.list f;have j:=g.length;refine call_tuple_list pl.isList (λh' kp=>?_) (by simp only[F3]<;>lia);have i:Inv X c σ H {s with heap:=h'}:=I.kept (t':=s.toks) kp
  have m:Inv X c σ (upd H h'.objs.size (.tup ys)) {s with heap:=h'.push {cls:=.type "tuple",data:=.seq d.toArray} } :=
   i.laid (t':=s.toks) (λb o e=>C4 _ e) (C1 _) (show BQ X.prog X.w _ _ _ (.tup ys)from⟨k,d,g,IsTup.new _ _⟩)
  exact⟨.ref h'.objs.size,_,m,Z,q _ (i.hok.fresh (C1 _))⟩
 .obtain⟨d,g,pl,k⟩:=I.tuple f;exact call_tuple_same pl ⟨.ref p,H,I,Z,q⟩
def tyV(K:O_)(T:String)(x:V)(H:Hp):Prop:=match x with
|.str _=>T="str"
|.int _=>T="int"
|.ref p=>(T="list" /\ ∃xs,SqL K H p xs)\/(T="tuple" /\ ∃o,K.lookup p=some o/\o.cls=.type "tuple" /\ o.dict=none) \/
  (T="dict" /\ ((∃kvs,H p=some (.dK kvs))\/∃kvs,H p=some (.dT kvs)))\/(T="set" /\ ∃S n,H p=some (.set S n))
|_=>False
theorem tyV_is{g:A_}{σ:St}{H:Hp}{s:P_}{T:String}{x:V}{v:S_}(I:Inv X g σ H s)(r:Bh x v)(h:tyV X.K T x H) :
  s.TypeIs v T/\∀a,v=.ref a->∃l,s.heap.get? a=some l/\l.dict=none:=by
 cases x with
 |str z =>
  obtain⟨t,rfl⟩:=r;cases(show T="str" from h);exact⟨A6d s z t,λ_ e=>nomatch e⟩
 |int i =>
  obtain⟨t,rfl⟩:=r;cases(show T="int" from h);exact⟨typeIs_int s i t,λ_ e=>nomatch e⟩
 |ref p =>
  cases r;rcases h with ⟨rfl,xs,q⟩|⟨rfl,o,d,m,k⟩|⟨rfl,d⟩|⟨rfl,S,n,d⟩
  .obtain⟨u,_,pl,_⟩:=I.list q;refine⟨pl.isList.typeIs,λa e=>?_⟩;cases e;obtain⟨o,n,e,c,k,_⟩:=pl;exact⟨o,e,k⟩
  .refine⟨⟨o,I.kIn p o d,m⟩,λa e=>?_⟩;cases e;exact⟨o,I.kIn _ o d,k⟩
  .have z:∃o,s.heap.get? p=some o/\o.ExactDict:=by
    rcases d with ⟨kvs,d⟩|⟨kvs,d⟩
    .obtain⟨_,_,_,_,o,_,_,e,f,_⟩:=I.hok p _ d;exact⟨o,e,f⟩
    .obtain⟨_,_,_,_,o,_,_,e,f,_⟩:=I.hok p _ d;exact⟨o,e,f⟩
   obtain⟨o,e,f⟩:=z;refine⟨⟨o,e,f.1⟩,λa j=>?_⟩;cases j;exact⟨o,e,f.2.1⟩
  .obtain⟨o,_,_,_,e,f,_⟩:=I.hok p _ d;refine⟨⟨o,e,f.1⟩,λa j=>?_⟩;cases j;exact⟨o,e,f.2.1⟩
 |_=>exact False.elim h
def tBM(K:O_)(T:String)(r:V->List V->Hp->VK->Prop)(to:TE)(t:TA):TE:=fun σ H Q=>to σ H λx H1=>tyV K T x H1/\t σ H1 λxs H2=>r x xs H2 Q
variable{o e:Expr}{es:List Expr}{to:TE}{t:TA}{name:Str}{apos cpos:Pos}{T id:String}{r:V->List V->Hp->VK->Prop}
theorem De(D:PlainAttrs T)(j:Slot T name id)(k:typeOf (.builtin id)=pure (.type "method_descriptor"))(A:MtR X id r)(B:PE X o to)(z:PA X (e::es) t)
  (f:attributeBase o name X.env (eval o X.env)=eval o X.env:=by rfl)
  (i:((backTo cpos (starEach (e::es) X.env)).all (λx=>!x.1) && (backToKw cpos (keywordEach [] X.env)).all (λx=>x.1.isSome)
   && decide ((e::es).length+([]:List Keyword).length+(if([]:List Keyword).isEmpty then 0 else 1)<30))=true:=by rfl)
  (g:(apos.endLine==cpos.line)=true:=by rfl) (C:starEach (e::es) X.env=(false,eval e X.env)::starEach es X.env:=by rfl) (d:(backTo cpos (starEach es X.env)).any (·.1)=false:=by rfl) :
  PE X (.Call (.Attribute o name apos) (e::es) [] cpos) (tBM X.K T r to t):=by
 intro c s σ H Q I h;refine wpAny_Call_method_late f i g Z (thn (B c s σ H _ I h) λv L ⟨x,p,l,n,N,E⟩=>?_);obtain⟨w,y⟩:=tyV_is l n N;refine⟨T,id,D,j,k,w,y,?_⟩;have m:=z cpos c L σ p _ l E;rw[C]at m⊢;refine Calls.callWith_builtin (by show(false || (backTo cpos (starEach es X.env)).any (·.1))=false;rw[d]<;>rfl) (Calls.evalArgs_plain ?_);exact thn m λus M ⟨vs,q,u,G,F⟩=>A c M σ q x vs v us Q u n G F
end
def MtM(X:Cx)(id:String)(r:V->List V->Hp->VK->Prop):Prop :=
 ∀(pins:A_)(s:P_)(σ:St)(H:Hp)(x:V)(xs:List V)(v:S_)(us:F_)(Q:VK),Inv X pins σ H s->Bh x v->AS xs us->r x xs H Q ->
  wpAny (model X.prog X.w) X.A (call (.builtin id) (v::us)) (EP X pins σ Q) X.xe s
theorem AS.one:∀{x:V}{us:F_},AS [x] us->∃u,us=[u]/\Bh x u
|_,_,.cons r .nil=>⟨_,Z,r⟩
theorem AS.two:∀{x y:V}{us:F_},AS [x,y] us->∃u v,us=[u,v]/\Bh x u/\Bh y v:=by
 intro x y us h;cases h with
 |cons r t=>cases t with
  |cons q t=>cases t;exact⟨_,_,Z,r,q⟩
theorem AS.rep{xs:List V}{us:F_}(h:AS xs us):∀k:Nat,AS (List.replicate k xs).flatten (List.replicate k us).flatten
|0=>.nil
|k+1=>by
 rw[Q9,Q9,S4,S4];exact AS.append h (AS.rep h k)
theorem QN(b:F_):∀(k:Nat)(a:F_),
 List.foldl (λd f=>d++f) a.toArray (List.replicate k b.toArray)=(a++(List.replicate k b).flatten).toArray
|0,a=>by simp
|k+1,a=>by
 have e:a.toArray++b.toArray=(a++b).toArray:=by simp
 have c:(a++b)++(List.replicate k b).flatten=a++(List.replicate (k+1) b).flatten:=by
  rw[Q9,S4,S5]
 rw[<-c,<-QN b k (a++b),<-e,Q9,T4]
section
variable{X:Cx}{pins:A_}{σ:St}{H:Hp}{s:P_}{l b:R_}{xs ys zs:List V}
theorem Inv.lset{a its':F_}{n:Nat}{f:Array Value->Array Value}{t':Nat}(I:Inv X pins σ H s)(c:H l=some (.lst xs))
  (e:s.heap.get? l=some {cls:=.type "list",data:=.seq a.toArray n}) (g:f a.toArray=its'.toArray) (i:AS ys its') (j:ys.length<=sizeLine) :
  Inv X pins σ (upd H l (.lst ys)) {s with heap:=s.heap.update l (Obj.mapSeq f),toks:=t'}:=by
 have q:=PySem.IsL.update e f;rw[g]at q;refine I.write (x:=l) (e:=l) (by rw[c];exact trivial) (.inl Z) (λb' u d h=>(W8 s.heap (Obj.mapSeq f) (K6 d)).trans h) ⟨_,q⟩ ?_;exact⟨j,its',_,i,q⟩
theorem Inv.lnew{a:F_}{t':Nat}(I:Inv X pins σ H s)(c:AS ys a)(d:ys.length<=sizeLine) :
  Inv X pins σ (upd H s.heap.objs.size (.lst ys)) {s with heap:=s.heap.push {cls:=.type "list",data:=.seq a.toArray},toks:=t'} :=
 I.laid (λ_ _ q=>C4 _ q) (C1 _) ⟨d,a,0,c,D9 _ Z⟩
theorem Inv.fresh(I:Inv X pins σ H s):H s.heap.objs.size=none:=I.hok.fresh (C1 _)
theorem Inv.lstM(I:Inv X pins σ H s)(c:H l=some (.lst xs)):xs.length<=sizeLine/\∃(a:F_)(n:Nat),AS xs a/\xs.length=a.length/\s.heap.get? l=some {cls:=.type "list",data:=.seq a.toArray n}:=by
 obtain⟨z,a,n,r,e⟩:=I.hok l _ c;exact⟨z,a,n,r,r.length,e⟩
theorem ZU{n:Nat}(h:n<=sizeLine):Builtin.List.listTooLong n=false:=by
 unfold Builtin.List.listTooLong;exact K1 A0
end
section
variable{X:Cx}
def Wc:V->List V->Hp->VK->Prop:=λx vs H Q=>∃l xs y,x=.ref l/\vs=[y]/\H l=some (.lst xs)/\xs.length<sizeLine/\Q .non (upd H l (.lst (xs++[y])))
theorem BF:MtM X "list.append" Wc:=by
 intro c s σ H x vs v us Q I g f h;obtain⟨l,xs,y,rfl,rfl,b,j,q⟩:=h;cases g;obtain⟨u,rfl,d⟩:=f.one;obtain⟨z,a,n,r,i,e⟩:=I.lstM b;refine A4g F.slot_list_append ⟨_,e,Z⟩ F.entry_list_append (F.args_list_append_2 _ _) (PySem.list_append l a.toArray n u (by rw[F3];lia)) ⟨e,?_⟩;refine⟨.non,_,I.lset (its':=a++[u]) b e A6 (r.append (.cons d .nil)) ?_,Z,q⟩;rw[C5,S2];lia
def rCat:R2:=λx y H Q=>∃l b xs zs,x=.ref l/\y=.ref b/\H l=some (.lst xs)/\H b=some (.lst zs)/\xs.length+zs.length<=sizeLine/\∀p,H p=none->Q (.ref p) (upd H p (.lst (xs++zs)))
theorem RG:OpR X (binaryOp .Add) rCat:=by
 intro d s σ H x y v u Q I o p h;obtain⟨l,b,xs,B,rfl,rfl,j,i,w,q⟩:=h;cases o;cases p;obtain⟨z,c,n,r,t,e⟩:=I.lstM j;obtain⟨A,a,n2,m,k,f⟩:=I.lstM i;refine PySem.P.add_list e f ?_ (by rw[F3,F3];lia);have g:c.toArray++a.toArray=(c++a).toArray:=by simp
 rw[g];exact⟨.ref _,_,I.lnew (t':=s.toks) (r.append m) (by rw[C5];lia),Z,q _ I.fresh⟩
def rRep:R2:=λx y H Q=>∃l k xs,x=.ref l/\y=.int k/\H l=some (.lst xs)/\-(2^63)<=k/\k<2^63/\xs.length*k.toNat<=sizeLine /\
 ∀p,H p=none->Q (.ref p) (upd H p (.lst (List.replicate k.toNat xs).flatten))
theorem len_rep{α:Type}(xs:List α)(k:Nat):(List.replicate k xs).flatten.length=k*xs.length:=by
 induction k with
 |zero=>simp
 |succ k a=>rw[Q9,S4,C5,a,U8,S7]
theorem op_rep:OpR X (binaryOp .Mult) rRep:=by
 intro w s σ H x y v u Q I G K h;obtain⟨l,k,xs,rfl,rfl,D,B,C,p,q⟩:=h;cases G;obtain⟨t,rfl⟩:=K;obtain⟨z,b,n,r,E,e⟩:=I.lstM D;have g:b.toArray.size*k.toNat<=sizeLine:=by rw[F3,<-E];exact p
 have d:¬b.toArray.size*k.toNat > (2^63-1)/8:=by
  have:(sizeLine:Nat)<=(2^63-1)/8:=by decide
  lia
 have f:¬(!Builtin.List.listFitsIndex k)=true:=by
  rw[fitsIndex_both B C];exact D5
 have c:¬Builtin.List.listTooLong (b.toArray.size*k.toNat)=true:=by
  rw[ZU g];exact D5
 have i:List.foldl (λj o=>j++o) #[] (List.replicate (if b.toArray.isEmpty=true then 0 else k.toNat) b.toArray)=(List.replicate k.toNat b).flatten.toArray:=by
  have A:∀m:Nat,List.foldl (λj o=>j++o) #[] (List.replicate m b.toArray)=(List.replicate m b).flatten.toArray:=λm=>by
   have:=QN b m [];rw[List.nil_append]at this;exact this
  rw[A];cases b with
  |nil=>simp
  |cons a M=>rw[X9 A6]
 refine wpAny_binaryOp_repeat_ref (T:="list") (U:="int") A3 ⟨_,e,Z⟩ (λL=>typeIs_int L k t) noFill_list_mul F.fills_int_mul F.slot_int_rmul repeat_list F.slot_int_index.lookup
  (A4g F.slot_int_rmul (typeIs_int s k t) F.entry_int_rmul (F.args_int_rmul_2 _ _) (int___rmul___int_list k t l b.toArray n)
   ⟨e,Z,⟨_,e,Z⟩,A4g F.slot_list_mul ⟨_,e,Z⟩ F.entry_list_mul (F.args_list_mul_2 _ _) (AutoListH.list___mul___list_int_3 l b.toArray n k t f d c) ⟨e,?_⟩⟩)
 rw[i];exact⟨.ref _,_,I.lnew (t':=s.toks) (r.rep k.toNat) (by rw[len_rep,O8];exact p),Z,q _ I.fresh⟩
end
end L2
namespace Att
open PySem PySem.W PySem.Calls PyProof.Rows
theorem Ou{P:Params}{h:T_}:∀(ns:I_)(vs:F_),WellAll P h vs (ns.map WData.int)->IntsAre vs ns:=by
 intro ns;induction ns with
 |nil =>
  intro vs w;rw[X5]at w;cases w;exact .nil
 |cons n ns c =>
  intro vs w;rw[J3]at w;cases w with
  |cons a b =>
   cases a;exact .cons _ _ (c _ b)
theorem WV{l:OpenLaw}{n:Nat}(t:l.most=some n){P:Params}{h:T_}{args:List WData}{c:F_}
  (b:l.row.toRowW.claim.pre args=true) (k:WellAll P h c args) :
  ∃a vs ns,c=[Value.ref a]/\args=[WData.list (ns.map WData.int)]/\h.get? a=some {cls:=.type "list",data:=.seq vs.toArray}/\IntsAre vs ns/\ns.length<=n:=by
 have j:WShape.hasAll [] args [.list .int]=true:=(pre_splitW b).1;have m:l.pre.holds [] {args:=args}=true:=(pre_splitW b).2;obtain⟨d,r,rfl,o,p⟩:=hasAllW_cons j;obtain rfl:=hasAllW_nil p;obtain⟨xs,rfl,s⟩:=hasW_list o;obtain⟨ns,rfl⟩:=items_int s;have f:ns.length<=n:=by
  unfold OpenLaw.pre at m;have g:(WTm.not (.lt (.lit (.int (n:Int))) (.len (.arg 0)))).holds [] {args:=[.list (ns.map .int)]}=true:=by
   have g:=(holds_andW m).1;rw[t]at g;exact g
  have i:=condW_of g (w_not (w_lt w_lit (w_len_list (w_arg Z))));rw[B8]at i;refine P8 λq=>?_;have v:(n:Int)<((ns.length:Nat):Int):=by lia
  first
   | (rw[K0 v]at i;exact absurd i A3)
   | (simp at i;lia)
 cases k with
 |cons w x =>
  cases x;cases w with
  |list u e=>exact⟨_,_,ns,Z,Z,u,Ou ns _ e,f⟩
theorem WW(l:OpenLaw)(args:List WData):l.row.toRowW.claim.post args (.bool true) args=true :=
 postW_of (r:=l.row.toRowW) (X:=(true==true))
  (show WShape.has [] (.bool true) .bool=true by first|rfl|decide|simp[WShape.has,WShape.arms,WShape.armsAll])
  (show(WTm.eq .res (.lit (.bool true))).value [] {args:=args,res:=some (.bool true),after:=args}=some (.bool (true==true))from w_eq_bool (w_res Z) w_lit) Z
theorem Um{l:OpenLaw}{n:Nat}{q:N_}{c:K_}{B:(Str->Option Value)->Heap->Prop}{C:World->Heap->Prop}{d:DefRec}
  (R:l.most=some n) (v:d.params.defaults=[])
  (call:∀(w:Q_)(e b:P_)(s z:C_)(i:R_)(o:Obj)(A p g:S_)(a:R_)(vs:F_)(ns:I_),
   Ground q c [] B w e s z b.heap->C w b.heap ->
   b.heap.get? i=some o->o.data=.func (docDef d.name d.params d.body d.scope A p g)->b.heap.CodeRec p d.name->s d.name=some (.ref i) ->
   b.heap.get? a=some {cls:=.type "list",data:=.seq vs.toArray}->IntsAre vs ns->ns.length<=n->b.gens=#[] ->
   codeAny (model l.prog w) callerA (.call (.ref i) ⟨[.ref a],[]⟩) (λr t=>r=.ok (.ret (.bool true))/\OldK b.heap t.heap/\t.os=b.os/\AllBare t.gens) b) :
  WalkO q c B C l.row.toRowW d [] (λf vs=>PySem.call f vs):=by
 intro w e b s z G Y i o A p g I kV S N u E x O D H as m F U y P;obtain rfl:I=.none:=Dflts.none E v;obtain rfl:kV=.none:=Dflts.noKw E;obtain⟨a,vs,ns,rfl,rfl,k,h,j⟩:=WV R m y;refine enter_call (A6c (call w e b s z i o A p g a vs ns G Y S (fd_plain N) u x k h j O) λr t T=>?_);obtain⟨rfl,K,L,M⟩:=T;exact⟨.inl ⟨.bool true,.bool true,[],Z,λ_=>Z,.bool true,WW l _,λ_=>⟨List.Pairwise.nil,λ_ Q=>(nomatch Q)⟩⟩,K,L,M⟩
end Att
namespace L2
open PySem PySem.Spec PyProof.Rows
theorem Qz:∀{vs:F_}{ns:I_},IntsAre vs ns->AS (ns.map V.int) vs
|_,_,.nil=>.nil
|_,_,.cons n t h=>.cons ⟨t,Z⟩ (Qz h)
def Only(H:Hp):Prop:=∀b,H b=none\/∃o xs,H b=some (.frz o (.lst xs))
theorem law_call{P:N_}{w:Q_}{K:O_}{L Y:C_}{CX:CXT}{k:Nat}{R a:R_}{fd:E_}{x:Str}{sp:Sp}{c:P_}{vs:F_}{ns:I_}
  (KX:K.In c.heap) (D:c.heap.Ns mainGlobals L) (g:c.heap.Ns builtinsNs Y) (T:∀x:Str,x≠"__name__" -> Y x=bootBuiltins x) (C:c.heap.NoLimit) (hg:c.gens=#[])
  (O:c.heap.get? a=some {cls:=.type "list",data:=.seq vs.toArray}) (hi:IntsAre vs ns) (hl:ns.length<=sizeLine) (hr:Dl k callerA)
  (F:∀i:Heap,K.In i->i.Ns mainGlobals L->AL P w K L i CX k R fd [x] sp) (t:∀(s:P_)(u:S_),BindsTo s fd ⟨[u],[]⟩ [(x,u)])
  (X:∀H:Hp,Only H->SqL K H a (ns.map V.int)->sp [.ref a] H (λv _=>v=.bl true) λ_ _ _=>False)
  (S:∀H e j,CX [] H c (λ_ _ _=>False) e j->False) :
  codeAny (model P w) callerA (.call (.ref R) ⟨[.ref a],[]⟩) (λr j=>r=.ok (.ret (.bool true))/\OldK c.heap j.heap/\j.os=c.os/\AllBare j.gens) c:=by
 have rv:=Qz hi;have I:=hi.length;have p:∀H:Hp,Only H->SqL K H a (ns.map V.int)->HOk P w H c.heap->(∀b,H b≠none->b=a)->(H a≠none->K.lookup a=none) ->
   codeAny (model P w) callerA (.call (.ref R) ⟨[.ref a],[]⟩) (λr j=>r=.ok (.ret (.bool true))/\OldK c.heap j.heap/\j.os=c.os/\AllBare j.gens) c:=by
  intro H hO hS E hA hK;have f:∀{b:R_}{o:Obj},c.heap.get? b=some o->H b=none->(Sf c.heap H).get? b=some o:=λe n=>hidT_get e n;have aa:∀{b:R_}{o:Obj}{A:Array DictEntry}{y:Nat},c.heap.get? b=some o->o.data=.dict A y->H b=none:=λ{b o A y} e d=>by
   cases q:H b with
   |none=>rfl
   |some u =>
    have Q:b=a:=hA b (by rw[q];simp);subst Q;rw[O]at e;cases e;have d':Data.seq vs.toArray _=Data.dict A y:=d;cases d'
  have l:∀{b:R_}{m:C_},c.heap.Ns b m->(Sf c.heap H).Ns b m:=λ{b m} ⟨o,A,y,e,d,r⟩=>⟨o,A,y,f e (aa e d),d,r⟩
  have B:K.In (Sf c.heap H):=λb o e=>f (KX b o e) (by
   cases q:H b with
   |none=>rfl
   |some u =>
    have Q:b=a:=hA b (by rw[q];simp);subst Q;rw[hK (by rw[q];simp)]at e;cases e)
  have hM:Mod K L (Sf c.heap H):=⟨B,l D,⟨Y,l g,T⟩,let ⟨mc,h1,h2⟩:=C;⟨mc,l h1,h2⟩⟩
  have e0:Ow P w K L (Sf c.heap H) callerA [] c H:=⟨Z,hM,λb o e=>of_hidT e,Nat.le_of_eq (Yv _ _),trivial,λb g=>absurd (show b∈([]:H_)from g) A6,E,.of_eq hg⟩
  refine A6c ((F _ B (l D)).run callerA [] c H ⟨[.ref a],[]⟩ [.ref a] [.ref a] _ _ hr e0 (t c (.ref a)) (.cons Z .nil) (X H hO hS)) λr j h=>?_;cases r with
  |error e=>exact(S H e j h).elim
  |ok fl =>
   cases fl with
   |next=>exact False.elim h
   |brk=>exact False.elim h
   |cont=>exact False.elim h
   |ret u =>
    obtain⟨v,H',M,bare,un,G,r',q⟩:=h;have q':v=.bl true:=q;subst q';obtain rfl:u=Value.bool true:=r';refine⟨Z,OldK.of_keep λb o e=>?_,M,bare⟩;cases q:H b with
    |none=>exact un.keep b o e q (by intro z;exact absurd (show b∈([]:H_)from z) A6) A6
    |some u =>
     rcases hO b with z|⟨ob,xs,z⟩
     .rw[q]at z;cases z
     .have z2:=un.frzs b ob _ z;obtain⟨e1,_⟩:=E b _ z;obtain⟨e2,_⟩:=G b _ z2;rw[e]at e1;cases e1;exact e2
 cases U:K.lookup a with
 |some o =>
  have e:=KX a o U;rw[O]at e;cases e;refine p (λ_=>none) (λ_=>.inl Z) (.inr ⟨_,vs.toArray,_,U,Z,Z,Z,by rw[F3,I];exact hl,by simpa using rv⟩) (λb u z=>by have N:(none:Option HO)=some u:=z;cases N) (λb z=>absurd Z z) λz=>absurd Z z
 |none =>
  refine p (λb=>if b=a then some (.frz {cls:=.type "list",data:=.seq vs.toArray} (.lst (ns.map V.int)))else none) (λb=>?_) (.inl (.inr ⟨{cls:=.type "list",data:=.seq vs.toArray},K2 Z⟩)) (λb u z=>?_) (λb z=>?_) λ_=>U
  .by_cases g:b=a
   .exact .inr ⟨_,_,K2 g⟩
   .exact .inl (X9 g)
  .by_cases g:b=a
   .have N:=(K2 g).symm.trans z;cases N;subst g;exact⟨O,by rw[B8];exact hl,vs,_,rv,O⟩
   .have N:=(X9 g).symm.trans z;cases N
  .by_cases g:b=a
   .exact g
   .exact absurd (X9 g) z
theorem VB{l:W.OpenLaw}{n k:Nat}{q:N_}{m:K_}{O:(Str->Option Value)->Heap->Prop}{M:World->Heap->Prop}{d:DefRec}{K:Params->W.Frag}{CX:World->CXT}{sp:World->Sp}{x:Str}
  (hn:l.most=some n) (D:n<=sizeLine) (B:d.params.defaults=[]) (hr:Dl k callerA)
  (U:∀(w:Q_)(h:T_),M w h->(K w.params).In h)
  (F:∀(w:Q_)(p:C_)(y:R_)(h:T_),(K w.params).In h->h.Ns mainGlobals p->p d.name=some (.ref y) ->
   ∃z:FuncData,(∀(s:P_)(u:S_),BindsTo s z ⟨[u],[]⟩ [(x,u)]) /\
    ∀c:Heap,(K w.params).In c->c.Ns mainGlobals p->AL l.prog w (K w.params) p c (CX w) k y z [x] (sp w))
  (E:∀(w:Q_)(H:Hp)(a:R_)(ns:I_),ns.length<=n->Only H->SqL (K w.params) H a (ns.map V.int)->sp w [.ref a] H (λv _=>v=.bl true) λ_ _ _=>False)
  (A:∀(w:Q_)(H:Hp)(s:P_)(e:S_)(I:P_),CX w [] H s (λ_ _ _=>False) e I->False) :
  W.WalkO q m O M l.row.toRowW d [] (λf vs=>PySem.call f vs):=by
 refine Att.Um hn B λw N t p mb y o pm cd P a vs ns G Y ho hd aa C r j i hg=>?_;have L:=U w _ Y;obtain⟨z,X,Q⟩:=F w p y _ L G.T.g C;exact law_call L G.T.g G.T.b G.T.builtins G.T.nolimit hg r j (D0 i D) hr Q X (λH R S=>E w H a ns i R S) λH e I=>A w H t e I
end L2
namespace L2
open PySem PySem.Spec PyProof.Rows
def Be(s:Stmt)(j:Nat):Stmt:=match s with
|.ClassDef _ _ _ body _ _ _ _ _ _ _=>body.getD j (.Pass ⟨0,0,0,0⟩)
|_=>.Pass ⟨0,0,0,0⟩
def Nb(s:Stmt):Arguments:=match s with
|.FunctionDef _ a _ _ _ _ _ _ _ _=>a
|_=>{posonlyargs:=[],args:=[],vararg:=none,kwonlyargs:=[],kw_defaults:=[],kwarg:=none,defaults:=[]}
def LD(s:Stmt):List Stmt:=match s with
|.FunctionDef _ _ b _ _ _ _ _ _ _=>b
|_=>[]
def Al(s:Stmt):Scope:=match s with
|.FunctionDef _ _ _ _ _ _ sc _ _ _=>sc
|_=>{kind:=.function,names:=[],isGenerator:=false,isCoroutine:=false}
abbrev CX0:CXT:=λ_ _ _ _ _ _=>False
abbrev E0:XK:=λ_ _ _=>False
theorem Aq{X:Cx}:GE CX0 X E0:=λ_ _ _ _ _ _ _ h=>h.elim
structure Fun(K:O_)(x qual:Str)(st:Stmt)(f:R_)(fd:E_):Prop where
ex:∃(oc:S_)(od:Option Addr)(kV doc pm:S_)(an:Option Addr)(cdv ct:S_)(osl:Array (Option Value)),
 fd=W.fnOf x qual (Nb st) (LD st) (Al st) .none kV doc pm an cdv ct/\K.lookup f=some ⟨oc,od,.func fd,osl⟩/\W.codeIn K cdv qual=true
kp:keepIn K (.ref f)=true
section
variable{P:N_}{w:Q_}{K:O_}{mg:C_}{base:T_}
theorem Fun.ok{x b:Str}{e:Stmt}{f:R_}{j:E_}{N ps:K_}{k:Nat}{sp:Sp}(F:Fun K x b e f j)(S:Au N ps (Al e))(len:∀vs H Q E,sp vs H Q E->vs.length=ps.length)
  (d:∀(c:S_)(A:Around)(a:List Env)(s:P_)(H:Hp)(vs:List V)(Q:VK)(E:XK),Dl k (A.deeper (envOfC b (Al e) s.heap.objs.size f c))->sp vs H Q E ->
   ∃t,PSs (YD CX0 P w K mg base N b (Al e) f c A a s H E).nox (LD e) t/\t {nx:=λ_ l=>Q .non l,rt:=Q} (NZ N vs) H):AL P w K mg base CX0 (k+1) f j ps sp:=by
 obtain⟨v,y,kV,m,z,r,c,u,p,rfl,o,g⟩:=F.ex;refine fn_of o g S len λA a s H vs Q E n i=>?_;obtain⟨t,h,q⟩:=d c A a s H vs Q E n i;exact⟨t,h.nox,q⟩
theorem Fun.binds{x a:Str}{d:Stmt}{f:R_}{j:E_}{ps:K_}(F:Fun K x a d f j)
  (h:∀(kV c i:S_)(e:Option Addr)(b g:S_)(us:F_),us.length=ps.length->bindArgs (W.fnOf x a (Nb d) (LD d) (Al d) .none kV c i e b g) ⟨us,[]⟩=pure (ps.zip us)):CN K j ps []:=by
 obtain⟨n,o,kV,c,i,e,b,g,l,rfl,m,k⟩:=F.ex;exact .all (h kV c i e b g)
theorem Vq {x a:Str} {e:Stmt} {f:R_} {m:S_} {n h:Option Addr} {g:Array (Option Value)} {kV d j b i:S_} (l:K.lookup f=some ⟨m,n,.func (W.fnOf x a (Nb e) (LD e) (Al e) .none kV d j h b i),g⟩)
 (c:W.codeIn K b a=true) (k:keepIn K (.ref f)=true):Fun K x a e f (W.fnOf x a (Nb e) (LD e) (Al e) .none kV d j h b i):=⟨⟨m,n,kV,d,j,h,b,i,g,Z,l,c⟩,k⟩
end
theorem EC{A:Around}{k:Nat}(a:Dl k A):A.units+1<cLine:=F7 (Nat.add_le_add_left (by decide:1<=64) _) a.units
section
variable{X:Cx}
theorem pv(i:Nat){x:Str}{pos:Pos}(b:X.N[i]?=some x:=by rfl)(d:Vis X.env.scope x:=by first|exact Or.inl rfl|exact Or.inr O_9|exact Or.inr (Or.inr rfl))(c:(x==("__debug__" : Str))=false:=by decide)
 (a:(x==("__classdict__" : Str))=false:=by decide):PE X (.Name x pos) (GR i):=pe_var b d c a
end
theorem AY{A B:Prop}(h:B):if false=true then A else B:=by
 rw[X9 D5];exact h
theorem BY{A B:Prop}(h:A):if true=true then A else B:=by
 rw[K2 rfl];exact h
theorem Ip{c A B:Prop}[Decidable c](a:c->A)(b:¬c->B):if c then A else B:=by
 by_cases h:c
 .rw[K2 h];exact a h
 .rw[X9 h];exact b h
theorem Wr{c A B:Prop}[Decidable c](a:c)(h:B):if(!decide c)=true then A else B:=by
 rw[K0 a];exact AY h
def AA(H H':Hp):Prop:=∀b o,H b=some o->H' b=some o
theorem AA.refl(H:Hp):AA H H:=λ_ _ h=>h
theorem AA.trans{H d e:Hp}(a:AA H d)(b:AA d e):AA H e:=λc o h=>b c o (a c o h)
theorem AA.seq{K:O_}{H b:Hp}{a:R_}{xs:List V}(e:AA H b)(h:SqL K H a xs):SqL K b a xs:=by
 rcases h with (h|⟨o,h⟩)|h
 .exact .inl (.inl (e _ _ h))
 .exact .inl (.inr ⟨o,e _ _ h⟩)
 .exact .inr h
def WM(a D:R_)(h:T_):Prop:=∃o,h.get? a=some o/\o.cls=.ref D/\∃vs,o.data=.fields vs/\vs[2]?=some .none
theorem WM.not{a D:R_}{h:T_}(x:WM a D h):∃o,h.get? a=some o/\o.cls=.ref D/\notCls o=true:=by
 obtain⟨o,e,c,vs,d,_⟩:=x;exact⟨o,e,c,by unfold notCls;rw[d]⟩
def isExc(a D:R_):HO:=.ext (WM a D)
theorem Inv.track{X:Cx}{d:A_}{σ:St}{H:Hp}{s:P_}{a:R_}{o:HO}(I:Inv X d σ H s)(h:H a=none)(f:X.s₀.heap.get? a=none)(k:X.base.get? a=none)(g:X.env.locals≠a)(i:∀x c,X.env.cells.lookup x=some c->c≠a)
  (j:∀p,p∈X.pn++d->p.1≠a) (l:∀b,b∈X.fs->b≠a) (new:BQ X.prog X.w (upd H a o) s.heap a o):Inv X d σ (upd H a o) s:=by
 have ne:∀b u,H b=some u->b≠a:=λb u q z=>by rw[z,h]at q;cases q
 refine⟨I.ok,I.os,I.bare,⟨I.base.keep,I.base.slot,λb u q n x=>?_,I.base.there,λb xs q=>?_,λb u v q=>?_,λb ps q=>?_⟩,I.loc,I.cell,?_,λx c q=>?_,λp z=>?_,λb u q=>?_,I.len⟩
 .rw[Aw (λz=>by rw[z,f]at q;cases q)];exact I.base.free b u q n x
 .have z:=I.base.tups b xs q;rw[Aw (ne _ _ z)];exact z
 .have z:=I.base.frzs b u v q;rw[Aw (ne _ _ z)];exact z
 .obtain⟨m,z⟩:=I.base.tbls b ps q;exact⟨m,by rw[Aw (ne _ _ z)];exact z⟩
 .rw[Aw g];exact I.free
 .rw[Aw (i x c q)];exact I.freeC x c q
 .obtain⟨e,n,r⟩:=I.pin p z;exact⟨e,by rw[Aw (j p z)];exact n,r⟩
 .by_cases z:b=a
  .subst z;rw[Af]at q;cases q;exact new
  .rw[Aw z]at q;exact(I.hok b u q).stay (λc v _ r=>r) (λc r=>by rw[Aw (ne _ _ r)];exact r) λc xs r=>by rw[Aw (ne _ _ r)];exact r
section
variable{X:Cx}{tg:Expr}
def Its(x:Str):It:=⟨λi _=>i<x.cps.size,λi H v H'=>H'=H/\∃c,x.cps[i]?=some c/\v=.str ⟨#[c]⟩,λi _=>i=x.cps.size⟩
theorem SN{P:N_}{w:Q_}{K:O_}(it:R_)(x:Str)(t:Tok)(T:String)(O:["enumerate","zip","dict_itemiterator","dict_reverseitemiterator","odict_iterator","itertools.zip_longest","itertools.pairwise"].contains T=false)
  (W:∀A:Around,A.handled=none->Walks P w A it [it] [it] x.cps.size (SignAt x) (λi h=>h.IsStrIter it T x t i))
  (g:∀(A:Around)(i:Nat)(s:P_)(Q:B_)(E:B_),s.heap.IsStrIter it T x t i->Q (.ref it) s->wpAny (model P w) A (pyIter (.ref it)) Q E s):Qv P w K tg (Its x) [it] it (λi h=>h.IsStrIter it T x t i) where
 mem:=by simp
 obj:=λi h j b f=>by
  have e:b=it:=by simpa using f
  subst e;obtain⟨o,e,c,d⟩:=j;exact⟨o,e,λv z=>by rw[d]at z;cases z⟩
 keep:=λi h h' ⟨o,e,r⟩ k=>⟨o,k it A6 o e,r⟩
 item:=by
  intro X C L B D i a s σ H E I m j G;subst C L B;obtain⟨n,p,N,q,f4,y⟩:=m it A6;refine(W X.A (I.ok.hd D)).item i s _ _ G j λv h' tk R l kk=>?_;obtain⟨c,u,F,rfl⟩:=R;have M:Inv X a σ H {s with heap:=h',toks:=tk}:=I.turned (λb o f e=>kk b o (by simpa using f) e) n p q f4 y;obtain⟨o,e,S,U⟩:=id l;exact⟨_,Z,TY (s:={s with heap:=h',toks:=tk}) e S U O ⟨.str ⟨#[c]⟩,H,M,⟨u,Z⟩,⟨Z,c,F,Z⟩,l,λb f=>(m b f).1⟩⟩
 done:=by
  intro X C L B D i a s σ H E I m j G;subst C L B;obtain⟨n,p,N,q,f4,y⟩:=m it A6;have z:i=x.cps.size:=G;subst z;exact(W X.A (I.ok.hd D)).done s _ _ j λh' tk kk=>⟨Z,I.turned (λb o f e=>kk b o (by simpa using f) e) n p q f4 y⟩
 self:=g
def iStr(tl:TE):TI:=fun σ H R=>tl σ H λv H1=>∃x,v=.str x/\R (Its x) H1
theorem Zv{l:Expr}{tl:TE}(n:PE X l tl):PI X tg l (iStr tl):=by
 intro a s σ H R I h;refine thn (n a s σ H _ I h) λv c k=>?_;obtain⟨y,f,d,r,p⟩:=k;obtain⟨x,rfl,q⟩:=p;obtain⟨t,rfl⟩:=r;have fp:∀b,b∈[c.heap.objs.size]->DL X a f b:=λb m=>by
  have e:b=c.heap.objs.size:=by simpa using m
  subst e;exact d.fpOk (C1 _) (d.hok.fresh (C1 _))
 cases j:x.cps.all (· < 128)with
 |true =>
  refine wpAny_pyIter_ascii j ?_;refine⟨c.heap.objs.size,[c.heap.objs.size],_,_,f,Z,d.kept (t':=c.toks) λb o e=>C4 _ e,SN _ x t "str_ascii_iterator" A3 (λA g=>Walks.strAscii g _ x t) (λ_ _ _ _ _ i h=>wpAny_pyIter_striter_ascii i h),⟨_,D9 _ Z,Z,Z⟩,fp,q⟩
 |false =>
  refine wpAny_pyIter_wide j ?_;refine⟨c.heap.objs.size,[c.heap.objs.size],_,_,f,Z,d.kept (t':=c.toks) λb o e=>C4 _ e,SN _ x t "str_iterator" A3 (λA g=>Walks.strWide g _ x t) (λ_ _ _ _ _ i h=>wpAny_pyIter_striter_wide i h),⟨_,D9 _ Z,Z,Z⟩,fp,q⟩
theorem for_str{x:Str}{g:TG}{k:TS}{D:Nh}{σ:St}{H:Hp}(b:Nat->St->Hp->Prop)(l:b 0 σ H)
  (q:∀i c σ H,x.cps[i]?=some c->b i σ H->g (.str ⟨#[c]⟩) σ H fun d h=>k {D with nx:=b (i+1),ct:=b (i+1),bk:=D.nx} d h) (o:∀σ H,b x.cps.size σ H->D.nx σ H) :
  ∃W:Nat->Nat->St->Hp->Prop,(∃m,W 0 m σ H)/\∀i m σ H,W i m σ H ->
   ((Its x).stop i H/\D.nx σ H)\/((Its x).go i H/\∃N:St->Hp->Prop,(∀σ' a,N σ' a->∃j,j<m/\W (i+1) j σ' a)/\∀v a,(Its x).yld i H v a->g v σ a fun d h=>k {D with nx:=N,ct:=N,bk:=D.nx} d h):=by
 refine⟨λi m σ H=>m=x.cps.size-i/\i<=x.cps.size/\b i σ H,⟨x.cps.size,by simp,L5 _,l⟩,?_⟩;rintro i m σ H ⟨rfl,s,p⟩;by_cases f:i<x.cps.size
 .refine .inr ⟨f,b (i+1),fun σ' a r=>⟨x.cps.size-(i+1),by lia,Z,f,r⟩,λv a y=>?_⟩;obtain⟨e,c,n,rfl⟩:=y;subst e;exact q i c σ _ n p
 .have e:i=x.cps.size:=by lia
  subst e;exact .inl ⟨Z,o σ H p⟩
theorem Iu:GP X (.type "int") (λxs H Q=>∃x n,xs=[.str x]/\PySem.intText? x=some n/\x.length<=640/\Q (.int n) H):=by
 intro a s σ H xs us Q I r h;obtain⟨x,n,rfl,c,b,q⟩:=h;cases r with
 |cons d e =>
  cases e;obtain⟨t,rfl⟩:=d;exact W.KIN.call_text c b ⟨.int n,H,I.tok _,⟨_,Z⟩,q⟩
theorem Ul(F:X.calm=true):GP X (.builtin "all") (λxs H Q=>∃(p:R_)(bs:List Bool),xs=[.ref p]/\SqL X.K H p (bs.map V.bl)/\Q (.bl (bs.all id)) H):=by
 intro d s σ H xs us Q I r h;obtain⟨p,bs,rfl,G,q⟩:=h;cases r with
 |cons L M =>
  cases M;cases(show _=Value.ref p from L);obtain⟨a,m,pl,R⟩:=I.list G;have l:p≠s.heap.objs.size:=J9 (by obtain⟨o,n,e,_⟩:=pl;exact F1 e);refine call_all_walk (A5a pl.isList ?_);have f:∀(i:Nat) v,a[i]?=some v->∃b,bs[i]?=some b/\v=.bool b:=λi v e=>by
   cases g:bs[i]? with
   |none =>
    have:a[i]?=none:=m.none_of (by rw[C0,g];rfl);rw[e]at this;cases this
   |some b =>
    obtain⟨u,t,N⟩:=m.get (i:=i) (x:=V.bl b) (by rw[C0,g];rfl);rw[e]at t;cases t;exact⟨b,Z,N⟩
  refine⟨s.heap.objs.size,_,_,_,_,_,λi=>bs.getD i true,Z,Walks.list (A:=X.A.in1) (I.ok.hd F) s.heap.objs.size p l a.toArray,⟨⟨_,D9 _ Z,Z,Z⟩,?_⟩,?_,?_⟩
  .exact pl.isList.at λo e=>C4 _ e
  .intro i v O y P D j;obtain⟨b,g,rfl⟩:=f i v (by simpa using D);have B:bs.getD i true=b:=by rw[F0,g];rfl
   have j:y (bs.getD i true) O:=j;rw[B]at j;exact A1f j
  .intro h' tk kk;have w:Inv X d σ H {s with heap:=h',toks:=tk}:=I.kept λb o e=>kk b o (by intro z;exact J9 (F1 e) (by simpa using z)) (C4 _ e);have len:a.toArray.size=bs.length:=by rw[F3,<-m.length,B8]
   have C:(List.range a.toArray.size).all (λi=>bs.getD i true)=bs.all id:=by
    rw[len,S1,S9,S9];constructor
    .intro z b E;obtain⟨i,k,e⟩:=Z0.mp E;have:=z i (J6.mpr k);rw[F0,C6 k,e]at this;exact this
    .intro z i k;have c:=J6.mp k;rw[F0,C6 c];exact z _ (S8 c)
   rw[C];exact⟨.bl _,H,w,Z,q⟩
end
structure ExcF(K:O_)(D:R_):Prop where
hd:hasDictIn K D=true
ga:findIn K (.ref D) "__getattribute__" = some (some (.builtin "BaseException.__getattribute__"))
gt:findIn K (.ref D) "__getattr__" = some none
cl:findIn K (.ref D) "__class__" = some (some (.builtin "object.__class__"))
sp:specialIn K (.builtin "object.__class__") "__get__" = some (some (.builtin "getset_descriptor.__get__"))
tk:takesIn K (.builtin "object.__class__")=some true
mo:mroIn K D (.type "object")=some true
mb:mroIn K D (.type "BaseException")=some true
section
variable{K:O_}{prog:N_}{w:Q_}{A:Around}{E:B_}{s:P_}{a D:R_}{o:Obj}
open PySem.W Builtin Builtin.ObjectAttr Builtin.Getset_descriptor
theorem exc_find{M:Model}{h:T_}(X:K.In h)(f:ExcF K D):Looks M h (find (.ref a) (.ref D) "__class__") (.bind (.builtin "getset_descriptor.__get__") (.builtin "object.__class__")) :=
 (looks_findIn X f.cl).andThen ((looks_specialIn X f.sp).andThen ((show Looks M h (dataDescriptor? (some (.builtin "object.__class__")) (some (.builtin "getset_descriptor.__get__"))) (some (.builtin "getset_descriptor.__get__",.builtin "object.__class__"))from(looks_takesIn X f.tk).andThen .now).andThen (Looks.tag .now)))
theorem exc_get{R:Result->Shared->Prop}{i:S_}(X:K.In s.heap)(f:ExcF K D)(c:s.heap.get? a=some o)(b:o.cls=.ref D)(e:R (.ok (.ret (.ref D))) s) :
  codeAny (model prog w) A (.call (.builtin "getset_descriptor.__get__") ⟨[.builtin "object.__class__",.ref a,i],[]⟩) R s:=by
 obtain⟨h,g,d,t,l⟩:=s;have j:Looks (model prog w) h (typeOf (.ref a)) (.ref D):=b▸(Looks.ld c).andThen .now;have k:=looks_mroIn (M:=model prog w) X f.mo;refine codeAny_call_builtin KF.slot_gs.plain KF.entry_gs (KF.slot_gs.check _ _ _ _ _ _ _ _ KF.type_class (KF.args_gs _ _ _) ?_);unfold Builtin.«getset_descriptor.__get__» descrGet;rw[dga_obj];refine X8 (K3 ?_);unfold descrGetter descrCheckInstance descrNameAndClass isInstance;simp only[KF.owner_class]
 repeat lk
 refine⟨Code.quiet_builtin _ A1,codeAny_builtin KF.entry_class ?_⟩;unfold Builtin.«object.__class__» shownTypeOf
 repeat lk
 exact e
theorem Yz{Q:Option Value->Shared->Prop}(X:K.In s.heap)(f:ExcF K D)(j:s.heap.get? a=some o)(i:o.cls=.ref D)(q:Q (some (.ref D)) {s with toks:=s.toks+1}) :
  wpAny (model prog w) A (getAttr? (.ref a) "__class__") Q E s:=by
 obtain⟨h,g,d,t,u⟩:=s;have e:Looks (model prog w) h (typeOf (.ref a)) (.ref D):=i▸(Looks.ld j).andThen .now;have k:=looks_findIn (M:=model prog w) X f.ga;have l:=looks_findIn (M:=model prog w) X f.gt;have m:=exc_find (M:=model prog w) (a:=a) X f;have n:Looks (model prog w) h (isInstance (.ref a) (.type "BaseException")) true:=e.andThen (looks_mroIn X f.mb);unfold getAttr? getAttrBy? getAttrBy;refine X8 (wpAny_mkText (X8 (A4d (A3g (X8 (e.at (X8 (k.at ?_))))))));dsimp only;have r:(Value.builtin "BaseException.__getattribute__" == Value.builtin "object.__getattribute__")=false:=by decide +kernel
 rw[X9 (by rw[r,Bool.and_false];exact D5)];unfold getAttrByItsOwn hookBefore;rw[K2 (by rfl)];refine X8 (l.at ?_);refine X8 (A4d (A3g ?_));unfold callGetattribute;rw[X9 A3];unfold boundAndCalled;refine X8 (wpAny_of_eq (PySem.F.excAttr_ValueError.ga.bind (.ref a)) ?_);dsimp only;refine wpAny_call (codeAny_call_builtin PySem.F.excAttr_ValueError.ga.plain PySem.F.entry_bexc_ga ?_);have p:builtinKind "BaseException.__getattribute__" = some .slot:=by decide +kernel
 have c:splitId "BaseException.__getattribute__" = some ("BaseException","__getattribute__"):=by decide +kernel
 have b:=PySem.F.args_bexc_ga (.ref a) (.str "__class__" t);simp only[checkBuiltinCall,p,c];refine X8 (n.at ?_);rw[X9 A3];refine wpAny_of_eq (a:=()) b ?_;unfold Builtin.«object.__getattribute__»;dsimp only at m
 repeat ((fail_if_success (with_reducible show wpAny _ _ (call _ _) _ _ _));lk)
 refine wpAny_call (exc_get (s:=⟨h,g,d,t+1,u⟩) X f j i ?_);dsimp only
 repeat lk
 exact q
end
inductive TyX(K:O_)(H:Hp):V->Value->Prop where
|of {x:V} {t:S_} (h:NX K H x t):TyX K H x t
|exc {a D:R_} (e:H a=some (isExc a D)) (f:ExcF K D):TyX K H (.ref a) (.ref D)
theorem kitx_exc{K:O_}{a D:R_}(f:ExcF K D):W.KitX K (.ref a) (.ref D) (λh=>∃o,h.get? a=some o/\o.cls=.ref D/\notCls o=true) where
 ty:=λM h X ⟨o,e,c,_⟩=>c▸(W.Looks.ld e).andThen .now
 it:=λM h X _=>by
  obtain⟨m,b,_⟩:=any_some f.hd;unfold clsIn at b;split at b
  .rename_i l d' d j g;intro s u t w k q;unfold isType loadHead;exact X8 (wpAny_loadPart (k _ _ (X _ _ g)) (K3 q))
  .cases b
 ne:=λh r v p n x X i=>by
  obtain⟨m,b,_⟩:=any_some f.hd;refine X7.mpr λq=>?_;have e:D=r:=Value.ref.inj (beq_iff_eq.mp q);subst e;unfold clsIn at b;split at b
  .rename_i l d' d j g;have z:=(X _ _ g).symm.trans i;cases z
  .cases b
 ca:=λX ⟨o,e,c,_⟩ k=>Yz X f e c k
def clsV:V->Option Value
|.ty n=>some (.type n)
|.ref C=>some (.ref C)
|_=>none
theorem GC{X:Cx}:GP X (.builtin "isinstance") (λxs H Q=>∃x c d t b,xs=[x,c]/\clsV c=some d/\TyX X.K H x t/\kitOne X.K t d=some b/\Q (.bl b) H):=by
 intro j s σ H xs us Q I r h;obtain⟨x,c,d,t,b,rfl,g,ty,i,q⟩:=h;cases r with
 |@cons _ u _ _ l y =>
  cases y with
  |@cons _ v _ _ k o =>
   cases o;have m:v=d:=by
    cases c with
    |ty n=>cases g;exact k
    |ref C=>cases g;exact k
    |_=>cases g
   subst m;cases ty with
   |of ty=>exact Yt I l ty i λtk=>⟨.bl b,H,I.tok tk,Z,q⟩
   |@exc a D e f =>
    cases(show u=Value.ref a from l);obtain⟨p,_,_⟩:=(show BQ X.prog X.w H s.heap a (isExc a D)from I.hok a _ e)
    exact A1c (kitx_exc f) I.kIn (WM.not p) i (λz=>nomatch z) λtk=>⟨.bl b,H,I.tok tk,Z,q⟩
section
variable{X:Cx}{c:Expr}{a b:List Stmt}{tc:TT}{t u:TS}{pos:Pos}
def tIfJ(J:St->Hp->Prop)(tc:TT)(t u:TS):TS:=λD σ H=>(tc σ H λb H1=>if b=true then t {D with nx:=J} σ H1 else u {D with nx:=J} σ H1)/\∀σ' H',J σ' H'->D.nx σ' H'
theorem SP.nx{d:A_}{D:Nh}{J:St->Hp->Prop}{f:Flow}{s:P_}(k:∀σ' e,J σ' e->D.nx σ' e)(h:SP X d {D with nx:=J} f s):SP X d D f s:=by
 cases f with
 |next=>obtain⟨σ',e,I,q⟩:=h;exact⟨σ',e,I,k _ _ q⟩
 |brk=>exact h
 |cont=>exact h
 |ret v=>exact h
theorem ps_ifJ(J:St->Hp->Prop)(o:PT X c tc)(m:PSs X a t)(n:PSs X b u):PS X (.If c a b pos) (tIfJ J tc t u):=by
 intro e s σ H D I h;obtain⟨h,k⟩:=h;refine wpAny_If (thn (o e s σ H _ I h) λd l ⟨g,i,j⟩=>?_);cases d with
 |true=>exact thn (m e l σ g _ i j) λf p q=>q.nx k
 |false=>exact thn (n e l σ g _ i j) λf p q=>q.nx k
end
def Ir(env:Env)(a:List (Str×Addr))(x:Str×NameKind):List (Str×Addr):=if(x.2==NameKind.free)=true then(x.1,(env.cells.lookup x.1).getD 0)::a else a
def Vu(env:Env)(l:List (Str×NameKind)):List (Str×Addr):=l.foldl (Ir env) []
theorem Vr{α β:Type}{l:List α}{f:α->β->Sem (ForInStep β)}{g:β->α->β}(h:∀x∈l,∀b,f x b=pure (.yield (g b x))):∀b,forIn l b f=pure (l.foldl g b):=by
 induction l with
 |nil=>intro b;rfl
 |cons x l c =>
  intro b;rw[List.forIn_cons,h x C9,pure_bind];exact c (λy a=>h y (C8 _ a)) _
theorem PY{d:Scope}{b:Env}(h:∀y∈d.names,y.2=.free->∃c,b.cells.lookup y.1=some c):closureFor d b=pure (Vu b d.names):=by
 simp only[closureFor];rw[Vr (g:=Ir b) (λx l c=>by
  obtain⟨n,k⟩:=x;by_cases i:k=.free
  .subst i;obtain⟨a,f⟩:=h _ l rfl;have e:cellOf b n=pure a:=by unfold cellOf;rw[show b.cells.lookup n=some a from f]
   simp only[Ir,beq_self_eq_true,A5b,e,show b.cells.lookup n=some a from f,Option.getD_some];rfl
  .have j:(k==NameKind.free)=false:=by simpa using i
   simp only[Ir,j,O7,A4a])]
 rfl
theorem QV(b:Env){y:Str}{c:R_}:∀(l:List (Str×NameKind))(a:List (Str×Addr)),(l.foldl (Ir b) a).lookup y=some c->a.lookup y=some c\/((y,NameKind.free)∈l/\c=(b.cells.lookup y).getD 0)
|[],a,h=>.inl h
| (n,k)::r,a,h=>by
 rw[T4]at h;rcases QV b r _ h with z|⟨z,e⟩
 .unfold Ir at z;split at z
  .rename_i g;have d:k=.free:=by simpa using g
   rw[P9]at z;split at z
   .rename_i i;have f:y=n:=by simpa using i
    subst f d;exact .inr ⟨C9,(K7 z).symm⟩
   .exact .inl z
  .exact .inl z
 .exact .inr ⟨C8 _ z,e⟩
theorem Ug(b:Env){y:Str}:∀(l:List (Str×NameKind))(a:List (Str×Addr)),(∃c,a.lookup y=some c)->∃c,(l.foldl (Ir b) a).lookup y=some c
|[],_,h=>h
| (n,k)::r,a,h=>by
 rw[T4];refine Ug b r _ ?_;unfold Ir;split
 .rw[P9];split
  .exact⟨_,Z⟩
  .exact h
 .exact h
theorem Vt(b:Env){y:Str}:∀(l:List (Str×NameKind))(a:List (Str×Addr)),(y,NameKind.free)∈l->∃c,(l.foldl (Ir b) a).lookup y=some c
|[],_,h=>by simp at h
| (n,k)::r,a,h=>by
 rw[T4];rcases C3.mp h with e|h
 .cases e;refine Ug b r _ ⟨(b.cells.lookup y).getD 0,?_⟩;unfold Ir;simp only[beq_self_eq_true,A5b,P9]
 .exact Vt b r _ h
theorem Pl{a:Env}{y:Str}:∀{b:List (Str×NameKind)},(∀z∈b,z.2≠.cell) ->
 ((b.map λ(n,k)=>if(k==NameKind.free && a.scope.kind==.function && a.kindOf n==some .cell)then(n,NameKind.cell)else(n,k)).lookup y=some .cell \/
  (b.map λ(n,k)=>if(k==NameKind.free && a.scope.kind==.function && a.kindOf n==some .cell)then(n,NameKind.cell)else(n,k)).lookup y=some .free)->(y,NameKind.free)∈b
|[],_,h=>by simp at h
| (n,k)::r,hc,h=>by
 have e:=@Pl a y r (λz g=>hc z (C8 _ g));have h':List.lookup y ((if(k==NameKind.free && a.scope.kind==.function && a.kindOf n==some .cell)=true then(n,NameKind.cell)else(n,k))::(r.map λ(n,k)=>if(k==NameKind.free && a.scope.kind==.function && a.kindOf n==some .cell)then(n,NameKind.cell)else(n,k)))=some .cell \/
  List.lookup y ((if(k==NameKind.free && a.scope.kind==.function && a.kindOf n==some .cell)=true then(n,NameKind.cell)else(n,k))::(r.map λ(n,k)=>if(k==NameKind.free && a.scope.kind==.function && a.kindOf n==some .cell)then(n,NameKind.cell)else(n,k)))=some .free:=h
 clear h;by_cases d:(k==NameKind.free && a.scope.kind==.function && a.kindOf n==some .cell)=true
 .rw[K2 d]at h';have f:k=.free:=by
   simp only[Q0,A6h]at d;exact d.1.1
  simp only[P9]at h';cases c:y==n with
  |true =>
   have:y=n:=by simpa using c
   subst this f;exact C9
  |false =>
   rw[c]at h';exact C8 _ (e h')
 .rw[X9 d]at h';simp only[P9]at h';cases c:y==n with
  |true =>
   rw[c]at h';have:y=n:=by simpa using c
   subst this;rcases h' with z|z
   .exact absurd (K7 z) (hc (y,k) C9)
   .cases K7 z;exact C9
  |false =>
   rw[c]at h';exact C8 _ (e h')
theorem MH{a:Env}{y:Str}:∀{b:List (Str×NameKind)},b.lookup y=some .free ->
 ((b.map λ(n,k)=>if(k==NameKind.free && a.scope.kind==.function && a.kindOf n==some .cell)then(n,NameKind.cell)else(n,k)).lookup y=some .cell \/
  (b.map λ(n,k)=>if(k==NameKind.free && a.scope.kind==.function && a.kindOf n==some .cell)then(n,NameKind.cell)else(n,k)).lookup y=some .free)
|[],h=>by simp at h
| (n,k)::r,h=>by
 have e:=@MH a y r;show List.lookup y ((if(k==NameKind.free && a.scope.kind==.function && a.kindOf n==some .cell)=true then(n,NameKind.cell)else(n,k))::(r.map λ(n,k)=>if(k==NameKind.free && a.scope.kind==.function && a.kindOf n==some .cell)then(n,NameKind.cell)else(n,k)))=some .cell \/
  List.lookup y ((if(k==NameKind.free && a.scope.kind==.function && a.kindOf n==some .cell)=true then(n,NameKind.cell)else(n,k))::(r.map λ(n,k)=>if(k==NameKind.free && a.scope.kind==.function && a.kindOf n==some .cell)then(n,NameKind.cell)else(n,k)))=some .free
 rw[P9]at h;by_cases d:(k==NameKind.free && a.scope.kind==.function && a.kindOf n==some .cell)=true
 .rw[K2 d];simp only[P9];cases c:y==n with
  |true=>exact .inl Z
  |false=>rw[c]at h;exact e h
 .rw[X9 d];simp only[P9];cases c:y==n with
  |true=>rw[c]at h;exact .inr h
  |false=>rw[c]at h;exact e h
section
variable{prog:N_}{w:Q_}{A:Around}{R:Result->Shared->Prop}{s:P_}
abbrev VF(ifs:List Expr)(env:Env):Sem Bool:=forIn ifs true λc r=>if r=true then do let ok <-isTrue c env (eval c env);pure (ForInStep.yield ok)else pure (ForInStep.yield r)
theorem Ud{q a i:Expr}{t:List Expr}{c:Scope}{pos:Pos}{it p:S_}{b:Env}(I:Nat->Shared->Prop)
  (turn:∀n s,I n s->wpAny (model prog w) A (pyNext it) (λr d=>match r with
   |none=>R (.ok .next) d
   |some v=>wpAny (model prog w) A (letOwnedTupleGo a it v) (λ_ j=>wpAny (model prog w) A (assign a b v) (λ_ k =>
     wpAny (model prog w) A (VF t b) (λok e =>
      if ok=true then wpAny (model prog w) A (eval q b) (λx l =>
       wpAny (model prog w) A (call (.builtin "list.append") [p,x]) (λ_ o=>∃m,m<n/\I m o) (λ_ _=>False) l) (λ_ _=>False) e
      else ∃m,m<n/\I m e) (λ_ _=>False) k) (λ_ _=>False) j) (λ_ _=>False) d) (λ_ _=>False) s)
  (n:Nat) (h:I n s):codeAny (model prog w) A (.compLoop (.ListComp q [⟨a,i,t,0⟩] c pos) 0 it p b) R s:=by
 refine codeAny_loop Z I (λn s B=>?_) n h;show wpAny _ A ((compTurn (.ListComp q [⟨a,i,t,0⟩] c pos) 0 it p b).onRaise (λx=>do noteFrame x b;theTreesLotGoes x)) _ _ s;refine wpAny_noted ?_;rw[compTurn_list];refine X8 (A7d (X8 (A2b (turn n s B) (λr d f=>?_) λ_ _ h'=>h'.elim)));cases r with
 |none=>exact K3 f
 |some v =>
  refine X8 (A2b f (λ_ j h₀=>?_) λ_ _ h'=>h'.elim);refine X8 (A2b h₀ (λ_ k u=>X8 (A2b u (λok e g=>?_) λ_ _ h'=>h'.elim)) λ_ _ h'=>h'.elim);cases ok with
  |false=>exact K3 ⟨Z,g⟩
  |true =>
   exact X8 (X8 (A2b g (λx l y=>X8 (A2b y (λ_ o z=>K3 (K3 ⟨Z,z⟩)) λ_ _ h'=>h'.elim)) λ_ _ h'=>h'.elim))
end
def Ov(cs:J_)(σ:St):St:=cs.map λj=>(σ[j]?).getD none
def cxC(X:Cx)(scope:Scope)(N:K_)(s:P_)(H:Hp)(ex:H_):Cx :=
 {X with N:=N,s₀:=s,H₀:=H,env:=compEnvC scope (Vu X.env scope.names) s.heap.objs.size X.env,outer:=X.stack,stack:=X.stack,ex:=ex,fn:=λ_=>false,pn:=[],xe:=λ_ _=>False}
def PTs(X:Cx)(ifs:List Expr)(t:TT):Prop :=
 ∀(pins:A_)(s:P_)(σ:St)(H:Hp)(Q:Bool->Hp->Prop),Inv X pins σ H s->t σ H Q->wpAny (model X.prog X.w) X.A (VF ifs X.env) (TP X pins σ Q) X.xe s
def tYes:TT:=λ_ H Q=>Q true H
theorem BL{X:Cx}:PTs X [] tYes:=λ_ _ _ H _ I h=>wpAny_tests_nil ⟨H,I,h⟩
theorem pts_one{X:Cx}{c:Expr}{t:TT}(h:PT X c t):PTs X [c] t:=λa s σ H Q I q=>wpAny_tests_one (h a s σ H Q I q)
structure BE(X:Cx)(scope:Scope)(N:K_)(k:Nat)(cs:J_):Prop where
cell:∀y∈scope.names,y.2≠.cell
kind:scope.kind=.function
names:∀y∈scope.names,y.2=.local->scope.names.lookup y.1=some .local
free:∀y∈scope.names,y.2=.free->X.env.scope.names.lookup y.1=some .cell\/X.env.scope.names.lookup y.1=some .free
len:N.length=k+cs.length
cap:∀j,j<cs.length->∃x,N[k+j]?=some x/\X.N[cs.getD j 0]?=some x/\scope.names.lookup x=some .free
def GS(k:Nat)(cs:J_)(g:TG)(tc:TT)(te:TE)(J:It)(σ:St)(H1:Hp)(fin:List V->Hp->Prop):Prop :=
 ∃W:Nat->Nat->List V->Hp->Prop,(∃m,W 0 m [] H1)/\∀i m acc H,W i m acc H ->
  (J.stop i H/\fin acc H)\/(J.go i H/\∃Nx:List V->Hp->Prop,(∀acc' H',Nx acc' H'->∃m',m'<m/\W (i+1) m' acc' H')/\∀x H',J.yld i H x H'->g x (List.replicate k none++Ov cs σ) H' fun σ2 H2=>(∃ts:St,ts.length=k/\σ2=ts++Ov cs σ)/\acc.length<sizeLine /\
   tc σ2 H2 λb H3=>if b=true then te σ2 H3 λv H4=>Nx (acc++[v]) H4 else Nx acc H3)
def tComp(k:Nat)(cs:J_)(wi:TI)(g:TG)(tc:TT)(te:TE):TE:=fun σ H Q=>wi σ H λJ H1=>GS k cs g tc te J σ H1 λacc H2=>∀p,H2 p=none->Q (.ref p) (upd H2 p (.lst acc))
section
variable{X:Cx}{tg iter elt:Expr}{ifs:List Expr}{scope:Scope}{pos:Pos}{wi:TI}{g:TG}{tc:TT}{te:TE}{N:K_}{k:Nat}{cs:J_}
theorem Inv.block{t:A_}{σ:St}{H:Hp}{s C:P_}{G:H_}(S:BE X scope N k cs)(I:Inv X t σ H s)
  (f:∀b∈G,DL X t H b/\∃o,s.heap.get? b=some o) (P:C.os=s.os) (hg:AllBare C.gens) (E:∀b o,s.heap.get? b=some o->C.heap.get? b=some o) (hn:∃m,C.heap.Ns s.heap.objs.size m) :
  Inv (cxC X scope N s H G) [] (List.replicate k none++Ov cs σ) H C:=by
 have A:∀{x c},(Vu X.env scope.names).lookup x=some c->X.env.cells.lookup x=some c:=λ{x c} h=>by
  rcases QV X.env _ _ h with z|⟨z,e⟩
  .simp at z
  .obtain⟨a,ha⟩:=I.ok.has x (S.free _ z Z);rw[e,ha];rfl
 have Q:∀b,b∈G->b≠s.heap.objs.size:=λb r z=>by
  obtain⟨_,o,B⟩:=f b r;exact absurd (F1 B) (by rw[z];exact O9 _)
 refine⟨⟨I.ok.mod,S.kind,I.ok.glob,I.ok.blt,C1 _,λx y c K d=>I.ok.inj x y c (A K) (A d),λx hx=>?_,λx c h _=>(nomatch h),I.ok.hd,I.ok.frames,.inl Z,λb r=>⟨Q b r,λx c h=>?_⟩,I.bs,?_,λb o e r=>?_,λb r hf=>?_,I.stack,I.stkFree⟩,
  P,hg,Un.kept E,?_,λx c h=>?_,I.hok.fresh (C1 _),λx c h=>I.freeC x c (A h),λp hp=>absurd (show p∈([]:A_)from hp) A6,I.hok.kept E,?_⟩
 .exact Vt X.env _ _ (Pl S.cell hx)
 .exact(f b r).1.2.2.2.2.1 x c (A h)
 .exact D0 I.ok.bsz I.sz
 .rcases(f b r).1.2.2.2.1 with z|z
  .exact I.ok.noex b o e z
  .exact absurd (F5 (F1 e) (D0 I.ok.bsz z)) (O9 _)
 .rcases C3.mp (I.stkSub b hf)with z|z
  .exact(f b r).1.2.1 z
  .exact(f b r).1.2.2.1 z
 .obtain⟨m,hm⟩:=hn;obtain⟨mo,aa,O⟩:=I.loc;refine⟨m,hm,λi x v K d h3=>?_⟩;have hi:k<=i:=by
   by_cases z:i<k
   .rw[N5 (by simpa using z),W1,K2 z]at d;cases d
   .lia
  obtain⟨j,rfl⟩:∃j,i=k+j:=⟨i-k,by lia⟩
  rw[L6 A6,O0,Nat.add_sub_cancel_left]at d;unfold Ov at d;rw[C0]at d;have M:j<cs.length:=by
   by_cases z:j<cs.length
   .exact z
   .rw[S3 A0]at d;cases d
  obtain⟨x',R,T,F⟩:=S.cap j M;rw[show N[k+j]?=some x from K]at R;cases R;rw[C6 M]at d;have n:(σ[cs[j]]?).getD none=some v:=K7 d;rw[F0,C6 M]at T;have Y:σ[cs[j]]?=some (some v):=by
   cases q:σ[cs[j]]? with
   |none=>rw[q]at n;cases n
   |some w=>rw[q]at n;rw[show w=some v from n]
  have W:=S.free (x,.free) (A1h F) Z;obtain⟨u,ru,l⟩:=O _ x v T Y (.inr W);refine⟨u,ru,?_⟩;rcases l with ⟨z,_⟩|⟨_,c,L,z⟩
  .have z':X.env.scope.names.lookup x=some .local:=z;rcases W with q|q<;>· rw[z']at q;cases q
  .obtain⟨c',U⟩:=Vt X.env _ [] (A1h F);have V:=A U;rw[L]at V;cases V;obtain⟨o,B,D⟩:=z;exact .inr ⟨MH F,c,U,o,E _ _ B,D⟩
 .obtain⟨v,o,B,D⟩:=I.cell x c (A h);exact⟨v,o,E _ _ B,D⟩
 .show(List.replicate k none++Ov cs σ).length=N.length;rw[C5,O0,S.len];unfold Ov;rw[B8]
end
structure TurnQ(C:Cx->Prop)(P:N_)(w:Q_)(K:O_)(tg:Expr)(J:It)(fp:H_)(it:R_)(tn:Nat->Heap->Prop):Prop where
obj:∀i h,tn i h->∀b∈fp,∃o,h.get? b=some o/\∀v,o.data≠.cell v
keep:∀i h h',tn i h->(∀b∈fp,∀o,h.get? b=some o->h'.get? b=some o)->tn i h'
item:∀(X:Cx),C X->X.prog=P->X.w=w->X.K=K->∀(i:Nat)(pins:A_)(s:P_)(σ:St)(H:Hp)(E:B_),Inv X pins σ H s->(∀b∈fp,DL X pins H b)->tn i s.heap->J.go i H ->
 wpAny (model P w) X.A (pyNext (.ref it)) (λr s1=>∃u,r=some u/\wpAny (model P w) X.A (letOwnedTupleGo tg (.ref it) u) (λ_ s2=>∃x H',Inv X pins σ H' s2/\Bh x u/\J.yld i H x H'/\tn (i+1) s2.heap/\∀b∈fp,H' b=none) E s1) E s
done:∀(X:Cx),C X->X.prog=P->X.w=w->X.K=K->∀(i:Nat)(pins:A_)(s:P_)(σ:St)(H:Hp)(E:B_),Inv X pins σ H s->(∀b∈fp,DL X pins H b)->tn i s.heap->J.stop i H ->
 wpAny (model P w) X.A (pyNext (.ref it)) (λr s1=>r=none/\Inv X pins σ H s1) E s
self:∀(A:Around)(i:Nat)(s:P_)(Q:B_)(E:B_),tn i s.heap->Q (.ref it) s->wpAny (model P w) A (pyIter (.ref it)) Q E s
theorem Qv.q{P:N_}{w:Q_}{K:O_}{a:Expr}{J:It}{fp:H_}{it:R_}{b:Nat->Heap->Prop}(T:Qv P w K a J fp it b):TurnQ (λX=>X.calm=true) P w K a J fp it b :=
 ⟨T.obj,T.keep,λX c p w k=>T.item X p w k c,λX c p w k=>T.done X p w k c,T.self⟩
section
variable{X:Cx}{tg iter elt:Expr}{ifs:List Expr}{scope:Scope}{pos:Pos}{wi:TI}{g:TG}{tc:TT}{te:TE}{N:K_}{k:Nat}{cs:J_}{fin:List V->Hp->Prop}
theorem YE{l:A_}{σ:St}{E:Hp}{sD s1:P_}{it D:R_}{fp:H_}{tn:Nat->Heap->Prop}{J:It}{n0:Nat}{RR:Result->Shared->Prop}{Cq:Cx->Prop}(hc:∀s H ex,Cq (cxC X scope N s H ex))(S:BE X scope N k cs)
  (hg:∀s H ex,PG (cxC X scope N s H ex) tg g) (ht:∀s H ex,PTs (cxC X scope N s H ex) ifs tc) (he:∀s H ex,PE (cxC X scope N s H ex) elt te)
  (ID:Inv X l σ E sD) (hD:sD.heap.get? D=some {cls:=.type "list",data:=.seq ([]:F_).toArray n0}) (ag:X.s₀.heap.objs.size<=D) (fD:DL X l E D) (aj:D∉fp)
  (T:TurnQ Cq X.prog X.w X.K tg J fp it tn) (st:tn 0 sD.heap) (f2:∀b∈fp,DL X l E b) (a:GS k cs g tc te J σ E fin)
  (au:s1.os=sD.os) (as:AllBare s1.gens) (hk:∀b o,sD.heap.get? b=some o->s1.heap.get? b=some o) (hn:∃m,s1.heap.Ns sD.heap.objs.size m)
  (ar:∀(B:Hp)(d:List V)(Y:P_),fin d B->B D=none->Inv X l σ (upd B D (.lst d)) Y->(∃m,Y.heap.Ns sD.heap.objs.size m)->DL X l (upd B D (.lst d)) sD.heap.objs.size->RR (.ok .next) Y) :
  codeAny (model X.prog X.w) X.A (.compLoop (.ListComp elt [⟨tg,iter,ifs,0⟩] scope pos) 0 (.ref it) (.ref D) (compEnvC scope (Vu X.env scope.names) sD.heap.objs.size X.env)) RR s1:=by
 obtain⟨W,⟨m0,w0⟩,turn⟩:=a;have U:∀b,b∈D::fp->∃o,sD.heap.get? b=some o:=λb a=>by
  rcases C3.mp a with rfl|z
  .exact⟨_,hD⟩
  .obtain⟨o,e,_⟩:=T.obj _ _ st b z;exact⟨o,e⟩
 have t:∀b∈D::fp,DL X l E b/\∃o,sD.heap.get? b=some o:=λb a=>⟨by
  rcases C3.mp a with rfl|z
  .exact fD
  .exact f2 b z,U b a⟩
 have Q:∀b,b∈D::fp->b≠sD.heap.objs.size:=λb a z=>by
  obtain⟨o,e⟩:=U b a;exact absurd (F1 e) (by rw[z];exact O9 _)
 have ak:∀b,b∈D::fp->b∉frs X.stack:=λb a hf=>by
  rcases C3.mp (ID.stkSub b hf)with z|z
  .exact(t b a).1.2.1 z
  .exact(t b a).1.2.2.1 z
 have I0:=ID.block S t au as hk hn;have ac:=I0.ok;have I:∀b,b∈D::fp->∀x c,(Vu X.env scope.names).lookup x=some c->c≠b:=λb a x c h=>(ac.exf b a).2 x c h;have L:∀{B:Hp}{pl:A_},(∀b∈fp,B b=none)->(∀p∈pl,p.1=D)->∀b∈fp,DL (cxC X scope N sD E (D::fp)) pl B b:=λhn G b a =>
  ⟨hn b a,Q b (.tail _ a),ak b (.tail _ a),.inl (.tail _ a),I b (.tail _ a),λp av z=>aj (by
   have:=G p av;rw[<-this,z];exact a)⟩
 refine Ud (λn O=>∃(i:Nat)(d:List V)(f:F_)(P:Nat)(B:Hp),Inv (cxC X scope N sD E (D::fp)) [] (List.replicate k none++Ov cs σ) B O/\tn i O.heap/\(∀b∈fp,B b=none)/\B D=none/\d.length<=sizeLine/\AS d f /\
  O.heap.get? D=some {cls:=.type "list",data:=.seq f.toArray P}/\W i n d B) ?_ m0
  ⟨0,[],[],n0,E,I0,T.keep _ _ _ st (λb _ o e=>hk b o e),λb a=>(f2 b a).1,fD.1,L5 _,.nil,hk _ _ hD,w0⟩
 rintro n s3 ⟨i,d,f,P,H3,I3,al,af,aa,ai,v3,e3,w3⟩;have ad:Inv (cxC X scope N sD E (D::fp)) [(D,{cls:=.type "list",data:=.seq f.toArray P})] (List.replicate k none++Ov cs σ) H3 s3:=I3.pins_of λp G=>by
  rw[D4]at G;subst G;exact⟨e3,aa,Q D (.head _),ak D (.head _),λv z=>by cases z⟩
 have one:∀p∈[((D,{cls:=.type "list",data:=.seq f.toArray P}):Addr×Obj)],p.1=D:=λp G=>by
  rw[D4]at G;subst G;rfl
 rcases turn i n d H3 w3 with ⟨am,qf⟩|⟨go,Nx,ah,step⟩
 .refine thn (T.done (cxC X scope N sD E (D::fp)) (hc _ _ _) Z Z Z i _ s3 _ H3 _ ad (L af one) al am) λr Y M=>?_;obtain⟨hr,I4⟩:=M;subst hr;have IX:Inv X l σ H3 Y:=ID.call' (ch:=D::fp) I4.os I4.base I4.hok I4.bare λb a=>⟨(t b a).1.2.2.2.1,(t b a).1.2.1,(t b a).1.2.2.2.2.1,(t b a).1.2.2.2.2.2⟩
  have p4:=(I4.pin (D,{cls:=.type "list",data:=.seq f.toArray P}) (by show _∈[]++[_];simp)).1;have IY:Inv X l σ (upd H3 D (.lst d)) Y:=by
   refine IX.track aa (P1 ag) (P1 (D0 ID.ok.bsz ag)) (K6 fD.2.1) fD.2.2.2.2.1 fD.2.2.2.2.2 (λb a z=>fD.2.2.1 (z▸a)) ?_;exact⟨ai,f,P,v3,p4⟩
  refine ar H3 d Y qf aa IY ?_ (ID.fpOk (C1 _) ?_)
  .obtain⟨m,hm,_⟩:=I4.loc;exact⟨m,hm⟩
  .rw[Aw (K6 (Q D (.head _)))];exact I4.free
 .refine thn (T.item (cxC X scope N sD E (D::fp)) (hc _ _ _) Z Z Z i _ s3 _ H3 (λ_ _=>False) ad (L af one) al go) λr Y M=>?_;obtain⟨u,hr,h4⟩:=M;subst hr;refine thn h4 λ_ s5 M=>?_;obtain⟨x,H5,I5,r5,y5,ab,aq⟩:=M;have an:=I5.pinned (L aq one) (T.obj _ _ ab);refine thn (hg sD E (D::fp) _ s5 _ H5 x u _ an r5 (step x H5 y5)) λ_ s6 M=>?_;obtain⟨R,H6,I6,⟨ts,tl,ae⟩,ay,q6⟩:=M;refine thn (ht sD E (D::fp) _ s6 R H6 _ I6 q6) λb s7 M=>?_;obtain⟨H7,I7,q7⟩:=M;have weak:∀{pl:A_}{B:Hp}{O:P_},Inv (cxC X scope N sD E (D::fp)) pl R B O->Inv (cxC X scope N sD E (D::fp)) [] (List.replicate k none++Ov cs σ) B O:=λ{pl B O} J=>by
   refine(J.weak (σ':=List.replicate k none++Ov cs σ) ?_ λj v e=>?_).pins_of λp G=>absurd G A6
   .rw[ae,C5,C5,O0,tl]
   .by_cases z:j<k
    .rw[N5 (by simpa using z),W1,K2 z]at e;cases e
    .rw[L6 (by rw[O0];lia),O0]at e;rw[ae,L6 A0,tl];exact e
  have C:∀{pl:A_}{σ':St}{B:Hp}{O:P_},Inv (cxC X scope N sD E (D::fp)) (pl++NB fp s5.heap) σ' B O->tn (i+1) O.heap/\∀b∈fp,B b=none:=λ{pl σ' B O} J =>
   ⟨T.keep _ _ _ ab λb a o e=>(J.pin (b,o) (M0 _ (M0 _ (Jp a e)))).1,λb a=>by
    obtain⟨o,e,_⟩:=T.obj _ _ ab b a;exact(J.pin (b,o) (M0 _ (M0 _ (Jp a e)))).2.1⟩
  cases b with
  |false =>
   have aw:Nx d H7:=by simpa using q7
   obtain⟨m',hm,w7⟩:=ah _ _ aw;rw[X9 D5];have p7:=I7.pin (D,{cls:=.type "list",data:=.seq f.toArray P}) (M0 _ (U4 _ (D4.mpr Z)));exact⟨m',hm,i+1,d,f,P,H7,weak I7,(C I7).1,(C I7).2,p7.2.1,ai,v3,p7.1,w7⟩
  |true =>
   rw[K2 rfl]at q7;rw[K2 rfl];refine thn (he sD E (D::fp) _ s7 R H7 _ I7 q7) λy s8 M=>?_;obtain⟨v,H8,I8,r8,q8⟩:=M;obtain⟨m',hm,w8⟩:=ah _ _ q8;have p8:=I8.pin (D,{cls:=.type "list",data:=.seq f.toArray P}) (M0 _ (U4 _ (D4.mpr Z)));have ax:=v3.length;refine A4g F.slot_list_append ⟨_,p8.1,Z⟩ F.entry_list_append (F.args_list_append_2 _ _) (PySem.list_append D f.toArray P y (by rw[F3];lia)) ⟨p8.1,?_⟩;have q:=PySem.IsL.update p8.1 (·.push y);have eq:f.toArray.push y=(f++[y]).toArray:=by simp
   dsimp only at q;rw[eq]at q;have ao:Inv (cxC X scope N sD E (D::fp)) ([]++NB fp s5.heap) R H8 s8:=I8.pins_of λp G=>I8.pin p (M0 _ (M0 _ G));have I9:=ao.turned (t':=s8.toks) (it:=D) (h':=s8.heap.update D (Obj.mapSeq (·.push y))) (λb o a e=>(W8 s8.heap (Obj.mapSeq (·.push y)) (K6 a)).trans e) p8.2.1 (Q D (.head _)) (.inl (.head _)) (I D (.head _))
    (λp G z=>aj (by
     have:=(QG (fp:=fp) (h:=s5.heap) (p:=p) (by simpa[cxC] using G)).1;rw[z]at this;exact this))
   refine⟨m',hm,i+1,d++[v],f++[y],_,H8,weak I9,(C I9).1,(C I9).2,p8.2.1,?_,v3.append (.cons r8 .nil),q,w8⟩;rw[C5,S2];lia
theorem PX{d:A_}{σ:St}{B:Hp}{a:P_}{it:R_}{fp:H_}{I:Nat->Heap->Prop}{J:It}{RR:Value->Addr->Result->Shared->Prop}{E:B_}{Cq:Cx->Prop}(U:∀s H q,Cq (cxC X scope N s H q))(S:BE X scope N k cs)
  (Y:∀s H q,PG (cxC X scope N s H q) tg g) (ht:∀s H q,PTs (cxC X scope N s H q) ifs tc) (W:∀s H q,PE (cxC X scope N s H q) elt te)
  (t:Inv X d σ B a) (T:TurnQ Cq X.prog X.w X.K tg J fp it I) (M:I 0 a.heap) (P:∀b∈fp,DL X d B b) (R:GS k cs g tc te J σ B fin)
  (F:∀(D C:R_)(r:Hp)(c:List V)(u:P_),fin c r->r D=none->Inv X d σ (upd r D (.lst c)) u->(∃m,u.heap.Ns C m)->DL X d (upd r D (.lst c)) C->RR (.ref D) C (.ok .next) u) :
  wpAny (model X.prog X.w) X.A (newList []) (λc f=>wpAny (model X.prog X.w) X.A (newFunctionEnv scope X.env.globals (Vu X.env scope.names) [] X.env.qual none .none (some X.env)) (λl x =>
   codeAny (model X.prog X.w) X.A (.compStart (.ListComp elt [⟨tg,iter,ifs,0⟩] scope pos) 0 (.ref it) c {l with scope:=relabel scope X.env}) (RR c l.locals) x) E f) E a:=by
 refine A3h (wpAny_newFunctionEnv S.cell (by intro y hy;simp at hy) (λn h i=>?_) S.kind);dsimp only at h i⊢;have j:∀b o,a.heap.get? b=some o->(a.heap.push {cls:=.type "list",dict:=none,data:=.seq ([]:F_).toArray}).get? b=some o:=λb o e=>C4 _ e;have O:Inv X d σ B {a with heap:=a.heap.push {cls:=.type "list",dict:=none,data:=.seq ([]:F_).toArray} }:=t.kept (t':=a.toks) j;have Q:(a.heap.push {cls:=.type "list",dict:=none,data:=.seq ([]:F_).toArray}).get? a.heap.objs.size=some {cls:=.type "list",data:=.seq ([]:F_).toArray}:=D9 _ Z;have G:a.heap.objs.size∉fp:=λz=>by
  obtain⟨o,e,_⟩:=T.obj _ _ M _ z;exact absurd (F1 e) (O9 _)
 have v:I 0 (a.heap.push {cls:=.type "list",dict:=none,data:=.seq ([]:F_).toArray}):=T.keep _ _ _ M λb _ o e=>j b o e;have L:∀b o,(a.heap.push {cls:=.type "list",dict:=none,data:=.seq ([]:F_).toArray}).get? b=some o->n.get? b=some o:=λb o e=>i.extBut b o (J9 (F1 e)) (C4 _ e);have p:∀f:Shared,f={a with heap:=n,toks:=a.toks+([]:List (Str×Value)).length} ->
   codeAny (model X.prog X.w) X.A (.compLoop (.ListComp elt [⟨tg,iter,ifs,0⟩] scope pos) 0 (.ref it) (.ref a.heap.objs.size) (compEnvC scope (Vu X.env scope.names) (a.heap.push {cls:=.type "list",dict:=none,data:=.seq ([]:F_).toArray}).objs.size X.env))
    (RR (.ref a.heap.objs.size) (a.heap.push {cls:=.type "list",dict:=none,data:=.seq ([]:F_).toArray}).objs.size) f:=by
  rintro f rfl;exact YE (sD:={a with heap:=a.heap.push {cls:=.type "list",dict:=none,data:=.seq ([]:F_).toArray} }) U S Y ht W O Q t.sz (t.fpOk (C1 _) t.fresh) G T v P R Z t.bare L ⟨_,h⟩ λr c u=>F _ _ r c u
 exact codeAny_compStart_list (p _ Z) (T.self _ 0 _ _ _ (T.keep _ _ _ v λb _ o e=>L b o e) (p _ Z))
theorem Ck(z:X.calm=true)(S:BE X scope N k cs)(G:PI X tg iter wi)(F:∀s H d,PG (cxC X scope N s H d) tg g)(O:∀s H d,PTs (cxC X scope N s H d) ifs tc)(B:∀s H d,PE (cxC X scope N s H d) elt te)
  (M:∀x,foldedSetIterable iter X.env x=pure x:=by intro _;rfl):PE X (.ListComp elt [⟨tg,iter,ifs,0⟩] scope pos) (tComp k cs wi g tc te):=by
 intro a s σ H Q I h;rw[eval_ListComp];refine wpAny_comprehension_free (use:=none) Z M (PY λy P E=>I.ok.has _ (S.free y P E)) S.kind S.names (thn (G a s σ H _ I h) λv s1 t=>thn t λR s2 u=>?_);obtain⟨it,fp,tn,J,H2,rfl,n,T,j,r,i⟩:=u;refine PX (RR:=λc C=>compPost (model X.prog X.w) X.A X.xe none (EP X a σ Q) c C) (Cq:=λX=>X.calm=true) (λ_ _ _=>z) S F O B n T.q j r i λD C l c W V U p L f=>?_;obtain⟨m,K⟩:=L;refine⟨m,K,λh' Y=>⟨.ref D,upd l D (.lst c),?_,Z,V D U⟩⟩;exact p.turned (t':=W.toks) (it:=C) (λb o i e=>(Y.2 b i).trans e) f.1 f.2.1 f.2.2.2.1 f.2.2.2.2.1 f.2.2.2.2.2
def YW(i k:Nat)(cs:J_)(wi:TI)(g:TG)(tc:TT)(te:TE):TS:=λD σ H=>wi σ H λJ H1=>GS k cs g tc te J σ H1 λacc H2=>∀p,H2 p=none->D.nx (σ.set i (some (.ref p))) (upd H2 p (.lst acc))
theorem Jb{i:Nat}{y:Str}{l d:Pos}(hc:X.calm=true)(Y:X.N.Nodup)(u:X.N[i]?=some y)(p:X.env.scope.names.lookup y=some .local)(S:BE X scope N k cs)(hi:PI X tg iter wi)
  (hg:∀s H n,PG (cxC X scope N s H n) tg g) (ht:∀s H n,PTs (cxC X scope N s H n) ifs tc) (he:∀s H n,PE (cxC X scope N s H n) elt te)
  (E:swapsWith (.ListComp elt [⟨tg,iter,ifs,0⟩] scope pos) (some (.Name y l)) d.line X.env=pure true:=by rfl) (hs:∀x,foldedSetIterable iter X.env x=pure x:=by intro _;rfl) :
  PS X (.Assign [.Name y l] (.ListComp elt [⟨tg,iter,ifs,0⟩] scope pos) d) (YW i k cs wi g tc te):=by
 intro c s σ H D I h;rw[exec_Assign_Name_used _ _ _ _ E];refine X8 (A7d (X8 ?_));show wpAny _ X.A (do let _ <-comprehension (.ListComp elt [⟨tg,iter,ifs,0⟩] scope pos) scope X.env _ (newList []) false (eval iter X.env) (some (assign (.Name y l) X.env))) _ _ s;refine X8 (A2b (wpAny_comprehension_free (use:=some (assign (.Name y l) X.env)) (Q:=λ_ r=>SP X c D .next r) Z hs (PY λy p hf=>I.ok.has _ (S.free y p hf)) S.kind S.names
  (thn (hi c s σ H _ I h) λv s1 V=>thn V λaa s2 W=>?_)) (λ_ r hq=>K3 (K3 hq)) λ_ _ e=>e)
 obtain⟨it,fp,tn,J,H2,rfl,O,T,K,U,t⟩:=W;refine PX (RR:=λf C=>compPost (model X.prog X.w) X.A X.xe (some (assign (.Name y l) X.env)) (λ_ r=>SP X c D .next r) f C) (Cq:=λX=>X.calm=true) (λ_ _ _=>hc) S hg ht he O T.q K U t λL C M f s4 qf nD P hn j=>?_;obtain⟨m,hm⟩:=hn;show wpAny _ X.A (assign (.Name y l) X.env (.ref L)) _ _ _;refine wpAny_assign_Name (QC P Y u (.inl p) (v:=.ref L) Z (λs5 R B=>?_) (.inr p));obtain⟨a,sb,ha⟩:=B;have F:C≠a:=by
  rcases ha with z|z
  .rw[z];exact j.2.1
  .exact λq=>j.2.2.2.2.1 y a z q.symm
 refine⟨m,hm.sameBut sb F,λh' G=>⟨σ.set i (some (.ref L)),upd M L (.lst f),?_,qf L nD⟩⟩;exact R.turned (t':=s5.toks) (it:=C) (λb o t e=>(G.2 b t).trans e) j.1 j.2.1 j.2.2.2.1 j.2.2.2.2.1 j.2.2.2.2.2
end
section
variable{K:O_}{k:Nat}{cs:J_}{g:TG}{tc:TT}{te:TE}{σ:St}{H:Hp}{fin:List V->Hp->Prop}
abbrev Bt(k:Nat)(cs:J_)(g:TG)(tc:TT)(te:TE)(σ:St)(x:V)(acc:List V)(H:Hp)(Nx:List V->Hp->Prop):Prop :=
 g x (List.replicate k none++Ov cs σ) H fun σ2 H2=>(∃ts:St,ts.length=k/\σ2=ts++Ov cs σ)/\acc.length<sizeLine/\tc σ2 H2 λb H3=>if b=true then te σ2 H3 λv H4=>Nx (acc++[v]) H4 else Nx acc H3
theorem Dv{a:R_}{xs:List V}(c:Nat->List V->Hp->Prop)(j:c 0 [] H)(o:∀i b H,i<=xs.length->c i b H->SqL K H a xs)
  (r:∀i x b H,xs[i]?=some x->c i b H->Bt k cs g tc te σ x b H (c (i+1))) (l:∀b H,c xs.length b H->fin b H):GS k cs g tc te (Itl K a) σ H fin:=by
 refine⟨λi m b H=>m=xs.length-i/\i<=xs.length/\c i b H,⟨xs.length,by simp,L5 _,j⟩,?_⟩;rintro i m b H ⟨rfl,n,p⟩;have q:=o i b H n p;by_cases d:i<xs.length
 .refine .inr ⟨⟨xs,xs[i],q,by simp[d]⟩,c (i+1),λf h s=>⟨xs.length-(i+1),by lia,Z,d,s⟩,λx h y=>?_⟩;obtain⟨e,y⟩:=y;subst e;exact r i x b _ (y xs q) p
 .have e:i=xs.length:=by lia
  subst e;exact .inl ⟨⟨xs,q,C1 _⟩,l b H p⟩
theorem Sw{a:R_}{xs:List V}(c:Nat->List V->Hp->Prop)(j:c 0 [] H)(o:∀i b H,i<=xs.length->c i b H->SqT K H a xs)
  (r:∀i x b H,xs[i]?=some x->c i b H->Bt k cs g tc te σ x b H (c (i+1))) (l:∀b H,c xs.length b H->fin b H):GS k cs g tc te (Itt K a) σ H fin:=by
 refine⟨λi m b H=>m=xs.length-i/\i<=xs.length/\c i b H,⟨xs.length,by simp,L5 _,j⟩,?_⟩;rintro i m b H ⟨rfl,n,p⟩;have q:=o i b H n p;by_cases d:i<xs.length
 .refine .inr ⟨⟨xs,xs[i],q,by simp[d]⟩,c (i+1),λf h s=>⟨xs.length-(i+1),by lia,Z,d,s⟩,λx h y=>?_⟩;obtain⟨e,y⟩:=y;subst e;exact r i x b _ (y xs q) p
 .have e:i=xs.length:=by lia
  subst e;exact .inl ⟨⟨xs,q,C1 _⟩,l b H p⟩
theorem NV{lo:Int}{n:Nat}(c:Nat->List V->Hp->Prop)(h:c 0 [] H)(l:∀i a H,i<n->c i a H->Bt k cs g tc te σ (.int (lo+i)) a H (c (i+1)))(j:∀a H,c n a H->fin a H):GS k cs g tc te (Itr lo n) σ H fin:=by
 refine⟨λi m a H=>m=n-i/\i<=n/\c i a H,⟨n,by simp,L5 _,h⟩,?_⟩;rintro i m a H ⟨rfl,q,p⟩;by_cases b:i<n
 .refine .inr ⟨b,c (i+1),λd f o=>⟨n-(i+1),by lia,Z,b,o⟩,λx f y=>?_⟩;obtain⟨e,y⟩:=y;subst e y;exact l i a _ b p
 .have e:i=n:=by lia
  subst e;exact .inl ⟨C1 _,j a H p⟩
end
section
variable{prog:N_}{w:Q_}{A:Around}{E:B_}{s:P_}
theorem MP{I t:R_}{k:Nat}{vs:M_}{v:S_}{Q:B_}(c:s.heap.IsTupleIter I t k)(h:s.heap.IsTuple t vs)(i:vs[k]?=some v)
  (q:∀g,g.IsTupleIter I t (k+1)->Heap.SameBut I s.heap g->Q v {s with heap:=g}):wpAny (model prog w) A (Builtin.SmallTypes.nextOf (.ref I)) Q E s:=by
 obtain⟨l,b,d,a⟩:=id c;obtain⟨m,f,_,j,e⟩:=h;unfold Builtin.SmallTypes.nextOf;refine X8 (wpAny_callSpecial?_slot (name:=Str.ofString "__next__") c.typeIs A4b (A2e A4b c.typeIs F.entry_tuple_iterator_next ?_ (F.args_tuple_iterator_next_1 _)));show wpAny _ _ (field (.ref I) 0 >>= _) _ _ s;refine X8 (A2c b a (x:=.ref t) Z ?_);show wpAny _ _ (if(Value.ref t==Value.none)=true then _ else _) _ _ s;rw[X9 (λz:(Value.ref t==Value.none)=true=>D5 z)];show wpAny _ _ (field (.ref I) 1 >>= _) _ _ s;refine X8 (A2c b a (x:=.int k 0) Z ?_);show wpAny _ _ (seqItems? (.ref t) >>= _) _ _ s;refine X8 (A2f f e ?_);simp only[J7,i];refine X8 (A7a b a A6 (K3 ⟨v,Z,K3 (q _ ?_ (A5c ..))⟩));exact⟨_,Y6 _ b (Obj.isFreed_of_fields (A5e a _)),(Obj.cls_mapFields ..).trans d,by rw[A5e a];simp[rawInt]⟩
theorem NH{I t:R_}{k:Nat}{vs:M_}{Q:B_}(f:A.handled=none)(d:s.heap.IsTupleIter I t k)(j:s.heap.IsTuple t vs)(l:vs[k]?=none)
  (q:∀g e,Heap.ExtBut I s.heap g->(∃o,g.get? e=some o/\o.cls=.type "StopIteration")->E (.ref e) {s with heap:=g}):wpAny (model prog w) A (Builtin.SmallTypes.nextOf (.ref I)) Q E s:=by
 obtain⟨r,c,n,b⟩:=id d;obtain⟨u,i,_,p,h⟩:=j;unfold Builtin.SmallTypes.nextOf;refine X8 (wpAny_callSpecial?_slot (name:=Str.ofString "__next__") d.typeIs A4b (A2e A4b d.typeIs F.entry_tuple_iterator_next ?_ (F.args_tuple_iterator_next_1 _)));show wpAny _ _ (field (.ref I) 0 >>= _) _ _ s;refine X8 (A2c c b (x:=.ref t) Z ?_);show wpAny _ _ (if(Value.ref t==Value.none)=true then _ else _) _ _ s;rw[X9 (λz:(Value.ref t==Value.none)=true=>D5 z)];show wpAny _ _ (field (.ref I) 1 >>= _) _ _ s;refine X8 (A2c c b (x:=.int k 0) Z ?_);show wpAny _ _ (seqItems? (.ref t) >>= _) _ _ s;refine X8 (A2f i h ?_);simp only[J7,l];refine X8 (wpAny_rule (X8 (A7a c b A6 ?_)));show wpAny _ _ (newExc (.type "StopIteration") [] >>= _) _ _ _;refine X8 ?_;simp only[newExc,newTuple];refine X8 (A3h ?_ (by size_fits));refine X8 (m:=firstArgMember _ _) (wpAny_of_eq (a:=Value.none) (by first|rfl|(simp only[firstArgMember];rfl)) (A3h ?_ (by size_fits)));simp only[raiseNew];refine X8 (wpAny_handled ?_)
 first|rw[show A.in1.handled=none from f]|rw[f]
 refine X8 (K3 (wpAny_throw (q _ _ (((A5c ..).extBut.push _).push _) ⟨_,D9 _ Z,Z⟩)))
def CM:Bool->Heap->Addr->Addr->Nat->Prop
|true,h,I,l,k=>h.IsTupleIter I l k
|false,h,I,l,k=>h.IsListIter I l k
def Ee:Bool->Heap->Addr->Array Value->Prop
|true,h,l,vs=>h.IsTuple l vs
|false,h,l,vs=>h.IsList l vs
def SqX(K:O_):Bool->Hp->Addr->List V->Prop
|true,H,a,xs=>SqT K H a xs
|false,H,a,xs=>SqL K H a xs
theorem CM.move{b:Bool}{h g:T_}{I l:R_}{k:Nat}(x:CM b h I l k)(e:∀o,h.get? I=some o->g.get? I=some o):CM b g I l k:=by
 cases b with
 |true=>obtain⟨o,a,r⟩:=x;exact⟨o,e _ a,r⟩
 |false=>obtain⟨o,a,r⟩:=x;exact⟨o,e _ a,r⟩
theorem CM.there{b:Bool}{h:T_}{I l:R_}{k:Nat}(x:CM b h I l k):∃o,h.get? I=some o/\∀v,o.data≠.cell v:=by
 cases b with
 |true=>obtain⟨o,a,_,d⟩:=x;exact⟨o,a,λv z=>by rw[d]at z;cases z⟩
 |false=>obtain⟨o,a,_,d⟩:=x;exact⟨o,a,λv z=>by rw[d]at z;cases z⟩
theorem Ee.move{b:Bool}{h g:T_}{l:R_}{vs:M_}(x:Ee b h l vs)(e:∀o,h.get? l=some o->g.get? l=some o):Ee b g l vs:=by
 cases b with
 |true=>obtain⟨o,a,r⟩:=x;exact⟨o,e _ a,r⟩
 |false=>obtain⟨o,a,r⟩:=x;exact⟨o,e _ a,r⟩
theorem DQ{b:Bool}{I l:R_}{k:Nat}{vs:M_}{v:S_}{Q:B_}(a:CM b s.heap I l k)(c:Ee b s.heap l vs)(d:vs[k]?=some v)
  (q:∀g,CM b g I l (k+1)->Heap.SameBut I s.heap g->Q v {s with heap:=g}):wpAny (model prog w) A (Builtin.SmallTypes.nextOf (.ref I)) Q E s:=by
 cases b with
 |true=>exact MP a c d q
 |false=>exact wpAny_nextOf_list_item a c d q
theorem Gz{b:Bool}{I l:R_}{k:Nat}{vs:M_}{Q:B_}(a:A.handled=none)(c:CM b s.heap I l k)(d:Ee b s.heap l vs)(f:vs[k]?=none)
  (q:∀g e,Heap.ExtBut I s.heap g->(∃o,g.get? e=some o/\o.cls=.type "StopIteration")->E (.ref e) {s with heap:=g}):wpAny (model prog w) A (Builtin.SmallTypes.nextOf (.ref I)) Q E s:=by
 cases b with
 |true=>exact NH a c d f q
 |false=>exact wpAny_nextOf_list_end a c d f q
theorem Gj{b:Bool}{l:R_}{vs:M_}{Q:B_}(a:Ee b s.heap l vs)
  (q:∀g,CM b g s.heap.objs.size l 0->g.objs.size=s.heap.objs.size+1->(∀c o,s.heap.get? c=some o->g.get? c=some o)->Q (.ref s.heap.objs.size) {s with heap:=g}):wpAny (model prog w) A (pyIter (.ref l)) Q E s:=by
 cases b with
 |true=>exact wpAny_pyIter_tuple a (q _ ⟨_,D9 _ Z,Z,Z⟩ (Q4 ..) λc o e=>C4 _ e)
 |false=>exact A5a a (q _ ⟨_,D9 _ Z,Z,Z⟩ (Q4 ..) λc o e=>C4 _ e)
structure WN(z U O i j l m:R_):Prop where
nd:[z,U,O,i,j].Nodup
l:l∉[z,O,i,j]
m:m∉[z,O,i,j]
theorem YL{b c:Bool}{z U O i j l m:R_}{k:Nat}{xs ys:M_}{x y p q:S_}{Q:B_}(D:WN z U O i j l m)(L:IsZip s.heap z U O .none)(hU:IsPair s.heap U (.ref i) (.ref j))(hO:IsPair s.heap O p q)
  (hi:CM b s.heap i l k) (hj:CM c s.heap j m k) (hl:Ee b s.heap l xs) (hm:Ee c s.heap m ys) (hx:xs[k]?=some x) (hy:ys[k]?=some y)
  (fin:∀g,IsZip g z U O (rawInt s.heap.objs.size)->IsPair g O x y->CM b g i l (k+1)->CM c g j m (k+1)->IsPair g s.heap.objs.size x y->g.objs.size=s.heap.objs.size+1 ->
   (∀a o,a∉[z,O,i,j]->s.heap.get? a=some o->g.get? a=some o)->Q (.ref s.heap.objs.size) {s with heap:=g}) :
  wpAny (model prog w) A (Builtin.«zip.__next__» ⟨[.ref z],[]⟩) (λr s'=>∃v,r=.done (.ret v)/\Q v s') E s:=by
 obtain⟨nd,nl,nm⟩:=D;simp only[N8,C3,D8,A0g,A5d,R4,and_true,A4e]at nd nl nm;obtain⟨⟨zU,V,zi,zj⟩,⟨UO,Ui,Uj⟩,⟨W,X⟩,ij⟩:=nd;obtain⟨lz,lO,li,lj⟩:=nl;obtain⟨mz,mO,mi,mj⟩:=nm;show wpAny _ _ (field (.ref z) 2 >>= _) _ _ _;refine X8 (A2c L Z (x:=.bool false) Z ?_);show wpAny _ _ (field (.ref z) 3 >>= _) _ _ _;refine X8 (A2c L Z (x:=.ref U) Z (X8 (A2f hU Z ?_)));show wpAny _ _ (Builtin.SmallTypes.ownedTupleIsFree (.ref z) >>= _) _ _ _;refine X8 ?_;unfold Builtin.SmallTypes.ownedTupleIsFree;refine X8 (A2c L Z (x:=.none) Z (K3 ?_));simp only[A5b];refine X8 (wpAny_rule (X8 (A2c L Z (x:=.ref O) Z (X8 (A3d L A6 λh1 u C=>?_)))));replace u:IsZip h1 z U O .ellipsis:=u;refine X8 ?_;simp only[List.zipIdx_cons,List.zipIdx_nil,List.forIn_cons,List.forIn_nil];refine X8 (X8 (A7e ?_));show wpAny _ _ (Builtin.SmallTypes.nextOf (.ref i) >>= _) _ _ _;refine X8 (DQ (hi.move λo e=>C.extBut _ _ (K6 zi) e) (hl.move λo e=>C.extBut _ _ lz e) hx λh2 aa F=>K3 ?_);have I:IsPair h2 O p q:=F.extBut _ _ W (C.extBut _ _ (K6 V) hO);refine X8 (A2f I Z (X8 (A7b I λh3 t G=>?_)));replace t:IsPair h3 O x q:=t;refine X8 (wpAny_letGo (K3 (X8 (X8 (A7e ?_)))));show wpAny _ _ (Builtin.SmallTypes.nextOf (.ref j) >>= _) _ _ _;refine X8 (DQ (hj.move λo e=>G.extBut _ _ (K6 X) (F.extBut _ _ (K6 ij) (C.extBut _ _ (K6 zj) e))) (hm.move λo e=>G.extBut _ _ mO (F.extBut _ _ mi (C.extBut _ _ mz e))) hy λh4 ac N=>K3 ?_);have K:IsPair h4 O x q:=N.extBut _ _ X t;refine X8 (A2f K Z (X8 (A7b K λd h P=>?_)));replace h:IsPair d O x y:=h;refine X8 (wpAny_letGo (K3 (K3 (X8 (A2f h Z (X8 (wpAny_newTuple ?_)))))));have sz:d.objs.size=s.heap.objs.size:=by rw[P.1,N.1,G.1,F.1,C.1]
 have M:IsZip d z U O .ellipsis:=P.extBut _ _ V (N.extBut _ _ zj (G.extBut _ _ V (F.extBut _ _ zi u)));have kp:∀a o,a∉[z,O,i,j]->s.heap.get? a=some o->d.get? a=some o:=λa o f e=>by
  simp only[C3,D8,A0g,A5d]at f;exact P.extBut _ _ f.2.1 (N.extBut _ _ f.2.2.2 (G.extBut _ _ f.2.1 (F.extBut _ _ f.2.2.1 (C.extBut _ _ f.1 e))))
 have ab:CM b d i l (k+1):=aa.move λo e=>P.extBut _ _ (K6 W) (N.extBut _ _ ij (G.extBut _ _ (K6 W) e));have ad:CM c d j m (k+1):=ac.move λo e=>P.extBut _ _ (K6 X) e;have S:z<d.objs.size:=F1 M;show wpAny _ _ (Builtin.SmallTypes.ownedTupleHandOut (.ref z) (.ref d.objs.size) >>= _) _ _ _;refine X8 ?_;unfold Builtin.SmallTypes.ownedTupleHandOut;have Y:IsZip (d.push {cls:=.type "tuple",data:=.seq #[x,y]}) z U O .ellipsis:=C4 _ M;refine X8 (A3d Y A6 λh7 B s7=>?_);replace B:IsZip h7 z U O (rawInt d.objs.size):=B;refine A3d B A6 λH n s8=>?_;replace n:IsZip H z U O (rawInt d.objs.size):=n;have T:∀a o,a≠z->d.get? a=some o->H.get? a=some o:=λa o na e=>s8.extBut _ _ na (s7.extBut _ _ na (C4 _ e));have hT:IsPair H d.objs.size x y:=s8.extBut _ _ (U9 S) (s7.extBut _ _ (U9 S) (D9 _ Z));have R:H.objs.size=d.objs.size+1:=by rw[s8.1,s7.1,Q4]
 rw[sz]at n hT R;refine K3 ⟨_,Z,?_⟩;show Q (.ref d.objs.size) _;rw[sz];refine fin H n (T _ _ (K6 V) h) (ab.move λo e=>T _ o (K6 zi) e) (ad.move λo e=>T _ o (K6 zj) e) hT R λa o f e=>T a o ?_ (kp a o f e);simp only[C3,D8,A0g,A5d]at f;exact f.1
theorem YK{b c:Bool}{z U O i j l m:R_}{k:Nat}{xs ys:M_}{p q:S_}{Q:Fin->Shared->Prop}(S:A.handled=none)(D:WN z U O i j l m)(C:IsZip s.heap z U O .none)(hU:IsPair s.heap U (.ref i) (.ref j))(hO:IsPair s.heap O p q)
  (T:CM b s.heap i l k) (hj:CM c s.heap j m k) (V:Ee b s.heap l xs) (hm:Ee c s.heap m ys) (H:xs[k]?=none\/ys[k]?=none)
  (fin:∀g e,(∀a o,a∉[z,O,i,j]->s.heap.get? a=some o->g.get? a=some o)->(∃o,g.get? e=some o/\o.cls=.type "StopIteration")->E (.ref e) {s with heap:=g}) :
  wpAny (model prog w) A (Builtin.«zip.__next__» ⟨[.ref z],[]⟩) Q E s:=by
 obtain⟨X,nl,nm⟩:=D;simp only[N8,C3,D8,A0g,A5d,R4,and_true,A4e]at X nl nm;obtain⟨⟨zU,zO,I,zj⟩,⟨UO,Ui,Uj⟩,⟨Oi,Oj⟩,ij⟩:=X;obtain⟨W,lO,li,lj⟩:=nl;obtain⟨mz,mO,mi,mj⟩:=nm;show wpAny _ _ (field (.ref z) 2 >>= _) _ _ _;refine X8 (A2c C Z (x:=.bool false) Z ?_);show wpAny _ _ (field (.ref z) 3 >>= _) _ _ _;refine X8 (A2c C Z (x:=.ref U) Z (X8 (A2f hU Z ?_)));show wpAny _ _ (Builtin.SmallTypes.ownedTupleIsFree (.ref z) >>= _) _ _ _;refine X8 ?_;unfold Builtin.SmallTypes.ownedTupleIsFree;refine X8 (A2c C Z (x:=.none) Z (K3 ?_));simp only[A5b];refine X8 (wpAny_rule (X8 (A2c C Z (x:=.ref O) Z (X8 (A3d C A6 λh1 r u=>?_)))));replace r:IsZip h1 z U O .ellipsis:=r;refine X8 ?_;simp only[List.zipIdx_cons,List.zipIdx_nil,List.forIn_cons,List.forIn_nil];refine X8 (X8 (A7e ?_));show wpAny _ _ (Builtin.SmallTypes.nextOf (.ref i) >>= _) _ _ _;have d:∀{a:R_},a∉[z,O,i,j]->a≠z/\a≠O/\a≠i/\a≠j:=λh=>by simpa only[C3,D8,A0g,A5d] using h
 cases N:xs[k]? with
 |none =>
  refine X8 (Gz S (T.move λo e=>u.extBut _ _ (K6 I) e) (V.move λo e=>u.extBut _ _ W e) N λL e v M=>?_);obtain⟨P,f,n⟩:=M;have F:IsZip L z U O .ellipsis:=v _ _ I r;have K:e≠z:=λt=>by subst t;rw[F]at f;cases f;simp at n
  exact A3d F A6 λR _ y=>fin R e (λa o h t=>y.extBut _ _ (d h).1 (v _ _ (d h).2.2.1 (u.extBut _ _ (d h).1 t))) ⟨P,y.extBut _ _ K f,n⟩
 |some x =>
  have hy:ys[k]?=none:=by
   rcases H with t|t
   .rw[N]at t;cases t
   .exact t
  refine X8 (DQ (T.move λo e=>u.extBut _ _ (K6 I) e) (V.move λo e=>u.extBut _ _ W e) N λL ab v=>K3 ?_);have B:IsPair L O p q:=v.extBut _ _ Oi (u.extBut _ _ (K6 zO) hO);refine X8 (A2f B Z (X8 (A7b B λR aa y=>?_)));refine X8 (wpAny_letGo (K3 (X8 (X8 (A7e ?_)))));show wpAny _ _ (Builtin.SmallTypes.nextOf (.ref j) >>= _) _ _ _;refine X8 (Gz S (hj.move λo e=>y.extBut _ _ (K6 Oj) (v.extBut _ _ (K6 ij) (u.extBut _ _ (K6 zj) e))) (hm.move λo e=>y.extBut _ _ mO (v.extBut _ _ mi (u.extBut _ _ mz e))) hy λh4 e Y M=>?_);obtain⟨P,f,n⟩:=M;have G:IsZip h4 z U O .ellipsis:=Y _ _ zj (y.extBut _ _ zO (v.extBut _ _ I r));have K:e≠z:=λt=>by subst t;rw[G]at f;cases f;simp at n
  exact A3d G A6 λh5 _ s5=>fin h5 e (λa o h t=>s5.extBut _ _ (d h).1 (Y _ _ (d h).2.2.2 (y.extBut _ _ (d h).2.1 (v.extBut _ _ (d h).2.2.1 (u.extBut _ _ (d h).1 t))))) ⟨P,s5.extBut _ _ K f,n⟩
theorem YM(b:T_)(n:Nat)(d:b.objs.size=n+2)(i j:S_):∃c,c=((b.push {cls:=.type "tuple",data:=.seq #[i,j]}).push {cls:=.type "tuple",data:=.seq #[.none,.none]}).push
   {cls:=.type "zip",data:=.fields #[.none,.bool false,.bool false,.ref b.objs.size,.ref (b.push {cls:=.type "tuple",data:=.seq #[i,j]}).objs.size]} /\
  IsZip c (n+4) (n+2) (n+3) .none/\IsPair c (n+2) i j/\IsPair c (n+3) .none .none/\(∀a o,b.get? a=some o->c.get? a=some o) /\
  ((b.push {cls:=.type "tuple",data:=.seq #[i,j]}).push {cls:=.type "tuple",data:=.seq #[.none,.none]}).objs.size=n+4:=by
 have f:(b.push {cls:=.type "tuple",data:=.seq #[i,j]}).objs.size=n+3:=by rw[Q4,d]
 have g:((b.push {cls:=.type "tuple",data:=.seq #[i,j]}).push {cls:=.type "tuple",data:=.seq #[.none,.none]}).objs.size=n+4:=by rw[Q4,f]
 refine⟨_,Z,?_,?_,?_,λa o e=>C4 _ (C4 _ (C4 _ e)),g⟩
 .have q:=D9 ((b.push {cls:=.type "tuple",data:=.seq #[i,j]}).push {cls:=.type "tuple",data:=.seq #[.none,.none]}) (o:={cls:=.type "zip",data:=.fields #[.none,.bool false,.bool false,.ref b.objs.size,.ref (b.push {cls:=.type "tuple",data:=.seq #[i,j]}).objs.size]}) Z;rw[g]at q;show _=some _;rw[q,d,f]
 .have q:=C4 {cls:=.type "zip",data:=.fields #[.none,.bool false,.bool false,.ref b.objs.size,.ref (b.push {cls:=.type "tuple",data:=.seq #[i,j]}).objs.size]} (C4 {cls:=.type "tuple",data:=.seq #[.none,.none]} (D9 b (o:={cls:=.type "tuple",data:=.seq #[i,j]}) Z));rw[<-d];exact q
 .have q:=C4 {cls:=.type "zip",data:=.fields #[.none,.bool false,.bool false,.ref b.objs.size,.ref (b.push {cls:=.type "tuple",data:=.seq #[i,j]}).objs.size]} (D9 (b.push {cls:=.type "tuple",data:=.seq #[i,j]}) (o:={cls:=.type "tuple",data:=.seq #[.none,.none]}) Z);rw[<-f];exact q
theorem Yn{b c:Bool}(l m:R_)(xs ys:M_):Meets (Builtin.«zip.__new__» ⟨[.type "zip",.ref l,.ref m],[]⟩) (λ_ R s=>Ee b s.heap l xs/\Ee c s.heap m ys /\
   ∀g,IsZip g (s.heap.objs.size+4) (s.heap.objs.size+2) (s.heap.objs.size+3) .none->IsPair g (s.heap.objs.size+2) (.ref s.heap.objs.size) (.ref (s.heap.objs.size+1))->IsPair g (s.heap.objs.size+3) .none .none ->
    CM b g s.heap.objs.size l 0->CM c g (s.heap.objs.size+1) m 0->(∀a o,s.heap.get? a=some o->g.get? a=some o)->R (.ok (.ret (.ref (s.heap.objs.size+4)))) {s with heap:=g}) :=
 .of_wp λprog w A R s h=>by
  obtain⟨f,g,d,tk,L⟩:=s;obtain⟨G,H,h⟩:=h;have v:=sub_zip
  wp_walk using Gj G
  intro j I N x;have q:Ee c (Shared.heap ⟨j,g,d,tk,L⟩) m ys:=H.move λo e=>x _ o e
  wp_walk using Gj q
  intro k K O y
  wp_walk
  refine⟨_,Z,?_⟩;have p:j.objs.size=f.objs.size+1:=N;have D:k.objs.size=f.objs.size+2:=by rw[show k.objs.size=j.objs.size+1 from O,p]
  obtain⟨u,F,z,B,C,t,M⟩:=YM k f.objs.size D (.ref f.objs.size) (.ref j.objs.size);have n:IsPair u (f.objs.size+2) (.ref f.objs.size) (.ref (f.objs.size+1)):=by rw[<-p];exact B
  have r:CM c k (f.objs.size+1) m 0:=by rw[<-p];exact K
  have i:=h u z n C ((I.move λo e=>y _ o e).move λo e=>t _ o e) (r.move λo e=>t _ o e) λa o e=>t _ _ (y _ _ (x _ _ e));dsimp only at i;rw[F,<-M]at i;exact i
theorem Inv.turnedL{X:Cx}{d:A_}{σ:St}{H:Hp}{s:P_}{g:T_}{tk:Nat}{ch:H_}(I:Inv X d σ H s)(k:∀b o,b∉ch->s.heap.get? b=some o->g.get? b=some o)(a:∀b∈ch,DL X d H b):Inv X d σ H {s with heap:=g,toks:=tk}:=by
 have h:∀b u,H b=some u->b∉ch:=λb u e z=>by rw[(a b z).1]at e;cases e
 refine I.step (g':=s.gens) (d':=s.drawn) (ch:=ch) (λb i=>⟨(a b i).2.2.2.1,(a b i).2.1,(a b i).2.2.2.2.1,(a b i).2.2.2.2.2⟩) (λb o _ _ f e _=>k b o f e) (λb o _ _ f e _=>⟨o.slots,k b o f e⟩) (λ_ _ _ _ n=>n)
  (λb o f e=>⟨o,k b o f e⟩) (λ_ _ e=>e) (λ_ _ _ e=>e) (λb ps e=>⟨#[],by rw[e];simp⟩) (λm p=>?_) (λb u e=>?_) I.bare
 .obtain⟨o,l,j,t,r⟩:=p;exact⟨o,l,j,k _ o (λz=>(a _ z).2.1 Z) t,r⟩
 .refine(I.hok b u e).stay (λc v f q=>k c v ?_ q) (λ_ q=>q) λ_ _ q=>q;rcases f with z|z
  .rw[z];exact h b u e
  .exact h c _ z
theorem Inv.pair{X:Cx}{a:A_}{σ:St}{H:Hp}{s:P_}{g:T_}{tk n:Nat}{ch:H_}{x y:V}{u v:S_}(I:Inv X a σ H s)(k:∀b o,b∉ch->s.heap.get? b=some o->g.get? b=some o)(c:∀b∈ch,DL X a H b)
  (h:Bh x u) (i:Bh y v) (e:g.get? s.heap.objs.size=some {cls:=.type "tuple",data:=.seq #[u,v] n}):H s.heap.objs.size=none/\Inv X a σ (upd H s.heap.objs.size (.tup [x,y])) {s with heap:=g,toks:=tk}:=by
 have f:=I.fpOk (C1 _) I.fresh;refine⟨f.1,(I.turnedL (tk:=tk) k c).track f.1 (P1 I.sz) (P1 (D0 I.ok.bsz I.sz)) (K6 f.2.1) f.2.2.2.2.1 f.2.2.2.2.2 (λb d z=>f.2.2.1 (z▸d)) ?_⟩;exact⟨by show 2<=sizeLine;decide,[u,v],.cons h (.cons i .nil),_,e,Z,n,Z⟩
theorem Inv.sq{X:Cx}{d:A_}{σ:St}{H:Hp}{s:P_}{b:Bool}{a:R_}{xs:List V}(I:Inv X d σ H s)(h:SqX X.K b H a xs):∃c:List Value,AS xs c/\Ee b s.heap a c.toArray:=by
 cases b with
 |true =>
  obtain⟨c,r,p,_⟩:=I.tuple h;exact⟨c,r,p⟩
 |false =>
  obtain⟨c,r,p,_⟩:=I.list h;exact⟨c,r,p.isList⟩
theorem Inv.sq_inj{X:Cx}{c:A_}{σ:St}{H:Hp}{s:P_}{b:Bool}{a:R_}{xs ys:List V}(I:Inv X c σ H s)(h:SqX X.K b H a xs)(h':SqX X.K b H a ys):xs=ys:=by
 cases b with
 |true=>exact I.tuple_inj h h'
 |false=>exact I.list_inj h h'
def Itz(K:O_)(b c:Bool)(l m:R_):It :=
 ⟨λi H=>∃xs ys x y,SqX K b H l xs/\SqX K c H m ys/\xs[i]?=some x/\ys[i]?=some y,
  λi H v H'=>∃(T:R_)(x y:V),v=.ref T/\H T=none/\H'=upd H T (.tup [x,y])/\(∀xs,SqX K b H l xs->xs[i]?=some x)/\∀ys,SqX K c H m ys->ys[i]?=some y,
  λi H=>∃xs ys,SqX K b H l xs/\SqX K c H m ys/\(xs.length<=i\/ys.length<=i)⟩
def ZipTn(b c:Bool)(z U O i j l m:R_)(k:Nat)(h:T_):Prop:=IsZip h z U O .none/\IsPair h U (.ref i) (.ref j)/\(∃p q,IsPair h O p q)/\CM b h i l k/\CM c h j m k
theorem YR{P:N_}{w:Q_}{K:O_}{es:List Expr}{n:Nat}{S:Pos}{b c:Bool}{z U O i j l m:R_}(D:WN z U O i j l m):Qv P w K (.Tuple es n S) (Itz K b c l m) [z,U,O,i,j] z (ZipTn b c z U O i j l m) where
 mem:=by simp
 obj:=λk h B a d=>by
  obtain⟨f,r,⟨p,q,C⟩,G,L⟩:=B;simp only[C3,D8,A0g]at d;rcases d with rfl|rfl|rfl|rfl|rfl
  .exact⟨_,f,λv t=>by cases t⟩
  .exact⟨_,r,λv t=>by cases t⟩
  .exact⟨_,C,λv t=>by cases t⟩
  .exact G.there
  .exact L.there
 keep:=λk h h' B kp=>by
  obtain⟨f,r,⟨p,q,C⟩,G,L⟩:=B;exact⟨kp z A6 _ f,kp U A6 _ r,⟨p,q,kp O A6 _ C⟩,G.move λo e=>kp i A6 o e,L.move λo e=>kp j A6 o e⟩
 item:=by
  intro X hP hw hK hc k M s σ H E I Y B hg;subst hP hw hK;obtain⟨f,r,⟨p,q,C⟩,G,L⟩:=B;obtain⟨xs,ys,x,y,sx,sy,hx,hy⟩:=hg;obtain⟨us,ru,ou⟩:=I.sq sx;obtain⟨vs,rv,ov⟩:=I.sq sy;obtain⟨u,hu,ad⟩:=ru.get hx;obtain⟨v,hv,ae⟩:=rv.get hy;have N:s.TypeIs (.ref z) "zip" := ⟨_,f,Z⟩
  unfold pyNext;refine X8 (A4d (wpAny_callSpecial?_slot (name:=Str.ofString "__next__") N A6f (A2e A6f N F.entry_zip_next (YL D f r C G L ou ov (by simpa using hu) (by simpa using hv) λg gZ gO gi gj gT gs gk=>K3 ⟨_,Z,?_⟩) (F.args_zip_next_1 _))));refine wpAny_letOwnedTupleGo_zip (s:={s with heap:=g}) gZ λg2 ab R=>?_;obtain⟨nd,nl,nm⟩:=D;simp only[N8,C3,D8,A0g,A5d,R4,and_true,A4e]at nd;obtain⟨⟨zU,zO,zi,zj⟩,⟨UO,Ui,Uj⟩,⟨Oi,Oj⟩,ij⟩:=nd;have V:z<s.heap.objs.size:=F1 f;have kk:∀a o,a∉[z,O,i,j]->s.heap.get? a=some o->g2.get? a=some o:=λa o d e=>(R.2 a (λt=>d (by simp[t]))).trans (gk a o d e);have aa:∀a∈[z,O,i,j],DL X M H a:=λa d=>Y a (by
   simp only[C3,D8,A0g]at d⊢;rcases d with t|t|t|t<;>simp[t])
  obtain⟨nT,J⟩:=I.pair (tk:=s.toks) kk aa ad ae ((R.2 _ (U9 V)).trans gT);refine⟨.ref s.heap.objs.size,_,J,Z,⟨_,x,y,Z,nT,Z,λaf q'=>by rw[I.sq_inj q' sx];exact hx,λag q'=>by rw[I.sq_inj q' sy];exact hy⟩,⟨ab,kk U _ ?_ r,⟨u,v,(R.2 O (K6 zO)).trans gO⟩,gi.move λo e=>(R.2 i (K6 zi)).trans e,gj.move λo e=>(R.2 j (K6 zj)).trans e⟩,λa d=>?_⟩
  .simp only[C3,D8,A0g,A5d];exact⟨K6 zU,UO,Ui,Uj⟩
  .have e:=(Y a d).1;have lt:a≠s.heap.objs.size:=by
    simp only[C3,D8,A0g]at d;rcases d with t|t|t|t|t<;>subst t
    .exact J9 V
    .exact J9 (F1 r)
    .exact J9 (F1 C)
    .obtain⟨o,e,_⟩:=G.there;exact J9 (F1 e)
    .obtain⟨o,e,_⟩:=L.there;exact J9 (F1 e)
   rw[Aw lt];exact e
 done:=by
  intro X hP hw hK hc k M s σ H E I Y B hg;subst hP hw hK;obtain⟨f,r,⟨p,q,C⟩,G,L⟩:=B;obtain⟨xs,ys,sx,sy,Q⟩:=hg;obtain⟨us,ru,ou⟩:=I.sq sx;obtain⟨vs,rv,ov⟩:=I.sq sy;have lu:=ru.length;have lv:=rv.length;have N:s.TypeIs (.ref z) "zip" := ⟨_,f,Z⟩
  have he:us.toArray[k]?=none\/vs.toArray[k]?=none:=Q.imp (λt=>by simp;lia) (λt=>by simp;lia);unfold pyNext;refine X8 (A4d (wpAny_callSpecial?_slot (name:=Str.ofString "__next__") N A6f (A2e A6f N F.entry_zip_next (YK (I.ok.hd hc) D f r C G L ou ov he λg e gk ge=>?_) (F.args_zip_next_1 _))));obtain⟨o,ho,ac⟩:=ge;refine X8 (wpAny_isInstance (T:="StopIteration") (b:=true) ⟨o,ho,ac⟩ isSubtype_stop (K3 ⟨Z,?_⟩));exact I.turnedL (tk:=s.toks) gk λa d=>Y a (by
   simp only[C3,D8,A0g]at d⊢;rcases d with t|t|t|t<;>simp[t])
 self:=λ_ _ _ _ _ B h=>wpAny_pyIter_zip B.1 h
end
theorem Ee.obj{b:Bool}{h:T_}{l:R_}{vs:M_}(x:Ee b h l vs):∃o,h.get? l=some o:=by
 cases b with
 |true=>obtain⟨o,e,_⟩:=x;exact⟨o,e⟩
 |false=>obtain⟨o,e,_⟩:=x;exact⟨o,e⟩
theorem YA(b:T_)(n:Nat)(d:b.objs.size=n+1):∃c,c=b.push {cls:=.type "enumerate",data:=.fields #[.none,.bool false,.ref n,rawInt 0,.none,.none]}/\IsEnum c (n+1) n 0 .none/\∀a o,b.get? a=some o->c.get? a=some o:=by
 refine⟨_,Z,?_,λa o e=>C4 _ e⟩;have q:=D9 b (o:={cls:=.type "enumerate",data:=.fields #[.none,.bool false,.ref n,rawInt 0,.none,.none]}) Z;rw[d]at q;exact q
set_option maxHeartbeats 1000000 in
theorem Vf{b:Bool}(l:R_)(xs:M_):Meets (Builtin.«enumerate.__new__» ⟨[.type "enumerate",.ref l],[]⟩) (λ_ R s=>Ee b s.heap l xs /\
   ∀g,IsEnum g (s.heap.objs.size+1) s.heap.objs.size 0 .none->CM b g s.heap.objs.size l 0->(∀a o,s.heap.get? a=some o->g.get? a=some o)->R (.ok (.ret (.ref (s.heap.objs.size+1)))) {s with heap:=g}) :=
 .of_wp λprog w A R s h=>by
  obtain⟨p,g,d,tk,B⟩:=s;obtain⟨q,h⟩:=h;obtain⟨C,i⟩:=q.obj;have r:=sub_enumerate;have fin:∀f,CM b f p.objs.size l 0->f.objs.size=p.objs.size+1->(∀c o,p.get? c=some o->f.get? c=some o)->∃v,Fin.done (Flow.ret (.ref f.objs.size))=Fin.done (Flow.ret v)/\R (.ok (.ret v)) ⟨f.push {cls:=.type "enumerate",data:=.fields #[.none,.bool false,.ref p.objs.size,rawInt 0,.none,.none]},g,d,tk,B⟩:=λf k j m=>by
   obtain⟨z,y,u,t⟩:=YA f p.objs.size j;refine⟨_,Z,?_⟩;have n:=h z u (k.move λo e=>t _ o e) λa o e=>t _ _ (m _ _ e);dsimp only at n;rw[y,<-j]at n;exact n
  wp_walk using AutoSeq1.wpAny_loadPart' i
  refine wpAny_stack_any λD=>K3 ?_;split
  .rename_i x _ _ _ _ _;cases(x==Value.type "enumerate")
   .wp_walk using AutoSeq1.wpAny_loadPart' i,Gj q
    intro f k j m
    wp_walk
    exact fin f k j m
   .wp_walk using AutoSeq1.wpAny_loadPart' i,Gj q
    intro f k j m
    wp_walk
    exact fin f k j m
  .wp_walk using AutoSeq1.wpAny_loadPart' i,Gj q
   intro f k j m
   wp_walk
   exact fin f k j m
theorem QR{prog:N_}{w:Q_}{A:Around}{b:Bool}(i:A.handled=none)(I l:R_)(ne:l≠I)(vs:M_) :
  Draws prog w A I [I,l] vs.size (λk v=>vs[k]?=some v) (λk h=>CM b h I l k/\Ee b h l vs) where
 live:=λ_ _ a=>let ⟨o,ho,_⟩:=a.1.there;⟨o,ho⟩
 frame:=λ_ _ _ a d=>⟨a.1.move λo e=>d I A6 o e,a.2.move λo e=>d l A6 o e⟩
 item:=λk s Q E c a n=>DQ a.1 a.2 (v:=vs[k]) (by simp[c]) λg m f=>n _ g s.toks (by simp[c]) ⟨m,a.2.move λo e=>(f.2 l ne).trans e⟩ f
 done:=λs Q E a j=>Gz i a.1 a.2 A6 j
def Ite(K:O_)(b:Bool)(l:R_):It :=
 ⟨λi H=>∃xs x,SqX K b H l xs/\xs[i]?=some x,
  λi H v H'=>∃(T:R_)(x:V),v=.ref T/\H T=none/\H'=upd H T (.tup [.int i,x])/\∀xs,SqX K b H l xs->xs[i]?=some x,
  λi H=>∃xs,SqX K b H l xs/\xs.length=i⟩
theorem WQ{P:N_}{w:Q_}{K:O_}{es:List Expr}{n:Nat}{r:Pos}{b:Bool}{e I l:R_}(D:e≠I)(le:l≠e)(lI:l≠I) :
  Qv P w K (.Tuple es n r) (Ite K b l) [e,I] e (λk h=>(∃c,IsEnum h e I k c)/\CM b h I l k) where
 mem:=by simp
 obj:=λk h j a d=>by
  obtain⟨⟨c,f⟩,m⟩:=j;simp only[C3,D8,A0g]at d;rcases d with rfl|rfl
  .exact⟨_,f,λv t=>by cases t⟩
  .exact m.there
 keep:=λk h h' j kp=>by
  obtain⟨⟨c,f⟩,m⟩:=j;exact⟨⟨c,kp e A6 _ f⟩,m.move λo t=>kp I A6 o t⟩
 item:=by
  intro X M S L N k q s σ H E J y j O;subst M S L;obtain⟨⟨c,f⟩,m⟩:=j;obtain⟨xs,x,C,T⟩:=O;obtain⟨us,B,U⟩:=J.sq C;have lu:=B.length;have hk:k<xs.length:=(B9.mp T).1;refine wpAny_pyNext_enum_itemD (QR (b:=b) (A:=X.A.in1) (J.ok.hd N) I l lI us.toArray) f ⟨m,U⟩ (by simp;lia) D (by simp[D,K6 le]) λu g tk hu gE gS gT gs G=>⟨_,Z,?_⟩
  obtain⟨u',R,V⟩:=B.get T;have eu:u=u':=by
   have:us[k]?=some u:=by simpa using hu
   rw[R]at this;exact(K7 this).symm
  subst eu;refine wpAny_letOwnedTupleGo_enum (s:={s with heap:=g,toks:=tk+1}) gE λg2 F Y=>?_;have p:e<s.heap.objs.size:=F1 f;have kk:∀a o,a∉[e,I]->s.heap.get? a=some o->g2.get? a=some o:=λa o d t=>(Y.2 a (λz=>d (by simp[z]))).trans (G a o (λz=>d (by simp[z])) (λz=>d (by simp[z])) t);obtain⟨nT,J2⟩:=J.pair (tk:=tk+1) (x:=.int k) (u:=.int k tk) kk y ⟨tk,Z⟩ V ((Y.2 _ (U9 p)).trans gT);refine⟨.ref s.heap.objs.size,_,J2,Z,⟨_,x,Z,nT,Z,λab q'=>by rw[J.sq_inj q' C];exact T⟩,⟨⟨_,by simpa using F⟩,gS.1.move λo t=>(Y.2 I (K6 D)).trans t⟩,λa d=>?_⟩;have t:=(y a d).1;have lt:a≠s.heap.objs.size:=by
   simp only[C3,D8,A0g]at d;rcases d with z|z<;>subst z
   .exact J9 p
   .obtain⟨o,t,_⟩:=m.there;exact J9 (F1 t)
  rw[Aw lt];exact t
 done:=by
  intro X M S L N k q s σ H E J y j O;subst M S L;obtain⟨⟨c,f⟩,m⟩:=j;obtain⟨xs,C,aa⟩:=O;obtain⟨us,B,U⟩:=J.sq C;have lu:=B.length;have ek:k=us.toArray.size:=by simp;lia
  refine wpAny_pyNext_enum_endD (QR (b:=b) (A:=X.A.in1) (J.ok.hd N) I l lI us.toArray) f ⟨ek▸m,U⟩ λg G=>⟨Z,?_⟩
  exact J.turnedL (tk:=s.toks) (ch:=[e,I]) (λa o d t=>G a o (λz=>d (by simp[z])) t) y
 self:=λA i s Q E j h=>by
  obtain⟨⟨c,f⟩,_⟩:=j;exact wpAny_pyIter_enum f h
section
variable{X:Cx}{es:List Expr}{n:Nat}{tpos p pos:Pos}{e1 e2:Expr}{t:TA}
def iZip(b c:Bool)(K:O_)(t:TA):TI:=fun σ H R=>t σ H λvs H1=>∃(l m:R_),vs=[.ref l,.ref m]/\(∃xs,SqX K b H1 l xs)/\(∃ys,SqX K c H1 m ys)/\R (Itz K b c l m) H1
theorem Ee.lt{b:Bool}{h:T_}{l:R_}{vs:M_}(x:Ee b h l vs):l<h.objs.size:=by
 cases b with
 |true=>obtain⟨o,e,_⟩:=x;exact F1 e
 |false=>obtain⟨o,e,_⟩:=x;exact F1 e
theorem apart5(n l m:Nat)(a:l<n)(b:m<n):WN (n+4) (n+2) (n+3) n (n+1) l m:=by
 refine⟨(show([n+4,n+2,n+3,n,n+1]:J_).Nodup from ?_),(show l∉([n+4,n+3,n,n+1]:J_)from ?_),(show m∉([n+4,n+3,n,n+1]:J_)from ?_)⟩
 .simp only[N8,C3,D8,A0g,A5d,R4,and_true,A4e];lia
 .simp only[C3,D8,A0g,A5d];lia
 .simp only[C3,D8,A0g,A5d];lia
theorem pi_zip(b c:Bool)(E:Gl X "zip")(G:X.mg "zip" = none)(j:PA X [e1,e2] t)(L:starEach [e1,e2] X.env=[(false,eval e1 X.env),(false,eval e2 X.env)]:=by rfl)(e:starEach [e2] X.env=[(false,eval e2 X.env)]:=by rfl) :
  PI X (.Tuple es n tpos) (.Call (.Name "zip" p) [e1,e2] [] pos) (iZip b c X.K t):=by
 intro f s σ H R I h;refine Call_ (Li I E G PyProof.Rows.boot_zip (A2a (thn (j pos f s σ H _ I h) λus i D=>?_) (by rw[L,e]) (by rw[e];rfl)));obtain⟨vs,w,d,P,O⟩:=D;obtain⟨l,m,rfl,⟨xs,T⟩,⟨ys,U⟩,q⟩:=O;obtain⟨u,v,rfl,Q,S⟩:=P.two;cases(show u=Value.ref l from Q);cases(show v=Value.ref m from S);obtain⟨V,_,o⟩:=d.sq T;obtain⟨W,_,r⟩:=d.sq U;refine callType_new F.called_zip A3 (F.typeCall_zip_2 _ _) (F.newCall_zip_2 _ _) (λobj=>F.args_object_init_3 obj _ _) F.entry_zip_new (Yn (b:=b) (c:=c) l m V.toArray W.toArray) ⟨o,r,λg k y x z A B=>?_⟩;refine⟨⟨_,k,Z⟩,wpAny_pyIter_zip (s:={i with heap:=g}) k ?_⟩;have M:=o.lt;have N:=r.lt;have C:=apart5 i.heap.objs.size l m M N;refine⟨i.heap.objs.size+4,_,_,_,w,Z,d.kept (t':=i.toks) B,YR C,⟨k,y,⟨_,_,x⟩,z,A⟩,λa j=>?_,q⟩;have le:i.heap.objs.size<=a:=by
  simp only[C3,D8,A0g]at j;rcases j with t|t|t|t|t<;>rw[t]<;>first|exact C1 _|exact R3 _ _
 exact d.fpOk le (d.hok.fresh le)
def iEnum(b:Bool)(K:O_)(t:TA):TI:=fun σ H R=>t σ H λvs H1=>∃(l:R_),vs=[.ref l]/\(∃xs,SqX K b H1 l xs)/\R (Ite K b l) H1
theorem OF(b:Bool)(x:Gl X "enumerate")(y:X.mg "enumerate" = none)(i:PA X [e1] t)(z:starEach [e1] X.env=[(false,eval e1 X.env)]:=by rfl) :
  PI X (.Tuple es n tpos) (.Call (.Name "enumerate" p) [e1] [] pos) (iEnum b X.K t):=by
 intro d s σ H R I h;refine Call_ (Li I x y PyProof.Rows.boot_enumerate (A2a (thn (i pos d s σ H _ I h) λus c w=>?_) z Z));obtain⟨vs,o,f,B,A⟩:=w;obtain⟨l,rfl,⟨xs,D⟩,q⟩:=A;obtain⟨u,rfl,C⟩:=B.one;cases(show u=Value.ref l from C);obtain⟨E,_,m⟩:=f.sq D;refine callType_new F.called_enumerate A3 (F.typeCall_enumerate_1 _) (F.newCall_enumerate_1 _) (λobj=>F.args_object_init_2 obj _) F.entry_enumerate_new (Vf (b:=b) l E.toArray) ⟨m,λg j r v=>?_⟩;refine⟨⟨_,j,Z⟩,wpAny_pyIter_enum (s:={c with heap:=g}) j ?_⟩;have k:=m.lt;refine⟨c.heap.objs.size+1,_,_,_,o,Z,f.kept (t':=c.toks) v,WQ (e:=c.heap.objs.size+1) (I:=c.heap.objs.size) (l:=l) (Nat.succ_ne_self _) (J9 (Z9 k)) (J9 k),⟨⟨_,j⟩,r⟩,λa i=>?_,q⟩;have le:c.heap.objs.size<=a:=by
  simp only[C3,D8,A0g]at i;rcases i with t|t<;>rw[t]<;>first|exact C1 _|exact R3 _ _
 exact f.fpOk le (f.hok.fresh le)
end
section
variable{K:O_}{b c:Bool}{l m:R_}{xs ys:List V}{σ:St}{H:Hp}
theorem TX{K:O_}{i j:Nat}{T:R_}{x y:V}{σ:St}{H:Hp}{Q:St->Hp->Prop}(h:H T=some (.tup [x,y]))(q:Q ((σ.set i (some x)).set j (some y)) H):gTup K 2 (TZ (PR i) (TZ (PR j) gNil)) (.ref T) σ H Q :=
 ⟨T,_,Z,SqT.of h,Z,x,_,Z,y,_,Z,Z,q⟩
theorem MY{g:TG}{n:TS}{D:Nh}(a:Nat->St->Hp->Prop)(o:a 0 σ H)(t:∀i σ H,i<=xs.length->a i σ H->SqX K b H l xs)
  (u:∀i x σ H T,xs[i]?=some x->a i σ H->H T=none->g (.ref T) σ (upd H T (.tup [.int i,x])) fun f j=>n {D with nx:=a (i+1),ct:=a (i+1),bk:=D.nx} f j) (r:∀σ H,a xs.length σ H->D.nx σ H) :
  ∃W:Nat->Nat->St->Hp->Prop,(∃m,W 0 m σ H)/\∀i m σ H,W i m σ H ->
   ((Ite K b l).stop i H/\D.nx σ H)\/((Ite K b l).go i H/\∃N:St->Hp->Prop,(∀σ' d,N σ' d->∃k,k<m/\W (i+1) k σ' d)/\∀x d,(Ite K b l).yld i H x d->g x σ d fun f j=>n {D with nx:=N,ct:=N,bk:=D.nx} f j):=by
 refine⟨λi m σ H=>m=xs.length-i/\i<=xs.length/\a i σ H,⟨xs.length,by simp,L5 _,o⟩,?_⟩;rintro i m σ H ⟨rfl,s,p⟩;have q:=t i σ H s p;by_cases h:i<xs.length
 .refine .inr ⟨⟨xs,xs[i],q,by simp[h]⟩,a (i+1),fun σ' d A=>⟨xs.length-(i+1),by lia,Z,h,A⟩,λx d y=>?_⟩;obtain⟨T,z,rfl,w,rfl,v⟩:=y;exact u i z σ _ T (v xs q) p w
 .have e:i=xs.length:=by lia
  subst e;exact .inl ⟨⟨xs,q,Z⟩,r σ H p⟩
variable{k:Nat}{cs:J_}{g:TG}{tc:TT}{te:TE}{fin:List V->Hp->Prop}
theorem blk_zip(d:Nat->List V->Hp->Prop)(s:d 0 [] H)(u:∀i a H,d i a H->SqX K b H l xs/\SqX K c H m ys)
  (v:∀i x y a H T,xs[i]?=some x->ys[i]?=some y->d i a H->H T=none->Bt k cs g tc te σ (.ref T) a (upd H T (.tup [x,y])) (d (i+1))) (t:∀a H,d (min xs.length ys.length) a H->fin a H):GS k cs g tc te (Itz K b c l m) σ H fin:=by
 refine⟨λi n a H=>n=min xs.length ys.length-i/\i<=min xs.length ys.length/\d i a H,⟨min xs.length ys.length,by simp,L5 _,s⟩,?_⟩;rintro i n a H ⟨rfl,F,p⟩;obtain⟨j,o⟩:=u i a H p;by_cases f:i<min xs.length ys.length
 .have A:i<xs.length:=by lia
  have B:i<ys.length:=by lia
  refine .inr ⟨⟨xs,ys,xs[i],ys[i],j,o,by simp[A],by simp[B]⟩,d (i+1),λq r D=>⟨min xs.length ys.length-(i+1),by lia,Z,f,D⟩,λx r y=>?_⟩;obtain⟨T,z,E,rfl,C,rfl,w,h⟩:=y;exact v i z E a _ T (w xs j) (h ys o) p C
 .have e:i=min xs.length ys.length:=by lia
  subst e;exact .inl ⟨⟨xs,ys,j,o,by lia⟩,t a H p⟩
theorem blk_str{x:Str}(d:Nat->List V->Hp->Prop)(q:d 0 [] H)(s:∀i ch a H,x.cps.toList[i]?=some ch->d i a H->Bt k cs g tc te σ (.str ⟨#[ch]⟩) a H (d (i+1)))(r:∀a H,d x.cps.toList.length a H->fin a H):GS k cs g tc te (Its x) σ H fin:=by
 have o:x.cps.toList.length=x.cps.size:=by simp
 refine⟨λi m a H=>m=x.cps.size-i/\i<=x.cps.size/\d i a H,⟨x.cps.size,by simp,L5 _,q⟩,?_⟩;rintro i m a H ⟨rfl,u,p⟩;by_cases f:i<x.cps.size
 .refine .inr ⟨f,d (i+1),λj n t=>⟨x.cps.size-(i+1),by lia,Z,f,t⟩,λv n y=>?_⟩;obtain⟨e,ch,h,rfl⟩:=y;subst e;exact s i ch a _ (by simpa using h) p
 .have e:i=x.cps.size:=by lia
  subst e;exact .inl ⟨Z,r a H (by rw[o];exact p)⟩
end
theorem PE.or{X:Cx}{e:Expr}{t u:TE}(h:PE X e t)(h':PE X e u):PE X e (fun σ H Q=>t σ H Q\/u σ H Q):=by
 intro a s σ H Q I q;rcases q with q|q
 .exact h a s σ H Q I q
 .exact h' a s σ H Q I q
theorem rm{a b:Nat}{A:Around}(h:Dl b A)(c:a<=b:=by first|decide|lia):Dl a A:=h.mono c
structure Cal(P:N_)(w:Q_)(K:O_)(mg:C_)(base:T_)(CX:CXT)(k:Nat)(x:Str)(ps:K_)(sp:Sp):Prop where
ex:∃(f:R_)(fd:E_),AL P w K mg base CX k f fd ps sp/\mg x=some (.ref f)/\keepIn K (.ref f)=true/\CN K fd ps []
structure Cd(P:N_)(w:Q_)(K:O_)(mg:C_)(base:T_)(CX:CXT)(k:Nat)(C:R_)(m:Str)(ps:K_)(sp:Sp):Prop where
ex:∃(f:R_)(fd:E_),AL P w K mg base CX k f fd ps sp/\Qw K C m f/\CN K fd ps []
cl:Cls K C
structure SH(P:N_)(w:Q_)(K:O_)(mg:C_)(base:T_)(CX:CXT)(k:Nat)(x:Str)(C:R_)(ps:K_)(sp:Sp):Prop where
ex:∃(f:R_)(fd:E_),AL P w K mg base CX k f fd ps sp/\Mk K C f/\mg x=some (.ref C)/\CN K fd ps []
section
variable{X:Cx}{CX:CXT}{k:Nat}{C:R_}{ps:K_}{sp:Sp}{E:XK}{x m:Str}{p pos apos:Pos}{e o:Expr}{es:List Expr}{ta:TE}{t:TA}
theorem As(c:Cal X.prog X.w X.K X.mg X.base CX k x ps sp)(n:Dl k X.A)(i:Gl X x)(q:GE CX X E)(d:PA X (e::es) t)(a:(x==("__debug__" : Str))=false:=by decide)
  (h:starEach (e::es) X.env=(false,eval e X.env)::starEach es X.env:=by rfl) (b:(backTo pos (starEach es X.env)).any (·.1)=false:=by rfl):PE X (.Call (.Name x p) (e::es) [] pos) (tCall sp [] E t):=by
 obtain⟨f,r,F,l,j,g⟩:=c.ex;exact pe_call F n i l j g .nil q d a h b
theorem AJ{pl:Sem Bool}(i:PE X o ta)(c:Cd X.prog X.w X.K X.mg X.base CX k C m ps sp)(l:Dl k X.A)(q:GE CX X E)(g:PA X (e::es) t)
  (b:starEach (e::es) X.env=(false,eval e X.env)::starEach es X.env:=by rfl) (a:(backTo pos (starEach es X.env)).any (·.1)=false:=by rfl)
  (n:eval (.Call (.Attribute o m apos) (e::es) [] pos) X.env=(do
   let d <-eval o X.env;standAt apos.atName;let (f,first) <-holding [d] (getMethod d m pl);callWith pos f first (backTo pos (starEach (e::es) X.env)) (backToKw pos (keywordEach [] X.env))):=by rfl):PE X (.Call (.Attribute o m apos) (e::es) [] pos) (VH C m sp [] E ta t):=by
 obtain⟨f,r,F,j,h⟩:=c.ex;exact pe_meth i c.cl j F l h .nil q g b a n
theorem Lr(c:SH X.prog X.w X.K X.mg X.base CX k x C ps sp)(l:Dl (k+1) X.A)(i:Gl X x)(n:GE CX X E)(d:PA X (e::es) t)(a:(x==("__debug__" : Str))=false:=by decide)
  (h:starEach (e::es) X.env=(false,eval e X.env)::starEach es X.env:=by rfl) (b:(backTo pos (starEach es X.env)).any (·.1)=false:=by rfl):PE X (.Call (.Name x p) (e::es) [] pos) (VI C sp [] E t):=by
 obtain⟨f,q,F,M,j,g⟩:=c.ex;exact pe_make M F l i j g .nil n d a h b
theorem ZC(c:SH X.prog X.w X.K X.mg X.base CX k x C ps sp)(h:Dl (k+1) X.A)(d:Gl X x)(i:GE CX X E)(a:(x==("__debug__" : Str))=false:=by decide):PE X (.Call (.Name x p) [] [] pos) (VI C sp [] E Qc):=by
 obtain⟨f,j,F,M,g,b⟩:=c.ex;exact ZA M F h d g b .nil i a
theorem Cj{i:Int}(c:Gl X x)(a:∃tk,X.mg x=some (.int i tk))(b:(x==("__debug__" : Str))=false:=by decide):PE X (.Name x pos) (tC (.int i)):=by
 obtain⟨tk,a⟩:=a;exact RB c a ⟨tk,Z⟩ b
theorem OG{z:Str}(c:Gl X x)(a:∃tk,X.mg x=some (.str z tk))(b:(x==("__debug__" : Str))=false:=by decide):PE X (.Name x pos) (tC (.str z)):=by
 obtain⟨tk,a⟩:=a;exact RB c a ⟨tk,Z⟩ b
theorem pe_gref{a:R_}(c:Gl X x)(d:X.mg x=some (.ref a))(b:(x==("__debug__" : Str))=false:=by decide):PE X (.Name x pos) (tC (.ref a)):=RB c d Z b
end
def cOk(So:Scope)(No:K_)(scope:Scope)(N:K_)(k:Nat)(cs:J_):Bool :=
 scope.names.all (λy=>y.2 != .cell) && (scope.kind==.function && (scope.names.all (λy=>y.2 != .local || scope.names.lookup y.1==some .local) && (scope.names.all (λy=>y.2 != .free || (So.names.lookup y.1==some .cell || So.names.lookup y.1==some .free)) &&
  (N.length==k+cs.length && (List.range cs.length).all λj=>match N[k+j]?,No[cs.getD j 0]? with
   |some x,some y=>x==y && scope.names.lookup x==some .free
   |_,_=>false))))
theorem BE.of{X:Cx}{So:Scope}{No:K_}{a:Scope}{N:K_}{k:Nat}{cs:J_}(p:X.env.scope=So)(o:X.N=No)(h:cOk So No a N k cs=true):BE X a N k cs:=by
 subst p o;unfold cOk at h;simp only[Q0,S9,bne_iff_ne,ne_eq,Bool.or_eq_true,A6h,J6]at h;obtain⟨f,g,i,l,m,n⟩:=h;refine⟨f,g,λy b e=>?_,λy b e=>?_,m,λj q=>?_⟩
 .rcases i y b with z|z
  .exact absurd e z
  .exact z
 .rcases l y b with z|z
  .exact absurd e z
  .exact z
 .have z:=n j q;split at z
  .rename_i x y c d;simp only[Q0,A6h]at z;obtain⟨r,s⟩:=z;subst r;exact⟨x,c,d,s⟩
  .cases z
theorem GQ{σ:St}{H:Hp}{A B:Hp->Prop}(h:A H):tYes σ H λb a=>if b=true then A a else B a:=by
 show if true=true then A H else B H;exact BY h
theorem OP{d:TE}{σ:St}{H:Hp}{Q:VK}{a b2:Bool}(e:a=true->∀b:VK,b (.bl b2) H->d σ H b)(q:Q (.bl (a && b2)) H):∃c,V.bl a=.bl c/\if c=true then d σ H Q else Q (.bl false) H:=by
 cases a with
 |true=>exact⟨true,Z,BY (e Z Q q)⟩
 |false=>exact⟨false,Z,AY q⟩
theorem YT{u:TT}{σ:St}{H:Hp}{Q:Bool->Hp->Prop}{a b2:Bool}(c:a=true->∀b:Bool->Hp->Prop,b b2 H->u σ H b)(q:Q (a && b2) H):if a=true then u σ H Q else Q false H:=by
 cases a with
 |true=>exact BY (c Z Q q)
 |false=>exact AY q
section
variable{X:Cx}{scope:Scope}{N:K_}{s:P_}{H:Hp}{ex:H_}{x y:Str}{px py pos:Pos}{k:Nat}
theorem Bg{i:Nat}(b:N.Nodup)(c:N[i]?=some x)(a:(relabel scope X.env).names.lookup x=some .local):PG (cxC X scope N s H ex) (.Name x pos) (PR i):=Bn (X:=cxC X scope N s H ex) b c (.inl a) (.inr a)
theorem Zx{i j:Nat}(b:X.calm=true)(a:N.Nodup)(c:N[i]?=some x)(d:N[j]?=some y)(e:(relabel scope X.env).names.lookup x=some .local)(f:(relabel scope X.env).names.lookup y=some .local) :
  PG (cxC X scope N s H ex) (.Tuple [.Name x px,.Name y py] k pos) (gTup X.K 2 (TZ (PR i) (TZ (PR j) gNil))) :=
 Pn (X:=cxC X scope N s H ex) b (DJ (Bg a c e) (DJ (Bg a d f) MI))
end
theorem AS.strs:∀(l:K_)(k:Nat),AS (l.map V.str) (strsFrom k l)
|[],_=>.nil
|x::r,k=>.cons ⟨k,Z⟩ (AS.strs r (k+1))
section
variable{X:Cx}
theorem TL:MtR X "str.split" (λx xs H Q=>∃a b,x=.str a/\xs=[.str b]/\(b.length==0)=false/\a.length<=100000/\∀p,H p=none->Q (.ref p) (upd H p (.lst ((Txt.split a b).map V.str)))):=by
 intro g s σ H x xs v us Q I o r h;obtain⟨a,b,rfl,rfl,k,l,q⟩:=h;obtain⟨t,rfl⟩:=o;obtain⟨u,rfl,m⟩:=r.one;obtain⟨j,rfl⟩:=m;have big:a.length+2<=sizeLine:=D0 (Nat.add_le_add_right l 2) A3;have fin:∀(c:F_)(tk:Nat),AS ((Txt.split a b).map V.str) c->EP X g σ Q (.ref s.heap.objs.size) {s with heap:=s.heap.push {cls:=.type "list",data:=.seq c.toArray},toks:=tk}:=λc tk n =>
  ⟨.ref _,_,I.lnew (t':=tk) n (by rw[B8];exact D0 (split_le a b) big),Z,q _ I.fresh⟩
 by_cases d:(decide (a.length<b.length) || decide (Builtin.Str.strKind a<Builtin.Str.strKind b))=true
 .refine A4g F.slot_str_split (A6d _ _ _) F.entry_str_split (A7f _ _) (meets_str_split_cannot_occur a b t j d) ?_;refine fin _ s.toks ?_;unfold Txt.split;rw[K2 d];exact .cons ⟨t,Z⟩ .nil
 .have f:=X7.mpr d;by_cases i:(Builtin.Str.occurrences a b 0 a.length (a.length+1)).isEmpty=true
  .refine A4g F.slot_str_split (A6d _ _ _) F.entry_str_split (A7f _ _) (meets_str_split_not_found a b t j f k i) ?_;refine fin _ s.toks ?_;unfold Txt.split;rw[X9 d,K2 i];exact .cons ⟨t,Z⟩ .nil
  .have e:Txt.split a b=Builtin.Str.partsBetween a (Builtin.Str.occurrences a b 0 a.length (a.length+1)) b.length:=by
    unfold Txt.split;rw[X9 d,X9 i]
   refine A4g F.slot_str_split (A6d _ _ _) F.entry_str_split (A7f _ _) (meets_str_split_sep a b t j f k (X7.mpr i) A0 (by rw[<-e];exact D0 (split_le a b) big)) ?_;refine fin _ _ ?_;rw[e];exact AS.strs _ _
theorem RW:MtR X "str.partition" (λx xs H Q=>∃a b,x=.str a/\xs=[.str b]/\(b.length==0)=false/\a.length<=100000/\∀p,H p=none->Q (.ref p) (upd H p (.tup [.str (Txt.partition a b).1,.str (Txt.partition a b).2.1,.str (Txt.partition a b).2.2]))):=by
 intro d s σ H x xs v us Q I m r h;obtain⟨a,b,rfl,rfl,g,f,q⟩:=h;obtain⟨t,rfl⟩:=m;obtain⟨u,rfl,j⟩:=r.one;obtain⟨n,rfl⟩:=j;have fin:∀(c:F_)(tk:Nat),AS [.str (Txt.partition a b).1,.str (Txt.partition a b).2.1,.str (Txt.partition a b).2.2] c->EP X d σ Q (.ref s.heap.objs.size) {s with heap:=s.heap.push {cls:=.type "tuple",data:=.seq c.toArray},toks:=tk}:=λc tk k =>
  ⟨.ref _,_,I.laid (t':=tk) (o:=.tup [.str (Txt.partition a b).1,.str (Txt.partition a b).2.1,.str (Txt.partition a b).2.2]) (λ_ _ e=>C4 _ e) (C1 _) ⟨by show 3<=sizeLine;decide,c,k,_,D9 _ Z,Z,_,Z⟩,Z,q _ I.fresh⟩
 refine A4g F.slot_str_partition (A6d _ _ _) F.entry_str_partition (F.args_str_partition_2 _ _) (meets_str_partition a b t n g (D0 f A3)) ?_;show EP X d σ Q _ _;cases e:Builtin.Str.occurrences a b 0 a.length 1 with
 |nil =>
  refine fin _ _ ?_;unfold Txt.partition;rw[e];exact .cons ⟨_,Z⟩ (.cons ⟨_,Z⟩ (.cons ⟨_,Z⟩ .nil))
 |cons i l =>
  refine fin _ _ ?_;unfold Txt.partition;rw[e];exact .cons ⟨_,Z⟩ (.cons ⟨_,Z⟩ (.cons ⟨_,Z⟩ .nil))
theorem AS.tstrs:∀{l:K_}{a:F_},AS (l.map V.str) a->∃b:List (Str×Tok),a=strValues b/\b.map (·.1)=l
|[],_,.nil=>⟨[],Z,Z⟩
|x::r,_,.cons ⟨t,e⟩ rr=>by
 obtain⟨b,c,d⟩:=AS.tstrs rr;subst e c;exact⟨(x,t)::b,Z,by rw[J3,d]⟩
theorem MS:MtR X "str.join" (λx xs H Q=>∃(a:Str)(p:R_)(l:K_),x=.str a/\xs=[.ref p]/\SqL X.K H p (l.map V.str)/\JoinOk a l=true/\Q (.str (Str.join a l)) H):=by
 intro c s σ H x xs v us Q I j r h;obtain⟨a,p,l,rfl,rfl,d,b,q⟩:=h;obtain⟨t,rfl⟩:=j;obtain⟨u,rfl,f⟩:=r.one;cases(show u=Value.ref p from f);obtain⟨g,i,pl,_⟩:=I.list d;obtain⟨m,rfl,e⟩:=AS.tstrs i;refine SC.join (texts:=l) pl.isList e b λt' k=>⟨.str _,H,I.tok k,⟨t',Z⟩,?_⟩
 have:Txt.join a l=Str.join a l:=StrLaws.glued_eq_join a l;rw[this];exact q
theorem Ue(n:Int):∀{ns:I_}{a:F_},AS (ns.map V.int) a->a.countP (λy=>match y with|.int i _=>i==n|_=>false)=ns.countP (· == n)
|[],_,.nil=>rfl
|x::r,_,.cons ⟨t,e⟩ rr=>by
 subst e;rw[W3,W3,Ue n rr]
theorem YO{ns:I_}{a:F_}(h:AS (ns.map V.int) a){y:S_}(b:y∈a):∃i t,y=.int i t:=by
 induction ns generalizing a with
 |nil=>cases h;simp at b
 |cons n r c =>
  cases h with
  |cons q d =>
   obtain⟨t,e⟩:=q;rcases C3.mp b with z|z
   .exact⟨n,t,z.trans e⟩
   .exact c d z
theorem mt_count:MtR X "list.count" (λx xs H Q=>∃(l:R_)(ns:I_)(n:Int),x=.ref l/\xs=[.int n]/\H l=some (.lst (ns.map V.int))/\Q (.int (ns.countP (· == n):Nat)) H):=by
 intro b s σ H x xs v us Q I j r h;obtain⟨l,ns,n,rfl,rfl,d,q⟩:=h;cases j;obtain⟨u,rfl,f⟩:=r.one;obtain⟨tk,rfl⟩:=f;obtain⟨z,a,k,c,m,e⟩:=I.lstM d;refine A4g F.slot_list_count ⟨_,e,Z⟩ F.entry_list_count (F.args_list_count_2 _ _) (MeetsSeq.list_count l a.toArray k (.int n tk) (λy=>match y with|.int i _=>i==n|_=>false) (λy g=>?_)) ⟨e,?_⟩
 .obtain⟨i,t,rfl⟩:=YO c (by simpa using g);exact PySem.MeetsSeq.EqGives.int i n t tk
 .refine⟨.int _,H,I.tok _,⟨_,Z⟩,?_⟩;have:(List.countP (λy=>match y with|Value.int i _=>i==n|_=>false) a.toArray.toList)=ns.countP (· == n):=Ue n (by simpa using c);rw[this];exact q
end
end L2
namespace L2
open PySem
section
variable{X:Cx}{es es':List Expr}{t t':TA}{pos:Pos}
theorem AN{i:Int}{j}(a:PA X es t):PA X (.Constant (.int i) j pos::es) (Db (tC (.int i)) t):=Aa Ab a
theorem ND{z:Str}{j}(a:PA X es t):PA X (.Constant (.str z) j pos::es) (Db (tC (.str z)) t):=Aa Dk a
theorem UQ(h:PA X es' t')(a:PA X es t):PA X (.List es' pos::es) (Db (tLst t') t):=Aa (BX h) a
theorem Bp{x1}(h:PA X es' t')(a:PA X es t):PA X (.Tuple es' x1 pos::es) (Db (YU t') t):=Aa (CD h) a
theorem AV{c:Operator}{r:R2}{a b:Expr}{d e:TE}(h:OpR X (binaryOp c) r)(f:PE X a d)(g:PE X b e)(i:PA X es t):PA X (.BinOp a c b pos::es) (Db (tOp r d e) t):=Aa (AB h f g) i
theorem Ly{K:O_}(h:X.K=K):IxR X (LL K):=h▸Ak
theorem ixc_list{K:O_}(h:X.K=K):IxR X (rIxL K):=h▸Ax
end
theorem AR{P:Prop}(h:∀G:Prop,(P->G)->G):P:=h P id
theorem xq1{α:Sort _}{a:α}{P Q:α->Prop}(h:P a)(k:Q a):∃x,P x/\Q x:=⟨a,h,k⟩
theorem xq2{α β:Sort _}{a:α}{b:β}{P Q R:α->β->Prop}(h:P a b)(h':Q a b)(k:R a b):∃x y,P x y/\Q x y/\R x y:=⟨a,b,h,h',k⟩
theorem xq3{α β γ:Sort _}{a:α}{b:β}{c:γ}{P Q R S:α->β->γ->Prop}(h:P a b c)(h':Q a b c)(d:R a b c)(k:S a b c):∃x y z,P x y z/\Q x y z/\R x y z/\S x y z:=⟨a,b,c,h,h',d,k⟩
theorem xq4{α β γ δ:Sort _}{a:α}{b:β}{c:γ}{d:δ}{P Q R S T:α->β->γ->δ->Prop}(h:P a b c d)(h':Q a b c d)(e:R a b c d)(f:S a b c d)(k:T a b c d):∃x y z w,P x y z w/\Q x y z w/\R x y z w/\S x y z w/\T x y z w:=⟨a,b,c,d,h,h',e,f,k⟩
theorem xq5{K:O_}{f:Str}{H:Hp}{a C dx:R_}{fs:List (Str×V)}{v:V}{Q:V->Prop}(h:H a=some (.ins C dx fs))(c:Cls K C)(d:BK K C f)(e:fs.lookup f=some v)(k:Q v):∃b C dx fs w,V.ref a=.ref b/\H b=some (.ins C dx fs)/\Cls K C/\BK K C f/\fs.lookup f=some w/\Q w:=⟨a,C,dx,fs,v,Z,h,c,d,e,k⟩
theorem xw2{α β:Sort _}{a:α}{b:β}{P:α->Prop}{Q:α->β->Prop}{K:α->β->Prop}(e:P a)(f:Q a b)(k:K a b):∃c,P c/\∃d,Q c d/\K c d:=⟨a,e,b,f,k⟩
theorem xw3{α β γ:Sort _}{a:α}{b:β}{c:γ}{P:α->Prop}{Q:α->β->Prop}{R:α->β->γ->Prop}{K:α->β->γ->Prop}(g:P a)(h:Q a b)(i:R a b c)(k:K a b c):∃d,P d/\∃e,Q d e/\∃f,R d e f/\K d e f:=⟨a,g,b,h,c,i,k⟩
theorem xwb{α β γ:Sort _}{a:α}{b:β}{c:γ}{P:α->Prop}{Q:α->β->γ->Prop}{R:α->β->γ->Prop}{K:α->β->γ->Prop}(g:P a)(h:Q a b c)(i:R a b c)(k:K a b c):∃d,P d/\∃e f,Q d e f/\R d e f/\K d e f:=⟨a,g,b,c,h,i,k⟩
theorem xwm{α β γ δ:Sort _}{a:α}{b:β}{c:γ}{d:δ}{P:α->Prop}{Q:α->β->γ->δ->Prop}{R:α->β->γ->δ->Prop}{S:α->β->γ->δ->Prop}{K:α->β->γ->δ->Prop}(i:P a)(j:Q a b c d)(l:R a b c d)(m:S a b c d)(k:K a b c d):∃e,P e/\∃f g h,Q e f g h/\R e f g h/\S e f g h/\K e f g h:=⟨a,i,b,c,d,j,l,m,k⟩
theorem xwi{α β γ δ ε:Sort _}{a:α}{b:β}{c:γ}{d:δ}{e:ε}{P:α->Prop}{Q:α->β->γ->δ->ε->Prop}{R:α->β->γ->δ->ε->Prop}{S:α->β->γ->δ->ε->Prop}{T:α->β->γ->δ->ε->Prop}{K:α->β->γ->δ->ε->Prop}(l:P a)(m:Q a b c d e)(n:R a b c d e)(o:S a b c d e)(p:T a b c d e)(k:K a b c d e):∃f,P f/\∃g h i j,Q f g h i j/\R f g h i j/\S f g h i j/\T f g h i j/\K f g h i j:=⟨a,l,b,c,d,e,m,n,o,p,k⟩
theorem xwf{α β γ δ ε ζ:Sort _}{a:α}{b:β}{c:γ}{d:δ}{e:ε}{f:ζ}{P:α->Prop}{Q:α->β->γ->δ->ε->ζ->Prop}{R:α->β->γ->δ->ε->ζ->Prop}{S:α->β->γ->δ->ε->ζ->Prop}{T:α->β->γ->δ->ε->ζ->Prop}{U:α->β->γ->δ->ε->ζ->Prop}{K:α->β->γ->δ->ε->ζ->Prop}(n:P a)(o:Q a b c d e f)(p:R a b c d e f)(q:S a b c d e f)(r:T a b c d e f)(s:U a b c d e f)(k:K a b c d e f):∃g,P g/\∃h i j l m,Q g h i j l m/\R g h i j l m/\S g h i j l m/\T g h i j l m/\U g h i j l m/\K g h i j l m:=⟨a,n,b,c,d,e,f,o,p,q,r,s,k⟩
theorem xwn{α β γ δ ε:Sort _}{a:α}{b:β}{c:γ}{d:δ}{e:ε}{P:α->Prop}{Q:α->β->γ->δ->Prop}{R:α->β->γ->δ->Prop}{S:α->β->γ->δ->Prop}{T:α->β->γ->δ->ε->Prop}{K:α->β->γ->δ->ε->Prop}(l:P a)(m:Q a b c d)(n:R a b c d)(o:S a b c d)(p:T a b c d e)(k:K a b c d e):∃f,P f/\∃g h i,Q f g h i/\R f g h i/\S f g h i/\∃j,T f g h i j/\K f g h i j:=⟨a,l,b,c,d,m,n,o,e,p,k⟩
theorem xwj{α β γ δ ε ζ:Sort _}{a:α}{b:β}{c:γ}{d:δ}{e:ε}{f:ζ}{P:α->Prop}{Q:α->β->Prop}{R:α->β->γ->δ->ε->ζ->Prop}{S:α->β->γ->δ->ε->ζ->Prop}{T:α->β->γ->δ->ε->ζ->Prop}{U:α->β->γ->δ->ε->ζ->Prop}{K:α->β->γ->δ->ε->ζ->Prop}(n:P a)(o:Q a b)(p:R a b c d e f)(q:S a b c d e f)(r:T a b c d e f)(s:U a b c d e f)(k:K a b c d e f):∃g,P g/\∃h,Q g h/\∃i j l m,R g h i j l m/\S g h i j l m/\T g h i j l m/\U g h i j l m/\K g h i j l m:=⟨a,n,b,o,c,d,e,f,p,q,r,s,k⟩
theorem Bm{A B:TS}{D:Nh}{σ:St}{H:Hp}(h:let r:=B D;let s:=σ;∀k:St->Hp->Prop,(∀{σ H},r σ H->k σ H)->let E:Nh:={D with nx:=k};A E s H):WS A B D σ H:=h _ λz=>z
end L2
namespace Nu
open PySem PySem.NumText PyProof.Rows
theorem ext{a b:Str}(h:a.cps.toList=b.cps.toList):a=b:=by
 obtain⟨⟨l⟩⟩:=a;obtain⟨⟨r⟩⟩:=b;cases h;rfl
theorem len(x:Str):x.length=x.cps.toList.length:=by simp[Str.length]
end Nu
namespace Tx
open PySem PySem.Builtin PySem.Builtin.Str PyProof.Rows
theorem CW(a b:Str):(a++b).cps.toList=a.cps.toList++b.cps.toList:=cps_toList_append a b
def jl(sep:J_):List (List Nat)->List Nat
|[]=>[]
|[x]=>x
|x::y::r=>x++sep++jl sep (y::r)
theorem Fw(a:Str):∀b:List Str,(Str.join a b).cps.toList=jl a.cps.toList (b.map λt=>t.cps.toList)
|[]=>rfl
|[x]=>rfl
|x::y::r=>by
 have e:Str.join a (x::y::r)=x++a++Str.join a (y::r):=rfl;rw[e,CW,CW,Fw a (y::r)];rfl
theorem Sy{c:Nat}:∀{x y A B:J_},c∉x->c∉y->x++c::A=y++c::B->x=y/\A=B
|[],[],A,B,_,_,h=>⟨Z,by simpa using h⟩
|[],y::ys,A,B,_,hy,h=>by
 simp at h;exact absurd (by rw[h.1];exact C9) hy
|x::xs,[],A,B,hx,_,h=>by
 simp at h;exact absurd (by rw[<-h.1];exact C9) hx
|x::xs,y::ys,A,B,hx,hy,h=>by
 simp at h;obtain⟨e,h⟩:=h;obtain⟨a,b⟩:=Sy (x:=xs) (y:=ys) (λz=>hx (C8 _ z)) (λz=>hy (C8 _ z)) h;exact⟨by rw[e,a],b⟩
theorem Vn(c:Nat)(s:J_):∀(as bs:List (List Nat)),as≠[]->bs≠[]->(∀t∈as,c∉t)->(∀t∈bs,c∉t)->jl (c::s) as=jl (c::s) bs->as=bs
|[],_,h,_,_,_,_=>absurd Z h
|_,[],_,h,_,_,_=>absurd Z h
|[x],[y],_,_,_,_,e=>by
 have a:x=y:=e;rw[a]
|[x],y::z::r,_,_,ha,_,e=>by
 have a:x=y++c::s++jl (c::s) (z::r):=e;exact absurd (by rw[a];simp) (ha x C9)
|x::z::r,[y],_,_,_,hb,e=>by
 have a:x++c::s++jl (c::s) (z::r)=y:=e;exact absurd (by rw[<-a];simp) (hb y C9)
|x::x2::r,y::y2::r',_,_,ha,hb,e=>by
 have a:x++c::(s++jl (c::s) (x2::r))=y++c::(s++jl (c::s) (y2::r')):=by
  have:x++c::s++jl (c::s) (x2::r)=y++c::s++jl (c::s) (y2::r'):=e
  simpa using this
 obtain⟨d,f⟩:=Sy (ha x C9) (hb y C9) a;have g:=List.append_cancel_left f;rw[d,Vn c s (x2::r) (y2::r') A6 A6 (λt b=>ha t (C8 _ b)) (λt b=>hb t (C8 _ b)) g]
theorem QJ {as bs:K_} (h:as.map (λt=>t.cps.toList)=bs.map λt=>t.cps.toList):as=bs:=by
 induction as generalizing bs with
 |nil=>cases bs with|nil=>rfl|cons=>simp at h
 |cons a r c =>
  cases bs with
  |nil=>simp at h
  |cons b q =>
   simp at h;rw[Nu.ext (a:=a) (b:=b) (by simpa using h.1),c (by simpa using h.2)]
theorem SZ(c:Nat)(a:K_)(b:a≠[])(f:∀t∈a,c∉t.cps.toList):Txt.split (Str.join ⟨#[c]⟩ a) ⟨#[c]⟩=a:=by
 refine QJ (Vn c [] _ _ ?_ ?_ ?_ ?_ ?_)
 .intro h;have:=split_pos (Str.join ⟨#[c]⟩ a) ⟨#[c]⟩;have g:(Txt.split (Str.join ⟨#[c]⟩ a) ⟨#[c]⟩).length=0:=by simpa using A0c List.length h
  lia
 .simpa using b
 .intro t e;obtain⟨p,d,rfl⟩:=D3.mp e;exact StrLaws.split_free _ c p d
 .intro t e;obtain⟨p,d,rfl⟩:=D3.mp e;exact f p d
 .have h:=A0c (λz:Str=>z.cps.toList) (StrLaws.join_split (Str.join ⟨#[c]⟩ a) ⟨#[c]⟩);rw[Fw,Fw]at h;exact h
theorem Eu(c:Nat)(a b:Str)(h:c∉a.cps.toList):Txt.partition (a++⟨#[c]⟩++b) ⟨#[c]⟩=(a,⟨#[c]⟩,b):=by
 have d:c∈(a++⟨#[c]⟩++b).cps.toList:=by rw[CW,CW];simp
 have v:=StrLaws.partition_sum (a++⟨#[c]⟩++b) ⟨#[c]⟩;have s:=partition_head (a++⟨#[c]⟩++b) ⟨#[c]⟩;have g:=StrLaws.found_one (a++⟨#[c]⟩++b) c;rw[K0 d]at g;have f:(Txt.partition (a++⟨#[c]⟩++b) ⟨#[c]⟩).2.1=⟨#[c]⟩:=by
  unfold Txt.partition;cases e:occurrences (a++⟨#[c]⟩++b) ⟨#[c]⟩ 0 (a++⟨#[c]⟩++b).length 1 with
  |nil=>rw[e]at g;simp at g
  |cons i l=>rfl
 have m:c∉(Txt.partition (a++⟨#[c]⟩++b) ⟨#[c]⟩).1.cps.toList:=by
  rcases s with ⟨_,no⟩|⟨i,e,r,no⟩
  .obtain⟨j,t⟩:=L9 d;exact absurd ((StrLaws.subAt_one _ c j).mpr t) (no j)
  .rw[e];exact StrLaws.part_free _ c 0 i (by have:i+1<=_:=r.1;lia) λk _ u=>no k u
 have e:(Txt.partition (a++⟨#[c]⟩++b) ⟨#[c]⟩).1.cps.toList++(Txt.partition (a++⟨#[c]⟩++b) ⟨#[c]⟩).2.1.cps.toList++(Txt.partition (a++⟨#[c]⟩++b) ⟨#[c]⟩).2.2.cps.toList=a.cps.toList++[c]++b.cps.toList:=by
  have n:=A0c (λz:Str=>z.cps.toList) v;rw[CW,CW,CW,CW]at n;exact n
 rw[f]at e;have o:(Txt.partition (a++⟨#[c]⟩++b) ⟨#[c]⟩).1.cps.toList++c::(Txt.partition (a++⟨#[c]⟩++b) ⟨#[c]⟩).2.2.cps.toList=a.cps.toList++c::b.cps.toList:=by simpa using e
 obtain⟨p,q⟩:=Sy m h o;exact Prod.ext (Nu.ext p) (Prod.ext f (Nu.ext q))
theorem ED{n:Int}(a:0<=n)(b:n<=9):(Str.ofString (toString n))=(⟨#[48+n.toNat]⟩:Str):=by
 obtain⟨m,rfl⟩:=F8 a;exact(show ∀m:Nat,m<10->(Str.ofString (toString (m:Int)))=(⟨#[48+(m:Int).toNat]⟩:Str) by decide +kernel) m A0
end Tx
namespace Tx
open PySem PySem.Builtin PySem.Builtin.Str PyProof.Rows
theorem Vm:∀a:List (List Nat),jl [] a=a.flatten
|[]=>rfl
|[x]=>by simp[jl]
|x::y::r=>by
 show x++[]++jl [] (y::r)=_;rw[Vm (y::r)];simp
theorem Wv(c:Str)(m:Nat):∀(l:K_)(b:Nat),(∀t∈l,t.length<=m)->l.foldl (λa t=>a+t.length+c.length) b<=b+l.length*(m+c.length)
|[],b,_=>by simp
|t::r,b,h=>by
 have e:=h t C9;have f:=Wv c m r (b+t.length+c.length) λz d=>h z (C8 _ d);rw[T4,F2,U8];lia
theorem MU{b:Str}{l:K_}(m:Nat)(h:∀t∈l,t.length<=m)(d:l.length*(m+b.length)<=100000):JoinOk b l=true:=by
 unfold JoinOk;have c:=Wv b m l 0 h;have e:l.toArray.foldl (λa t=>a+t.length+b.length) 0=l.foldl (λa t=>a+t.length+b.length) 0:=by simp
 rw[e];have:tooLong (l.foldl (λa t=>a+t.length+b.length) 0)=false:=by
  unfold tooLong;refine K1 ?_;have:(100000:Nat)<=sizeLine:=by decide
  lia
 rw[this];rfl
theorem app_len(a b:Str):(a++b).length=a.length+b.length:=by
 rw[Nu.len,Nu.len,Nu.len,CW,C5]
end Tx
namespace Tx
open PySem PySem.Builtin PySem.Builtin.Str PyProof.Rows
theorem at_two(x:Str)(c d k:Nat)(e:x.cps.toList[k]?=some c)(a:x.cps.toList[k+1]?=some d):StrLaws.At x ⟨#[c,d]⟩ x.length k:=by
 have l:k+1<x.cps.toList.length:=(B9.mp a).1;refine⟨?_,?_⟩
 .show k+2<=x.length;rw[Nu.len];lia
 .rw[StrLaws.subAt_eq];show((x.cps.toList.drop k).take 2==[c,d])=true;have b:x.cps.toList.drop k=c::d::x.cps.toList.drop (k+2):=by
   rw[List.drop_eq_getElem_cons A0,(B9.mp e).2,List.drop_eq_getElem_cons l,(B9.mp a).2]
  rw[b];simp
def Led(c d:Nat)(l:J_):Prop:=∀k:Nat,l[k]?=some c->l[k+1]?=some d
theorem Pp{x:Str}{c d a b:Nat}(l:Led c d x.cps.toList)(m:b<=x.length)(i:∀k,a<=k->k<b->¬StrLaws.At x ⟨#[c,d]⟩ x.length k):c∉(strSub x a b).cps.toList:=by
 intro g;rw[StrLaws.strSub_toList]at g;obtain⟨j,e⟩:=L9 g;have f:j<b-a:=by
  have h:j<((x.cps.toList.drop a).take (b-a)).length:=(B9.mp e).1;rw[L8]at h;lia
 rw[V7 f,List.getElem?_drop]at e;exact i (a+j) A0 A0 (at_two x c d (a+j) e (l _ e))
theorem Ob{x:Str}{c d:Nat}(j:Led c d x.cps.toList):∀(b:J_)(a f:Nat),StrLaws.ChainG x ⟨#[c,d]⟩ x.length a b f->(∀k,f<=k->¬StrLaws.At x ⟨#[c,d]⟩ x.length k)->∀p∈StrLaws.partsFrom x 2 a b,c∉p.cps.toList
|[],a,f,h,hn,p,hp=>by
 have e:f=a:=h;subst e;rw[D4.mp hp];exact Pp j (C1 _) λk l _=>hn k l
|g::r,a,f,h,hn,p,hp=>by
 rcases C3.mp hp with rfl|i
 .exact Pp j (by have:g+2<=_:=h.2.1.1;lia) h.2.2.1
 .exact Ob j r _ f h.2.2.2 hn p i
theorem kind_le(x:Str):¬Builtin.Str.strKind x<Builtin.Str.strKind (⟨#[59,32]⟩:Str):=by
 have e:Builtin.Str.strKind (⟨#[59,32]⟩:Str)=1:=by simp[Builtin.Str.strKind]
 rw[e];unfold Builtin.Str.strKind;split
 .decide
 .split<;>decide
theorem Ta{x:Str}(m:Led 59 32 x.cps.toList):∀p∈Txt.split x ⟨#[59,32]⟩,59∉p.cps.toList:=by
 obtain⟨f,c,l⟩:=StrLaws.occ_tight x ⟨#[59,32]⟩ A3;have a:59∈x.cps.toList->∃k,StrLaws.At x ⟨#[59,32]⟩ x.length k:=λb=>by
  obtain⟨j,i⟩:=L9 b;exact⟨j,at_two x 59 32 j i (m j i)⟩
 unfold Txt.split;split
 .rename_i g;intro p e;rw[D4.mp e];intro b;obtain⟨k,d⟩:=a b;have q:k+2<=x.length:=d.1;rw[Bool.or_eq_true,A7c,A7c]at g;rcases g with h|h
  .have r:x.length<2:=h;lia
  .exact kind_le x h
 .split
  .rename_i n;intro p e;rw[D4.mp e];intro b;obtain⟨k,d⟩:=a b;rw[List.isEmpty_iff.mp n]at c;have o:f=0:=c;exact l k A0 d
  .rw[StrLaws.partsBetween_eq];exact Ob m _ 0 f c l
theorem led_jl{c d:Nat}(a:c≠d):∀b:List (List Nat),(∀t∈b,c∉t)->Led c d (jl [c,d] b)
|[],_=>λk h=>by simp[jl]at h
|[x],hf=>λk h=>absurd (D6 (show x[k]?=some c from h)) (hf x C9)
|x::y::r,hf=>λk h=>by
 have j:=led_jl a (y::r) λt i=>hf t (C8 _ i);have e:jl [c,d] (x::y::r)=x++(c::d::jl [c,d] (y::r)):=by
  show x++[c,d]++jl [c,d] (y::r)=_;simp
 rw[e]at h⊢;by_cases f:k<x.length
 .rw[N5 f]at h;exact absurd (D6 h) (hf x C9)
 .rw[L6 A0]at h;rw[L6 A0];obtain⟨m,g⟩:∃m,k-x.length=m:=⟨_,Z⟩
  rw[show k+1-x.length=m+1 by lia];rw[g]at h;cases m with
  |zero=>rfl
  |succ m =>
   cases m with
   |zero =>
    have:some d=some c:=h;exact absurd (K7 this).symm a
   |succ m =>
    rw[W2,W2]at h⊢;exact j m h
theorem SY(a:K_)(d:a≠[])(f:∀t∈a,59∉t.cps.toList):Txt.split (Str.join ⟨#[59,32]⟩ a) ⟨#[59,32]⟩=a:=by
 have e:Led 59 32 (Str.join ⟨#[59,32]⟩ a).cps.toList:=by
  rw[Fw];refine led_jl A3 _ λt c=>?_;obtain⟨p,b,rfl⟩:=D3.mp c;exact f p b
 refine QJ (Vn 59 [32] _ _ ?_ ?_ ?_ ?_ ?_)
 .intro h;have:=split_pos (Str.join ⟨#[59,32]⟩ a) ⟨#[59,32]⟩;have g:(Txt.split (Str.join ⟨#[59,32]⟩ a) ⟨#[59,32]⟩).length=0:=by simpa using A0c List.length h
  lia
 .simpa using d
 .intro t c;obtain⟨p,b,rfl⟩:=D3.mp c;exact Ta e p b
 .intro t c;obtain⟨p,b,rfl⟩:=D3.mp c;exact f p b
 .have h:=A0c (λz:Str=>z.cps.toList) (StrLaws.join_split (Str.join ⟨#[59,32]⟩ a) ⟨#[59,32]⟩);rw[Fw,Fw]at h;exact h
end Tx
namespace L2
open PySem PySem.Spec PyProof.Rows
section
variable{κ:Type}[DecidableEq κ]
def Br(kvs:List (κ×V))(k:κ):Option V:=(kvs.find? λkv=>decide (kv.1=k)).map (·.2)
def DI(kvs:List (κ×V))(k:κ)(v:V):List (κ×V) :=
 if(kvs.any λkv=>decide (kv.1=k))=true then kvs.map (λkv=>if kv.1=k then(kv.1,v)else kv)else kvs++[(k,v)]
theorem BN{p:κ×V}{r:List (κ×V)}{k:κ}(e:p.1=k):Br (p::r) k=some p.2:=by simp[Br,Q6,e]
theorem BB{p:κ×V}{r:List (κ×V)}{k:κ}(e:¬p.1=k):Br (p::r) k=Br r k:=by simp[Br,Q6,e]
theorem Ix(k:κ):∀kvs:List (κ×V),(kvs.any λa=>decide (a.1=k))=(Br kvs k).isSome
|[]=>rfl
|p::r=>by
 rw[U2];by_cases e:p.1=k
 .simp only[BN e,K0 e,Bool.true_or,Option.isSome_some]
 .rw[BB e,K1 e,Bool.false_or];exact Ix k r
theorem SM(k j:κ)(y:V):∀kvs:List (κ×V),Br (kvs.map λa=>if a.1=k then(a.1,y)else a) j=(Br kvs j).map λx=>if j=k then y else x
|[]=>rfl
|p::r=>by
 have b:=SM k j y r;rw[J3];by_cases h:p.1=k
 .rw[K2 h];by_cases e:p.1=j
  .rw[BN (p:=(p.1,y)) e,BN e,W9,K2 (e.symm.trans h)]
  .rw[BB (p:=(p.1,y)) e,BB e,b]
 .rw[X9 h];by_cases e:p.1=j
  .rw[BN (p:=p) e,BN e,W9,X9 (λz=>h (e.trans z))]
  .rw[BB (p:=p) e,BB e,b]
theorem QA(k j:κ)(y:V):∀kvs:List (κ×V),Br kvs k=none->Br (kvs++[(k,y)]) j=if j=k then some y else Br kvs j
|[],_=>by
 by_cases e:k=j
 .rw[K2 e.symm];exact BN (p:=(k,y)) e
 .rw[X9 (λz=>e z.symm)];exact BB (p:=(k,y)) e
|p::r,hn=>by
 rw[List.cons_append];have a:¬p.1=k:=λz=>by rw[BN z]at hn;cases hn
 rw[BB a]at hn;have b:=QA k j y r hn;by_cases e:p.1=j
 .rw[BN e,BN e,X9 (λz=>a (e.trans z))]
 .rw[BB e,BB e,b]
theorem Fl(kvs:List (κ×V))(k j:κ)(y:V):Br (DI kvs k y) j=if j=k then some y else Br kvs j:=by
 unfold DI;by_cases a:(kvs.any λc=>decide (c.1=k))=true
 .rw[K2 a,SM];rw[Ix]at a;by_cases e:j=k
  .obtain⟨x,b⟩:=Option.isSome_iff_exists.mp a;rw[K2 e,e,b,W9,K2 rfl]
  .rw[X9 e];cases Br kvs j with
   |none=>rfl
   |some x=>rw[W9,X9 e]
 .rw[X9 a];refine QA k j y kvs ?_;rw[Ix]at a;cases q:Br kvs k with
  |none=>rfl
  |some x=>rw[q]at a;exact(a Z).elim
theorem GN(kvs:List (κ×V))(k:κ)(v:V):(DI kvs k v).length<=kvs.length+1:=by
 unfold DI;split
 .rw[B8];lia
 .rw[C5,F2,R9];lia
theorem Gk{kvs:List (κ×V)}{k:κ}(v:V)(h:Br kvs k=none):DI kvs k v=kvs++[(k,v)]:=by
 unfold DI;rw[Ix,h];exact X9 A3
theorem JD.isSome_eq{o:Option V}{u:Option Value}(r:JD o u):o.isSome=u.isSome:=by
 cases o with
 |none=>cases u with
  |none=>rfl
  |some _=>exact(show False from r).elim
 |some _=>cases u with
  |none=>exact(show False from r).elim
  |some _=>rfl
theorem JD.getD{o:Option V}{u:Option Value}{d:V}{d':S_}(r:JD o u)(a:Bh d d'):Bh (o.getD d) (u.getD d'):=by
 cases o with
 |none=>cases u with
  |none=>exact a
  |some _=>exact(show False from r).elim
 |some _=>cases u with
  |none=>exact(show False from r).elim
  |some _=>exact r
theorem KV.val{kvs:List (κ×V)}{vs:List (κ×Value)}(r:KV kvs vs)(k:κ):JD (Br kvs k) (valueAt vs k):=by
 unfold KV at r;induction r with
 |nil=>exact True.intro
 |@cons p q ps c h t g =>
  obtain⟨d,f⟩:=h;by_cases e:p.1=k
  .have a:q.1=k:=d.symm.trans e;have b:valueAt (q::c) k=some q.2:=by simp[valueAt,Q6,a]
   rw[BN e,b];exact f
  .have a:¬q.1=k:=λz=>e (d.trans z);have b:valueAt (q::c) k=valueAt c k:=by simp[valueAt,Q6,a]
   rw[BB e,b];exact g
theorem KV.any{kvs:List (κ×V)}{vs:List (κ×Value)}(r:KV kvs vs)(k:κ):(kvs.any λa=>decide (a.1=k))=vs.any λa=>decide (a.1=k):=by
 unfold KV at r;induction r with
 |nil=>rfl
 |cons h t b=>rw[U2,U2,b,h.1]
theorem KV.repl{kvs:List (κ×V)}{vs:List (κ×Value)}(r:KV kvs vs)(k:κ){y:V}{u:S_}(f:Bh y u) :
  KV (kvs.map λa=>if a.1=k then(a.1,y)else a) (vs.map λa=>if a.1=k then(a.1,u)else a):=by
 unfold KV at r⊢;induction r with
 |nil=>exact .nil
 |@cons p q ps g h t d =>
  rw[J3,J3];refine .cons ?_ d;obtain⟨b,c⟩:=h;by_cases e:p.1=k
  .rw[K2 e,K2 (b.symm.trans e)];exact⟨b,f⟩
  .rw[X9 e,X9 (λz=>e (b.trans z))];exact⟨b,c⟩
theorem KV.put{kvs:List (κ×V)}{vs:List (κ×Value)}(r:KV kvs vs)(k:κ){y:V}{u:S_}(a:Bh y u):KV (DI kvs k y) (stored vs k u):=by
 unfold DI stored;rw[r.any k];by_cases e:(vs.any λb=>decide (b.1=k))=true
 .rw[K2 e,K2 e];exact r.repl k a
 .rw[X9 e,X9 e];exact A2d r ⟨Z,a⟩
theorem KV.length{kvs:List (κ×V)}{vs:List (κ×Value)}(r:KV kvs vs):kvs.length=vs.length:=A0e r
end
theorem TW{P:N_}{w:Q_}{k:Key}{u:S_}(r:Bh (kV k) u):(CB P w).is k u=true:=by
 cases k with
 |inl i=>obtain⟨t,e⟩:=(show ∃t,u=Value.int i t from r);subst e;exact TQ P w i t
 |inr x=>obtain⟨t,e⟩:=(show ∃t,u=Value.str x t from r);subst e;exact TN P w x t
theorem QM{P:N_}{w:Q_}:∀{ks:List Key}{us:F_},AS (ks.map kV) us->ItemsAre (CB P w) ks us
|[],_,r=>by rw[X5]at r;cases r;exact .nil
|k::ks,_,r=>by
 rw[J3]at r;cases r with
 |cons h t=>exact .cons (TW h) (QM t)
abbrev KT(H:Hp):List (List Key×V)->List (List Key×Addr×Value)->Prop:=Paired λp q=>p.1=q.1/\H q.2.1=some (.tup (p.1.map kV))/\Bh p.2 q.2.2
theorem KT.val{H:Hp}{kvs:List (List Key×V)}{xs:List (List Key×Addr×Value)}(r:KT H kvs xs)(k:List Key):JD (Br kvs k) ((atKey xs k).map (·.2)):=by
 induction r with
 |nil=>exact True.intro
 |@cons p q ps c h t g =>
  obtain⟨d,_,f⟩:=h;by_cases e:p.1=k
  .have a:q.1=k:=d.symm.trans e;have b:atKey (q::c) k=some q.2:=by simp[atKey,Q6,a]
   rw[BN e,b];exact f
  .have a:¬q.1=k:=λz=>e (d.trans z);have b:atKey (q::c) k=atKey c k:=by simp[atKey,Q6,a]
   rw[BB e,b];exact g
theorem KT.repl{H:Hp}{kvs:List (List Key×V)}{xs:List (List Key×Addr×Value)}(r:KT H kvs xs)(k:List Key){y:V}{u:S_}(g:Bh y u) :
  KT H (kvs.map λb=>if b.1=k then(b.1,y)else b) (xs.map (putAt k u)):=by
 induction r with
 |nil=>exact .nil
 |@cons p q ps i h t f =>
  rw[J3,J3];refine .cons ?_ f;obtain⟨a,c,d⟩:=h;unfold putAt;by_cases e:p.1=k
  .rw[K2 e,K2 (a.symm.trans e)];exact⟨a,c,g⟩
  .rw[X9 e,X9 (λz=>e (a.trans z))];exact⟨a,c,d⟩
theorem KT.put{H:Hp}{kvs:List (List Key×V)}{xs:List (List Key×Addr×Value)}(r:KT H kvs xs)(k:List Key){b:R_}{y:V}{u:S_}(c:H b=some (.tup (k.map kV)))(a:Bh y u) :
  KT H (DI kvs k y) (storedH xs k b u):=by
 have e:(kvs.any λd=>decide (d.1=k))=(atKey xs k).isSome:=by
  rw[Ix,(r.val k).isSome_eq,Option.isSome_map]
 unfold DI storedH;rw[e];by_cases q:(atKey xs k).isSome=true
 .rw[K2 q,K2 q];exact r.repl k a
 .rw[X9 q,X9 q];exact A2d r ⟨Z,c,a⟩
theorem KT.keeps{H a:Hp}{kvs:List (List Key×V)}{xs:List (List Key×Addr×Value)}(r:KT H kvs xs)(c:∀b ys,H b=some (.tup ys)->a b=some (.tup ys)):KT a kvs xs :=
 Paired.mapP r λ_ _ z=>⟨z.1,c _ _ z.2.1,z.2.2⟩
section
variable{P:N_}{w:Q_}{H:Hp}{h:T_}{a:R_}
theorem rd_of{u:HO}(ok:HOk P w H h)(e:Rd H a u):BQ P w H h a u:=e.ok ok
theorem QS{kvs:List (Key×V)}(ok:HOk P w H h)(e:Rd H a (.dK kvs)):kvs.length<=sizeLine/\(a==sysModules)=false/\∃vs,KV kvs vs/\h.DictOf (CB P w) a vs :=
 show BQ P w H h a (.dK kvs)from rd_of ok e
theorem dk_of{kvs:List (Key×V)}(ok:HOk P w H h)(e:H a=some (.dK kvs)):kvs.length<=sizeLine/\(a==sysModules)=false/\∃vs,KV kvs vs/\h.DictOf (CB P w) a vs:=QS ok (.inl e)
theorem PP{ks:List Key}(ok:HOk P w H h)(e:H a=some (.tup (ks.map kV))):(tupleKind (CB P w)).is h ks a:=by
 obtain⟨_,b,r,o,c,d,n,f⟩:=(show BQ P w H h a (.tup (ks.map kV))from ok a _ e)
 exact⟨o,b.toArray,n,c,d,f,by simpa using QM r⟩
theorem QQ{kvs:List (List Key×V)}(ok:HOk P w H h)(e:Rd H a (.dT kvs)):kvs.length<=sizeLine/\(a==sysModules)=false /\
  ∃xs,KT H kvs xs/\h.DictOfH (tupleKind (CB P w)) a xs:=by
 obtain⟨z,y,xs,r,o,f,d,g,i,j,k,n⟩:=(show BQ P w H h a (.dT kvs)from rd_of ok e)
 refine⟨z,y,xs,r,o,f,d,g,i,j,k,λx b=>?_,n⟩;have all:∀{l:List (List Key×V)}{m:List (List Key×Addr×Value)},KT H l m->∀x∈m,(tupleKind (CB P w)).is h x.1 x.2.1:=by
  intro l m q;induction q with
  |nil=>intro x b;exact nomatch b
  |@cons p q ps u c t s =>
   intro x b;rcases C3.mp b with e|b
   .subst e;exact PP ok (by rw[<-c.1];exact c.2.1)
   .exact s x b
 exact all r x b
theorem dt_of{kvs:List (List Key×V)}(ok:HOk P w H h)(e:H a=some (.dT kvs)):kvs.length<=sizeLine/\(a==sysModules)=false /\
 ∃xs,KT H kvs xs/\h.DictOfH (tupleKind (CB P w)) a xs:=QQ ok (.inl e)
end
def IF(H:Hp)(a:R_)(y:V)(r:Option V):Prop :=
 (∃kvs k,Rd H a (.dK kvs)/\y=kV k/\r=Br kvs k)\/∃kvs k b,Rd H a (.dT kvs)/\y=.ref b/\H b=some (.tup (k.map kV))/\r=Br kvs k
def LN(H:Hp)(a:R_)(y v:V)(H':Hp):Prop :=
 (∃kvs k,H a=some (.dK kvs)/\y=kV k/\kvs.length<sizeLine/\H'=upd H a (.dK (DI kvs k v))) \/
 ∃kvs k b,H a=some (.dT kvs)/\y=.ref b/\H b=some (.tup (k.map kV))/\kvs.length<sizeLine/\H'=upd H a (.dT (DI kvs k v))
theorem IF.k{H:Hp}{a:R_}{kvs:List (Key×V)}{k:Key}(e:H a=some (.dK kvs)):IF H a (kV k) (Br kvs k):=.inl ⟨kvs,k,.inl e,Z,Z⟩
theorem IF.t{H:Hp}{a b:R_}{kvs:List (List Key×V)}{k:List Key}(e:H a=some (.dT kvs))(c:H b=some (.tup (k.map kV))):IF H a (.ref b) (Br kvs k):=.inr ⟨kvs,k,b,.inl e,Z,c,Z⟩
theorem LN.k{H:Hp}{a:R_}{kvs:List (Key×V)}{k:Key}{v:V}(e:H a=some (.dK kvs))(b:kvs.length<sizeLine):LN H a (kV k) v (upd H a (.dK (DI kvs k v))):=.inl ⟨kvs,k,e,Z,b,Z⟩
theorem LN.t{H:Hp}{a b:R_}{kvs:List (List Key×V)}{k:List Key}{v:V}(e:H a=some (.dT kvs))(c:H b=some (.tup (k.map kV)))(d:kvs.length<sizeLine) :
 LN H a (.ref b) v (upd H a (.dT (DI kvs k v))):=.inr ⟨kvs,k,b,e,Z,c,d,Z⟩
section
variable{X:Cx}{pins:A_}{σ:St}{H:Hp}{s:P_}{a:R_}{y v:V}{u r:S_}{o:Option V}{A:Around}{E:B_}
theorem Inv.big(I:Inv X pins σ H s):sysModules<s.heap.objs.size:=by
 have h:mainGlobals<s.heap.objs.size:=(I.mod.glob.keeps I.bk).lt;exact V0 A3 h
theorem YC{Q:B_}(D:A.units+1<cLine)(I:Inv X pins σ H s)(g:IF H a y (some v))(q:Bh y u)(h:∀f t,Inv X pins σ H t->Bh v f->Q f t) :
  wpAny (model X.prog X.w) A (getItem (.ref a) u) Q E s:=by
 rcases g with ⟨kvs,k,e,j,l⟩|⟨kvs,k,b,e,j,x,l⟩
 .subst j;obtain⟨z,B,vs,c,i⟩:=QS I.hok e;obtain⟨f,n,d⟩:=JD.some_of (v:=v) (o:=valueAt vs k) (by rw[l];exact c.val k);exact wpAny_getItem_of (TW q) i.mapOf n (h f _ (I.tok _) d)
 .subst j;cases(show u=Value.ref b from q);obtain⟨z,B,xs,c,i⟩:=QQ I.hok e;obtain⟨f,n,d⟩:=JD.some_of (v:=v) (o:=(atKey xs k).map (·.2)) (by rw[l];exact c.val k);obtain⟨p,C,m⟩:=D7.mp n;refine wpAny_getItem_heap (A5f D) (PP I.hok x) i C ?_;rw[m];exact h f _ (I.tok _) d
theorem d_notIn{Q:B_}(p:A.units+1<cLine)(I:Inv X pins σ H s)(g:IF H a y o)(j:Bh y u)(h:∀m,Inv X pins σ H m->Q (.bool (!o.isSome)) m) :
  wpAny (model X.prog X.w) A (compareOp .NotIn u (.ref a)) Q E s:=by
 rcases g with ⟨kvs,k,e,f,l⟩|⟨kvs,k,b,e,f,n,l⟩
 .subst f;obtain⟨z,i,vs,c,d⟩:=QS I.hok e;refine wpAny_notIn_of (TW j) i d.mapOf ?_;rw[<-(c.val k).isSome_eq,<-l];exact h _ (I.tok _)
 .subst f;cases(show u=Value.ref b from j);obtain⟨z,i,xs,c,d⟩:=QQ I.hok e;refine wpAny_notIn_heap (A5f p) (PP I.hok n) i d ?_;have q:=(c.val k).isSome_eq;rw[Option.isSome_map]at q;rw[<-q,<-l];exact h _ (I.tok _)
theorem Sn{h':T_}{t':Nat}{c:HO}(I:Inv X pins σ H s)(h:Mut (H a))(g:Heap.SameBut a s.heap h')(f:∃q,h'.get? a=some q)(new:BQ X.prog X.w (upd H a c) h' a c) :
  Inv X pins σ (upd H a c) {s with heap:=h',toks:=t'} :=
 I.write (x:=a) (e:=a) h (.inl Z) (λb q d z=>(g.2 b d).trans z) f new
theorem dk_new{P:N_}{w:Q_}{c:Hp}{h':T_}{kvs:List (Key×V)}{vs:List (Key×Value)}(z:kvs.length<=sizeLine)(e:(a==sysModules)=false)(b:KV kvs vs)(d:h'.DictOf (CB P w) a vs) :
 BQ P w c h' a (.dK kvs):=⟨z,e,vs,b,d⟩
theorem YB{C:Hp}{Q:Unit->Shared->Prop}(U:A.units+1<cLine)(I:Inv X pins σ H s)(g:LN H a y v C)(K:Bh y u)(G:Bh v r)(h:∀L,Inv X pins σ C L->Q () L) :
  wpAny (model X.prog X.w) A (setItem (.ref a) u r) Q E s:=by
 rcases g with ⟨kvs,k,e,n,l,m⟩|⟨kvs,k,b,e,n,D,l,m⟩
 .subst n m;obtain⟨z,p,vs,d,j⟩:=dk_of I.hok e;have B:vs.length<=sizeLine:=by rw[<-d.length];exact z
  have t:(DI kvs k v).length<=sizeLine:=by have:=GN kvs k v;lia
  refine wpAny_setItem_pairs (hsz:=B) (TW K) j λh' f x=>h _ ?_;have T:∃q,h'.get? a=some q:=let ⟨q,_,_,i,_⟩:=f;⟨q,i⟩;exact Sn I (by rw[e];exact True.intro) x T (dk_new t p (d.put k G) f)
 .subst n m;cases(show u=Value.ref b from K);obtain⟨z,p,xs,d,j⟩:=dt_of I.hok e;have B:xs.length<=sizeLine:=by rw[<-A0e d];exact z
  have t:(DI kvs k v).length<=sizeLine:=by have:=GN kvs k v;lia
  refine wpAny_setItem_heap (hsz:=B) (A5f U) (PP I.hok D) j λh' f x=>h _ ?_;obtain⟨q,N,M,i,O,P,R,_,S⟩:=f;refine Sn I (by rw[e];exact True.intro) x ⟨q,i⟩ ⟨t,p,_,(d.put k D G).keeps λc ys F=>?_,q,N,M,i,O,P,R,S⟩;rw[Aw (AH F e (λz=>nomatch z))];exact F
end
def NoSl(i:Expr):Prop:=∀ov iv,subscripted i false ov iv=operate [ov,iv] (getItem ov iv)
theorem subD_of{prog:N_}{w:Q_}{A:Around}{E:B_}{s:P_}{g:Env}{b a:Expr}{pos:Pos}{T id:String}{Q:B_}
  (m:typeLookup (.type T) "__getitem__" = pure (some (.builtin id))) (n:NoSl a)
  (h:wpAny (model prog w) A (eval b g) (λo e=>wpAny (model prog w) A (eval a g) (λi c=>c.TypeIs o T/\wpAny (model prog w) A (getItem o i) Q E c) E e) E s) :
  wpAny (model prog w) A (eval (.Subscript b a pos) g) Q E s:=by
 refine Subscript_ (A2b h (λo e j=>A2b j (λi c d=>?_) λ_ _ x=>x) λ_ _ x=>x);obtain⟨l,d⟩:=d;unfold subscriptTail;refine X8 ?_;rw[getitemInPython_of_ne l.not_modules];refine X8 (wpAny_specialOf l m ?_);have fin:wpAny (model prog w) A (subscripted a false o i) (λr f=>wpAny (model prog w) A (letTemporaryGo b o r >>= λ_=>pure r) Q E f) E c:=by
  rw[n o i];exact wpAny_operating (A2b d (λr f k=>X8 (wpAny_letTemporaryGo (K3 k))) λ_ _ x=>x)
 first
  |exact K3 (X8 fin)
  |exact X8 (K3 (X8 fin))
  |exact X8 fin
theorem Ub{X:Cx}{c:A_}{σ:St}{H:Hp}{s:P_}{a:R_}{y:V}{o:Option V}(I:Inv X c σ H s)(g:IF H a y o):s.TypeIs (.ref a) "dict" := by
 rcases g with ⟨kvs,k,e,_,_⟩|⟨kvs,k,b,e,_,_,_⟩
 .obtain⟨_,_,vs,_,d⟩:=QS I.hok e;exact d.typeIs
 .obtain⟨_,_,xs,_,d⟩:=QQ I.hok e;exact d.typeIs
def tDGet(td ty:TE):TE:=fun σ H Q=>td σ H λx H1=>ty σ H1 λy H2=>∃a v,x=.ref a/\IF H2 a y (some v)/\Q v H2
def tDNotIn(ty td:TE):TE:=fun σ H Q=>ty σ H λy H1=>td σ H1 λx H2=>∃a o,x=.ref a/\IF H2 a y o/\Q (.bl (!o.isSome)) H2
def sDPut(td ty tv:TE):TS:=λD σ H=>tv σ H λv H1=>td σ H1 λx H2=>ty σ H2 λy H3=>∃a H4,x=.ref a/\LN H3 a y v H4/\D.nx σ H4
section
variable{X:Cx}{o i e value:Expr}{pos pos' tpos:Pos}{td ty tv:TE}
theorem RD(r:X.A.units+1<cLine)(p:PE X o td)(n:PE X i ty)(q:NoSl i):PE X (.Subscript o i pos) (tDGet td ty):=by
 intro b s σ H Q I h;refine subD_of PySem.F.slot_dict_getitem.lookup q (thn (p b s σ H _ I h) λu C ⟨x,f,k,z,t⟩=>thn (n b C σ f _ k t) λD E ⟨y,j,d,B,a,v,m,g,w⟩=>?_);subst m;obtain rfl:u=Value.ref a:=z;exact⟨Ub d g,YC r d g B λK G l c=>⟨v,j,l,c,w⟩⟩
theorem WX(q:X.A.units+1<cLine)(n:PE X i ty)(p:PE X o td):PC X .NotIn i o (tDNotIn ty td):=by
 intro b s σ H Q I h;refine thn (n b s σ H _ I h) λC B c=>?_;obtain⟨y,d,j,z,t⟩:=c;refine thn (p b B σ d _ j t) λu D c=>?_;obtain⟨x,f,k,w,a,r,m,g,v⟩:=c;subst m;obtain rfl:u=Value.ref a:=w;exact d_notIn q k g z λE l=>⟨.bl (!r.isSome),f,l,Z,v⟩
theorem FM(w:X.A.units+1<cLine)(q:PE X o td)(p:PE X i ty)(z:PE X value tv)(t:swapsWith value (some (.Subscript o i pos')) pos.line X.env=pure false) :
  PS X (.Assign [.Subscript o i pos'] value pos) (sDPut td ty tv):=by
 intro b s σ H D I h;refine wpAny_Assign_Subscript (thn (z b s σ H _ I h) λr L ⟨v,c,j,F,B⟩=>thn (q b L σ c _ j B) λu M ⟨x,d,k,G,C⟩=>thn (p b M σ d _ k C) λO P ⟨y,N,l,K,a,f,n,g,E⟩=>?_) t;subst n;obtain rfl:u=Value.ref a:=G;exact YB w l g K F λQ m=>⟨σ,f,m,E⟩
end
theorem dk_empty{P:N_}{w:Q_}{H:Hp}(h:T_)(a:sysModules<h.objs.size):BQ P w H (h.push {cls:=.type "dict",data:=.dict #[]}) h.objs.size (.dK []) :=
 ⟨L5 _,beq_eq_false_iff_ne.mpr (K6 (J9 a)),[],.nil,Heap.DictOf.new h⟩
theorem dt_empty{P:N_}{w:Q_}{H:Hp}(h:T_)(a:sysModules<h.objs.size):BQ P w H (h.push {cls:=.type "dict",data:=.dict #[]}) h.objs.size (.dT []) :=
 ⟨L5 _,beq_eq_false_iff_ne.mpr (K6 (J9 a)),[],.nil,_,#[],0,D9 _ Z,⟨Z,Z,Z⟩,Z,Z,R4⟩
def tDNewK:TE:=λ_ H Q=>∀p,H p=none->Q (.ref p) (upd H p (.dK []))
def tDNewT:TE:=λ_ H Q=>∀p,H p=none->Q (.ref p) (upd H p (.dT []))
section
variable{X:Cx}{pos:Pos}
theorem JN:PE X (.Dict [] [] pos) tDNewK:=λb s σ H Q I h =>
 wpAny_Dict_empty ⟨.ref s.heap.objs.size,_,I.laid (a:=s.heap.objs.size) (o:=.dK []) (t':=s.toks) (λ_ _ q=>C4 _ q) (C1 _) (dk_empty s.heap I.big),Z,h _ (I.hok.fresh (C1 _))⟩
theorem MJ:PE X (.Dict [] [] pos) tDNewT:=λb s σ H Q I h =>
 wpAny_Dict_empty ⟨.ref s.heap.objs.size,_,I.laid (a:=s.heap.objs.size) (o:=.dT []) (t':=s.toks) (λ_ _ q=>C4 _ q) (C1 _) (dt_empty s.heap I.big),Z,h _ (I.hok.fresh (C1 _))⟩
end
structure M1(X:Cx)(o:Expr)(m:Str)(apos:Pos)(e:Expr)(cpos:Pos):Prop where
base:attributeBase o m X.env (eval o X.env)=eval o X.env
few:((backTo cpos (starEach [e] X.env)).all (λx=>!x.1) && (backToKw cpos (keywordEach [] X.env)).all (λx=>x.1.isSome)
 && decide (([e]:List Expr).length+([]:List Keyword).length+(if([]:List Keyword).isEmpty then 0 else 1)<30))=true
line:(apos.endLine==cpos.line)=true
trees:backTo cpos (starEach [e] X.env)=[(false,eval e X.env)]
def IsD(H:Hp)(a:R_):Prop:=(∃kvs,Rd H a (.dK kvs))\/∃kvs,Rd H a (.dT kvs)
theorem isD_at{X:Cx}{g:A_}{σ:St}{H:Hp}{s:P_}{a:R_}(I:Inv X g σ H s)(d:IsD H a) :
  s.TypeIs (.ref a) "dict" /\ (∀b,Value.ref a=.ref b->∃c,s.heap.get? b=some c/\c.dict=none)/\(a==sysModules)=false:=by
 rcases d with ⟨kvs,e⟩|⟨kvs,e⟩
 .obtain⟨_,j,vs,_,f⟩:=QS I.hok e;refine⟨f.typeIs,λb q=>?_,j⟩;cases q;obtain⟨c,_,_,h,i,_⟩:=f;exact⟨c,h,i.2.1⟩
 .obtain⟨_,j,xs,_,f⟩:=QQ I.hok e;refine⟨f.typeIs,λb q=>?_,j⟩;cases q;obtain⟨c,_,_,h,i,_⟩:=f;exact⟨c,h,i.2.1⟩
section
variable{X:Cx}{pins:A_}{σ:St}{H:Hp}{s:P_}{a:R_}{y d:V}{u r:S_}{o:Option V}{A:Around}{E:B_}
theorem d_get1{Q:B_}(t:A.units+1<cLine)(I:Inv X pins σ H s)(g:IF H a y o)(m:Bh y u)(h:∀p n,Inv X pins σ H n->Bh (o.getD .non) p->Q p n) :
  wpAny (model X.prog X.w) A (call (.builtin "dict.get") [.ref a,u]) Q E s:=by
 rcases g with ⟨kvs,k,e,i,l⟩|⟨kvs,k,b,e,i,q,l⟩
 .subst i;obtain⟨z,j,vs,c,f⟩:=QS I.hok e;refine call_meetsIn A5g f.typeIs PySem.F.entry_dict_get (PySem.F.args_dict_get_2 _ _) (meets_dict_get (CB X.prog X.w) a (TW m) j) ⟨_,f.mapOf,h _ _ (I.tok _) ?_⟩;rw[l];exact(c.val k).getD Z
 .subst i;cases(show u=Value.ref b from m);obtain⟨z,j,xs,c,f⟩:=QQ I.hok e;refine call_meetsIn A5g f.typeIs PySem.F.entry_dict_get (PySem.F.args_dict_get_2 _ _) (meetsH_dict_get (tupleKind (CB X.prog X.w)) a b j) ⟨A5f t,k,xs,PP I.hok q,f,h _ _ (I.tok _) ?_⟩;rw[l];exact(c.val k).getD Z
end
def tDGet1(td ty:TE):TE:=fun σ H Q=>td σ H λx H1=>∃a,x=.ref a/\IsD H1 a/\ty σ H1 λy H2=>∃o,IF H2 a y o/\Q (o.getD .non) H2
section
variable{X:Cx}{o e f:Expr}{apos cpos:Pos}{td ty tx:TE}
theorem IA(v:X.A.units+1<cLine)(t:PE X o td)(r:PE X e ty)(m:M1 X o "get" apos e cpos):PE X (.Call (.Attribute o "get" apos) [e] [] cpos) (tDGet1 td ty):=by
 intro b s σ H Q I h;refine wpAny_Call_method m.base m.few m.line PySem.F.plainAttrs_dict A5g PySem.F.type_dict_get (thn (t b s σ H _ I h) λu D q=>?_);obtain⟨x,j,i,B,a,p,d,w⟩:=q;subst p;obtain rfl:u=Value.ref a:=B;obtain⟨E,G,_⟩:=isD_at i d;refine⟨E,G,?_⟩;rw[m.trees];refine Calls.callWith_builtin Z (Calls.evalArgs_plain (Calls.spliced_cons (thn (r b D σ j _ i w) λK M ⟨y,k,l,C,L,g,z⟩=>Calls.spliced_nil ?_)));exact d_get1 v l g C λO N n c=>⟨_,k,n,c,z⟩
end
section
variable{κ:Type}[DecidableEq κ]
theorem YQ{kvs:List (κ×V)}{k:κ}(h:Br kvs k=none):¬k∈kvs.map (·.1):=by
 intro m;obtain⟨p,a,e⟩:=D3.mp m;have q:(kvs.any λb=>decide (b.1=k))=true:=U0.mpr ⟨p,a,K0 e⟩;rw[Ix,h]at q;exact absurd q A6
theorem Wj:∀{l:List κ}{k:κ},l.Nodup->¬k∈l->(l++[k]).Nodup
|[],k,_,_=>by simp
|a::r,k,h,hk=>by
 obtain⟨b,c⟩:=N8.mp h;show(a::(r++[k])).Nodup;refine N8.mpr ⟨λm=>?_,Wj c λm=>hk (C3.mpr (Or.inr m))⟩;rcases F4.mp m with q|q
 .exact b q
 .exact hk (C3.mpr (Or.inl (D4.mp q).symm))
theorem nd_putK{kvs:List (κ×V)}{k:κ}(v:V)(a:(kvs.map (·.1)).Nodup)(h:Br kvs k=none):((DI kvs k v).map (·.1)).Nodup:=by
 rw[Gk v h,C7];exact Wj a (YQ h)
end
section
variable{X:Cx}
theorem RC{K:O_}{e:Expr}{f:Str}{a:TE}{pos:Pos}(b:X.K=K)(d:PE X e a)(c:attributeBase e f X.env (eval e X.env)=eval e X.env):PE X (.Attribute e f pos) (tFld K a f):=b▸AE d c
theorem IC{ns:I_}{a:F_}(f:AS (ns.map V.int) a):∀(i:Nat) v,a.toArray[i]?=some v->∃t,v=.int (ns.getD i 0) t:=λi v e=>by
 have e:a[i]?=some v:=by simpa using e
 cases c:ns[i]? with
 |none =>
  have:a[i]?=none:=f.none_of (by rw[C0,c];rfl);rw[e]at this;cases this
 |some b =>
  obtain⟨u,d,g⟩:=f.get (i:=i) (x:=V.int b) (by rw[C0,c];rfl);rw[e]at d;cases d;rw[F0,c];obtain⟨t,rfl⟩:=g;exact⟨t,Z⟩
theorem QW(D:X.calm=true):GP X (.builtin "min") (λxs H Q=>∃(p:R_)(ns:I_),xs=[.ref p]/\SqL X.K H p (ns.map V.int)/\ns≠[]/\∀m∈ns,(∀x∈ns,m<=x)->Q (.int m) H):=by
 intro g s σ H xs us Q I r h;obtain⟨p,ns,rfl,F,ne,q⟩:=h;cases r with
 |cons L M =>
  cases M;cases(show _=Value.ref p from L);obtain⟨a,l,pl,N⟩:=I.list F;have d:p<s.heap.objs.size:=by obtain⟨o,n,e,_⟩:=pl;exact F1 e
  have k:p≠s.heap.objs.size:=J9 d;have len:a.toArray.size=ns.length:=by rw[F3,<-l.length,B8]
  have pos:0<ns.length:=U6.mpr ne;refine call_min_walk (A5a pl.isList ?_);refine⟨s.heap.objs.size,_,_,_,_,_,_,Z,(Walks.list (A:=X.A.in1) (I.ok.hd D) s.heap.objs.size p k a.toArray),⟨⟨_,D9 _ Z,Z,Z⟩,?_⟩,?_,by rw[len];exact pos,CmpOf.ints_lt (λi=>ns.getD i 0) (IC l),?_⟩
  .exact pl.isList.at λo e=>C4 _ e
  .intro b c;show b<(s.heap.push _).objs.size;rw[Q4];rcases C3.mp c with rfl|c
   .exact V8 _
   .rcases C3.mp c with rfl|c
    .exact Z9 d
    .cases c
  .intro v h' tk w kk;have y:Inv X g σ H {s with heap:=h',toks:=tk}:=I.kept λb o e=>kk b o (by intro z;exact J9 (F1 e) (by simpa using z)) (C4 _ e);obtain⟨t,rfl⟩:=IC l _ _ w;obtain⟨u,b2⟩:=argBest_lt (λi=>ns.getD i 0) (a.toArray.size-1);generalize argBest (λi j=>decide (ns.getD i 0<ns.getD j 0)) (a.toArray.size-1)=z at u b2 w⊢;rw[len]at u b2;have f:z<ns.length:=by lia
   have C:ns.getD z 0=ns[z]:=by rw[F0,C6 f];rfl
   refine⟨.int _,H,y,⟨t,Z⟩,q _ (by rw[C];exact S8 f) λx G=>?_⟩;obtain⟨j,E,e⟩:=Z0.mp G;have:=b2 j A0;have B:ns.getD j 0=x:=by rw[F0,C6 E,<-e];rfl
   rw[<-B];exact this
theorem QY(D:X.calm=true):GP X (.builtin "max") (λxs H Q=>∃(p:R_)(ns:I_),xs=[.ref p]/\SqL X.K H p (ns.map V.int)/\ns≠[]/\∀m∈ns,(∀x∈ns,x<=m)->Q (.int m) H):=by
 intro g s σ H xs us Q I r h;obtain⟨p,ns,rfl,F,ne,q⟩:=h;cases r with
 |cons L M =>
  cases M;cases(show _=Value.ref p from L);obtain⟨a,l,pl,N⟩:=I.list F;have d:p<s.heap.objs.size:=by obtain⟨o,n,e,_⟩:=pl;exact F1 e
  have k:p≠s.heap.objs.size:=J9 d;have len:a.toArray.size=ns.length:=by rw[F3,<-l.length,B8]
  have pos:0<ns.length:=U6.mpr ne;refine call_max_walk (A5a pl.isList ?_);refine⟨s.heap.objs.size,_,_,_,_,_,_,Z,(Walks.list (A:=X.A.in1) (I.ok.hd D) s.heap.objs.size p k a.toArray),⟨⟨_,D9 _ Z,Z,Z⟩,?_⟩,?_,by rw[len];exact pos,CmpOf.ints_gt (λi=>ns.getD i 0) (IC l),?_⟩
  .exact pl.isList.at λo e=>C4 _ e
  .intro b c;show b<(s.heap.push _).objs.size;rw[Q4];rcases C3.mp c with rfl|c
   .exact V8 _
   .rcases C3.mp c with rfl|c
    .exact Z9 d
    .cases c
  .intro v h' tk w kk;have y:Inv X g σ H {s with heap:=h',toks:=tk}:=I.kept λb o e=>kk b o (by intro z;exact J9 (F1 e) (by simpa using z)) (C4 _ e);obtain⟨t,rfl⟩:=IC l _ _ w;obtain⟨u,b2⟩:=argBest_gt (λi=>ns.getD i 0) (a.toArray.size-1);generalize argBest (λi j=>decide (ns.getD i 0 > ns.getD j 0)) (a.toArray.size-1)=z at u b2 w⊢;rw[len]at u b2;have f:z<ns.length:=by lia
   have C:ns.getD z 0=ns[z]:=by rw[F0,C6 f];rfl
   refine⟨.int _,H,y,⟨t,Z⟩,q _ (by rw[C];exact S8 f) λx G=>?_⟩;obtain⟨j,E,e⟩:=Z0.mp G;have:=b2 j A0;have B:ns.getD j 0=x:=by rw[F0,C6 E,<-e];rfl
   rw[<-B];exact this
end
theorem all_same(ns a:I_):((List.range (min ns.length a.length)).all (λj=>ns.getD j 0==a.getD j 0) && ns.length==a.length)=decide (ns=a):=by
 rw[S1,Q0,S9,A6h,decide_eq_true_iff];constructor
 .rintro⟨b,c⟩;refine List.ext_getElem c λi d e=>?_;have:=b i (J6.mpr A0);rw[A6h,F0,F0,C6 d,C6 e]at this;exact this
 .rintro rfl;exact⟨λx _=>beq_iff_eq.mpr Z,Z⟩
section
variable{X:Cx}
theorem WR{H:Hp}{ns:I_}{a:F_}(i:AS (ns.map V.int) a){A:Around}{s:P_}{d:I_}{b:F_}(c:AS (d.map V.int) b)(j:Nat)(g:j<a.toArray.size)(h:j<b.toArray.size):PySem.SeqAt.EqAt A s a.toArray[j] b.toArray[j] (ns.getD j 0==d.getD j 0):=by
 obtain⟨t,e⟩:=IC i j _ (T0 g);obtain⟨u,f⟩:=IC c j _ (T0 h);rw[e,f];exact PySem.SeqAt.EqAt.int_int _ t _ u
theorem WZ(r:X.A.units+64<cLine):OpR X (compareOp .Eq) (λx y H Q=>∃(a b:R_)(ns c:I_),x=.ref a/\y=.ref b/\SqT X.K H a (ns.map V.int)/\SqT X.K H b (c.map V.int)/\Q (.bl (decide (ns=c))) H):=by
 intro d s σ H x y v u Q I o p h;obtain⟨a,b,ns,c,rfl,rfl,g,i,q⟩:=h;cases o;cases p;obtain⟨xs,e,m,_⟩:=I.tuple g;obtain⟨ys,f,n,_⟩:=I.tuple i;refine PySem.SeqAt.eq_tupleAt m n A0 (λj k l=>WR (H:=H) e f j k l) ?_;rw[F3,F3,<-e.length,<-f.length,B8,B8,all_same];exact⟨.bl _,H,I,Z,q⟩
end
section
variable{prog:N_}{w:Q_}{A:Around}{E:B_}{s:P_}{d it:R_}{o:Obj}{es:Array DictEntry}{ep i:Nat}
theorem Tq{Q:B_}(f:(d==sysModules)=false)(b:s.heap.get? d=some o)(e:o.ExactDict)(c:o.data=.dict es ep)
  (q:Q (.ref s.heap.objs.size) {s with heap:=s.heap.push {cls:=.type "dict_keyiterator",data:=.fields #[.ref d,.int 0 0,.int es.size 0,.int ep 0]} }):wpAny (model prog w) A (pyIter (.ref d)) Q E s:=by
 have a:s.TypeIs (.ref d) "dict" := ⟨o,b,e.1⟩
 refine wpAny_pyIter_slot a F.slot_dict_iter (A2e F.slot_dict_iter a F.entry_dict_iter ?_ (F.args_dict_iter_1 _));unfold Builtin.«dict.__iter__»;refine X8 ?_;unfold Builtin.Dict.dictSlotNone;refine X8 (wpAny_notOrdered_dict a ?_);show wpAny _ _ (pure (Value.ref d)) _ _ s;refine K3 ?_;show wpAny _ _ (Builtin.Dict.showsAll d >>= _) _ _ s;unfold Builtin.Dict.showsAll;rw[X9 (by rw[f];exact D5)];refine X8 (K3 ?_);refine X8 (wpAny_dictEntries b c ?_);refine X8 (wpAny_dictEpoch b c ?_);refine X8 (A3h (K3 ⟨_,Z,"dict_keyiterator",_,⟨_,D9 _ Z,Z⟩,F.slot_dict_keyiterator_next.lookup,?_⟩));simpa[rawInt] using q
theorem Zs{Q:Option Value->Shared->Prop}(hit:s.heap.IsKeyIter it d i es.size ep)(f:s.heap.get? d=some o)(e:o.data=.dict es ep)(g:i<es.size)
  (q:∀h',h'.IsKeyIter it d (i+1) es.size ep->Heap.SameBut it s.heap h'->Q (some es[i].key) {s with heap:=h'}):wpAny (model prog w) A (pyNext (.ref it)) Q E s:=by
 obtain⟨j,b,h,a⟩:=id hit;unfold pyNext;refine X8 (A4d (wpAny_callSpecial?_slot (name:=Str.ofString "__next__") hit.typeIs A3f (A2e A3f hit.typeIs F.entry_dict_keyiterator_next ?_ (F.args_dict_keyiterator_next_1 _))));refine X8 (K3 ?_);refine X8 ?_;refine X8 ?_
 (first|refine X8 (A3b hit.typeIs (K3 ?_))|refine X8 (A4f hit.typeIs (K3 ?_)));refine X8 (wpAny_fieldsOf b a ?_)
 have c:Builtin.Dict_items.ownsTuple "dict_keyiterator" = false:=A3;simp only[c,O7,A4a];show wpAny _ _ (if(Value.ref d==Value.none)=true then _ else _) _ _ s;rw[X9 (show ¬((Value.ref d==Value.none)=true)from D5)];refine X8 (K3 ?_);refine X8 (wpAny_dictEntries f e ?_);rw[X9 A6];refine X8 (K3 ?_);refine X8 (wpAny_dictEpoch f e ?_);rw[X9 A6];refine K3 ?_;simp only[show ¬((i:Int)<0)from by lia,A4a,J7,T0 g];refine X8 ?_
 (first|refine X8 (A3b hit.typeIs (K3 ?_))|refine X8 (A4f hit.typeIs (K3 ?_)));refine X8 (wpAny_isOneOf_keyiter hit.typeIs ?_)
 show wpAny _ _ (setField (.ref it) 1 (rawInt ((i:Int)+1)) >>= _) _ _ s;refine X8 (A7a b a A6 ?_);have next:(s.heap.update it (Obj.mapFields (·.setIfInBounds 1 (rawInt ((i:Int)+1))))).IsKeyIter it d (i+1) es.size ep:=⟨_,Y6 _ b (Obj.isFreed_of_fields (A5e a _)),(Obj.cls_mapFields ..).trans h,by rw[A5e a];simp[rawInt]⟩
 refine X8 (A3g ?_);refine X8 (wpAny_isOneOf_keyiter (s:={s with heap:=s.heap.update it (Obj.mapFields (·.setIfInBounds 1 (rawInt ((i:Int)+1))))}) next.typeIs ?_);show wpAny _ _ (pure es[i].key) _ _ _;exact K3 (K3 ⟨_,Z,K3 (q _ next (A5c ..))⟩)
theorem raw_end{Q:Option Value->Shared->Prop}(j:A.handled=none)(hit:s.heap.IsKeyIter it d i es.size ep)(h:s.heap.get? d=some o)(g:o.data=.dict es ep)(k:es.size<=i)
  (q:∀h',Heap.ExtBut it s.heap h'->Q none {s with heap:=h'}):wpAny (model prog w) A (pyNext (.ref it)) Q E s:=by
 obtain⟨n,c,l,f⟩:=id hit;unfold pyNext;refine X8 (A4d (wpAny_callSpecial?_slot (name:=Str.ofString "__next__") hit.typeIs A3f (A2e A3f hit.typeIs F.entry_dict_keyiterator_next ?_ (F.args_dict_keyiterator_next_1 _))));refine X8 (K3 ?_);refine X8 ?_;refine X8 ?_
 (first|refine X8 (A3b hit.typeIs (K3 ?_))|refine X8 (A4f hit.typeIs (K3 ?_)));refine X8 (wpAny_fieldsOf c f ?_)
 have e:Builtin.Dict_items.ownsTuple "dict_keyiterator" = false:=A3;simp only[e,O7,A4a];show wpAny _ _ (if(Value.ref d==Value.none)=true then _ else _) _ _ s;rw[X9 (show ¬((Value.ref d==Value.none)=true)from D5)];refine X8 (K3 ?_);refine X8 (wpAny_dictEntries h g ?_);rw[X9 A6];refine X8 (K3 ?_);refine X8 (wpAny_dictEpoch h g ?_);rw[X9 A6];refine K3 ?_;simp only[show ¬((i:Int)<0)from by lia,A4a,J7,Array.getElem?_eq_none k];refine X8 ?_
 (first|refine X8 (A3b hit.typeIs (K3 ?_))|refine X8 (A4f hit.typeIs (K3 ?_)))
 show wpAny _ _ (setField (.ref it) 0 .none >>= _) _ _ s;refine X8 (A7a c f A6 ?_);show wpAny _ _ (newExc (.type "StopIteration") [] >>= _) _ _ _;refine X8 ?_;simp only[newExc,newTuple];refine X8 (A3h ?_ (by size_fits));refine X8 (m:=firstArgMember _ _) (wpAny_of_eq (a:=Value.none) (by first|rfl|(simp only[firstArgMember];rfl)) ?_);refine A3h ?_ (by size_fits);simp only[raiseNew];refine X8 (wpAny_handled ?_);rw[show A.in1.handled=none from j];refine X8 (K3 (wpAny_throw ?_));refine X8 (wpAny_isInstance (T:="StopIteration") (b:=true) ⟨_,D9 _ Z,Z⟩ isSubtype_stop ?_);exact K3 (q _ (((A5c ..).extBut.push _).push _))
end
def Itd(a:R_)(o:Obj)(kvs:List (List Key×V)):It :=
 ⟨λi H=>H a=some (.frz o (.dT kvs))/\i<kvs.length,λi H x H'=>H'=H/\∃b k v,x=.ref b/\kvs[i]?=some (k,v)/\H b=some (.tup (k.map kV)),λi H=>H a=some (.frz o (.dT kvs))/\kvs.length<=i⟩
theorem frz_dT{P:N_}{w:Q_}{H:Hp}{h:T_}{a:R_}{o:Obj}{kvs:List (List Key×V)}(ok:HOk P w H h)(e:H a=some (.frz o (.dT kvs))) :
  h.get? a=some o/\∃(xs:List (List Key×Addr×Value))(b:Array DictEntry)(c:Nat),KT H kvs xs/\o.data=.dict b c/\b.toList=xs.map (entryOfKey (tupleKind (CB P w))):=by
 obtain⟨d,z,y,xs,r,o',b,c,f,j,g,i,k⟩:=(show BQ P w H h a (.frz o (.dT kvs))from ok a _ e)
 rw[d]at f;cases f;exact⟨d,xs,b,c,r,g,i⟩
theorem KT.at_{H:Hp}:∀{kvs:List (List Key×V)}{xs:List (List Key×Addr×Value)}{i:Nat}{x:List Key×Addr×Value},KT H kvs xs->xs[i]?=some x->∃v,kvs[i]?=some (x.1,v)/\H x.2.1=some (.tup (x.1.map kV)):=by
 intro kvs xs i x r;induction r generalizing i with
 |nil=>intro e;simp at e
 |@cons p q ps g h t f =>
  intro e;cases i with
  |zero =>
   have e:q=x:=by simpa using e
   subst e;obtain⟨a,d,_⟩:=h;exact⟨p.2,by rw[List.getElem?_cons_zero,<-a],by rw[<-a];exact d⟩
  |succ i =>
   obtain⟨v,b,c⟩:=f (i:=i) (by simpa using e);exact⟨v,by simpa using b,c⟩
theorem OR{P:N_}{w:Q_}{K:O_}{tg:Expr}(a it:R_)(o:Obj)(kvs:List (List Key×V))(n:Array DictEntry)(N:Nat)(t:o.data=.dict n N)(hz:n.size=kvs.length):Qv P w K tg (Itd a o kvs) [it] it (λi h=>h.IsKeyIter it a i n.size N) where
 mem:=by simp
 obj:=λi h f b j=>by
  obtain rfl:b=it:=by simpa using j
  obtain⟨o,e,c,d⟩:=f;exact⟨o,e,λv z=>(by rw[d]at z;cases z)⟩
 keep:=λi h h' f k=>f.at λo e=>k it A6 o e
 item:=by
  intro X D L C O i g s σ H E I r f F;subst D L C;obtain⟨G,hi⟩:=F;obtain⟨B,xs,ab,aa,kt,m,M⟩:=frz_dT I.hok G;rw[t]at m;cases m;have l:i<n.size:=by lia
  obtain⟨u,x,f2,y,f4,A⟩:=r it A6;refine Zs f B t l λh' p sb=>?_;have R:Inv X g σ H {s with heap:=h'}:=I.turned (t':=s.toks) (λb o j e=>(sb.2 b j).trans e) u x y f4 A
  have Q:i<xs.length:=by rw[<-size_of_entries M];exact l
  obtain⟨v,S,T⟩:=KT.at_ kt (C6 Q);have Y:n[i].key=.ref xs[i].2.1:=by
   have:=entry_at M i;rw[T0 l,C6 Q]at this;rw[K7 this];rfl
  obtain⟨q,e,c,d⟩:=id p;exact⟨_,Z,TY (s:={s with heap:=h'}) e c d A3 ⟨.ref xs[i].2.1,H,R,Y,⟨Z,_,_,v,Z,S,T⟩,p,λb j=>(r b j).1⟩⟩
 done:=by
  intro X D L C O i g s σ H E I r f F;subst D L C;obtain⟨G,hi⟩:=F;obtain⟨B,_⟩:=frz_dT I.hok G;obtain⟨u,x,f2,y,f4,A⟩:=r it A6;exact raw_end (I.ok.hd O) f B t A0 λh' U=>⟨Z,I.turned (t':=s.toks) (λb o j e=>U b o j e) u x y f4 A⟩
 self:=λ_ _ _ _ _ f h=>wpAny_pyIter_keyiter f h
theorem for_dT{a:R_}{o:Obj}{kvs:List (List Key×V)}{g:TG}{q:TS}{D:Nh}{σ:St}{H:Hp}(c:Nat->St->Hp->Prop)(t:c 0 σ H)(y:∀i σ H,i<=kvs.length->c i σ H->H a=some (.frz o (.dT kvs)))
  (A:∀i b k v σ H,kvs[i]?=some (k,v)->H b=some (.tup (k.map kV))->c i σ H->g (.ref b) σ H fun f h=>q {D with nx:=c (i+1),ct:=c (i+1),bk:=D.nx} f h) (u:∀σ H,c kvs.length σ H->D.nx σ H) :
  ∃W:Nat->Nat->St->Hp->Prop,(∃m,W 0 m σ H)/\∀i m σ H,W i m σ H ->
   ((Itd a o kvs).stop i H/\D.nx σ H)\/((Itd a o kvs).go i H/\∃N:St->Hp->Prop,(∀σ' d,N σ' d->∃n,n<m/\W (i+1) n σ' d)/\∀x d,(Itd a o kvs).yld i H x d->g x σ d fun f h=>q {D with nx:=N,ct:=N,bk:=D.nx} f h):=by
 refine⟨λi m σ H=>m=kvs.length-i/\i<=kvs.length/\c i σ H,⟨kvs.length,by simp,L5 _,t⟩,?_⟩;rintro i m σ H ⟨rfl,w,p⟩;have e:=y i σ H w p;by_cases l:i<kvs.length
 .refine .inr ⟨⟨e,l⟩,c (i+1),fun σ' d z=>⟨_,by lia,Z,by lia,z⟩,?_⟩;rintro x d ⟨rfl,b,k,v,rfl,r,s⟩;exact A i b k v σ _ r s p
 .have j:i=kvs.length:=by lia
  subst j;exact .inl ⟨⟨e,C1 _⟩,u σ H p⟩
section
variable{X:Cx}
def CDivB(i j:Int):Prop:=0<j/\j<2^64
theorem MN:OpR X (binaryOp .FloorDiv) (rI CDivB λi j=>.int (i/j)):=opI λi j _ _ _ _ _ a q=>by
 have c:(0:Int)<j:=a.1;have d:j<2^64:=a.2;refine floordiv_int A0 (by rw[V3 i A0];exact q) (.inl (PyProof.noPylong_of_log2 ?_));have b:j.natAbs<2^64:=by lia
 exact F5 ((Nat.log2_lt A0).mpr b) A3
end
end L2
namespace L2
open PySem PySem.W PyProof.Rows
section
variable{rk:Nat->Int}{n:Nat}
def rkC(rk:Nat->Int)(n i j:Nat)(C:Bool->Shared->Prop)(s:P_):Prop:=i<n/\j<n/\C (decide (rk i<rk j)) s
structure CJ(n:Nat)(p:Array Nat):Prop where
sz:p.size=n
pm:p.Perm (List.range n).toArray
def kk(rk:Nat->Int)(p:Array Nat)(i:Nat):Int:=rk (p.getD i 0)
theorem CJ.lt{p:Array Nat}(h:CJ n p){i:Nat}(b:i<n):p.getD i 0<n:=by
 have a:i<p.size:=by rw[h.sz];exact b
 have e:p.getD i 0=p[i]:=by simp[Array.getD,a]
 have m:p[i]∈p:=Array.getElem_mem a;have:=(Array.Perm.mem_iff h.pm).mp m;rw[e]
 simpa using this
theorem CJ.rev{p:Array Nat}(h:CJ n p)(i j:Nat):CJ n (kas_rev p i j):=⟨(mirror_size _ _ _ _).trans h.sz,(mirror_perm _ _ _ _).trans h.pm⟩
theorem CJ.bub{p:Array Nat}(h:CJ n p)(i j:Nat):CJ n (bubble p i j):=⟨(bubble_size _ _ _).trans h.sz,(bubble_perm _ _ _).trans h.pm⟩
theorem gd(p:Array Nat)(i:Nat):p.getD i 0=p[i]?.getD 0:=by
 simp
theorem Sa{p:Array Nat}(h:CJ n p){i j:Nat}(a:j<=n)(k:Nat):kk rk (kas_rev p i j) k=if i<=k/\k<j then kk rk p (i+j-1-k)else kk rk p k:=by
 have e:=getElem?_mirror_all (xs:=p) (i:=i) (by rw[h.sz];exact a) k;unfold kk kas_rev;rw[gd,e];split<;>rw[gd]
theorem kk_bub{p:Array Nat}(h:CJ n p){a d:Nat}(c:a<n)(b:d<=a)(k:Nat):kk rk (bubble p a d) k=if k=a-d then kk rk p a else if a-d<k/\k<=a then kk rk p (k-1)else kk rk p k:=by
 have e:=getElem?_bubble (xs:=p) (by rw[h.sz];exact c) d b k;unfold kk;rw[gd,e];split
 .rw[gd]
 .split<;>rw[gd]
def Up(rk:Nat->Int)(p:Array Nat)(m:Nat):Prop:=∀i j,i<=j->j<m->kk rk p i<=kk rk p j
def Dn(rk:Nat->Int)(p:Array Nat)(m:Nat):Prop:=∀i j,i<=j->j<m->kk rk p j<=kk rk p i
theorem Up.step{p:Array Nat}{m:Nat}(h:Up rk p m)(c:1<=m)(q:kk rk p (m-1)<=kk rk p m):Up rk p (m+1):=λi j b a=>by
 rcases Q8.mp a with z|z
 .exact h i j b z
 .subst z;rcases Nat.lt_or_ge i j with y|y
  .exact Int.le_trans (h i (j-1) A0 A0) q
  .have:i=j:=by lia
   subst this;exact R5 _
theorem Dn.step{p:Array Nat}{m:Nat}(h:Dn rk p m)(c:1<=m)(q:kk rk p m<=kk rk p (m-1)):Dn rk p (m+1):=λi j b a=>by
 rcases Q8.mp a with z|z
 .exact h i j b z
 .subst z;rcases Nat.lt_or_ge i j with y|y
  .exact Int.le_trans q (h i (j-1) A0 A0)
  .have:i=j:=by lia
   subst this;exact R5 _
theorem Vx{p:Array Nat}(a:CJ n p):∀{f m:Nat}{s:P_}{Q:Nat->Shared->Prop},1<=m->m+f<=n->Up rk p m->(∀r,m<=r->r<=m+f->Up rk p r->(r<m+f->kk rk p r<kk rk p (r-1))->Q r s)->(kas_asc p f m).kasWp (rkC rk n) Q s
|0,m,s,Q,h1,hf,up,k=>k m (C1 _) (C1 _) up λz=>absurd z (O9 _)
|f+1,m,s,Q,h1,hf,up,k=>by
 refine⟨a.lt A0,a.lt A0,?_⟩;by_cases c:kk rk p m<kk rk p (m-1)
 .rw[K0 (show rk (p.getD m 0)<rk (p.getD (m-1) 0)from c)];dsimp only;rw[K2 rfl];exact k m (C1 _) A0 up λ_=>c
 .rw[K1 (show ¬rk (p.getD m 0)<rk (p.getD (m-1) 0)from c)];dsimp only;rw[X9 A6];exact Vx a A0 A0 (up.step h1 A0) λr e g b d=>k r A0 A0 b λz=>d A0
theorem Pk{p:Array Nat}(b:CJ n p){m q:Nat}(a:m<=n)(c:q+1<=m)(eq:∀i,m-(q+1)<=i->i<m->kk rk p i=kk rk p (m-1))(k:Nat):kk rk (kas_rev p (m-(q+1)) m) k=kk rk p k:=by
 rw[Sa b a];split
 .rename_i z;rw[eq _ A0 A0,eq k z.1 z.2]
 .rfl
theorem OM:∀{f m q:Nat}{p:Array Nat}{s:P_}{Q:Array Nat×Nat×Nat->Shared->Prop},CJ n p->q+1<=m->m+f<=n->Dn rk p m->(∀i,m-(q+1)<=i->i<m->kk rk p i=kk rk p (m-1)) ->
 (∀a b h,CJ n a->h+1<=b->b<=n->Dn rk a b->(∀i,b-(h+1)<=i->i<b->kk rk a i=kk rk a (b-1))->Q (a,b,h) s)->(kas_desc f p m q).kasWp (rkC rk n) Q s
|0,m,q,p,s,Q,pn,hq,hf,dn,eq,k=>k p m q pn hq hf dn eq
|f+1,m,q,p,s,Q,pn,hq,hf,dn,eq,k=>by
 refine⟨pn.lt A0,pn.lt A0,?_⟩;have one:∀{a:Array Nat},∀i,m+1-(0+1)<=i->i<m+1->kk rk a i=kk rk a (m+1-1):=λi l o=>by
  have:i=m+1-1:=by lia
  rw[this]
 by_cases c:kk rk p m<kk rk p (m-1)
 .rw[K0 (show rk (p.getD m 0)<rk (p.getD (m-1) 0)from c)];dsimp only;rw[K2 rfl];by_cases g:q > 0
  .rw[K2 g];have same:=Pk pn A0 hq eq;refine OM (pn.rev _ _) A0 A0 ?_ one k;refine Dn.step (λi j t r=>?_) A0 ?_
   .rw[same i,same j];exact dn i j t r
   .rw[same m,same (m-1)];lia
  .rw[X9 g];exact OM pn A0 A0 (dn.step A0 A0) one k
 .rw[K1 (show ¬rk (p.getD m 0)<rk (p.getD (m-1) 0)from c)];dsimp only;rw[X9 A6];refine⟨pn.lt A0,pn.lt A0,?_⟩;by_cases d:kk rk p (m-1)<kk rk p m
  .rw[K0 (show rk (p.getD (m-1) 0)<rk (p.getD m 0)from d)];dsimp only;rw[K2 rfl];exact k p m q pn hq A0 dn eq
  .rw[K1 (show ¬rk (p.getD (m-1) 0)<rk (p.getD m 0)from d)];dsimp only;rw[X9 A6];have e:kk rk p m=kk rk p (m-1):=by lia
   refine OM pn A0 A0 (dn.step A0 A0) (λi l o=>?_) k;rw[Z7];by_cases z:i=m
   .rw[z]
   .rw[eq i A0 A0,e]
theorem VG{m:Nat}{p:Array Nat}{s:P_}{Q:Nat×Array Nat->Shared->Prop}(a:CJ n p)(e:1<=m)(c:m<=n)(d:Dn rk p m)(k:∀r b,CJ n b->r<=n->1<=r->Up rk b r->Q (r,b) s):(kas_tail3 m n p).kasWp (rkC rk n) Q s:=by
 unfold kas_tail3;rw[KasT.kasWp_bind];refine Vx (a.rev _ _) e A0 (λi j o l=>?_) λr g h f _=>k r _ (a.rev _ _) A0 A0 f;rw[Sa a c,Sa a c,K2 ⟨by lia,by lia⟩,K2 ⟨by lia,by lia⟩];exact d _ _ A0 A0
theorem Wd{m:Nat}{p:Array Nat}{s:P_}{Q:Nat×Array Nat->Shared->Prop}(l:CJ n p)(t:m+1<=n)(f:Dn rk p (m+1))(k:∀r d,CJ n d->r<=n->1<=r->Up rk d r->Q (r,d) s):(kas_descPart m n p).kasWp (rkC rk n) Q s:=by
 unfold kas_descPart;rw[KasT.kasWp_bind];refine OM l A0 A0 f (λi o q=>?_) λd u v b e a c eq=>?_
 .have:i=m+1-1:=by lia
  rw[this]
 .dsimp only;split
  .refine VG (b.rev _ _) A0 a (λi j h g=>?_) k;rw[Pk b a e eq,Pk b a e eq];exact c i j h g
  .exact VG b A0 a c k
theorem count_wp{p:Array Nat}{s:P_}{Q:Nat×Array Nat->Shared->Prop}(d:CJ n p)(x:1<=n)(k:∀r m,CJ n m->r<=n->1<=r->Up rk m r->Q (r,m) s):(kas_count n p).kasWp (rkC rk n) Q s:=by
 unfold kas_count;rw[KasT.kasWp_bind];have o:Up rk p 1:=λi j t l=>by
  have f:i=0:=by lia
  have g:j=0:=by lia
  rw[f,g];exact R5 _
 refine Vx d (C1 _) A0 o λr f g h w=>?_;by_cases e:r=n
 .rw[K2 (by simpa using e)];exact k r p d A0 f h
 .rw[X9 (by simpa using e)];have v:=w A0;by_cases q:r > 1
  .rw[K2 q];refine⟨d.lt A0,d.lt A0,?_⟩;by_cases c:kk rk p 0<kk rk p (r-1)
   .rw[K0 (show rk (p.getD 0 0)<rk (p.getD (r-1) 0)from c)];dsimp only;rw[K2 rfl];exact k r p d A0 f h
   .rw[K1 (show ¬rk (p.getD 0 0)<rk (p.getD (r-1) 0)from c)];dsimp only;rw[X9 A6];have all:∀i,i<r->kk rk p i=kk rk p (r-1):=λi u=>by
     have a:=h 0 i A0 u;have b:=h i (r-1) A0 A0;lia
    have same:∀i,kk rk (kas_rev p 0 r) i=kk rk p i:=λi=>by
     rw[Sa d A0];split
     .rw[all _ A0,all i A0]
     .rfl
    refine Wd (d.rev _ _) A0 (Dn.step (λi j t l=>?_) A0 ?_) k
    .rw[same,same,all i A0,all j l];exact R5 _
    .rw[same,same];lia
  .rw[X9 q];have:r=1:=by lia
   subst this;refine Wd d A0 (Dn.step (λi j t l=>?_) A0 A0) k;have f:i=0:=by lia
   have g:j=0:=by lia
   rw[f,g];exact R5 _
theorem Pm{p:Array Nat}{k:Nat}(g:CJ n p)(h:k<n):∀{f l r:Nat}{s:P_}{Q:Nat->Shared->Prop},l<=r->r<=k->r<=l+f->Up rk p k->(∀i,i<l->kk rk p i<=kk rk p k)->(∀i,r<=i->i<k->kk rk p k<=kk rk p i) ->
 (∀t,t<=k->(∀i,i<t->kk rk p i<=kk rk p k)->(∀i,t<=i->i<k->kk rk p k<=kk rk p i)->Q t s)->(kas_place p k f l r).kasWp (rkC rk n) Q s
|0,l,r,s,Q,h1,h2,h3,up,a,b,c=>by
 have:l=r:=by lia
 subst this;exact c l h2 a b
|f+1,l,r,s,Q,h1,h2,h3,up,a,b,c=>by
 unfold kas_place;by_cases e:l ≥ r
 .rw[K2 e];have:l=r:=by lia
  subst this;exact c l h2 a b
 .rw[X9 e];refine⟨g.lt h,g.lt A0,?_⟩;by_cases d:kk rk p k<kk rk p ((l+r)/2)
  .rw[K0 (show rk (p.getD k 0)<rk (p.getD ((l+r)/2) 0)from d)];dsimp only;rw[K2 rfl];refine Pm g h A0 A0 A0 up a (λi m j=>?_) c;have:=up ((l+r)/2) i m j;lia
  .rw[K1 (show ¬rk (p.getD k 0)<rk (p.getD ((l+r)/2) 0)from d)];dsimp only;rw[X9 A6];refine Pm g h A0 A0 A0 up (λi m=>?_) b c;have:=up i ((l+r)/2) A0 A0;lia
theorem bin_wp:∀{f k:Nat}{p:Array Nat}{s:P_}{Q:Array Nat->Shared->Prop},CJ n p->k+f=n->Up rk p k->(∀g,CJ n g->Up rk g n->Q g s)->(kas_bin f p k).kasWp (rkC rk n) Q s
|0,k,p,s,Q,pn,e,up,c=>c p pn (by rw[<-e];exact up)
|f+1,k,p,s,Q,pn,e,up,c=>by
 unfold kas_bin;rw[KasT.kasWp_bind];refine Pm pn A0 (L5 _) (C1 _) A0 up (λi q=>absurd q (M7 _)) (λi u o=>absurd o A0) λt w a b=>?_;refine bin_wp (pn.bub _ _) A0 (λi j r v=>?_) c;rw[kk_bub pn A0 A0,kk_bub pn A0 A0,show k-(k-t)=t by lia];by_cases h:i=t
 .rw[K2 h];by_cases d:j=t
  .rw[K2 d];exact R5 _
  .rw[X9 d,K2 ⟨by lia,by lia⟩];exact b _ A0 A0
 .rw[X9 h];by_cases l:t<i/\i<=k
  .rw[K2 l,X9 A0,K2 ⟨by lia,by lia⟩];exact up _ _ A0 A0
  .rw[X9 l];by_cases d:j=t
   .rw[K2 d];exact a i A0
   .rw[X9 d];by_cases m:t<j/\j<=k
    .rw[K2 m];exact up _ _ A0 A0
    .rw[X9 m];exact up _ _ r A0
theorem sort_wp{s:P_}{Q:Array Nat->Shared->Prop}(e:1<=n)(c:∀a,CJ n a->Up rk a n->Q a s):(kas_sort n).kasWp (rkC rk n) Q s:=by
 unfold kas_sort;rw[KasT.kasWp_bind];refine count_wp ⟨by simp,Array.Perm.refl _⟩ e λr a b g f d=>?_;dsimp only;split
 .rw[show max r 1=r by lia];exact bin_wp b A0 d c
 .have:r=n:=by lia
  subst this;exact c a b d
theorem rk_wp{α:Type}{a:Nat->Nat->(Bool->Shared->Prop)->Shared->Prop}{s:P_}(h:∀i j C,i<n->j<n->C (decide (rk i<rk j)) s->a i j C s):∀{t:KasT α}{Q:α->Shared->Prop},t.kasWp (rkC rk n) Q s->t.kasWp a Q s
|.ret _,_,q=>q
|.ask _ _ _,_,⟨h1,h2,h3⟩=>h _ _ _ h1 h2 (rk_wp h h3)
end
end L2
namespace L2
open PySem PySem.W PySem.Spec PyProof.Rows
def Ft:List Int->List Int->Bool
|[],[]=>false
|[],_::_=>true
|_::_,[]=>false
|a::as,b::bs=>if a=b then Ft as bs else decide (a<b)
theorem PM:∀a,Ft a a=false
|[]=>rfl
|a::as=>by unfold Ft;rw[K2 rfl];exact PM as
theorem MT:∀{a b c:I_},Ft a c=true->Ft a b=true\/Ft b c=true
|[],[],_,h=>.inr h
|[],_::_,_,_=>.inl Z
|_::_,_,[],h=>by cases h
|a::as,[],c::cs,_=>.inr Z
|a::as,b::bs,c::cs,h=>by
 unfold Ft at h⊢;by_cases e:a=c
 .subst e;rw[K2 rfl]at h;by_cases d:a=b
  .subst d;rw[K2 rfl,K2 rfl];exact MT h
  .rw[X9 d,X9 (λz=>d z.symm)];rcases Int.lt_or_gt_of_ne d with z|z
   .exact .inl (K0 z)
   .exact .inr (K0 z)
 .rw[X9 e]at h;have h:=A0d h;by_cases d:a=b
  .subst d;rw[X9 e];exact .inr (K0 h)
  .rw[X9 d];by_cases z:a<b
   .exact .inl (K0 z)
   .by_cases f:b=c
    .lia
    .rw[X9 f];exact .inr (K0 A0)
theorem lexI_asy{a b:I_}(h:Ft a b=true):Ft b a=false:=by
 cases e:Ft b a with
 |false=>rfl
 |true =>
  rcases MT (b:=b) (show Ft a b=true from h)with z|z
  ·
   have:Ft a a=true\/Ft a a=false:=by cases Ft a a<;>simp
   exact absurd (lexI_two h e) A6
  .rw[PM]at z;cases z
where lexI_two:∀{a b:I_},Ft a b=true->Ft b a=true->false=true
|[],[],h,_=>h
|[],_::_,_,h=>h
|_::_,[],h,_=>h
|a::as,b::bs,h,h'=>by
 unfold Ft at h h';by_cases c:a=b
 .subst c;rw[K2 rfl]at h h';exact lexI_two h h'
 .rw[X9 c]at h;rw[X9 (λz=>c z.symm)]at h';have:=A0d h;have:=A0d h';lia
def rkOf(rows:List (List Int))(i:Nat):Int:=((rows.countP λr=>Ft r (rows.getD i []):Nat):Int)
theorem QT{α:Type}{p q:α->Bool}:∀{l:List α}{x:α},x∈l->(∀y,p y=true->q y=true)->p x=false->q x=true->l.countP p<l.countP q
|y::l,x,a,h,hp,hq=>by
 rw[W3,W3];have le:l.countP p<=l.countP q:=List.countP_mono_left λz _=>h z;rcases C3.mp a with rfl|a
 .rw[hp,hq];simp only[O7,A4a,A5b];lia
 .have:=QT a h hp hq;by_cases b:p y=true
  .rw[b,h y b];lia
  .rw[X9 b];split<;>lia
theorem rk_iff{c:List (List Int)}{i j:Nat}(e:i<c.length):decide (rkOf c i<rkOf c j)=Ft (c.getD i []) (c.getD j []):=by
 have f:c.getD i []∈c:=by
  rw[F0,C6 e];exact S8 e
 unfold rkOf;generalize c.getD i []=a at *
 generalize c.getD j []=b;cases h:Ft a b with
 |true =>
  refine K0 ?_;have:=QT (p:=λr=>Ft r a) (q:=λr=>Ft r b) f (λy d=>?_) (PM a) h
  .lia
  .rcases MT (b:=b) d with z|z
   .exact z
   .rw[lexI_asy h]at z;cases z
 |false =>
  refine K1 ?_;have:=List.countP_mono_left (l:=c) (p:=λr=>Ft r b) (q:=λr=>Ft r a) λy _ d=>?_
  .lia
  .rcases MT (b:=a) d with z|z
   .exact z
   .rw[h]at z;cases z
section
variable{prog:N_}{w:Q_}{A:Around}{E:B_}
theorem Wn{b:Bool}{Q:Bool->Shared->Prop}{s:P_}:∀{xs ys:I_}{us vs:F_}{i:Nat},AS (xs.map V.int) us->AS (ys.map V.int) vs->Q (Ft xs ys) s->KatLex prog w A b (decide (xs.length<ys.length)) Q (us.zip vs) i s
|[],[],_,_,i,.nil,.nil,q=>q
|[],y::ys,_,_,i,.nil,.cons _ _,q=>by
 show Q (decide (0<ys.length+1)) s;rw[K0 (Nat.succ_pos _)];exact q
|x::xs,[],_,_,i,.cons _ _,.nil,q=>by
 show Q (decide (xs.length+1<0)) s;rw[K1 (M7 _)];exact q
|x::xs,y::ys,u::us,v::vs,i,.cons r1 t1,.cons r2 t2,q=>by
 obtain⟨t,rfl⟩:=(show ∃t,u=.int x t from r1)
 obtain⟨t',rfl⟩:=(show ∃t,v=.int y t from r2)
 refine wpAny_eqBool_int ?_;unfold Ft at q;by_cases e:x=y
 .subst e;rw[K2 rfl]at q;simp only[beq_self_eq_true,A5b];have h:=Wn (b:=b) (i:=i+1) t1 t2 q;rw[show decide ((x::xs).length<(x::ys).length)=decide (xs.length<ys.length) by simp];exact h
 .rw[X9 e]at q;have a:(x==y)=false:=by simpa using e
  simp only[a,O7,A4a];cases b && i==0 with
  |true=>exact oneLt_int q
  |false =>
   exact kat_one _ _ (wpAny_lt_int q)
end
section
variable{X:Cx}
theorem VC{H:Hp}{h:T_}(ok:HOk X.prog X.w H h){a:List (Addr×List Int)}(l:∀q∈a,H q.1=some (.tup (q.2.map V.int))/\q.2≠[]){i:Nat}(f:i<a.length) :
  ∃(b:R_)(o:Obj)(us:F_)(m:Nat),(a.map λq=>Value.ref q.1).getD i Value.none=.ref b/\h.get? b=some o/\o.cls=.type "tuple" /\ o.data=.seq us.toArray m/\AS (((a.map (·.2)).getD i []).map V.int) us:=by
 have k:=S8 f;obtain⟨j,p⟩:=l _ k;obtain⟨_,g,r,o,e,c,n,d⟩:=(show BQ X.prog X.w H h _ (.tup _)from ok _ _ j)
 refine⟨_,o,g,n,?_,e,c,d,?_⟩
 .rw[F0,C0,C6 f];rfl
 .rw[F0,C0,C6 f];exact r
theorem QP{H:Hp}{h:T_}(ok:HOk X.prog X.w H h):∀{a:List (Addr×List Int)},(∀q∈a,H q.1=some (.tup (q.2.map V.int))/\q.2≠[])->∃fs:List Value,KatTups h (a.map λq=>Value.ref q.1) fs/\fs.length=a.length/\∀v∈fs,∃x t,v=.int x t
|[],_=>⟨[],.nil,Z,λv b=>nomatch b⟩
|q::a,hq=>by
 obtain⟨fs,i,j,k⟩:=QP ok λp f=>hq p (C8 _ f);obtain⟨e,ne⟩:=hq q (C9 ..);obtain⟨_,m,r,o,g,c,n,d⟩:=(show BQ X.prog X.w H h _ (.tup _)from ok _ _ e)
 match l:q.2,ne with
 |x::xs,_ =>
  rw[l]at r;cases r with
  |@cons _ u _ us s y =>
   obtain⟨t,rfl⟩:=(show ∃t,u=.int x t from s)
   refine⟨.int x t::fs,.cons g c d A6 i,by rw[F2,F2,j],λv b=>?_⟩;rcases C3.mp b with rfl|b
   .exact⟨x,t,Z⟩
   .exact k v b
end
end L2
namespace L2
open PySem PySem.W PySem.Spec PyProof.Rows
def iDictF(tl:TE):TI:=fun σ H R=>tl σ H λx H1=>∃a kvs,x=.ref a/\Rd H1 a (.dT kvs)/\∀o H2,H2 a=some (.frz o (.dT kvs))->(∀b u,H1 b=some u->b≠a->H2 b=some u)->R (Itd a o kvs) H2
theorem Zw{X:Cx}{P l:Expr}{tl:TE}(M:PE X l tl):PI X P l (iDictF tl):=by
 intro g s σ H R I h;refine thn (M g s σ H _ I h) λv d ⟨x,B,j,O,N⟩=>?_;obtain⟨a,kvs,e,f,q⟩:=N;subst e;cases O;rcases f with f|⟨o,f⟩
 .obtain⟨z,y,xs,r,o,k,p,i,t,m,A,K⟩:=(show BQ X.prog X.w B d.heap a (.dT kvs)from j.hok a _ f)
  have F:k.size=kvs.length:=by rw[size_of_entries A,<-A0e r]
  have C:Inv X g σ (upd B a (.frz o (.dT kvs))) d:=Sn (t':=d.toks) j (by rw[f];exact True.intro) ⟨Z,λ_ _=>Z⟩ ⟨o,i⟩ ⟨i,z,y,xs,KT.keeps r λc ys G=>(by rw[Aw (AH G f (λz=>nomatch z))];exact G),o,k,p,i,t,m,A,K⟩;refine Tq y i t m ?_;refine⟨d.heap.objs.size,[d.heap.objs.size],_,_,_,Z,C.kept (t':=d.toks) λb o e=>C4 _ e,OR a _ o kvs k p m F,⟨_,D9 _ Z,Z,Z⟩,λb E=>?_,q o _ Af λb u e n=>by rw[Aw n];exact e⟩;obtain rfl:b=d.heap.objs.size:=by simpa using E
  exact C.fpOk (C1 _) (C.hok.fresh (C1 _))
 .obtain⟨i,z,y,xs,r,o',k,p,D,t,m,A,K⟩:=(show BQ X.prog X.w B d.heap a (.frz o (.dT kvs))from j.hok a _ f)
  have L:o=o':=K7 (i.symm.trans D);subst L;have F:k.size=kvs.length:=by rw[size_of_entries A,<-A0e r]
  refine Tq y i t m ?_;refine⟨d.heap.objs.size,[d.heap.objs.size],_,_,_,Z,j.kept (t':=d.toks) λb o e=>C4 _ e,OR a _ o kvs k p m F,⟨_,D9 _ Z,Z,Z⟩,λb E=>?_,q o _ f λb u e n=>e⟩;obtain rfl:b=d.heap.objs.size:=by simpa using E
  exact j.fpOk (C1 _) (j.hok.fresh (C1 _))
end L2
namespace L2
open PySem PySem.W PySem.Spec PyProof.Rows
def OS:Sp:=λvs H Q _=>∃(t:R_)(x y:Int)(r:I_),vs=[.ref t]/\H t=some (.tup ((x::y::r).map V.int))/\∀u,H u=none->Q (.ref u) (upd H u (.tup [.int y,.int x]))
structure It3 where
a:Addr
x:Int
y:Int
r:List Int
def It3.ns(q:It3):List Int:=q.x::q.y::q.r
section
variable{X:Cx}{pins:A_}{σ:St}{H H':Hp}{s:P_}{k:Nat}{f b:R_}{fd:E_}{ps:K_}
theorem DL.stay(fp:DL X pins H b)(a:H' b=none):DL X pins H' b:=⟨a,fp.2⟩
theorem DL.turn{h':T_}{t':Nat}(fp:DL X pins H b)(I:Inv X pins σ H s)(kp:∀c o,c≠b->s.heap.get? c=some o->h'.get? c=some o):Inv X pins σ H {s with heap:=h',toks:=t'} :=
 I.turned kp fp.1 fp.2.1 fp.2.2.2.1 fp.2.2.2.2.1 fp.2.2.2.2.2
theorem DL.nost(fp:DL X pins H b)(I:Inv X pins σ H s):b∉frs X.stack:=λz=>by
 rcases C3.mp (I.stkSub b z)with y|y
 .exact fp.2.1 y
 .exact fp.2.2.1 y
theorem Wo{p:Around}{P:PySem.Fin->Shared->Prop}{E:B_}(I:Inv X pins σ H s){a g:R_}{i c:Nat}{ks h:M_}{m:SortSt}(u:DL X pins H a)(t:DL X pins H g)(l:g≠a)(y:s.heap.get? g=some (seqObj "list" ks c))(v:s.heap.get? a=some (seqObj "list" #[] i))(n:(arrOf m).map (·.2)=h)(x:failedOf m=none)(z:h.size<=sizeLine)(A:ks.size<=sizeLine)
  (fin:∀(h':T_)(r:Nat),Inv X pins σ H {s with heap:=h'}->h'.get? a=some (seqObj "list" h r)->P (.done (.ret .none)) {s with heap:=h'}):wpAny (model X.prog X.w) p (ksk_tail a false i (.ref g) m) P E s:=by
 unfold ksk_tail;have q:Inv X pins σ H {s with heap:=s.heap.update g (Obj.mapSeq λ_=>#[])}:=t.turn (t':=s.toks) I λb o j e=>by rw[P3 _ _ _ _ j];exact e
 have d:(s.heap.update g (Obj.mapSeq λ_=>#[])).get? a=some (seqObj "list" #[] i):=by rw[P3 _ _ _ _ (K6 l)];exact v
 refine X8 (listUpdate_at y Z (X8 (wpAny_letGo (X8 (seqEpoch_at d Z (X8 (listUpdate_at d Z ?_ (hsz2:=?_))))))) (hsz:=A))
 .rw[x];simp only[bne_self_eq_false,O7,A4a];rw[n];refine K3 (fin _ _ (u.turn (s:={s with heap:=s.heap.update g (Obj.mapSeq λ_=>#[])}) (t':=s.toks) q λb o j e=>by rw[P3 _ _ _ _ j];exact e) (get?_update_seq d _))
 .simp only[O7,A4a];rw[n];exact Nat.le_succ_of_le z
theorem keyTree {A2:Around} {P:PySem.Fin->Shared->Prop} {E:B_} (F:AL X.prog X.w X.K X.mg X.base CX0 k f fd ps OS) (hb:CN X.K fd ps []) (hr:Dl k A2) (an:∀s H,Ow X.prog X.w X.K X.mg X.base X.A X.stack s H->Ow X.prog X.w X.K X.mg X.base A2 X.stack s H) (I:Inv X pins σ H s) {a:R_} {d:List It3} {n:Nat} (ho:s.heap.get? a=some (seqObj "list" (d.map λq=>Value.ref q.a).toArray n)) (fa:DL X pins H a) (hit:∀q∈d,H q.a=some (.tup (q.ns.map V.int))) (af:d.length<64)
  (fin:∀(p:Array Nat)(H':Hp)(g:P_)(c:Nat),CJ d.length p->Inv X pins σ H' g->(∀b u,H b=some u->H' b=some u)->H' a=none->g.heap.get? a=some (seqObj "list" (p.toList.map λi=>(d.map λq=>Value.ref q.a).getD i Value.none).toArray c)->P (.done (.ret .none)) g) :
  wpAny (model X.prog X.w) A2 (ksk_tree a (.ref f) false) P E s:=by
 have len:(d.map λq=>Value.ref q.a).length=d.length:=B8 _;have ln:d.length<=sizeLine:=D0 (V1 af) A3;unfold ksk_tree;refine X8 (listItems_at ho Z (X8 (listUpdate_at ho Z ?_)));have ⟨M,he1⟩:∃M,(s.heap.update a (Obj.mapSeq λ_=>#[])).get? a=some (seqObj "list" #[] M):=⟨_,get?_update_seq ho _⟩
 have I1:Inv X pins σ H {s with heap:=s.heap.update a (Obj.mapSeq λ_=>#[])}:=fa.turn (t':=s.toks) I λc o hc e=>by rw[P3 _ _ _ _ hc];exact e
 generalize s.heap.update a (Obj.mapSeq λ_=>#[])=O at he1 I1⊢;refine X8 (seqEpoch_at he1 Z (X8 (wpAny_newTuple (X8 (wpAny_newList (A3g ?_))))));have I2:Inv X pins σ H {s with heap:=O.push (seqObj "tuple" (d.map λq=>Value.ref q.a).toArray 0)}:=I1.kept (t':=s.toks) λb o e=>C4 _ e;have ac:=C4 (seqObj "tuple" (d.map λq=>Value.ref q.a).toArray 0) he1;show wpAny (model X.prog X.w) A2 (ksk_rest a (.ref f) false (d.map λq=>Value.ref q.a).toArray M (.ref (O.push (seqObj "tuple" (d.map λq=>Value.ref q.a).toArray 0)).objs.size)) P E {s with heap:=(O.push (seqObj "tuple" (d.map λq=>Value.ref q.a).toArray 0)).push (seqObj "list" #[] 0)};generalize O.push (seqObj "tuple" (d.map λq=>Value.ref q.a).toArray 0)=l at I2 ac⊢;have fS:DL X pins H l.objs.size:=I2.fpOk (C1 _) (I2.hok.fresh (C1 _));have ag:=C4 (seqObj "list" #[] 0) ac;have ad:(l.push (seqObj "list" #[] 0)).get? l.objs.size=some (seqObj "list" #[] 0):=D9 _ Z;have I3:Inv X pins σ H {s with heap:=l.push (seqObj "list" #[] 0)}:=I2.kept (t':=s.toks) λb o e=>C4 _ e;have U:l.objs.size≠a:=U9 (F1 ac);generalize l.push (seqObj "list" #[] 0)=h3 at ag ad I3⊢;generalize l.objs.size=S at fS ad U⊢;unfold ksk_rest;refine X8 (wpAny_rule ?_);rw[List.forIn_toArray];refine X8 (ksk_fold (λj g=>∃(H':Hp)(us:H_)(c:Nat),Inv X pins σ H' g/\(∀b u,H b=some u->H' b=some u)/\H' a=none/\H' S=none/\g.heap.get? S=some (seqObj "list" (us.map Value.ref).toArray c)/\g.heap.get? a=some (seqObj "list" #[] M)/\us.length=j/\∀(i:Nat) u q,us[i]?=some u->d[i]?=some q->H' u=some (.tup ([q.y,q.x].map V.int))) (d.map λq=>Value.ref q.a) 0 _ ⟨H,[],0,I3,λb u e=>e,fa.1,fS.1,ad,ag,Z,λi u q e=>(nomatch e)⟩ ?_ ?_)
 .rintro j x ⟨hp,gn,dr,tk,os⟩ hx ⟨H',us,c,h,kp,na,nk,hk,ha,L,R⟩;have jl:j<d.length:=by have:=(B9.mp hx).1;rw[len]at this;exact this
  rw[C0]at hx;obtain⟨q,eq,rfl⟩:=D7.mp hx;rw[N3]at L⊢;have N:=fa.stay na;have B:=fS.stay nk;have tq:=kp _ _ (hit q (D6 eq));have ak:OS [V.ref q.a] H' (λv al=>∃u,v=.ref u/\H' u=none/\al=upd H' u (.tup [.int q.y,.int q.x])) E0:=⟨q.a,q.x,q.y,q.r,Z,tq,λu hu=>⟨u,Z,hu,Z⟩⟩
  refine X8 (A4d (wpAny_call (A6c (F.run A2 X.stack _ H' ⟨[Value.ref q.a],[]⟩ ([Value.ref q.a]++[]) [V.ref q.a] _ E0 hr (an _ _ h.env0) (hb _ [Value.ref q.a] h.kIn (F.len _ _ _ _ ak)) (show AS [V.ref q.a] [Value.ref q.a]from .cons Z .nil) ak) λr au hq=>?_)));cases r with
  |error e=>exact hq.elim
  |ok fl =>
   cases fl with
   |next=>exact hq.elim
   |brk=>exact hq.elim
   |cont=>exact hq.elim
   |ret u =>
    obtain⟨v,H2,as,aa,un,ai,rv,Y,rfl,ao,rfl⟩:=hq;obtain⟨hh,g2,d2,t2,ar⟩:=au;obtain rfl:ar=os:=as;cases(show _=Value.ref Y from rv);have I4:=h.call (h':=hh) (g':=g2) (d':=d2) (t':=t2) (ch:=[]) un ai aa (λb z=>absurd z A6);have ah:hh.get? S=_:=un.keep _ _ hk nk (B.nost h) A6;have am:hh.get? a=_:=un.keep _ _ ha na (N.nost h) A6;have np:∀{b:R_}{o:HO},H' b=some o->upd H' Y (.tup [.int q.y,.int q.x]) b=some o:=λ{b o} e=>by rw[Aw (Ay e ao)];exact e
    have aq:upd H' Y (.tup [.int q.y,.int q.x]) a=none:=un.free _ _ ha na A6;have aj:upd H' Y (.tup [.int q.y,.int q.x]) S=none:=un.free _ _ hk nk A6;have ⟨c2,hk5⟩:∃c2,(hh.update S (Obj.mapSeq (·.push (.ref Y)))).get? S=some (seqObj "list" ((us.map Value.ref).toArray.push (.ref Y)) c2):=⟨_,get?_update_seq ah _⟩
    refine X8 (listUpdate_at ah Z (K3 ⟨Z,upd H' Y (.tup [.int q.y,.int q.x]),us++[Y],c2,(B.stay aj).turn (t':=t2) I4 λb o hb e=>by rw[P3 _ _ _ _ hb];exact e,λb o e=>np (kp b o e),aq,aj,?_,?_,by rw[C5,L];rfl,λi u2 q2 eu ab=>?_⟩) (hsz2:=?_))
    .show(hh.update S _).get? S=_;rw[hk5];simp
    .show(hh.update S _).get? a=_;rw[P3 _ _ _ _ (K6 U)];exact am
    .by_cases hi:i<j
     .rw[N5 A0]at eu;exact np (R i u2 q2 eu ab)
     .have:i=j:=by
       have:=(B9.mp eu).1;rw[C5,L]at this;have:i<j+1:=this;lia
      subst this;rw[L6 A0,L,W4]at eu;cases eu;rw[eq]at ab;cases ab;exact Af
    .simp;lia
 .rintro⟨hp,gn,dr,tk,os⟩ ⟨H',us,c,h,kp,na,nk,hk,ha,L,R⟩;rw[N3,len]at L;have N:=fa.stay na;have B:=fS.stay nk;have lk:(us.map Value.ref).length=(d.map λq=>Value.ref q.a).length:=by rw[B8,len,L]
  refine X8 (listItems_at hk Z ?_);unfold ksk_end;dsimp only;simp only[O7,A4a];have sz:(d.map λq=>Value.ref q.a).toArray.size=d.length:=by rw[F3,len]
  by_cases few:(d.map λq=>Value.ref q.a).toArray.size<2
  .rw[K2 few,K2 few];refine X8 (K3 ?_);rw[StateT.run_pure];refine X8 (K3 ?_);dsimp only;have eo:(arrOf (SortSt.mk' general' ((us.map Value.ref).toArray.zip (d.map λq=>Value.ref q.a).toArray) #[] 7 none)).map (·.2)=((List.range d.length).toArray.toList.map λi=>(d.map λq=>Value.ref q.a).getD i Value.none).toArray:=by
    rw[sz]at few;clear hit fin ho R h hk;show((us.map Value.ref).toArray.zip (d.map λq=>Value.ref q.a).toArray).map (·.2)=_
    match d,us,L,few with
    |[],[],_,_=>simp
    |[v],[u],_,_=>simp
   refine Wo (c:=c) h N B U hk ha eo Z (by simp;lia) (by simp;lia) λh' c' I5 h5=>fin (List.range d.length).toArray H' _ c' ⟨by simp,Array.Perm.refl _⟩ I5 kp na h5
  .rw[X9 few,X9 few];have two:2<=d.length:=by lia
   have D:∀q∈(us.zip (d.map λq=>[q.y,q.x])),H' q.1=some (.tup (q.2.map V.int))/\q.2≠[]:=λq hq=>by
    obtain⟨i,hi⟩:=L9 hq;rw[V4,C0]at hi;obtain⟨O,l⟩:=hi;obtain⟨it,M,e2⟩:=D7.mp l;rw[<-e2];exact⟨R i q.1 it O M,by simp⟩
   have z1:((us.zip (d.map λq=>[q.y,q.x])).map λq=>Value.ref q.1)=us.map Value.ref:=by
    show List.map (Value.ref ∘ Prod.fst) _=_;rw[<-N4];rw[List.map_fst_zip (by rw[B8,L];exact C1 _)]
   have zl:(us.zip (d.map λq=>[q.y,q.x])).length=d.length:=by rw[Y4,B8,L,Nat.min_self]
   obtain⟨fs,k1,k2,k3⟩:=QP h.hok D;rw[z1]at k1;refine X8 (kat_kind (T:=.type "int") k1 (by rw[k2,zl];lia) (λv hv=>?_) Z ?_)
   .obtain⟨x,t,rfl⟩:=k3 v hv;exact .now
   have ae:(us.map Value.ref).toArray.size<=sizeLine:=by simp;lia
   refine X8 (A2b (kat_run (ks:=us.map Value.ref) (vs:=d.map λq=>Value.ref q.a) (κ:=tuples' true) (Q:=λW g=>g={heap:=hp,gens:=gn,drawn:=dr,toks:=tk,os:=os}/\failedOf W=none/\∃p,CJ d.length p/\arrOf W=p.map (kas_item ((us.map Value.ref).toArray.zip (d.map λq=>Value.ref q.a).toArray))) (G:=λp g=>g={heap:=hp,gens:=gn,drawn:=dr,toks:=tk,os:=os}/\CJ d.length p) lk (by rw[len];exact two) (by rw[len];exact af) (λp W g O l h3 h4=>⟨h4.1,h3,p,h4.2,l⟩) ?_) ?_ λ_ _ e=>e)
   .rw[len];refine rk_wp (rk:=rkOf (d.map λq=>[q.y,q.x])) (λi j C hi hj cc=>?_) (sort_wp A0 λp' O l=>⟨Z,O⟩);obtain⟨b,o,av,m,M,e2,e3,e4,e5⟩:=VC h.hok D (i:=i) (by rw[zl];exact hi);obtain⟨b',o',aw,m',f1,f2,f3,f4,f5⟩:=VC h.hok D (i:=j) (by rw[zl];exact hj);have z2:((us.zip (d.map λq=>[q.y,q.x])).map (·.2))=d.map λq=>[q.y,q.x]:=List.map_snd_zip (by rw[B8,L];exact C1 _);rw[z1]at M f1;rw[z2]at e5 f5;unfold kas_ask;rw[M,f1];refine kat_lt e2 e4 f2 f4 ?_;rw[rk_iff (by rw[B8];exact hi)]at cc;have:=Wn (prog:=X.prog) (w:=X.w) (A:=A2) (b:=true) (i:=0) e5 f5 cc;have l1:=e5.length;have l2:=f5.length;rw[B8]at l1 l2;rw[F3,F3,<-l1,<-l2];exact this
   rintro⟨⟨⟩,W⟩ g ⟨rfl,hf,p,pn,ea⟩;dsimp only at hf ea⊢;have eo:=kat_snds lk ea;refine Wo (c:=c) h N B U hk ha eo hf (by simp only[F3,B8,U7,pn.sz];exact ln) ae λh' c' I5 h5=>fin p H' _ c' pn I5 kp na h5
theorem Yq {Q:VK} (F:AL X.prog X.w X.K X.mg X.base CX0 k f fd ps OS) (E:CN X.K fd ps []) (hr:Dl (k+2) X.A) (I:Inv X pins σ H s) {p:R_} {g:List It3} (P:SqL X.K H p (g.map λq=>V.ref q.a)) (hit:∀q∈g,H q.a=some (.tup (q.ns.map V.int))) (t:g.length<64)
  (q:∀(L:R_)(h:List It3)(H':Hp),(∀b u,H b=some u->H' b=some u)->H' L=none->h.Perm g->Q (.ref L) (upd H' L (.lst (h.map λq=>V.ref q.a)))) :
  wpAny (model X.prog X.w) X.A (call (.builtin "sorted") [.ref p] [("key",.ref f)]) (EP X pins σ Q) X.xe s:=by
 obtain⟨B,T,pl,hz⟩:=I.list P;have ei:B=g.map λq=>Value.ref q.a:=by
  clear pl hz q P t hit;induction g generalizing B with
  |nil=>cases T;rfl
  |cons it g G =>
   cases T with
   |cons W Y =>
    cases(show _=Value.ref it.a from W);rw[J3,G _ Y]
 subst ei;have len:(g.map λq=>Value.ref q.a).length=g.length:=B8 _;have M:g.length<=sizeLine:=D0 (V1 t) A3;refine PyProof.Rows.call_function_entry_kw kind_sorted plain_sorted entry_sorted (ksk_s1 _ _) ?_;unfold Builtin.«sorted»;refine X8 (m:=checkCount "sorted" 1 1 _) (K3 (X8 (collect_list pl.isList (X8 (wpAny_newList ?_ (by rw[len];exact M))) (by rw[len];exact M))));have D:((s.heap.push (seqObj "list" #[] 0)).update s.heap.objs.size (Obj.mapSeq (· ++ (g.map λq=>Value.ref q.a).toArray))).objs.size=s.heap.objs.size+1:=by
  rw[Heap.size_update];exact size_push' ..
 have r:(((s.heap.push (seqObj "list" #[] 0)).update s.heap.objs.size (Obj.mapSeq (· ++ (g.map λq=>Value.ref q.a).toArray))).push (seqObj "list" (g.map λq=>Value.ref q.a).toArray 0)).get? (s.heap.objs.size+1)=some (seqObj "list" (g.map λq=>Value.ref q.a).toArray 0):=by
  have:=D9 ((s.heap.push (seqObj "list" #[] 0)).update s.heap.objs.size (Obj.mapSeq (· ++ (g.map λq=>Value.ref q.a).toArray))) (show(seqObj "list" (g.map λq=>Value.ref q.a).toArray 0).isFreed=false from Z);rw[D]at this;exact this
 have v:∀b o,s.heap.get? b=some o->(((s.heap.push (seqObj "list" #[] 0)).update s.heap.objs.size (Obj.mapSeq (· ++ (g.map λq=>Value.ref q.a).toArray))).push (seqObj "list" (g.map λq=>Value.ref q.a).toArray 0)).get? b=some o:=λb o e =>
  C4 _ (by rw[P3 _ _ _ _ (J9 (F1 e))];exact C4 _ e)
 show wpAny (model X.prog X.w) _ _ _ _ {s with heap:=(((s.heap.push (seqObj "list" #[] 0)).update s.heap.objs.size (Obj.mapSeq (· ++ (g.map λq=>Value.ref q.a).toArray))).push (seqObj "list" (g.map λq=>Value.ref q.a).toArray 0))};rw[D];have N:Inv X pins σ H {s with heap:=(((s.heap.push (seqObj "list" #[] 0)).update s.heap.objs.size (Obj.mapSeq (· ++ (g.map λq=>Value.ref q.a).toArray))).push (seqObj "list" (g.map λq=>Value.ref q.a).toArray 0))}:=I.kept (t':=s.toks) v;have y:DL X pins H (s.heap.objs.size+1):=I.fpOk (S6 _) (I.hok.fresh (S6 _));generalize ((s.heap.push (seqObj "list" #[] 0)).update s.heap.objs.size (Obj.mapSeq (· ++ (g.map λq=>Value.ref q.a).toArray))).push (seqObj "list" (g.map λq=>Value.ref q.a).toArray 0)=h1 at r N⊢;refine X8 (A3g (PyProof.Rows.wpAny_call_entry_kw slot_list_sort ⟨_,r,Z⟩ entry_list_sort ?_ (ksk_l1 _ _)));rw[ksk_t1];refine keyTree F E hr.in1.in1 (λs H e=>e.in1.in1) N r y hit t λx H' s' c S U kp R ha=>⟨_,Z,K3 ⟨_,Z,?_⟩⟩
 have C:x.toList.Perm (List.range g.length):=by simpa using S.pm.toList
 have sz:x.size=g.length:=S.sz;have lt:∀i∈x.toList,i<g.length:=λi n=>by simpa using (C.mem_iff).mp n
 let d:It3:=⟨0,0,0,[]⟩
 have h:(x.toList.map λi=>g.getD i d).Perm g:=by
  refine(C.map _).trans ?_;refine List.Perm.of_eq (List.ext_getElem? λi=>?_);rw[C0];by_cases n:i<g.length
  .rw[O3 n,C6 n];show some (g.getD i d)=_;rw[F0,C6 n];rfl
  .rw[S3 (by simpa using n),S3 A0];rfl
 refine⟨.ref (s.heap.objs.size+1),_,U.track (o:=.lst ((x.toList.map λi=>g.getD i d).map λq=>V.ref q.a)) R (P1 (D0 I.sz (S6 _))) (P1 (D0 I.ok.bsz (D0 I.sz (S6 _)))) (K6 y.2.1) y.2.2.2.2.1 y.2.2.2.2.2 (λb E z=>y.2.2.1 (z▸E)) ⟨by rw[B8,B8,U7,sz];exact M,_,c,?_,ha⟩,Z,q (s.heap.objs.size+1) _ H' kp R h⟩;have:∀{l:J_},(∀i∈l,i<g.length)->AS ((l.map λi=>g.getD i d).map λq=>V.ref q.a) (l.map λi=>(g.map λq=>Value.ref q.a).getD i Value.none):=by
  intro l;induction l with
  |nil=>intro _;exact .nil
  |cons i l G =>
   intro O;refine .cons ?_ (G λj hj=>O j (C8 _ hj));have n:=O i (C9 ..);show Bh (V.ref (g.getD i d).a) ((g.map λq=>Value.ref q.a).getD i Value.none);rw[F0,F0,C0,C6 n];rfl
 exact this lt
def tSortR(K:O_)(t:TA):TE:=fun σ H Q=>t σ H λvs H1=>∃(p:R_)(items:List It3),vs=[.ref p]/\SqL K H1 p (items.map λq=>V.ref q.a)/\items.length<64/\(∀q∈items,H1 q.a=some (.tup (q.ns.map V.int)))/\∀(L:R_)(out:List It3)(H':Hp),(∀b u,H1 b=some u->H' b=some u)->H' L=none->out.Perm items->Q (.ref L) (upd H' L (.lst (out.map λq=>V.ref q.a)))
theorem UP{a:Str}{e:Expr}{t:TA}{p kp kpos pos:Pos}(c:Cal X.prog X.w X.K X.mg X.base CX0 k a ps OS)(R:Dl (k+2) X.A)(M:Gl X "sorted")(O:X.mg "sorted" = none)(i:Gl X a)(D:PA X [e] t)(G:(a==("__debug__" : Str))=false:=by decide)
  (L:backTo pos (starEach [e] X.env)=(false,eval e X.env)::backTo pos (starEach [] X.env):=by rfl) (l:(backTo pos (starEach [e] X.env)).any (·.1)=false:=by rfl):PE X (.Call (.Name "sorted" p) [e] [⟨some "key",.Name a kp,kpos⟩] pos) (tSortR X.K t):=by
 intro pins s σ H Q I h;obtain⟨f,fd,F,j,N,E⟩:=c.ex;refine A3c (Li I M O PyProof.Rows.boot_sorted ?_);refine PyProof.Rows.callWith_kw (thn (D pos pins s σ H _ I h) λus W g=>?_) L l Z Z;obtain⟨vs,n,u,U,T⟩:=g;obtain⟨S,m,rfl,P,d,hit,q⟩:=T;refine thn (pk_cons (nm:=some "key") (kpos:=kpos) (pe_gref (pos:=kp) i j G) pk_nil pos pins W σ n (λr o=>r=[.ref f]/\o=n) u ⟨Z,Z⟩) λws Y g=>?_;obtain⟨r,o,v,V,B,C⟩:=g;subst B;subst C;cases U with
 |cons x y =>
  cases y;cases(show _=Value.ref S from x);cases V with
  |cons z b2 =>
   cases b2;cases(show _=Value.ref f from z);exact Yq F E R v P hit d q
end
end L2
namespace L2
open PySem PyProof.Rows
def UL(z:Str)(k:Nat):Str:=⟨List.foldl (λx y=>x++y) #[] (List.replicate k z.cps)⟩
theorem repS1(z:Str):UL z 1=z:=by
 unfold UL;show(⟨#[]++z.cps⟩:Str)=z;rw[Array.empty_append]
theorem Zr(a:Array Nat)(k:Nat):∀b:Array Nat,(List.foldl (λx y=>x++y) b (List.replicate k a)).size=b.size+k*a.size:=by
 induction k with
 |zero=>intro b;simp
 |succ k c =>
  intro b;rw[Q9,T4,c,Array.size_append,U8];lia
theorem Tp{z:Str}(h:z.length=1)(k:Nat):(UL z k).length=k:=by
 have h:z.cps.size=1:=h;show(List.foldl (λx y=>x++y) #[] (List.replicate k z.cps)).size=k;rw[Zr,h];show 0+k*1=k;lia
section
variable{X:Cx}
def rMulN:R2:=λx y H Q=>∃(z:Str)(k:Nat),x=.str z/\y=.int (k:Int)/\z.length=1/\k<=100/\Q (.str (UL z k)) H
theorem We:OpR X (binaryOp .Mult) rMulN:=by
 intro c s σ H x y v u Q I f g h;obtain⟨z,k,rfl,rfl,a,e,q⟩:=h;obtain⟨t,rfl⟩:=f;obtain⟨t',rfl⟩:=g;refine PySem.P.mul_str (by rw[Bool.or_eq_false_iff];exact⟨K1 A0,K1 A0⟩) (λb _=>?_) (λ_ _=>?_) ?_
 .rw[a];have:(1:Int)<=(2^63-1)/(k:Int):=(Int.le_ediv_iff_mul_le A0).mpr A0;lia
 .rw[a,Nat.one_mul,J7];unfold Builtin.Str.tooLong;have:k<=100:=e;have:(100:Nat)<=sizeLine:=by decide
  exact K1 (by simp;lia)
 .by_cases d:k=0
  .subst d;rw[K2 A3];exact⟨by decide,.str _,H,I.tok _,⟨_,Z⟩,q⟩
  .rw[X9 A0];by_cases b:k=1
   .subst b;rw[K2 A6];rw[repS1]at q;exact⟨.str _,H,I,⟨_,Z⟩,q⟩
   .rw[X9 (by rw[a];simp;lia),J7];have j:=Tp a k;have i:(100:Nat)<=sizeLine:=by decide
    have le:(UL z k).length<=sizeLine:=by lia
    exact⟨le,.str _,H,I.tok _,⟨_,Z⟩,q⟩
end
end L2
namespace J
open PySem L2
theorem asI{N P:K_}{c:Scope}(a:c.kind=.function:=by rfl)(b:c.isCoroutine=false:=by rfl)(d:c.isGenerator=false:=by rfl)(e:N.Nodup:=by decide +kernel)(f:N.take P.length=P:=by rfl)(g:∀x∈P,c.names.lookup x=some .local∨c.names.lookup x=some .cell:=by decide +kernel)(h:∀y∈c.names,y.2≠.free:=by decide +kernel):Au N P c:=⟨a,b,d,e,f,g,h⟩
def top(i:Nat):Stmt:=PySem.Challenge.pw_jumpfield_k73_whole_it_goes_on.main.body.getD i (.Pass ⟨0,0,0,0⟩)
abbrev Mb:Stmt:=top 11
abbrev UZ:List Str:=["thing"]
theorem Tg:Au UZ UZ (Al Mb):=asI
abbrev Mc:Stmt:=top 18
theorem Th:Au UZ UZ (Al Mc):=asI
abbrev Rx:Stmt:=top 19
abbrev dP:List Str:=["wanted","state"]
theorem Zo:Au dP dP (Al Rx):=asI
abbrev Fa:Stmt:=top 23
abbrev LS:List Str:=["text","words","cell","conditions"]
abbrev Ie:List Str:=["text"]
theorem Ei:Au LS Ie (Al Fa):=asI
abbrev IM:Stmt:=top 24
abbrev RK:List Str:=["word"]
theorem Qf:Au RK RK (Al IM):=asI
abbrev GW:Stmt:=top 25
theorem OY:Au RK RK (Al GW):=asI
abbrev EM:Stmt:=top 26
theorem MC:Au RK RK (Al EM):=asI
abbrev Gb:Stmt:=top 27
abbrev Pw:List Str:=["word","parts"]
theorem Jv:Au Pw RK (Al Gb):=asI
abbrev Ga:Stmt:=top 28
abbrev Pu:List Str:=["signs","numbers","sign"]
abbrev Gn:List Str:=["signs"]
theorem FA:Au Pu Gn (Al Ga):=asI
abbrev EZ:Stmt:=top 29
theorem OZ:Au RK RK (Al EZ):=asI
abbrev GV:Stmt:=top 32
abbrev Qm:List Str:=["box","dx","dy"]
theorem OX:Au Qm Qm (Al GV):=asI
abbrev Dr:Stmt:=top 33
abbrev Fs:List Str:=["boxes","left","top","right","bottom"]
abbrev GM:List Str:=["boxes"]
theorem Ej:Au Fs GM (Al Dr):=asI
abbrev GX:Stmt:=top 38
abbrev Qo:List Str:=["box","limit"]
theorem Pa:Au Qo Qo (Al GX):=asI
abbrev LZ:Stmt:=top 39
abbrev UX:List Str:=["grove","field"]
theorem Tf:Au UX UX (Al LZ):=asI
abbrev IP:Stmt:=top 40
abbrev RN:List Str:=["grove"]
theorem Qg:Au RN RN (Al IP):=asI
abbrev Nq:Stmt:=top 41
abbrev Yh:List Str:=["grove","square","level","parts","bare"]
abbrev Lu:List Str:=["grove","square"]
theorem II:Au Yh Lu (Al Nq):=asI
abbrev Nr:Stmt:=top 42
abbrev Yi:List Str:=["grove","square","kept"]
theorem LW:Au Yi Lu (Al Nr):=asI
abbrev GJ:Stmt:=top 43
abbrev Od:List Str:=["grove","square","inner"]
theorem MD:Au Od Lu (Al GJ):=asI
abbrev EN:Stmt:=top 44
abbrev NL:List Str:=["grove","square","bare","place","quarter","part_place","part"]
theorem BR:Au NL Lu (Al EN):=asI
abbrev FZ:Stmt:=top 45
abbrev Pt:List Str:=["grove","field","box","wide"]
abbrev Ev:List Str:=["grove","field","box"]
theorem Fz:Au Pt Ev (Al FZ):=asI
abbrev IK:Stmt:=top 46
abbrev RI:List Str:=["grove","field","level","wide"]
abbrev Je:List Str:=["grove","field","level"]
theorem GU:Au RI Je (Al IK):=asI
abbrev Nt:Stmt:=top 47
abbrev Yk:List Str:=["grove","field","x","y","state","place","wide","half"]
abbrev NF:List Str:=["grove","field","x","y","state"]
theorem IJ:Au Yk NF (Al Nt):=asI
abbrev LY:Stmt:=top 48
abbrev UW:List Str:=["grove","square","x","y","state","level","half","parts","place"]
abbrev Gm:List Str:=["grove","square","x","y","state"]
theorem Ea:Au UW Gm (Al LY):=asI
abbrev Mf:Stmt:=top 49
abbrev Vc:List Str:=["grove","cells","field","cell"]
abbrev Mm:List Str:=["grove","cells"]
theorem GI:Au Vc Mm (Al Mf):=asI
abbrev Pi:Stmt:=top 51
abbrev ZY:List Str:=["grove","field","box","reach"]
theorem Nl:Au ZY UX (Al Pi):=asI
abbrev UK:Stmt:=top 53
abbrev dR:List Str:=["jumps","field","n","tuples"]
abbrev RE:List Str:=["jumps","field","n"]
theorem VY:Au dR RE (Al UK):=asI
abbrev UJ:Stmt:=top 54
abbrev dQ:List Str:=["jumps","field","n","grove","told","here","rest","e","square","result"]
theorem Eh:Au dQ RE (Al UJ):=asI
abbrev IO:Stmt:=top 55
abbrev RM:List Str:=["grove","field","n","box"]
abbrev Ji:List Str:=["grove","field","n"]
theorem LO:Au RM Ji (Al IO):=asI
abbrev JH:Stmt:=top 56
abbrev TH:List Str:=["grove","field","e","reach","level"]
abbrev JQ:List Str:=["grove","field","e"]
theorem FK:Au TH JQ (Al JH):=asI
abbrev Ma:Stmt:=top 58
abbrev UY:List Str:=["grove","field","dx","dy","box","target","wide","size","bare","four"]
abbrev Jg:List Str:=["grove","field","dx","dy"]
theorem Dq:Au UY Jg (Al Ma):=asI
abbrev Lq:Stmt:=top 59
abbrev Yj:List Str:=["grove","four","right","down","known","bare","seen","square"]
abbrev FT:List Str:=["grove","four","right","down","known"]
theorem EK:Au Yj FT (Al Lq):=asI
abbrev EL:Stmt:=top 60
abbrev NI:List Str:=["four","right","down","bare"]
theorem Mz:Au NI NI (Al EL):=asI
abbrev DM:Stmt:=top 61
abbrev Oq:List Str:=["grove","four","right","down","known","half","rows","made","place","column","row","inner"]
theorem Bv:Au Oq FT (Al DM):=asI
abbrev DR:Stmt:=top 62
abbrev Mr:List Str:=["grove","four","a","b","c","d"]
abbrev CU:List Str:=["grove","four"]
theorem BZ:Au Mr CU (Al DR):=asI
abbrev LX:Stmt:=top 64
abbrev UV:List Str:=["grove","field","box","shape"]
theorem JE:Au UV UX (Al LX):=asI
abbrev GY:Stmt:=top 65
abbrev Qp:List Str:=["jumps","field","most","seen","here","count","found","earlier"]
abbrev Ig:List Str:=["jumps","field","most"]
theorem Ce:Au Qp Ig (Al GY):=asI
abbrev Gc:Stmt:=top 69
theorem Ol:Au Ie Ie (Al Gc):=asI
abbrev JG:Stmt:=top 70
abbrev TF:List Str:=["text","rule"]
theorem MB:Au TF Ie (Al JG):=asI
abbrev Mg:Stmt:=top 71
abbrev Vd:List Str:=["rule","cell","around","number","clause"]
abbrev Mo:List Str:=["rule","cell","around"]
theorem JF:Au Vd Mo (Al Mg):=asI
abbrev Ny:Stmt:=top 72
abbrev Yl:List Str:=["rule","cell","around","number"]
theorem Pc:Au Yl Mo (Al Ny):=asI
abbrev IL:Stmt:=top 73
abbrev RJ:List Str:=["rule"]
theorem Qe:Au RJ RJ (Al IL):=asI
abbrev IN:Stmt:=top 76
abbrev RL:List Str:=["grove","square","parts","a","b","c","d"]
theorem Df:Au RL Lu (Al IN):=asI
abbrev Md:Stmt:=top 77
abbrev Vb:List Str:=["nine"]
theorem Ti:Au Vb Vb (Al Md):=asI
abbrev DC:Stmt:=top 78
abbrev LM:List Str:=["grove","four","parts"]
theorem Fo:Au LM CU (Al DC):=asI
abbrev Nz:Stmt:=top 81
abbrev Ym:List Str:=["_law_script","_law_k"]
theorem UI:Au Ym Ym (Al Nz):=asI
abbrev Mh:Stmt:=top 82
abbrev Ve:List Str:=["_law_cell","_law_k","_law_value"]
abbrev Jk:List Str:=["_law_cell","_law_k"]
theorem Oa:Au Ve Jk (Al Mh):=asI
abbrev FB:Stmt:=top 83
abbrev Os:List Str:=["_law_mains","_law_value"]
theorem Nm:Au Os Os (Al FB):=asI
abbrev Cz:Stmt:=top 84
abbrev FI:List Str:=["_law_mains","_law_seed","_law_j","_law_wanted","_law_k","_law_value","_law_mask"]
abbrev DD:List Str:=["_law_mains","_law_seed","_law_j"]
theorem BO:Au FI DD (Al Cz):=asI
abbrev EO:Stmt:=top 85
abbrev NM:List Str:=["_law_mains","_law_seed","_law_j","_law_taken","_law_conditions","_law_k"]
theorem Co:Au NM DD (Al EO):=asI
abbrev IR:Stmt:=top 86
abbrev RP:List Str:=["_law_condition","_law_around","_law_k","_law_many","_law_state"]
abbrev Jl:List Str:=["_law_condition","_law_around"]
theorem DH:Au RP Jl (Al IR):=asI
abbrev Gd:Stmt:=top 87
abbrev Py:List Str:=["_law_clauses","_law_cell","_law_around","_law_at_here","_law_fits","_law_condition"]
abbrev Gr:List Str:=["_law_clauses","_law_cell","_law_around"]
theorem Dc:Au Py Gr (Al Gd):=asI
abbrev Gf:Stmt:=top 88
abbrev PB:List Str:=["_law_clauses","_law_cell","_law_around","_law_at_here"]
theorem Jw:Au PB Gr (Al Gf):=asI
abbrev Ep:Stmt:=top 89
abbrev MR:List Str:=["_law_script","_law_first","_law_many","_law_mains","_law_clauses","_law_k"]
abbrev Ez:List Str:=["_law_script","_law_first","_law_many"]
theorem Cf:Au MR Ez (Al Ep):=asI
abbrev Fp:Stmt:=top 90
abbrev Ld:List Str:=["_law_condition"]
theorem Rv:Au Ld Ld (Al Fp):=asI
abbrev GK:Stmt:=top 91
abbrev Oe:List Str:=["_law_clauses","_law_parts","_law_clause","_law_words"]
abbrev JU:List Str:=["_law_clauses"]
theorem FL:Au Oe JU (Al GK):=asI
abbrev Fb:Stmt:=top 92
abbrev LT:List Str:=["_law_script","_law_first"]
theorem Pd:Au LT LT (Al Fb):=asI
abbrev Eo:Stmt:=top 93
abbrev MQ:List Str:=["_law_made","_law_way","_law_parts","_law_state","_law_word_here"]
abbrev Ey:List Str:=["_law_made","_law_way"]
theorem CP:Au MQ Ey (Al Eo):=asI
abbrev Ge:Stmt:=top 94
abbrev Pz:List Str:=["_law_cell"]
theorem Om:Au Pz Pz (Al Ge):=asI
abbrev GZ:Stmt:=top 95
abbrev Qq:List Str:=["_law_states","_law_some","_law_place"]
abbrev Ii:List Str:=["_law_states"]
theorem FY:Au Qq Ii (Al GZ):=asI
abbrev JI:Stmt:=top 96
abbrev TJ:List Str:=["_law_script","_law_first","_law_many","_law_left","_law_top","_law_states","_law_k","_law_value","_law_at_here"]
abbrev JV:List Str:=["_law_script","_law_first","_law_many","_law_left","_law_top"]
theorem Ek:Au TJ JV (Al JI):=asI
abbrev IQ:Stmt:=top 97
abbrev RO:List Str:=["_law_found"]
theorem Qh:Au RO RO (Al IQ):=asI
abbrev Zp:Stmt:=top 98
abbrev n_law:List Str:=["_law_script","_law_drawn","_law_line","_law_most","_law_left","_law_many","_law_states","_law_grove","_law_rule","_law_jumps","_law_field","_law_found","_law_rounds","_law_steps","_law_last","_law_once"]
abbrev p_law:List Str:=["_law_script"]
theorem CO:Au n_law p_law (Al Zp):=asI
abbrev Gh:Stmt:=Be (top 20) 0
abbrev PF:List Str:=["self","state","numbers"]
theorem Oo:Au PF PF (Al Gh):=asI
abbrev FC:Stmt:=Be (top 20) 1
abbrev Ot:List Str:=["self","around"]
theorem Np:Au Ot Ot (Al FC):=asI
abbrev Ia:Stmt:=Be (top 21) 0
abbrev Qr:List Str:=["self","wanted"]
theorem Pe:Au Qr Qr (Al Ia):=asI
abbrev Er:Stmt:=Be (top 21) 1
theorem On:Au Ot Ot (Al Er):=asI
abbrev Ic:Stmt:=Be (top 22) 0
abbrev Qu:List Str:=["self","cell","conditions","makes"]
theorem Pg:Au Qu Qu (Al Ic):=asI
abbrev Fe:Stmt:=Be (top 22) 1
abbrev LU:List Str:=["self","cell","around"]
theorem Ph:Au LU LU (Al Fe):=asI
abbrev IW:Stmt:=Be (top 34) 0
abbrev RV:List Str:=["self","state","level","bare"]
abbrev Jo:List Str:=["self"]
theorem EY:Au RV Jo (Al IW):=asI
abbrev IV:Stmt:=Be (top 34) 1
abbrev RU:List Str:=["self","parts","level","number"]
abbrev FP:List Str:=["self","parts","level"]
theorem LP:Au RU FP (Al IV):=asI
abbrev Gg:Stmt:=Be (top 34) 2
abbrev PD:List Str:=["self","parts","number"]
abbrev AW:List Str:=["self","parts"]
theorem Jy:Au PD AW (Al Gg):=asI
abbrev Dt:Stmt:=Be (top 34) 3
abbrev Lh:List Str:=["self","square"]
theorem JA:Au Lh Lh (Al Dt):=asI
abbrev IU:Stmt:=Be (top 34) 4
abbrev RT:List Str:=["self","state"]
theorem Qk:Au RT RT (Al IU):=asI
abbrev ER:Stmt:=Be (top 34) 7
theorem MF:Au Lh Lh (Al ER):=asI
abbrev EQ:Stmt:=Be (top 34) 9
theorem ME:Au Lh Lh (Al EQ):=asI
abbrev Pj:Stmt:=Be (top 34) 10
abbrev Op:Stmt:=Be (top 34) 11
abbrev IT:Stmt:=Be (top 34) 12
theorem Qj:Au Lh Lh (Al IT):=asI
abbrev Fc:Stmt:=Be (top 34) 13
abbrev Qt:List Str:=["self","square","box"]
theorem En:Au Qt Lh (Al Fc):=asI
abbrev Dy:Stmt:=Be (top 34) 14
abbrev NP:List Str:=["self","square","level","half","boxes","place","quarter","box"]
theorem BC:Au NP Lh (Al Dy):=asI
abbrev GL:Stmt:=Be (top 68) 0
abbrev Of:List Str:=["self","text"]
theorem Rw:Au Of Of (Al GL):=asI
abbrev IS:Stmt:=Be (top 79) 0
abbrev RQ:List Str:=["self","grove","rule"]
theorem Qi:Au RQ RQ (Al IS):=asI
abbrev Es:Stmt:=Be (top 79) 1
abbrev Lg:List Str:=["self","rule","text"]
abbrev Gx:List Str:=["self","rule"]
theorem Jx:Au Lg Gx (Al Es):=asI
abbrev Ib:Stmt:=Be (top 79) 2
abbrev Qs:List Str:=["self","square","e"]
theorem Pf:Au Qs Qs (Al Ib):=asI
abbrev DS:Stmt:=Be (top 79) 3
abbrev Ms:List Str:=["self","square","e","level"]
theorem FG:Au Ms Qs (Al DS):=asI
abbrev Dx:Stmt:=Be (top 79) 4
abbrev NN:List Str:=["self","square","e","result"]
theorem El:Au NN Qs (Al Dx):=asI
abbrev Ct:Stmt:=Be (top 79) 5
abbrev Fk:List Str:=["self","square","e","grove","level","nine"]
theorem Em:Au Fk Qs (Al Ct):=asI
abbrev Bw:Stmt:=Be (top 79) 6
abbrev Du:List Str:=["self","square","e","nine"]
theorem EF:Au Du Qs (Al Bw):=asI
abbrev Ds:Stmt:=Be (top 79) 7
abbrev Lf:List Str:=["self","square","parts","a","b","c","d"]
theorem Bo:Au Lf Lh (Al Ds):=asI
abbrev CQ:Stmt:=Be (top 79) 8
abbrev GB:List Str:=["self","leaves","leaf","states"]
abbrev DW:List Str:=["self","leaves"]
theorem Cy:Au GB DW (Al CQ):=asI
structure Ad where
c_Amounts:Addr
c_Places:Addr
c_Clause:Addr
c_Grove:Addr
c_Rule:Addr
c_Jumps:Addr
structure Top(K:O_)(mg:C_)(a:Ad):Prop where
b_all:mg "all" = none
b_bool:mg "bool" = none
b_enumerate:mg "enumerate" = none
b_int:mg "int" = none
b_isinstance:mg "isinstance" = none
b_len:mg "len" = none
b_list:mg "list" = none
b_max:mg "max" = none
b_min:mg "min" = none
b_range:mg "range" = none
b_sorted:mg "sorted" = none
b_str:mg "str" = none
b_sum:mg "sum" = none
b_tuple:mg "tuple" = none
b_zip:mg "zip" = none
k_STATES:∃t,mg "STATES" = some (.int 8 t)
k_NEIGHBOURS:∃t,mg "NEIGHBOURS" = some (.int 8 t)
k_STATE_FIGURES:∃t,mg "STATE_FIGURES" = some (.str (Str.ofString "01234567") t)
k_AMOUNT_FIGURES:∃t,mg "AMOUNT_FIGURES" = some (.str (Str.ofString "012345678") t)
k_ANY_SIGN:∃t,mg "ANY_SIGN" = some (.str (Str.ofString "*") t)
k_TOP_LEVEL:∃t,mg "TOP_LEVEL" = some (.int 48 t)
k_LIMIT:∃t,mg "LIMIT" = some (.int 1099511627776 t)
k_LEAST_LEVEL:∃t,mg "LEAST_LEVEL" = some (.int 1 t)
k_CLAUSE_MARK:∃t,mg "CLAUSE_MARK" = some (.str (Str.ofString "; ") t)
k_LEAST_JUMPED:∃t,mg "LEAST_JUMPED" = some (.int 2 t)
m_Amounts:mg "Amounts" = some (.ref a.c_Amounts)
cl_Amounts:Cls K a.c_Amounts
na_Amounts_state:BK K a.c_Amounts "state"
na_Amounts_numbers:BK K a.c_Amounts "numbers"
m_Places:mg "Places" = some (.ref a.c_Places)
cl_Places:Cls K a.c_Places
na_Places_wanted:BK K a.c_Places "wanted"
m_Clause:mg "Clause" = some (.ref a.c_Clause)
cl_Clause:Cls K a.c_Clause
na_Clause_cell:BK K a.c_Clause "cell"
na_Clause_conditions:BK K a.c_Clause "conditions"
na_Clause_makes:BK K a.c_Clause "makes"
m_Grove:mg "Grove" = some (.ref a.c_Grove)
cl_Grove:Cls K a.c_Grove
na_Grove_levels:BK K a.c_Grove "levels"
na_Grove_parts:BK K a.c_Grove "parts"
na_Grove_numbers:BK K a.c_Grove "numbers"
na_Grove_bares:BK K a.c_Grove "bares"
na_Grove_amounts:BK K a.c_Grove "amounts"
na_Grove_boxes:BK K a.c_Grove "boxes"
m_Rule:mg "Rule" = some (.ref a.c_Rule)
cl_Rule:Cls K a.c_Rule
na_Rule_text:BK K a.c_Rule "text"
na_Rule_clauses:BK K a.c_Rule "clauses"
m_Jumps:mg "Jumps" = some (.ref a.c_Jumps)
cl_Jumps:Cls K a.c_Jumps
na_Jumps_grove:BK K a.c_Jumps "grove"
na_Jumps_memories:BK K a.c_Jumps "memories"
na_Jumps_rule:BK K a.c_Jumps "rule"
na_Jumps_known_squares:BK K a.c_Jumps "known_squares"
na_Jumps_known_cells:BK K a.c_Jumps "known_cells"
seal L2.PA L2.PE L2.PS L2.PSs L2.PT L2.PW
inductive Ba where
|am (s:Int) (ns:I_)
|pl (ws:List (Option Int))
structure AT where
cell:Option Int
conds:List Ba
makes:Int
abbrev AD:=List AT
def Io:Option Int->V
|none=>.non
|some i=>.int i
def BW(w:Option Int)(s:Int):Bool:=match w with
|none=>true
|some i=>decide (i=s)
def Ba.holds(ar:I_):Ba->Bool
|.am s ns=>ns.any λn=>decide (n=((ar.countP (· == s):Nat):Int))
|.pl ws=>(ws.zip ar).all λp=>BW p.1 p.2
def AT.fits(cell:Int)(ar:I_)(c:AT):Bool:=BW c.cell cell && c.conds.all (Ba.holds ar)
def JB(r:AD)(cell:Int)(ar:I_):Option Nat:=r.findIdx? (AT.fits cell ar)
def CH(r:AD)(cell:Int)(ar:I_):Int:=match r.find? (AT.fits cell ar)with
|none=>cell
|some c=>c.makes
def fl1(f:Str)(a:V):List (Str×V):=AZ f a []
def fl2(f g:Str)(a b:V):List (Str×V):=AZ g b (AZ f a [])
def fl3(f g h:Str)(a b c:V):List (Str×V):=AZ h c (AZ g b (AZ f a []))
theorem fl1_1{f:Str}{a:V}:(fl1 f a).lookup f=some a:=by unfold fl1;rw[Am,K2 rfl]
theorem Sk{f m:Str}{a:V}(h:¬m=f):(fl1 f a).lookup m=none:=by unfold fl1;rw[Am,X9 h];rfl
theorem fl2_1{f g:Str}{a b:V}(h:¬f=g):(fl2 f g a b).lookup f=some a:=by unfold fl2;rw[Am,X9 h,Am,K2 rfl]
theorem fl2_2{f g:Str}{a b:V}:(fl2 f g a b).lookup g=some b:=by unfold fl2;rw[Am,K2 rfl]
theorem fl2_no{f g m:Str}{a b:V}(c:¬m=f)(d:¬m=g):(fl2 f g a b).lookup m=none:=by unfold fl2;rw[Am,X9 d,Am,X9 c];rfl
theorem fl3_1{f g h:Str}{a b c:V}(d:¬f=g)(e:¬f=h):(fl3 f g h a b c).lookup f=some a:=by unfold fl3;rw[Am,X9 e,Am,X9 d,Am,K2 rfl]
theorem fl3_2{f g h:Str}{a b c:V}(d:¬g=h):(fl3 f g h a b c).lookup g=some b:=by unfold fl3;rw[Am,X9 d,Am,K2 rfl]
theorem fl3_3{f g h:Str}{a b c:V}:(fl3 f g h a b c).lookup h=some c:=by unfold fl3;rw[Am,K2 rfl]
theorem fl3_no{f g h m:Str}{a b c:V}(d:¬m=f)(e:¬m=g)(i:¬m=h):(fl3 f g h a b c).lookup m=none:=by unfold fl3;rw[Am,X9 i,Am,X9 e,Am,X9 d];rfl
theorem Ts(f:Str)(v:V):∀l:List (Str×V),(AZ f v l).length<=l.length+1
|[]=>C1 _
| (g,w)::r=>by
 unfold AZ;split
 .exact S6 _
 .rw[F2,F2];exact P6 (Ts f v r)
theorem Ar{H:Hp}{p:R_}{o:HO}(h:H p=none):AA H (upd H p o):=λb u e=>by
 rw[Aw (Ay e h)];exact e
theorem alc{H a:Hp}{p:R_}{o:HO}(h:H p=none)(e:upd H p o=a):AA H a/\a p=some o:=e▸⟨Ar h,Af⟩
inductive DG(a:Ad)(H:Hp):Addr->Ba->Prop where
|am {p t dx:R_} {s:Int} {ns:I_} (h:H p=some (.ins a.c_Amounts dx (fl2 "state" "numbers" (.int s) (.ref t)))) (ht:H t=some (.tup (ns.map V.int))):DG a H p (.am s ns)
|pl {p t dx:R_} {ws:List (Option Int)} (h:H p=some (.ins a.c_Places dx (fl1 "wanted" (.ref t)))) (ht:H t=some (.tup (ws.map Io))):DG a H p (.pl ws)
structure Ch(a:Ad)(H:Hp)(p:R_)(c:AT):Prop where
ex:∃(dx t:R_)(cs:H_),H p=some (.ins a.c_Clause dx (fl3 "cell" "conditions" "makes" (Io c.cell) (.ref t) (.int c.makes)))/\H t=some (.tup (cs.map V.ref))/\Paired (DG a H) cs c.conds
structure CZ(a:Ad)(H:Hp)(p:R_)(x:Str)(r:AD):Prop where
ex:∃(dx t:R_)(cs:H_),H p=some (.ins a.c_Rule dx (fl2 "text" "clauses" (.str x) (.ref t)))/\H t=some (.tup (cs.map V.ref))/\Paired (Ch a H) cs r
theorem Paired.imp{α β:Type}{F G:α->β->Prop}(h:∀x y,F x y->G x y):∀{l:List α}{m:List β},Paired F l m->Paired G l m
|_,_,.nil=>.nil
|_,_,.cons r t=>.cons (h _ _ r) (Paired.imp h t)
theorem Paired.get{α β:Type}{F:α->β->Prop}:∀{l:List α}{m:List β}{i:Nat}{x:α},Paired F l m->l[i]?=some x->∃y,m[i]?=some y/\F x y
|_,_,_,_,.nil,e=>by simp at e
|_,_,0,_,.cons r _,e=>by simp at e;subst e;exact⟨_,Z,r⟩
|_,_,i+1,x,.cons _ t,e=>by
 obtain⟨y,a,b⟩:=Paired.get (i:=i) (x:=x) t (by simpa using e);exact⟨y,by simpa using a,b⟩
theorem DG.same{a:Ad}{H d:Hp}{p:R_}{c:Ba}(s:AA H d)(h:DG a H p c):DG a d p c:=by
 cases h with
 |am h b=>exact .am (s _ _ h) (s _ _ b)
 |pl h b=>exact .pl (s _ _ h) (s _ _ b)
theorem Ch.same{a:Ad}{H b:Hp}{p:R_}{c:AT}(s:AA H b)(h:Ch a H p c):Ch a b p c:=by
 obtain⟨dx,t,cs,d,e,f⟩:=h.ex;exact⟨dx,t,cs,s _ _ d,s _ _ e,Paired.imp (λ_ _ z=>z.same s) f⟩
theorem CZ.same{a:Ad}{H b:Hp}{p:R_}{x:Str}{r:AD}(s:AA H b)(h:CZ a H p x r):CZ a b p x r:=by
 obtain⟨dx,t,cs,c,d,e⟩:=h.ex;exact⟨dx,t,cs,s _ _ c,s _ _ d,Paired.imp (λ_ _ z=>z.same s) e⟩
theorem Se(n:Int)(ns:I_):inV (.int n) (ns.map V.int)=ns.any λm=>decide (m=n):=by
 unfold inV;rw[List.any_map];congr 1
theorem QO(ns:I_):(ns.map V.int).all MZ=true:=by
 rw[List.all_map];exact S9.mpr λ_ _=>Z
theorem Jr(i j:Int):decide (V.int i=V.int j)=decide (i=j):=by
 by_cases h:i=j
 .rw[K0 h,K0 (by rw[h])]
 .rw[K1 h,K1 λz=>h (by injection z)]
section
variable{P:N_}{w:Q_}{K:O_}{mg:C_}{base:T_}{a:Ad}
inductive WA(vs:List V)(H:Hp)(Q:VK):Prop
|mk (x:Option Int) (s:Int) (_:vs=[Io x,.int s]) (_:Q (.bl (BW x s)) H):WA vs H Q
def Oy:Sp:=λvs H Q _=>WA vs H Q
theorem ZD(F:Fun K "takes" "takes" Rx f fd):AL P w K mg base CX0 1 f fd dP Oy:=by
 refine F.ok Zo D_9 λc A b s H vs Q E d h=>?_
 obtain⟨x,s,rfl,k⟩:=h;refine⟨_,(Ai (Av (pe_or (Et FE (pv 0) Cw (AF _)) (JM (Et CK (pv 0) (pv 1) (AF _)))))),?_⟩
 try dsimp only[cxK]
 refine xq1 Z ⟨Z,(xq1 Z ?_)⟩;cases x with
 |none=>exact BY k
 |some i =>
  have e:decide (Io (some i)=V.int s)=BW (some i) s:=Jr i s;rw[<-e]at k;exact AY (xw2 Z Z ⟨Z,k⟩)
inductive Ut(a:Ad)(vs:List V)(H:Hp)(Q:VK):Prop
|mk (p t dx:R_) (s:Int) (_:vs=[.ref p,.int s,.ref t]) (_:H p=some (.ins a.c_Amounts dx [])) (_:Q .non (upd H p (.ins a.c_Amounts dx (fl2 "state" "numbers" (.int s) (.ref t))))):Ut a vs H Q
def OW(a:Ad):Sp:=λvs H Q _=>Ut a vs H Q
theorem Yd(F:Fun K "__init__" "Amounts.__init__" Gh f fd)(T:Top K mg a):AL P w K mg base CX0 1 f fd PF (OW a):=by
 refine F.ok Oo D_9 λc A b s H vs Q E e h=>?_
 obtain⟨p,t,dx,s,rfl,d,k⟩:=h;refine⟨_,(Ac (CT (pv 0) (pv 1) Z) (Ai (CT (pv 0) (pv 2) Z))),?_⟩
 try dsimp only[cxK]
 refine xw2 Z Z ⟨p,_,dx,[],Z,d,T.cl_Amounts,T.na_Amounts_state,B2,(xw2 Z Z ⟨p,_,dx,(xq1 Z ⟨Af,T.cl_Amounts,T.na_Amounts_numbers,B3,?_⟩)⟩)⟩;rw[GG];exact k
inductive Ur(a:Ad)(vs:List V)(H:Hp)(Q:VK):Prop
|mk (p t dx:R_) (_:vs=[.ref p,.ref t]) (_:H p=some (.ins a.c_Places dx [])) (_:Q .non (upd H p (.ins a.c_Places dx (fl1 "wanted" (.ref t))))):Ur a vs H Q
def OT(a:Ad):Sp:=λvs H Q _=>Ur a vs H Q
theorem Yb(F:Fun K "__init__" "Places.__init__" Ia f fd)(T:Top K mg a):AL P w K mg base CX0 1 f fd Qr (OT a):=by
 refine F.ok Pe D_9 λc A b s H vs Q E e h=>?_
 obtain⟨p,t,dx,rfl,d,k⟩:=h;refine⟨_,(Ai (CT (pv 0) (pv 1) Z)),?_⟩
 try dsimp only[cxK]
 exact xw2 Z Z ⟨p,_,dx,[],Z,d,T.cl_Places,T.na_Places_wanted,B2,k⟩
inductive Us(a:Ad)(vs:List V)(H:Hp)(Q:VK):Prop
|mk (p t dx:R_) (c:Option Int) (m:Int) (_:vs=[.ref p,Io c,.ref t,.int m]) (_:H p=some (.ins a.c_Clause dx [])) (_:Q .non (upd H p (.ins a.c_Clause dx (fl3 "cell" "conditions" "makes" (Io c) (.ref t) (.int m))))):Us a vs H Q
def OV(a:Ad):Sp:=λvs H Q _=>Us a vs H Q
theorem Yc(F:Fun K "__init__" "Clause.__init__" Ic f fd)(T:Top K mg a):AL P w K mg base CX0 1 f fd Qu (OV a):=by
 refine F.ok Pg D_9 λd A b s H vs Q E g h=>?_
 obtain⟨p,t,dx,c,m,rfl,e,k⟩:=h;refine⟨_,(Ac (CT (pv 0) (pv 1) Z) (Ac (CT (pv 0) (pv 2) Z) (Ai (CT (pv 0) (pv 3) Z)))),?_⟩
 try dsimp only[cxK]
 refine⟨_,Z,_,Z,p,_,dx,[],Z,e,T.cl_Clause,T.na_Clause_cell,B2,_,Z,_,Z,p,_,dx,_,Z,Af,T.cl_Clause,T.na_Clause_conditions,B3,_,Z,_,Z,p,_,dx,_,Z,Af,T.cl_Clause,T.na_Clause_makes,
  F7 (Ts _ _ _) (by show 2<1000;decide),?_⟩
 rw[GG,GG];exact k
def Nk(a:Ad):Sp:=λvs H Q E=>(∃(p l t dx:R_)(s:Int)(ns ar:I_),vs=[.ref p,.ref l]/\H p=some (.ins a.c_Amounts dx (fl2 "state" "numbers" (.int s) (.ref t)))/\H t=some (.tup (ns.map V.int))/\H l=some (.lst (ar.map V.int))/\Q (.bl (Ba.holds ar (.am s ns))) H)
theorem UT(F:Fun K "holds" "Amounts.holds" FC f fd)(T:Top K mg a):AL P w K mg base CX0 1 f fd Ot (Nk a):=by
 refine F.ok Np (λvs H Q E h=>?_) (λg A b s H vs Q E j h=>?_)
 .obtain⟨p,l,t,dx,s,ns,c,rfl,_⟩:=h;rfl
 .obtain⟨p,l,t,dx,s,ns,c,rfl,e,i,d,k⟩:=h;refine⟨_,(Ai (Av (Et NG (De K8 PySem.F.slot_list_count PySem.F.type_list_count mt_count (pv 1) (Aa (AE (pv 0) Z) Ae)) (AE (pv 0) Z) Z))),?_⟩
  try dsimp only[cxK]
  refine xq1 Z ⟨.inl ⟨Z,_,SqL.of d⟩,(xwf Z Z e T.cl_Amounts T.na_Amounts_state (fl2_1 A1) ⟨l,c,s,Z,Z,d,(xwf Z Z e T.cl_Amounts T.na_Amounts_numbers fl2_2 ⟨t,(xq1 Z ⟨.inr (SqT.of i),Z,QO ns,?_⟩)⟩)⟩)⟩;show Q (.bl (inV _ _)) H;rw[Se];exact k
inductive Rg(a:Ad)(vs:List V)(H:Hp)(Q:VK):Prop
|mk (p l t dx:R_) (ws:List (Option Int)) (ar:I_) (_:vs=[.ref p,.ref l]) (_:H p=some (.ins a.c_Places dx (fl1 "wanted" (.ref t)))) (_:H t=some (.tup (ws.map Io))) (_:H l=some (.lst (ar.map V.int))) (_:ws.length<=100) (_:∀H',AA H H'->Q (.bl (Ba.holds ar (.pl ws))) H'):Rg a vs H Q
def Nj(a:Ad):Sp:=λvs H Q _=>Rg a vs H Q
theorem US(F:Fun K "holds" "Places.holds" Er f fd)(T:Top K mg a)(D:Cal P w K mg base CX0 1 "takes" dP Oy):AL P w K mg base CX0 2 f fd Ot (Nj a):=by
 refine F.ok On D_9 λG A n s H vs Q E R h=>?_
 obtain⟨p,l,t,dx,b,d,rfl,O,v,u,S,k⟩:=h;refine⟨_,(Ai (Av (AU (Ul Z) Z T.b_all PyProof.Rows.boot_all (Aa (Ck Z (BE.of (So:=Al Er) (No:=Ot) (N:=["one","state"]) (k:=2) (cs:=[]) Z Z A1) (pi_zip true false Z T.b_zip (Aa (AE (pv 0) Z) (Aa (pv 1) Ae))) (λ_ _ _=>(Zx (i:=0) (j:=1) Z A1 Z Z Z Z)) (λ_ _ _=>BL) (λ_ _ _=>(As D (rm R) Z Aq (Aa (pv 0) (Aa (pv 1) Ae))))) Ae)))),?_⟩
 try dsimp only[cxK]
 refine xwf Z Z O T.cl_Places T.na_Places_wanted fl1_1 (xq1 Z ⟨t,l,Z,⟨_,SqT.of v⟩,⟨_,SqL.of u⟩,?_⟩);refine blk_zip (xs:=b.map Io) (ys:=d.map V.int) (λi c g=>AA H g/\c=(((b.zip d).take i).map λp=>V.bl (BW p.1 p.2))) ⟨AA.refl H,Z⟩ (λi c g z=>⟨SqT.of (z.1 _ _ v),SqL.of (z.1 _ _ u)⟩) ?_ ?_
 .rintro i x y c g X B C ⟨r,rfl⟩ U;rw[C0]at B C;obtain⟨o,L,rfl⟩:=D7.mp B;obtain⟨m,I,rfl⟩:=D7.mp C;have M:(b.zip d)[i]?=some (o,m):=by rw[V4];exact⟨L,I⟩
  refine TX Af ⟨⟨[some (Io o),some (.int m)],Z,Z⟩,?_,?_⟩
  .have:((((b.zip d).take i).map λp=>V.bl (BW p.1 p.2))).length<=b.length:=by
    rw[B8,L8,Y4];omega
   exact F7 (D0 this S) A3
  .refine GQ ?_;refine xw2 Z Z ⟨o,m,Z,r.trans (Ar U),?_⟩;rw[F9,M,C7];rfl
 .rintro c g ⟨r,rfl⟩ q W;have len:min (b.map Io).length (d.map V.int).length=(b.zip d).length:=by rw[B8,B8,Y4]
  rw[len,J8];refine⟨q,(b.zip d).map (λp=>BW p.1 p.2),Z,SqL.of (by rw[Af,N4];rfl),?_⟩;have e:((b.zip d).map (λp=>BW p.1 p.2)).all id=Ba.holds d (.pl b):=by rw[List.all_map];rfl
  rw[e];exact k _ (r.trans (Ar W))
inductive SpFits(a:Ad)(vs:List V)(H:Hp)(Q:VK):Prop
|mk (p l:R_) (c:AT) (cell:Int) (ar:I_) (_:vs=[.ref p,.int cell,.ref l]) (_:Ch a H p c) (_:c.conds.length<=100) (_:(∀d∈c.conds,∀ws,d=Ba.pl ws->ws.length<=100)) (_:H l=some (.lst (ar.map V.int))) (_:∀H',AA H H'->Q (.bl (c.fits cell ar)) H'):SpFits a vs H Q
def UG(a:Ad):Sp:=λvs H Q _=>SpFits a vs H Q
theorem ok_Fits(F:Fun K "fits" "Clause.fits" Fe f fd)(T:Top K mg a)(cO:Cal P w K mg base CX0 1 "takes" dP Oy)(r:Cd P w K mg base CX0 1 a.c_Amounts "holds" Ot (Nk a))(u:Cd P w K mg base CX0 2 a.c_Places "holds" Ot (Nj a)) :
 AL P w K mg base CX0 3 f fd LU (UG a):=by
 refine F.ok Ph D_9 λaa A I s H vs Q E G h=>?_
 obtain⟨p,l,c,cell,g,rfl,hC,hn,D,S,k⟩:=h;obtain⟨dx,t,cs,U,W,y⟩:=hC.ex;refine⟨_,(Ai (Av (Jd (As cO (rm G) Z Aq (Aa (AE (pv 0) Z) (Aa (pv 1) Ae))) (JM (AU (Ul Z) Z T.b_all PyProof.Rows.boot_all (Aa (Ck Z (BE.of (So:=Al Fe) (No:=LU) (N:=["condition","around"]) (k:=1) (cs:=[2]) Z Z A1) (UM (AE (pv 0) Z)) (λ_ _ _=>(Bg (i:=0) A1 Z Z)) (λ_ _ _=>BL) (λ_ _ _=>(PE.or (AJ (pv 0) r (rm G) Aq (Aa (pv 1) Ae)) (AJ (pv 0) u (rm G) Aq (Aa (pv 1) Ae))))) Ae)))))),?_⟩
 try dsimp only[cxK]
 refine xwf Z Z U T.cl_Clause T.na_Clause_cell (fl3_1 A1 A1) (xq1 Z ⟨c.cell,cell,Z,BW c.cell cell,Z,?_⟩);cases R:BW c.cell cell with
 |false =>
  refine AY ?_;have:=k H (AA.refl H);unfold AT.fits at this;rw[R]at this;exact this
 |true =>
  refine BY ?_;have ln:cs.length=c.conds.length:=A0e y;refine xwf Z Z U T.cl_Clause T.na_Clause_conditions (fl3_2 A1) ⟨t,Z,⟨_,SqT.of W⟩,?_⟩;refine Sw (xs:=cs.map V.ref) (λi j m=>AA H m/\j=((c.conds.take i).map λd=>V.bl (Ba.holds g d))) ⟨AA.refl H,Z⟩ (λi j m _ z=>SqT.of (z.1 _ _ W)) ?_ ?_
  .rintro i x j m X ⟨n,rfl⟩;rw[C0]at X;obtain⟨q,eq,rfl⟩:=D7.mp X;obtain⟨d,O,hd⟩:=Paired.get y eq;have C:=hd.same n;refine⟨⟨[some (.ref q)],Z,Z⟩,?_,?_⟩
   .have:((c.conds.take i).map λd=>V.bl (Ba.holds g d)).length<=c.conds.length:=by
     rw[B8,L8];omega
    exact F7 (D0 this hn) A3
   .refine GQ ?_;have nx:∀o,AA m o->AA H o/\((c.conds.take i).map λd=>V.bl (Ba.holds g d))++[V.bl (Ba.holds g d)]=((c.conds.take (i+1)).map λd=>V.bl (Ba.holds g d)):=λo L=>⟨n.trans L,by
     rw[F9,O,C7];rfl⟩
    have md:d∈c.conds:=D6 O;cases C with
    |@am M b s ns v B=>exact .inl ⟨_,Z,q,b,_,Z,v,fl2_no A1 A1,_,Z,q,l,M,b,s,ns,g,Z,v,B,n _ _ S,nx m (AA.refl m)⟩
    |@pl M b Y v B=>exact .inr ⟨_,Z,q,b,_,Z,v,Sk A1,_,Z,q,l,M,b,Y,g,Z,v,B,n _ _ S,D _ md Y Z,λo L=>nx o L⟩
  .rintro j m ⟨n,rfl⟩ q nq;rw[B8,ln,J8];refine⟨q,c.conds.map (Ba.holds g),Z,SqL.of (by rw[Af,N4];rfl),?_⟩;have e:(c.conds.map (Ba.holds g)).all id=c.fits cell g:=by
    unfold AT.fits;rw[R,List.all_map];rfl
   rw[e];exact k _ (n.trans (Ar nq))
def ROk(r:AD):Prop:=r.length<=5000/\∀c∈r,c.conds.length<=100/\∀d∈c.conds,∀ws,d=Ba.pl ws->ws.length<=100
def decV(o:Option Nat):V:=match o with
|none=>.non
|some n=>.int n
inductive SpDec(a:Ad)(vs:List V)(H:Hp)(Q:VK):Prop
|mk (p l:R_) (z:Str) (r:AD) (cell:Int) (ar:I_) (_:vs=[.ref p,.int cell,.ref l]) (_:CZ a H p z r) (_:ROk r) (_:H l=some (.lst (ar.map V.int))) (_:∀H',AA H H'->Q (decV (JB r cell ar)) H'):SpDec a vs H Q
def Zl(a:Ad):Sp:=λvs H Q _=>SpDec a vs H Q
theorem ok_dec(F:Fun K "deciding" "deciding" Mg f fd)(T:Top K mg a)(X:Cd P w K mg base CX0 3 a.c_Clause "fits" LU (UG a)):AL P w K mg base CX0 4 f fd Mo (Zl a):=by
 refine F.ok JF D_9 λY A G s H vs Q E hr h=>?_
 obtain⟨p,l,z,r,cell,m,rfl,hR,N,hl,k⟩:=h;obtain⟨dx,t,cs,hp,O,y⟩:=hR.ex;have ln:cs.length=r.length:=A0e y;refine⟨_,(Ac (Cv A0b Z (OF true Z T.b_enumerate (Aa (AE (pv 0) Z) Ae)) (Pn Z (DJ (Bn (i:=3) JF.nd Z O_9) (DJ (Bn (i:=4) JF.nd Z O_9) MI))) (Ai (AQ (Cu (AJ (pv 4) X (rm hr) Aq (Aa (pv 1) (Aa (pv 2) Ae)))) (Ai (Av (pv 3))) AC))) (Ai (Av Cw))),?_⟩
 try dsimp only[cxK]
 refine xwf Z Z hp T.cl_Rule T.na_Rule_clauses fl2_2 ⟨t,Z,⟨_,SqT.of O⟩,?_⟩;refine MY (b:=true) (xs:=cs.map V.ref) (λi σ g=>AA H g/\(∃u v,σ=[some (.ref p),some (.int cell),some (.ref l),u,v])/\∀c∈r.take i,c.fits cell m=false) ⟨AA.refl H,⟨none,none,Z⟩,λc D=>by simp at D⟩ (λi σ g _ q=>SqT.of (q.1 _ _ O)) ?_ ?_
 .rintro i x σ g T' R ⟨I,⟨u,v,rfl⟩,no⟩ nT;rw[C0]at R;obtain⟨q,eq,rfl⟩:=D7.mp R;obtain⟨c,B,D⟩:=Paired.get y eq;have C:=I.trans (Ar (o:=.tup [.int i,.ref q]) nT);have n:=D.same C;obtain⟨ab,t2,aa,h1,_⟩:=n.ex;refine TX Af ?_;have S:=D6 B;refine xwn Z Z h1 (fl3_no A1 A1 A1) Z (xq1 Z ⟨q,l,c,cell,m,Z,n,(N.2 c S).1,(N.2 c S).2,C _ _ hl,λW U=>(xq1 Z ?_)⟩);cases L:c.fits cell m with
  |true =>
   refine BY ?_;refine xq1 Z ?_;have e:JB r cell m=some i:=by
    unfold JB;rw[T6];have hi:i<r.length:=(B9.mp B).1;refine⟨hi,?_,λj hj=>?_⟩
    .rw[(B9.mp B).2];exact L
    .have:=no r[j] (List.mem_take_iff_getElem.mpr ⟨j,by omega,Z⟩);rw[this];exact D5
   have:=k W (C.trans U);rw[e]at this;exact this
  |false =>
   refine AY ⟨C.trans U,⟨_,_,Z⟩,λd M=>?_⟩;rw[F9,B]at M;rcases F4.mp M with z|z
   .exact no d z
   .have:d=c:=by simpa using z
    rw[this];exact L
 .rintro σ g ⟨I,⟨u,v,rfl⟩,no⟩;rw[B8,ln,J8]at no;have e:JB r cell m=none:=by
   unfold JB;rw[V5];exact no
  have:=k g I;rw[e]at this;exact this
inductive SpBec(a:Ad)(vs:List V)(H:Hp)(Q:VK):Prop
|mk (p l:R_) (z:Str) (r:AD) (cell:Int) (ar:I_) (_:vs=[.ref p,.int cell,.ref l]) (_:CZ a H p z r) (_:ROk r) (_:H l=some (.lst (ar.map V.int))) (_:∀H',AA H H'->Q (.int (CH r cell ar)) H'):SpBec a vs H Q
def VW(a:Ad):Sp:=λvs H Q _=>SpBec a vs H Q
theorem Nf{r:AD}{cell:Int}{b:I_}(h:JB r cell b=none):CH r cell b=cell:=by
 unfold JB at h;rw[V5]at h;unfold CH;rw[List.find?_eq_none.mpr λc d=>by rw[h c d];exact D5]
theorem Nd{r:AD}{cell:Int}{b:I_}{i:Nat}(h:JB r cell b=some i):∃c,r[i]?=some c/\CH r cell b=c.makes:=by
 unfold JB at h;rw[T6]at h;obtain⟨d,e,f⟩:=h;refine⟨r[i],C6 d,?_⟩;unfold CH;have:r.find? (AT.fits cell b)=some r[i]:=by
  rw[List.find?_eq_some_iff_getElem];exact⟨e,i,d,Z,λj g=>by simpa using f j g⟩
 rw[this]
theorem ok_bec(F:Fun K "becomes" "becomes" Ny f fd)(T:Top K mg a)(v:Cal P w K mg base CX0 4 "deciding" Mo (Zl a)):AL P w K mg base CX0 5 f fd Mo (VW a):=by
 refine F.ok Pc D_9 λx A j s H vs Q E N h=>?_
 obtain⟨p,l,z,r,cell,n,rfl,u,L,I,k⟩:=h;refine⟨_,(Ac (Ao (i:=3) Pc.nd Z O_9 (As v (rm N) Z Aq (Aa (pv 0) (Aa (pv 1) (Aa (pv 2) Ae))))) (Ac (AQ (Az FE (pv 3) Cw (AF _)) (Ai (Av (pv 1))) AC) (Ai (Av (AE (Aj Ak (AE (pv 0) Z) (pv 3) R_9) Z))))),?_⟩
 try dsimp only[cxK]
 refine xw3 Z Z Z ⟨p,l,z,r,cell,n,Z,u,L,I,λm g=>?_⟩;refine xq1 Z ⟨Z,(xq1 Z ?_)⟩;cases e:JB r cell n with
 |none =>
  refine BY (xq1 Z ?_);have:=k m g;rw[Nf e]at this;exact this
 |some i =>
  obtain⟨c,o,C⟩:=Nd e;obtain⟨dx,t,cs,M,O,d⟩:=u.ex;obtain⟨q,eq⟩:∃q,cs[i]?=some q:=by
   have R:cs.length=r.length:=A0e d;have:i<cs.length:=by rw[R];exact(B9.mp o).1
   exact⟨_,C6 this⟩
  obtain⟨S,b,G⟩:=Paired.get d eq;rw[o]at b;cases b;obtain⟨B,U,y,D,_⟩:=(G.same g).ex;refine AY (xwf Z Z (g _ _ M) T.cl_Rule T.na_Rule_clauses fl2_2 (xwi Z Z Z (SqT.of (g _ _ O)) (Ah (by rw[C0,eq];rfl)) (xq5 D T.cl_Clause T.na_Clause_makes fl3_3 ?_)));have:=k m g;rw[C]at this;exact this
end
def sgD(d:Int):Str:=⟨#[48+d.toNat]⟩
def wC:Option Int->Nat
|none=>42
|some d=>48+d.toNat
def wS(x:Option Int):Str:=⟨#[wC x]⟩
def Ed(ns:I_):Str:=⟨(ns.map λn=>48+n.toNat).toArray⟩
def Bb:Ba->Str
|.am s ns=>sgD s++⟨#[61]⟩++Ed ns
|.pl ws=>⟨(ws.map wC).toArray⟩
def Bf(c:AT):Str:=Str.join ⟨#[32]⟩ (wS c.cell::(c.conds.map Bb++[sgD c.makes]))
def Og:Str:=⟨#[59,32]⟩
def Dm(r:AD):Str:=Str.join Og (r.map Bf)
def Iy(d:Int):Prop:=0<=d/\d<8
def wOk:Option Int->Prop
|none=>True
|some d=>Iy d
def Ba.ok:Ba->Prop
|.am s ns=>Iy s/\ns≠[]/\(∀n∈ns,0<=n/\n<=8)/\ns.Pairwise (· < ·)
|.pl ws=>ws.length=8/\∀w∈ws,wOk w
structure AT.ok(c:AT):Prop where
cell:wOk c.cell
makes:Iy c.makes
few:c.conds.length<=50
conds:∀d∈c.conds,d.ok
theorem eight{d:Int}(h:Iy d):d=0\/d=1\/d=2\/d=3\/d=4\/d=5\/d=6\/d=7:=by
 obtain⟨m,rfl⟩:=F8 h.1;have a:=h.2;exact(show ∀m:Nat,m<8->((m:Int)=0\/(m:Int)=1\/(m:Int)=2\/(m:Int)=3\/(m:Int)=4\/(m:Int)=5\/(m:Int)=6\/(m:Int)=7) by decide) m A0
abbrev figs8:Str:=Str.ofString "01234567"
abbrev figs9:Str:=Str.ofString "012345678"
theorem YZ{d:Int}(h:Iy d):PySem.intText? (sgD d)=some d/\(!(Builtin.Str.occurrences figs8 (sgD d) 0 figs8.length 1).isEmpty)=true:=by
 rcases eight h with rfl|rfl|rfl|rfl|rfl|rfl|rfl|rfl<;>exact⟨by decide +kernel,by decide +kernel⟩
theorem nine{d:Int}(a:0<=d)(b:d<=8):d=0\/d=1\/d=2\/d=3\/d=4\/d=5\/d=6\/d=7\/d=8:=by
 obtain⟨m,rfl⟩:=F8 a;exact(show ∀m:Nat,m<9->((m:Int)=0\/(m:Int)=1\/(m:Int)=2\/(m:Int)=3\/(m:Int)=4\/(m:Int)=5\/(m:Int)=6\/(m:Int)=7\/(m:Int)=8) by decide) m A0
theorem am_facts{d:Int}(a:0<=d)(b:d<=8):PySem.intText? (⟨#[48+d.toNat]⟩:Str)=some d/\(!(Builtin.Str.occurrences figs9 (⟨#[48+d.toNat]⟩:Str) 0 figs9.length 1).isEmpty)=true:=by
 rcases nine a b with rfl|rfl|rfl|rfl|rfl|rfl|rfl|rfl|rfl<;>exact⟨by decide +kernel,by decide +kernel⟩
theorem star_no{d:Int}(h:Iy d):decide (V.str (wS (some d))=V.str (Str.ofString "*"))=false:=by
 rcases eight h with rfl|rfl|rfl|rfl|rfl|rfl|rfl|rfl<;>decide +kernel
theorem Qy{x:Option Int}(h:wOk x):wC x≠61/\wC x≠32/\wC x≠59:=by
 cases x with
 |none=>exact⟨by decide,by decide,by decide⟩
 |some d =>
  have:=h.1;have:=h.2;show 48+d.toNat≠61/\48+d.toNat≠32/\48+d.toNat≠59;refine⟨?_,?_,?_⟩<;>lia
theorem QU{d:Ba}(h:d.ok):32∉(Bb d).cps.toList/\59∉(Bb d).cps.toList:=by
 cases d with
 |am s ns =>
  obtain⟨⟨g,i⟩,_,c,_⟩:=h;have e:(Bb (.am s ns)).cps.toList=(48+s.toNat)::61::ns.map λn=>48+n.toNat:=by
   show(sgD s++⟨#[61]⟩++Ed ns).cps.toList=_;rw[Tx.CW,Tx.CW];rfl
  rw[e];constructor
  .intro z;rcases C3.mp z with z|z
   .lia
   .rcases C3.mp z with z|z
    .lia
    .obtain⟨n,a,e⟩:=D3.mp z;have:=c n a;lia
  .intro z;rcases C3.mp z with z|z
   .lia
   .rcases C3.mp z with z|z
    .lia
    .obtain⟨n,a,e⟩:=D3.mp z;have:=c n a;lia
 |pl f =>
  have e:(Bb (.pl f)).cps.toList=f.map wC:=rfl;rw[e];constructor
  .intro z;obtain⟨x,b,e⟩:=D3.mp z;exact(Qy (h.2 x b)).2.1 e
  .intro z;obtain⟨x,b,e⟩:=D3.mp z;exact(Qy (h.2 x b)).2.2 e
theorem OO:∀(ns:I_)(lo:Int),lo<=9->(∀n∈ns,lo<=n/\n<=8)->ns.Pairwise (· < ·)->(ns.length:Int)<=9-lo
|[],lo,h,_,_=>by show(0:Int)<=9-lo;lia
|n::r,lo,_,hn,hp=>by
 have b:=hn n C9;have c:=OO r (n+1) A0 (λm a=>⟨by have:=(List.pairwise_cons.mp hp).1 m a;lia,(hn m (C8 _ a)).2⟩) (List.pairwise_cons.mp hp).2;rw[F2];lia
theorem Nc{d:Ba}(h:d.ok):(Bb d).length<=11:=by
 cases d with
 |am s ns =>
  obtain⟨_,_,a,b⟩:=h;have e:=OO ns 0 A3 a b;rw[Nu.len];show(sgD s++⟨#[61]⟩++Ed ns).cps.toList.length<=11;rw[Tx.CW,Tx.CW,C5,C5];show 1+1+(ns.map λn=>48+n.toNat).length<=11;rw[B8];lia
 |pl c =>
  rw[Nu.len];show(c.map wC).length<=11;rw[B8,h.1];decide
section
variable{P:N_}{w:Q_}{K:O_}{mg:C_}{base:T_}{a:Ad}
theorem VM(K:O_):kitOne K (.type "str") (.type "str")=some true:=by kernel_rfl
inductive SpRS(vs:List V)(H:Hp)(Q:VK):Prop
|mk (d:Int) (_:vs=[.str (sgD d)]) (_:Iy d) (_:Q (.int d) H):SpRS vs H Q
def Zd:Sp:=λvs H Q _=>SpRS vs H Q
theorem ok_rs(F:Fun K "read_state" "read_state" IM f fd)(T:Top K mg a):AL P w K mg base CX0 1 f fd RK Zd:=by
 refine F.ok Qf D_9 λc A b s H vs Q E j h=>?_
 obtain⟨d,rfl,i,k⟩:=h;obtain⟨e,g⟩:=YZ i;refine⟨_,(Ac (AQ (PW.pt (Jz (Az JY (AU Jt Z T.b_len A1e (Aa (pv 0) Ae)) Ab (AF _)) (JK (Az MK (pv 0) (OG Z T.k_STATE_FIGURES) Z)))) (Ai Bl) AC) (Ai (Av (Bd Iu Z T.b_int A2g (Aa (pv 0) Ae))))),?_⟩
 try dsimp only[cxK]
 refine xw2 Z Z ⟨S_1,Z,(xq1 Z ?_)⟩;refine Wr Z (xwb Z Z Z (xq1 Z ?_));rw[g];exact AY (xq1 Z ⟨_,d,Z,e,(by show 1<=640;decide),k⟩)
inductive SpRW(vs:List V)(H:Hp)(Q:VK):Prop
|mk (x:Option Int) (_:vs=[.str (wS x)]) (_:wOk x) (_:Q (Io x) H):SpRW vs H Q
def spRW:Sp:=λvs H Q _=>SpRW vs H Q
theorem ok_rw(F:Fun K "read_wanted" "read_wanted" GW f fd)(T:Top K mg a)(e:Cal P w K mg base CX0 1 "read_state" RK Zd):AL P w K mg base CX0 2 f fd RK spRW:=by
 refine F.ok OY D_9 λg A b s H vs Q E i h=>?_
 obtain⟨x,rfl,c,k⟩:=h;refine⟨_,(Ac (AQ (Az CK (pv 0) (OG Z T.k_ANY_SIGN) (AF _)) (Ai (Av Cw)) AC) (Ai (Av (As e (rm i) Z Aq (Aa (pv 0) Ae))))),?_⟩
 try dsimp only[cxK]
 refine xq1 Z ⟨Z,(xq1 Z ?_)⟩;cases x with
 |none=>exact BY k
 |some d =>
  rw[star_no c];exact AY (xq1 Z ⟨d,Z,c,k⟩)
inductive SpRN(vs:List V)(H:Hp)(Q:VK):Prop
|mk (ns:I_) (_:vs=[.str (Ed ns)]) (_:ns≠[]) (_:ns.length<=100) (_:(∀n∈ns,0<=n/\n<=8)) (_:ns.Pairwise (· < ·)) (_:∀(t:R_)(H':Hp),AA H H'->H' t=some (.tup (ns.map V.int))->Q (.ref t) H'):SpRN vs H Q
def spRN:Sp:=λvs H Q _=>SpRN vs H Q
theorem ok_rn(F:Fun K "read_numbers" "read_numbers" Ga f fd)(T:Top K mg a):AL P w K mg base CX0 1 f fd Gn spRN:=by
 refine F.ok FA D_9 λI A q s H vs Q E X h=>?_
 obtain⟨ns,rfl,o,B,D,R,k⟩:=h;have M:(Ed ns).length=ns.length:=by rw[Nu.len];show(ns.map _).length=_;rw[B8]
 have r:(Ed ns).cps.toList=ns.map λn=>48+n.toNat:=rfl;have pos:0<ns.length:=U6.mpr o;refine⟨_,(Ac (AQ (Az CK (AU Jt Z T.b_len A1e (Aa (pv 0) Ae)) Ab (AF _)) (Ai Bl) AC) (Ac (Ao (i:=1) FA.nd Z O_9 (BX Ae)) (Ac (Cv A0b Z (Zv (pv 0)) (Bn (i:=2) FA.nd Z O_9) (Ac (AQ (Az MK (pv 2) (OG Z T.k_AMOUNT_FIGURES) Z) (Ai Bl) AC) (Ac (AQ (PW.pt (Mj (Az Oc (AU Ca Z T.b_len A1e (Aa (pv 1) Ae)) Ab (AF _)) (Ja (Az ML (Bd Iu Z T.b_int A2g (Aa (pv 2) Ae)) (Aj Ax (pv 1) (Iz EI Ab) R_9) (AF _))))) (Ai Bl) AC) (Ai (BJ (De K8 K9 A0a BF (pv 1) (Aa (Bd Iu Z T.b_int A2g (Aa (pv 2) Ae)) Ae))))))) (Ai (Av (Bd BM Z T.b_tuple A0h (Aa (pv 1) Ae))))))),?_⟩
 try dsimp only[cxK]
 refine xw2 Z Z ⟨(by rw[M];exact D0 B A3),Z,(xq1 Z ?_)⟩;have W:decide (V.int ((Ed ns).length:Int)=V.int 0)=false:=K1 λz=>by
  injection z with z
  lia
 rw[W];refine AY ⟨S_0,λl m=>?_⟩;refine xw2 Z Z ?_;refine for_str (λi σ c=>∃v,σ=[some (.str (Ed ns)),some (.ref l),v]/\c=upd H l (.lst ((ns.take i).map V.int))) ⟨none,Z,Z⟩ ?_ ?_
 .rintro i ch σ c j ⟨v,rfl,rfl⟩;have b:(ns.map λn=>48+n.toNat)[i]?=some ch:=by rw[<-r];simpa using j
  rw[C0]at b;obtain⟨n,d,rfl⟩:=D7.mp b;have G:=D6 d;obtain⟨u,N⟩:=am_facts (D n G).1 (D n G).2;have y:i<ns.length:=(B9.mp d).1;have tl:(ns.take i).length=i:=by rw[L8];lia
  refine xwb Z Z Z (xq1 Z ?_);rw[N];refine AY (xq1 Z ⟨l,(xq1 Z ⟨.inl (SqL.of Af),(xq2 Z Z (xq1 Z ?_))⟩)⟩);have nx:∃v,([some (V.str (Ed ns)),some (.ref l),some (.str ⟨#[48+n.toNat]⟩)]:St)=[some (.str (Ed ns)),some (.ref l),v]/\upd (upd H l (.lst ((ns.take i).map V.int))) l (.lst ((ns.take i).map V.int++[V.int n]))=upd H l (.lst ((ns.take (i+1)).map V.int)):=by
   refine xq1 Z ?_;rw[GG,F9,d,C7];rfl
  have app:tDrop (tBM K "list" Wc (GR 1) (Db (tCB (λxs H Q=>∃x n,xs=[.str x]/\PySem.intText? x=some n/\x.length<=640/\Q (.int n) H) (Db (GR 2) Qc)) Qc))
    {nx:=fun σ c=>∃v,σ=[some (.str (Ed ns)),some (.ref l),v]/\c=upd H l (.lst ((ns.take (i+1)).map V.int)),rt:=Q,bk:=λ_ _=>False,ct:=fun σ c=>∃v,σ=[some (.str (Ed ns)),some (.ref l),v]/\c=upd H l (.lst ((ns.take (i+1)).map V.int))}
    [some (.str (Ed ns)),some (.ref l),some (.str ⟨#[48+n.toNat]⟩)] (upd H l (.lst ((ns.take i).map V.int))) :=
   ⟨_,Z,.inl ⟨Z,_,SqL.of Af⟩,_,Z,_,n,Z,u,(by show 1<=640;decide),l,_,_,Z,Z,Af,(by rw[B8,tl];exact F5 y (D0 B A3)),nx⟩
  by_cases U:i=0
  .subst U;exact AY app
  .have Y:0<i:=by lia
   have p:decide ((0:Int)<(((ns.take i).map V.int).length:Int))=true:=K0 (by rw[B8,tl];lia);rw[p];have C:i-1<ns.length:=by lia
   have O:ns[i-1]<n:=by
    have:=List.pairwise_iff_getElem.mp R (i-1) i C y A0;rw[(B9.mp d).2]at this;exact this
   have g:atI ((ns.take i).map V.int) (-1)=some (V.int ns[i-1]):=by
    have:((ns.take i).map V.int)[i-1]?=some (V.int ns[i-1]):=by
     rw[C0,V7 A0,C6 C];rfl
    have L:((ns.take i).map V.int).length=i:=by rw[B8,tl]
    unfold atI ixN;rw[L,X9 A3,K2 A0];show((ns.take i).map V.int)[((-1:Int)+(i:Nat)).toNat]?=_;rw[show((-1:Int)+(i:Nat)).toNat=i-1 by lia];exact this
   refine BY (xq1 Z ⟨_,n,Z,u,(by show 1<=640;decide),(xw2 Z Z ⟨l,_,(xq2 Z Z ⟨SqL.of Af,g,(xq2 Z Z (xq1 Z ?_))⟩)⟩)⟩);rw[K1 (by lia:¬n<=ns[i-1])];exact AY app
 .rintro σ c ⟨v,rfl,rfl⟩;have e:(Ed ns).cps.size=ns.length:=by
   have:(Ed ns).cps.toList.length=ns.length:=by rw[r,B8]
   simpa using this
  rw[e,J8];refine xq1 Z ⟨l,(xq1 Z (.inl ⟨SqL.of Af,λt S=>?_⟩))⟩;exact k t _ ((Ar m).trans (Ar S)) Af
theorem eq_in(x:Str):(!(Builtin.Str.occurrences x (Str.ofString "=") 0 x.length 1).isEmpty)=decide (61∈x.cps.toList):=by
 have:Str.ofString "=" = (⟨#[61]⟩:Str):=by decide +kernel
 rw[this];exact StrLaws.found_one x 61
inductive WD(a:Ad)(vs:List V)(H:Hp)(Q:VK):Prop
|mk (d:Ba) (_:vs=[.str (Bb d)]) (_:d.ok) (_:∀(p:R_)(H':Hp),AA H H'->DG a H' p d->Q (.ref p) H'):WD a vs H Q
def Rl(a:Ad):Sp:=λvs H Q _=>WD a vs H Q
inductive SpRAm(a:Ad)(vs:List V)(H:Hp)(Q:VK):Prop
|mk (s:Int) (ns:I_) (_:vs=[.str (Bb (.am s ns))]) (_:(Ba.am s ns).ok) (_:∀(p:R_)(H':Hp),AA H H'->DG a H' p (.am s ns)->Q (.ref p) H'):SpRAm a vs H Q
def Zf(a:Ad):Sp:=λvs H Q _=>SpRAm a vs H Q
theorem ok_ram(F:Fun K "read_amounts" "read_amounts" Gb f fd)(T:Top K mg a)(C:Cal P w K mg base CX0 1 "read_state" RK Zd)(D:Cal P w K mg base CX0 1 "read_numbers" Gn spRN)
 (G:SH P w K mg base CX0 1 "Amounts" a.c_Amounts PF (OW a)):AL P w K mg base CX0 3 f fd RK (Zf a):=by
 refine F.ok Jv D_9 λI A o s H vs Q E l h=>?_
 obtain⟨d,ns,rfl,u,k⟩:=h;have q:=Nc u;obtain⟨p,j,r,v⟩:=u;have O:=OO ns 0 A3 r v;have g:Str.ofString "=" = (⟨#[61]⟩:Str):=by decide +kernel
 have L:Txt.partition (Bb (.am d ns)) (Str.ofString "=")=(sgD d,⟨#[61]⟩,Ed ns):=by
  rw[g];refine Tx.Eu 61 (sgD d) (Ed ns) ?_;intro z;have:61=48+d.toNat:=by simpa[sgD] using z
  have:=p.2;lia
 refine⟨_,(Ac (Ao (i:=1) Jv.nd Z O_9 (De A1d PySem.F.slot_str_partition PySem.F.type_str_partition RW (pv 0) (ND Ae))) (Ai (Av (Lr G (rm l) Z Aq (Aa (As C (rm l) Z Aq (Aa (Aj Ak (pv 1) Ab R_9) Ae)) (Aa (As D (rm l) Z Aq (Aa (Aj Ak (pv 1) Ab R_9) Ae)) Ae)))))),?_⟩
 try dsimp only[cxK]
 refine xq1 Z ⟨Z,(xq2 Z Z ⟨A1,A0,λt M=>?_⟩)⟩;rw[L];refine xq1 Z ⟨t,_,0,(xq1 Z ⟨Z,SqT.of Af,Z,d,Z,p,(xq1 Z ⟨t,_,2,(xq1 Z ⟨Z,SqT.of Af,Z,ns,Z,j,by lia,r,v,λB b N m=>?_⟩)⟩)⟩)⟩;intro x dx nx c e;have R:AA b (upd (upd b dx (.own x)) x (.ins a.c_Amounts dx [])):=(Ar c).trans (Ar (by rw[Aw (K6 e)];exact nx));refine⟨x,B,dx,d,Z,Af,Z,?_⟩;have n:(upd b dx (.own x)) x=none:=by rw[Aw (K6 e)];exact nx
 rw[GG];have y:AA b (upd (upd b dx (.own x)) x (.ins a.c_Amounts dx (fl2 "state" "numbers" (.int d) (.ref B)))):=(Ar c).trans (Ar n);exact k x _ (((Ar M).trans N).trans y) (.am Af (y _ _ m))
inductive SpRPl(a:Ad)(vs:List V)(H:Hp)(Q:VK):Prop
|mk (ws:List (Option Int)) (_:vs=[.str (Bb (.pl ws))]) (_:(Ba.pl ws).ok) (_:∀(p:R_)(H':Hp),AA H H'->DG a H' p (.pl ws)->Q (.ref p) H'):SpRPl a vs H Q
def Ze(a:Ad):Sp:=λvs H Q _=>SpRPl a vs H Q
theorem ok_rpl(F:Fun K "read_places" "read_places" EZ f fd)(T:Top K mg a)(B:Cal P w K mg base CX0 2 "read_wanted" RK spRW)
 (D:SH P w K mg base CX0 1 "Places" a.c_Places Qr (OT a)):AL P w K mg base CX0 3 f fd RK (Ze a):=by
 refine F.ok OZ D_9 λC A n s H vs Q E y h=>?_
 obtain⟨b,rfl,v,k⟩:=h;have g:=Nc v;obtain⟨u,L⟩:=v;have G:(Bb (.pl b)).length=8:=by rw[Nu.len];show(b.map wC).length=8;rw[B8,u]
 have p:(Bb (.pl b)).cps.toList=b.map wC:=rfl;refine⟨_,(Ac (AQ (Az JY (AU Jt Z T.b_len A1e (Aa (pv 0) Ae)) (Cj Z T.k_NEIGHBOURS) (AF _)) (Ai Bl) AC) (Ai (Av (Lr D (rm y) Z Aq (Aa (Bd BM Z T.b_tuple A0h (Aa (Ck Z (BE.of (So:=Al EZ) (No:=RK) (N:=["sign"]) (k:=1) (cs:=[]) Z Z A1) (Zv (pv 0)) (λ_ _ _=>(Bg (i:=0) A1 Z Z)) (λ_ _ _=>BL) (λ_ _ _=>(As B (rm y) Z Aq (Aa (pv 0) Ae)))) Ae)) Ae))))),?_⟩
 try dsimp only[cxK]
 refine xw2 Z Z ⟨D0 g A3,Z,(xq1 Z ?_)⟩;rw[G];refine Wr Z (xw2 Z Z ?_);refine blk_str (λi d c=>c=H/\d=(b.take i).map Io) ⟨Z,Z⟩ ?_ ?_
 .rintro i ch d c e ⟨rfl,rfl⟩;rw[p,C0]at e;obtain⟨x,r,rfl⟩:=D7.mp e;refine⟨⟨[some (.str ⟨#[wC x]⟩)],Z,Z⟩,?_,?_⟩
  .rw[B8,L8];exact F7 (P7 _ _) (by rw[u];decide)
  .refine GQ (xq1 Z ⟨x,Z,L x (D6 r),Z,?_⟩);rw[F9,r,C7];rfl
 .rintro d c ⟨rfl,rfl⟩ q M;rw[p,B8,J8];refine⟨q,(xq1 Z (.inl ⟨SqL.of Af,λt I=>?_⟩))⟩;intro x dx nx j l;have m:∀o,(upd (upd (upd c q (.lst (b.map Io))) t (.tup (b.map Io))) dx o) x=none:=λo=>by rw[Aw (K6 l)];exact nx
  refine⟨x,t,dx,Z,Af,Z,?_⟩;rw[GG];have O:AA c (upd (upd c q (.lst (b.map Io))) t (.tup (b.map Io))):=(Ar M).trans (Ar I);have z:AA (upd (upd c q (.lst (b.map Io))) t (.tup (b.map Io))) (upd (upd (upd (upd c q (.lst (b.map Io))) t (.tup (b.map Io))) dx (.own x)) x (.ins a.c_Places dx (fl1 "wanted" (.ref t)))):=(Ar j).trans (Ar (m _));exact k x _ (O.trans z) (.pl Af (z _ _ Af))
theorem ZI(F:Fun K "read_condition" "read_condition" EM f fd)(T:Top K mg a)(j:Cal P w K mg base CX0 3 "read_amounts" RK (Zf a))(l:Cal P w K mg base CX0 3 "read_places" RK (Ze a)) :
 AL P w K mg base CX0 4 f fd RK (Rl a):=by
 refine F.ok MC D_9 λn A c s H vs Q E i h=>?_
 obtain⟨d,rfl,b,k⟩:=h;refine⟨_,(Ac (AQ (Az WY Dk (pv 0) Z) (Ai (Av (As j (rm i) Z Aq (Aa (pv 0) Ae)))) AC) (Ai (Av (As l (rm i) Z Aq (Aa (pv 0) Ae))))),?_⟩
 try dsimp only[cxK]
 refine xwb Z Z Z (xq1 Z ?_);rw[eq_in];cases d with
 |am s ns =>
  have m:61∈(Bb (.am s ns)).cps.toList:=by
   show 61∈(sgD s++⟨#[61]⟩++Ed ns).cps.toList;rw[Tx.CW,Tx.CW];simp
  rw[K0 m];exact BY (xq1 Z ⟨s,ns,Z,b,k⟩)
 |pl g =>
  have m:¬61∈(Bb (.pl g)).cps.toList:=λz=>by
   obtain⟨x,o,e⟩:=D3.mp (show 61∈g.map wC from z);exact(Qy (b.2 x o)).1 e
  rw[K1 m];exact AY (xq1 Z ⟨g,Z,b,k⟩)
inductive SpRC(a:Ad)(vs:List V)(H:Hp)(Q:VK):Prop
|mk (c:AT) (_:vs=[.str (Bf c)]) (_:c.ok) (_:∀(p:R_)(H':Hp),AA H H'->Ch a H' p c->Q (.ref p) H'):SpRC a vs H Q
def spRC(a:Ad):Sp:=λvs H Q _=>SpRC a vs H Q
theorem Js{c:AT}(h:c.ok):(Bf c).length<=1000:=by
 have j:=StrLaws.join_length_le ⟨#[32]⟩ (wS c.cell::(c.conds.map Bb++[sgD c.makes]));have b:∀l:List Ba,(∀d∈l,d.ok)->((l.map Bb).map (·.length)).sum<=11*l.length:=by
  intro l;induction l with
  |nil=>intro _;exact L5 _
  |cons d r k =>
   intro f;have q:=Nc (f d C9);have s:=k λe i=>f e (C8 _ i);simp only[J3,P5,F2];lia
 have p:=b c.conds h.conds;have g:=h.few;simp only[J3,C7,X5,P5,List.sum_append,List.sum_nil,F2,C5,R9,B8]at j;have m:(wS c.cell).length=1:=rfl;have n:(sgD c.makes).length=1:=rfl;have o:(⟨#[32]⟩:Str).length=1:=rfl;rw[m,n,o]at j;unfold Bf;lia
theorem LH(x:Option Int)(h:wOk x):32∉(wS x).cps.toList/\59∉(wS x).cps.toList:=by
 have:=Qy h;constructor
 .intro z;have:32=wC x:=by simpa[wS] using z
  exact(Qy h).2.1 this.symm
 .intro z;have:59=wC x:=by simpa[wS] using z
  exact(Qy h).2.2 this.symm
theorem Sr{c:AT}(h:c.ok):Txt.split (Bf c) (Str.ofString " ")=wS c.cell::(c.conds.map Bb++[sgD c.makes]):=by
 have e:Str.ofString " " = (⟨#[32]⟩:Str):=by decide +kernel
 rw[e];refine Tx.SZ 32 _ A6 λt b=>?_;rcases C3.mp b with rfl|b
 .exact(LH _ h.cell).1
 .rcases F4.mp b with b|b
  .obtain⟨d,f,rfl⟩:=D3.mp b;exact(QU (h.conds d f)).1
  .rw[D4.mp b];exact(LH (some c.makes) h.makes).1
theorem cut_mid(x z:V)(ys:List V):Vs (x::(ys++[z])) (some 1) (some (-1))=ys:=by
 have n:(x::(ys++[z])).length=ys.length+2:=by simp
 unfold Vs;rw[n];have b:HT.sIx (ys.length+2) 0 (some 1)=1:=by
  show(if(1:Int)<0 then((1:Int)+((ys.length+2:Nat):Int)).toNat else min (1:Int).toNat (ys.length+2))=1;rw[X9 A3];show min 1 (ys.length+2)=1;lia
 have c:HT.sIx (ys.length+2) (ys.length+2) (some (-1))=ys.length+1:=by
  show(if(-1:Int)<0 then((-1:Int)+((ys.length+2:Nat):Int)).toNat else min (-1:Int).toNat (ys.length+2))=ys.length+1;rw[K2 A3];lia
 rw[b,c];show(ys++[z]).take (ys.length+1-1)=ys;rw[Z7,List.take_left' rfl]
theorem at_last(x:V)(ys:List V)(z:V):atI (x::(ys++[z])) (-1)=some z:=by
 have n:(x::(ys++[z])).length=ys.length+2:=by simp
 unfold atI ixN;rw[n,X9 A3,K2 A0];show(x::(ys++[z]))[((-1:Int)+((ys.length+2:Nat):Int)).toNat]?=some z;rw[show((-1:Int)+((ys.length+2:Nat):Int)).toNat=ys.length+1 by lia,W2,L6 (C1 _),W4];rfl
theorem ok_rc(F:Fun K "read_clause" "read_clause" Fa f fd)(T:Top K mg a)(aP:Cal P w K mg base CX0 1 "read_state" RK Zd)(aY:Cal P w K mg base CX0 2 "read_wanted" RK spRW)
 (bE:Cal P w K mg base CX0 4 "read_condition" RK (Rl a)) (dB:SH P w K mg base CX0 1 "Clause" a.c_Clause Qu (OV a)):AL P w K mg base CX0 5 f fd Ie (spRC a):=by
 refine F.ok Ei D_9 λac A Y s H vs Q E G h=>?_
 obtain⟨c,rfl,u,k⟩:=h;have ab:=Js u;have I:=u.few;refine⟨_,(Ac (AQ (CS (Cu (AU GC Z T.b_isinstance A1a (Aa (pv 0) (Aa (Jc (v:=.ty "str") Z T.b_str A1b Z) Ae))))) (Ai Bl) AC) (Ac (Ao (i:=1) Ei.nd Z O_9 (De A1d PySem.F.slot_str_split PySem.F.type_str_split TL (pv 0) (ND Ae))) (Ac (AQ (Az FH (AU Ca Z T.b_len A1e (Aa (pv 1) Ae)) Ab (AF _)) (Ai Bl) AC) (Ac (Ao (i:=2) Ei.nd Z O_9 (As aY (rm G) Z Aq (Aa (Aj Ax (pv 1) Ab R_9) Ae))) (Ac (Ao (i:=3) Ei.nd Z O_9 (Bd BM Z T.b_tuple A0h (Aa (Ck Z (BE.of (So:=Al Fa) (No:=LS) (N:=["word"]) (k:=1) (cs:=[]) Z Z A1) (Ci (Tw VX (pv 1) (Rz Ab) (Rz (Iz EI Ab)))) (λ_ _ _=>(Bg (i:=0) A1 Z Z)) (λ_ _ _=>BL) (λ_ _ _=>(As bE (rm G) Z Aq (Aa (pv 0) Ae)))) Ae))) (Ai (Av (Lr dB (rm G) Z Aq (Aa (pv 2) (Aa (pv 3) (Aa (As aP (rm G) Z Aq (Aa (Aj Ax (pv 1) (Iz EI Ab) R_9) Ae)) Ae))))))))))),?_⟩
 try dsimp only[cxK]
 refine xq1 Z ⟨_,_,_,.type "str",true,Z,Z,.of (.str _),VM K,true,Z,?_⟩;refine AY (xq1 Z ⟨Z,(xq2 Z Z ⟨A1,A0,λl hl=>?_⟩)⟩);rw[Sr u];have eW:((wS c.cell::(c.conds.map Bb++[sgD c.makes])).map V.str)=V.str (wS c.cell)::((c.conds.map λd=>V.str (Bb d))++[V.str (sgD c.makes)]):=by
  rw[J3,C7,N4];rfl
 rw[eW];have hL:∀o,upd H l o l=some o:=λo=>Af;refine xq1 Z ⟨l,(xq1 Z ⟨.inl (SqL.of Af),(xq2 Z Z (xq1 Z ?_))⟩)⟩;rw[K1 (by simp;lia:¬((((V.str (wS c.cell)::((c.conds.map λd=>V.str (Bb d))++[V.str (sgD c.makes)])).length:Nat):Int)<2))];refine AY (xwi Z Z Z (SqL.of Af) (Ah (j:=0) Z) ⟨c.cell,Z,u.cell,?_⟩);refine xw3 Z Z Z (xq1 Z ⟨l,(xq1 Z ⟨SqL.of Af,λq M=>⟨q,Z,⟨_,SqL.of Af⟩,?_⟩⟩)⟩);rw[cut_mid];have s0:AA H (upd (upd H l (.lst (V.str (wS c.cell)::((c.conds.map λd=>V.str (Bb d))++[V.str (sgD c.makes)])))) q (.lst (c.conds.map λd=>V.str (Bb d)))):=(Ar hl).trans (Ar M);have W:l≠q:=λz=>by rw[<-z,Af]at M;cases M
 generalize g:upd (upd H l (.lst (V.str (wS c.cell)::((c.conds.map λd=>V.str (Bb d))++[V.str (sgD c.makes)])))) q (.lst (c.conds.map λd=>V.str (Bb d)))=B;rw[g]at s0;have O:B q=some (.lst (c.conds.map λd=>V.str (Bb d))):=by rw[<-g];exact Af
 have L:B l=some (.lst (V.str (wS c.cell)::((c.conds.map λd=>V.str (Bb d))++[V.str (sgD c.makes)]))):=by rw[<-g,Aw W];exact Af
 refine Dv (xs:=c.conds.map λd=>V.str (Bb d)) (λi b e=>∃ps:List Addr,b=ps.map V.ref/\AA B e/\Paired (DG a e) ps (c.conds.take i)) ⟨[],Z,AA.refl B,.nil⟩ (λi b e _ ⟨ps,_,D,_⟩=>SqL.of (D _ _ O)) ?_ ?_
 .rintro i x b e hx ⟨ps,rfl,D,C⟩;rw[C0]at hx;obtain⟨d,ed,rfl⟩:=D7.mp hx;refine⟨⟨[some (.str (Bb d))],Z,Z⟩,?_,?_⟩
  .have e1:=A0e C;rw[L8]at e1;rw[B8,e1];exact F7 (P7 _ _) (F7 I A3)
  .refine GQ (xq1 Z ⟨d,Z,u.conds d (D6 ed),λp n y hp=>⟨ps++[p],by rw[C7];rfl,D.trans y,?_⟩⟩);rw[F9,ed];exact A2d (Paired.imp (λ_ _ z=>z.same y) C) hp
 .rintro b e ⟨ps,rfl,D,C⟩ r nr;rw[B8,J8]at C;refine⟨r,(xq1 Z (.inl ⟨SqL.of Af,λt ht=>?_⟩))⟩;have y:AA B (upd (upd e r (.lst (ps.map V.ref))) t (.tup (ps.map V.ref))):=(D.trans (Ar nr)).trans (Ar ht);generalize m:upd (upd e r (.lst (ps.map V.ref))) t (.tup (ps.map V.ref))=n;have R:n t=some (.tup (ps.map V.ref)):=by rw[<-m];exact Af
  have aa:AA e n:=by rw[<-m];exact(Ar nr).trans (Ar ht)
  rw[m]at y;refine xw3 Z Z Z (xq1 Z ⟨l,_,(xq2 Z Z ⟨SqL.of (y _ _ L),at_last _ _ _,c.makes,Z,u.makes,?_⟩)⟩);intro x dx nx S U;have X:∀o,(upd n dx o) x=none:=λo=>by rw[Aw (K6 U)];exact nx
  refine⟨x,t,dx,c.cell,c.makes,Z,Af,Z,?_⟩;rw[GG];have s4:AA n (upd (upd n dx (.own x)) x (.ins a.c_Clause dx (fl3 "cell" "conditions" "makes" (Io c.cell) (.ref t) (.int c.makes)))):=(Ar S).trans (Ar (X _));exact k x _ ((s0.trans y).trans s4) ⟨dx,t,ps,Af,s4 _ _ R,Paired.imp (λ_ _ z=>(z.same aa).same s4) C⟩
theorem Uf{c:AT}(h:c.ok):59∉(Bf c).cps.toList:=by
 intro z;unfold Bf at z;rw[PyProof.Rows.mem_join]at z;rcases z with ⟨t,b,z⟩|⟨_,z⟩
 .rcases C3.mp b with rfl|b
  .exact(LH _ h.cell).2 z
  .rcases F4.mp b with b|b
   .obtain⟨d,e,rfl⟩:=D3.mp b;exact(QU (h.conds d e)).2 z
   .rw[D4.mp b]at z;exact(LH (some c.makes) h.makes).2 z
 .have:59=32:=by simpa using z
  lia
end
structure GF(r:AD):Prop where
few:r.length<=50
ok:∀c∈r,c.ok
theorem GF.rok{r:AD}(h:GF r):ROk r:=⟨D0 h.few A3,λc a=>⟨D0 (h.ok c a).few A3,λd b f e=>by
 subst e;rw[((h.ok c a).conds _ b).1];decide⟩⟩
theorem Tm{r:AD}(h:GF r):(Dm r).length<=60000:=by
 have j:=StrLaws.join_length_le Og (r.map Bf);have b:∀l:List AT,(∀c∈l,c.ok)->((l.map Bf).map (·.length)).sum<=1000*l.length:=by
  intro l;induction l with
  |nil=>intro _;exact L5 _
  |cons d r i =>
   intro a;have n:=Js (a d C9);have o:=i λe g=>a e (C8 _ g);simp only[J3,P5,F2];omega
 have m:=b r h.ok;have f:=h.few;have k:Og.length=2:=rfl;rw[k,B8]at j;unfold Dm;omega
theorem rule_ne{r:AD}(h:r≠[]):decide (V.str (Dm r)=V.str (Str.ofString ""))=false:=by
 refine K1 λz=>?_;injection z with z
 obtain⟨c,b⟩:=List.exists_mem_of_ne_nil r h;have d:=PySem.join_mem_le Og (r.map Bf) (Bf c) (D3.mpr ⟨c,b,Z⟩);have e:=PySem.join_mem_le ⟨#[32]⟩ (wS c.cell::(c.conds.map Bb++[sgD c.makes])) (wS c.cell) C9;have f:(wS c.cell).length=1:=rfl;have a:(Dm r).length=0:=by rw[z];decide +kernel
 unfold Dm at a;have g:(Bf c).length=(Str.join ⟨#[32]⟩ (wS c.cell::(c.conds.map Bb++[sgD c.makes]))).length:=rfl;omega
theorem DG.put{a:Ad}{H:Hp}{p q:R_}{o u:HO}{c:Ba}(h:DG a H q c)(i:H p=some u)(n:∀C d fs,u=HO.ins C d fs->fs.lookup ("state" : Str)=none/\fs.lookup ("wanted" : Str)=none/\fs.lookup ("makes" : Str)=none)(nt:∀xs,u≠.tup xs):DG a (upd H p o) q c:=by
 have f:∀{b v},H b=some v->v≠u->upd H p o b=some v:=λ{b v} e d=>by rw[Aw (AH e i d)];exact e
 cases h with
 |am h g =>
  refine .am (f h λz=>?_) (f g λz=>nt _ z.symm);have:=(n _ _ _ z.symm).1;rw[fl2_1 A1]at this;cases this
 |pl h g =>
  refine .pl (f h λz=>?_) (f g λz=>nt _ z.symm);have:=(n _ _ _ z.symm).2.1;rw[fl1_1]at this;cases this
theorem Ch.put{a:Ad}{H:Hp}{p q:R_}{o u:HO}{c:AT}(h:Ch a H q c)(g:H p=some u)(n:∀C d fs,u=HO.ins C d fs->fs.lookup ("state" : Str)=none/\fs.lookup ("wanted" : Str)=none/\fs.lookup ("makes" : Str)=none)(nt:∀xs,u≠.tup xs):Ch a (upd H p o) q c:=by
 have f:∀{b v},H b=some v->v≠u->upd H p o b=some v:=λ{b v} e d=>by rw[Aw (AH e g d)];exact e
 obtain⟨dx,t,cs,i,j,k⟩:=h.ex;refine⟨dx,t,cs,f i λz=>?_,f j λz=>nt _ z.symm,Paired.imp (λ_ _ z=>z.put g n nt) k⟩;have:=(n _ _ _ z.symm).2.2;rw[fl3_3]at this;cases this
section
variable{P:N_}{w:Q_}{K:O_}{mg:C_}{base:T_}{a:Ad}
inductive SpCT(vs:List V)(H:Hp)(Q:VK):Prop
|mk (r:AD) (_:vs=[.str (Dm r)]) (_:GF r) (_:∀(l:R_)(H':Hp),AA H H'->H' l=some (.lst (r.map λc=>V.str (Bf c)))->Q (.ref l) H'):SpCT vs H Q
def spCT:Sp:=λvs H Q _=>SpCT vs H Q
theorem ok_ct(F:Fun K "clause_texts" "clause_texts" Gc f fd)(T:Top K mg a):AL P w K mg base CX0 1 f fd Ie spCT:=by
 refine F.ok Ol D_9 λm A g s H vs Q E q h=>?_
 obtain⟨r,rfl,j,k⟩:=h;have i:=Tm j;refine⟨_,(Ac (AQ (Az CK (pv 0) Dk (AF _)) (Ai (Av (BX Ae))) AC) (Ai (Av (De A1d PySem.F.slot_str_split PySem.F.type_str_split TL (pv 0) (Aa (OG Z T.k_CLAUSE_MARK) Ae))))),?_⟩
 try dsimp only[cxK]
 refine xq1 Z ⟨Z,(xq1 Z ?_)⟩;by_cases b:r=[]
 .subst b;refine BY ⟨S_0,λl d=>?_⟩;exact k l _ (Ar d) Af
 .rw[rule_ne b];refine AY (xq1 Z ⟨Z,(xq2 Z Z ⟨A1,(by omega),λl d=>?_⟩)⟩);have n:Str.ofString "; " = (⟨#[59,32]⟩:Str):=by decide +kernel
  have e:Txt.split (Dm r) (Str.ofString "; ")=r.map Bf:=by
   rw[n];refine Tx.SY _ (by simpa using b) λt p=>?_;obtain⟨c,o,rfl⟩:=D3.mp p;exact Uf (j.ok c o)
  rw[e,N4];exact k l _ (Ar d) Af
inductive SpRI(a:Ad)(vs:List V)(H:Hp)(Q:VK):Prop
|mk (p dx:R_) (r:AD) (_:vs=[.ref p,.str (Dm r)]) (_:H p=some (.ins a.c_Rule dx [])) (_:GF r) (_:∀H',(∀b o,H b=some o->b≠p->H' b=some o)->CZ a H' p (Dm r) r->Q .non H'):SpRI a vs H Q
def spRI(a:Ad):Sp:=λvs H Q _=>SpRI a vs H Q
theorem ok_ri(F:Fun K "__init__" "Rule.__init__" GL f fd)(T:Top K mg a)(bP:Cal P w K mg base CX0 1 "clause_texts" Ie spCT)(bW:Cal P w K mg base CX0 5 "read_clause" Ie (spRC a)) :
 AL P w K mg base CX0 6 f fd Of (spRI a):=by
 refine F.ok Rw D_9 λab A W s H vs Q E hr h=>?_
 obtain⟨p,dx,r,rfl,hp,O,k⟩:=h;have aa:=Tm O;have S:=O.few;refine⟨_,(Ac (CT (pv 0) (pv 1) Z) (Ai (CT (pv 0) (Bd BM Z T.b_tuple A0h (Aa (Ck Z (BE.of (So:=Al GL) (No:=Of) (N:=["part"]) (k:=1) (cs:=[]) Z Z A1) (Ci (As bP (rm hr) Z Aq (Aa (pv 1) Ae))) (λ_ _ _=>(Bg (i:=0) A1 Z Z)) (λ_ _ _=>BL) (λ_ _ _=>(As bW (rm hr) Z Aq (Aa (pv 0) Ae)))) Ae)) Z))),?_⟩
 try dsimp only[cxK]
 refine xw2 Z Z ⟨p,_,dx,[],Z,hp,T.cl_Rule,T.na_Rule_text,B2,?_⟩;generalize B:upd H p (.ins a.c_Rule dx (AZ "text" (.str (Dm r)) []))=R;have v:R p=some (.ins a.c_Rule dx (AZ "text" (.str (Dm r)) [])):=by rw[<-B];exact Af
 have k1:∀b o,H b=some o->b≠p->R b=some o:=λb o e n=>by rw[<-B,Aw n];exact e
 refine xq1 Z ⟨r,Z,O,λl X s2 hl=>⟨l,Z,⟨_,SqL.of hl⟩,?_⟩⟩;refine Dv (xs:=r.map λc=>V.str (Bf c)) (λi g u=>∃ps:List Addr,g=ps.map V.ref/\AA X u/\Paired (Ch a u) ps (r.take i)) ⟨[],Z,AA.refl X,.nil⟩ (λi g u _ ⟨ps,_,M,_⟩=>SqL.of (M _ _ hl)) ?_ ?_
 .rintro i x g u hx ⟨ps,rfl,M,G⟩;rw[C0]at hx;obtain⟨c,ec,rfl⟩:=D7.mp hx;refine⟨⟨[some (.str (Bf c))],Z,Z⟩,?_,?_⟩
  .have Y:=A0e G;rw[L8]at Y;rw[B8,Y];exact F7 (P7 _ _) (F7 S A3)
  .refine GQ (xq1 Z ⟨c,Z,O.ok c (D6 ec),λq m s4 hq=>⟨ps++[q],by rw[C7];rfl,M.trans s4,?_⟩⟩);rw[F9,ec];exact A2d (Paired.imp (λ_ _ z=>z.same s4) G) hq
 .rintro g u ⟨ps,rfl,M,G⟩ q nq;rw[B8,J8]at G;refine⟨q,(xq1 Z (.inl ⟨SqL.of Af,λt ht=>?_⟩))⟩;generalize D:upd (upd u q (.lst (ps.map V.ref))) t (.tup (ps.map V.ref))=m;have L:AA u m:=by rw[<-D];exact(Ar nq).trans (Ar ht)
  have y:m t=some (.tup (ps.map V.ref)):=by rw[<-D];exact Af
  have j:AA R m:=(s2.trans M).trans L;have U:t≠p:=λz=>by rw[z,j _ _ v]at y;cases y
  refine xq1 Z ⟨p,_,dx,(xq1 Z ⟨j _ _ v,T.cl_Rule,T.na_Rule_clauses,B3,?_⟩)⟩;have up:∀b o,m b=some o->b≠p->upd m p (.ins a.c_Rule dx (fl2 "text" "clauses" (.str (Dm r)) (.ref t))) b=some o:=λb o e n=>by rw[Aw n];exact e
  have cl:∀I c,Ch a m I c->Ch a (upd m p (.ins a.c_Rule dx (fl2 "text" "clauses" (.str (Dm r)) (.ref t)))) I c:=λI c hc=>by
   exact hc.put (j _ _ v) (λC d fs e=>by
    cases e;exact⟨Sk A1,Sk A1,Sk A1⟩) (λxs z=>by cases z)
  exact k _ (λb o e n=>up _ _ (j _ _ (k1 b o e n)) n) ⟨dx,t,ps,Af,up _ _ y U,Paired.imp (λI c z=>cl I c (z.same L)) G⟩
def BV:List Int:=[0,0,0,0,0,0,0,0]
inductive SpRR(a:Ad)(vs:List V)(H:Hp)(Q:VK):Prop
|mk (r:AD) (_:vs=[.str (Dm r)]) (_:GF r) (_:CH r 0 BV=0) (_:∀(p:R_)(H':Hp),AA H H'->CZ a H' p (Dm r) r->Q (.ref p) H'):SpRR a vs H Q
def spRR(a:Ad):Sp:=λvs H Q _=>SpRR a vs H Q
theorem ok_rr(F:Fun K "read_rule" "read_rule" JG f fd)(T:Top K mg a)(D:SH P w K mg base CX0 6 "Rule" a.c_Rule Of (spRI a))(B:Cal P w K mg base CX0 5 "becomes" Mo (VW a)) :
 AL P w K mg base CX0 8 f fd Ie (spRR a):=by
 refine F.ok MB D_9 λC A g s H vs Q E t h=>?_
 obtain⟨r,rfl,q,G,k⟩:=h;refine⟨_,(Ac (AQ (CS (Cu (AU GC Z T.b_isinstance A1a (Aa (pv 0) (Aa (Jc (v:=.ty "str") Z T.b_str A1b Z) Ae))))) (Ai Bl) AC) (Ac (Ao (i:=1) MB.nd Z O_9 (Lr D (rm t) Z Aq (Aa (pv 0) Ae))) (Ac (AQ (Az JY (As B (rm t) Z Aq (Aa (pv 1) (AN (AV op_rep (BX (AN Ae)) (Cj Z T.k_NEIGHBOURS) Ae)))) Ab (AF _)) (Ai Bl) AC) (Ai (Av (pv 1)))))),?_⟩
 try dsimp only[cxK]
 refine xq1 Z ⟨_,_,_,.type "str",true,Z,Z,.of (.str _),VM K,true,Z,?_⟩;refine AY (xq1 Z ?_);intro x dx nx d I;refine⟨x,dx,r,Z,Af,q,λy kp j=>⟨Z,?_⟩⟩;have L:AA H y:=λb o e=>kp b o (by rw[Aw (Ay e nx),Aw (Ay e d)];exact e) (Ay e nx);refine xq1 Z ⟨S_1,λl n=>?_⟩;refine⟨l,8,(xq1 Z ⟨Z,Af,A3,A3,A3,λm p=>?_⟩)⟩;have M:=(L.trans (Ar (o:=.lst [.int 0]) n)).trans (Ar (o:=.lst (BV.map V.int)) p);have c:=(Ar (o:=.lst [.int 0]) n).trans (Ar (o:=.lst (BV.map V.int)) p);refine⟨x,m,_,r,0,BV,Z,j.same c,q.rok,Af,λz u=>?_⟩;refine⟨Z,(xq1 Z ?_)⟩;rw[G];refine Wr Z (xq1 Z ?_);exact k x z (M.trans u) ((j.same c).same u)
end
end J
namespace J
open PySem L2
structure Sq where
parts:List Int
lev:Int
abbrev Gv:=List Sq
structure GA where
p:Addr
dx:Addr
lv:Addr
pt:Addr
nm:Addr
br:Addr
am:Addr
bx:Addr
def fl6(g:GA):List (Str×V):=AZ "boxes" (.ref g.bx) (AZ "amounts" (.ref g.am) (AZ "bares" (.ref g.br) (AZ "numbers" (.ref g.nm) (AZ "parts" (.ref g.pt) (AZ "levels" (.ref g.lv) [])))))
theorem EX(g:GA):(fl6 g).lookup ("levels" : Str)=some (V.ref g.lv):=by
 unfold fl6;rw[Am,X9 A1,Am,X9 A1,Am,X9 A1,Am,X9 A1,Am,X9 A1,Am,K2 rfl]
theorem Cg(g:GA):(fl6 g).lookup ("parts" : Str)=some (V.ref g.pt):=by
 unfold fl6;rw[Am,X9 A1,Am,X9 A1,Am,X9 A1,Am,X9 A1,Am,K2 rfl]
theorem fl6_nm(g:GA):(fl6 g).lookup ("numbers" : Str)=some (V.ref g.nm):=by
 unfold fl6;rw[Am,X9 A1,Am,X9 A1,Am,X9 A1,Am,K2 rfl]
theorem Iq(g:GA):(fl6 g).lookup ("bares" : Str)=some (V.ref g.br):=by
 unfold fl6;rw[Am,X9 A1,Am,X9 A1,Am,K2 rfl]
theorem fl6_am(g:GA):(fl6 g).lookup ("amounts" : Str)=some (V.ref g.am):=by
 unfold fl6;rw[Am,X9 A1,Am,K2 rfl]
theorem fl6_bx(g:GA):(fl6 g).lookup ("boxes" : Str)=some (V.ref g.bx):=by
 unfold fl6;rw[Am,K2 rfl]
theorem Jq(g:GA){m:Str}(a:¬m=("boxes" : Str))(b:¬m=("amounts" : Str))(c:¬m=("bares" : Str))(d:¬m=("numbers" : Str))(e:¬m=("parts" : Str))(f:¬m=("levels" : Str)):(fl6 g).lookup m=none:=by
 unfold fl6;rw[Am,X9 a,Am,X9 b,Am,X9 c,Am,X9 d,Am,X9 e,Am,X9 f];rfl
theorem RH(g:GA):(fl6 g).lookup ("kept" : Str)=none:=Jq g A1 A1 A1 A1 A1 A1
theorem BT(g:GA):(fl6 g).lookup ("linked" : Str)=none:=Jq g A1 A1 A1 A1 A1 A1
theorem TC(g:GA):(fl6 g).lookup ("check_square" : Str)=none:=Jq g A1 A1 A1 A1 A1 A1
theorem Wg(g:GA):(fl6 g).lookup ("leaf" : Str)=none:=Jq g A1 A1 A1 A1 A1 A1
theorem DX(g:GA):(fl6 g).lookup ("level_of" : Str)=none:=Jq g A1 A1 A1 A1 A1 A1
theorem UU(g:GA):(fl6 g).lookup ("state_of" : Str)=none:=Jq g A1 A1 A1 A1 A1 A1
def kOf(ps:I_):List Key:=ps.map Sum.inl
theorem kOf_v(ps:I_):(kOf ps).map kV=ps.map V.int:=by unfold kOf;rw[N4];rfl
theorem Lx:∀{ps a:I_},kOf ps=kOf a->ps=a
|[],[],_=>rfl
|[],_::_,h=>by cases h
|_::_,[],h=>by cases h
|x::r,y::t,h=>by
 have h:Sum.inl x::kOf r=(Sum.inl y:Key)::kOf t:=h;injection h with h1 h2
 injection h1 with h1
 rw[h1,Lx h2]
def Lj:Nat->Gv->List (List Key×V)
|_,[]=>[]
|n,q::r=>(kOf q.parts,.int (n:Int))::Lj (n+1) r
theorem TV:∀(G:Gv)(n:Nat),(Lj n G).length=G.length
|[],_=>rfl
|q::r,n=>by show(Lj (n+1) r).length+1=r.length+1;rw[TV r]
theorem QK(q:Sq):∀(G:Gv)(n:Nat),Lj n (G++[q])=Lj n G++[(kOf q.parts,.int ((n+G.length:Nat):Int))]
|[],_=>rfl
|p::r,n=>by
 show(kOf p.parts,V.int (n:Int))::Lj (n+1) (r++[q])=_;rw[QK q r (n+1)];show _=(kOf p.parts,V.int (n:Int))::(Lj (n+1) r++[(kOf q.parts,V.int ((n+(r.length+1):Nat):Int))]);rw[show n+1+r.length=n+(r.length+1) by lia]
theorem RZ(ps:I_):∀(G:Gv)(n:Nat),(∃(i:Nat)(q:Sq),G[i]?=some q/\q.parts=ps/\Br (Lj n G) (kOf ps)=some (.int ((n+i:Nat):Int)))\/(Br (Lj n G) (kOf ps)=none/\∀q∈G,q.parts≠ps)
|[],n=>.inr ⟨Z,λq a=>by simp at a⟩
|p::r,n=>by
 by_cases e:p.parts=ps
 .exact .inl ⟨0,p,Z,e,BN (by rw[e])⟩
 .have ne:¬(kOf p.parts,V.int (n:Int)).1=kOf ps:=λz=>e (Lx z);rcases RZ ps r (n+1)with ⟨i,q,h1,h2,h3⟩|⟨h1,h2⟩
  .refine .inl ⟨i+1,q,h1,h2,?_⟩;show Br ((kOf p.parts,V.int (n:Int))::Lj (n+1) r) (kOf ps)=_;rw[BB ne,h3,show n+1+i=n+(i+1) by lia]
  .refine .inr ⟨?_,λq a=>?_⟩
   .show Br ((kOf p.parts,V.int (n:Int))::Lj (n+1) r) (kOf ps)=_;rw[BB ne,h1]
   .rcases C3.mp a with rfl|a
    .exact e
    .exact h2 q a
def TupAt(H:Hp)(t:R_)(q:Sq):Prop:=H t=some (.tup (q.parts.map V.int))
structure AM(a:Ad)(H:Hp)(g:GA)(G:Gv):Prop where
hp:H g.p=some (.ins a.c_Grove g.dx (fl6 g))
lv:H g.lv=some (.lst (G.map λq=>.int q.lev))
pt:∃ts:List Addr,H g.pt=some (.lst (ts.map V.ref))/\Paired (TupAt H) ts G
nm:H g.nm=some (.dT (Lj 0 G))
ne:g.lv≠g.pt
def Fr(g:GA)(H H':Hp):Prop:=∀b o,H b=some o->b≠g.lv->b≠g.pt->b≠g.nm->H' b=some o
theorem Fr.refl(g:GA)(H:Hp):Fr g H H:=λ_ _ e _ _ _=>e
theorem Fr.trans{g:GA}{a c d:Hp}(h:Fr g a c)(i:Fr g c d):Fr g a d:=λb o e n1 n2 f=>i b o (h b o e n1 n2 f) n1 n2 f
theorem AA.fr{g:GA}{a c:Hp}(h:AA a c):Fr g a c:=λb o e _ _ _=>h b o e
theorem PairedM.imp{α β:Type}{F G:α->β->Prop}(h:∀x y,F x y->G x y):∀{l:List α}{m:List β},Paired F l m->Paired G l m
|_,_,.nil=>.nil
|_,_,.cons r t=>.cons (h _ _ r) (PairedM.imp h t)
theorem PairedM.get{α β:Type}{F:α->β->Prop}:∀{l:List α}{m:List β}{i:Nat}{y:β},Paired F l m->m[i]?=some y->∃x,l[i]?=some x/\F x y
|_,_,_,_,.nil,e=>by simp at e
|_,_,0,_,.cons r _,e=>by simp at e;subst e;exact⟨_,Z,r⟩
|_,_,i+1,y,.cons _ t,e=>by
 obtain⟨x,a,b⟩:=PairedM.get (i:=i) (y:=y) t (by simpa using e);exact⟨x,by simpa using a,b⟩
theorem AG{H:Hp}{p:R_}{o:HO}(h:H p=none):AA H (upd H p o):=λb u e=>by
 rw[Aw (Ay e h)];exact e
theorem AM.same{a:Ad}{H b:Hp}{g:GA}{G:Gv}(s:AA H b)(h:AM a H g G):AM a b g G:=by
 obtain⟨c,d,⟨k,e,f⟩,i,j⟩:=h;exact⟨s _ _ c,s _ _ d,⟨k,s _ _ e,PairedM.imp (λt q z=>s _ _ z) f⟩,s _ _ i,j⟩
theorem AM.put{a:Ad}{H:Hp}{g:GA}{G:Gv}{l:R_}{xs:List V}{o:HO}(p:H l=some (.lst xs))(n1:l≠g.lv)(n2:l≠g.pt)(h:AM a H g G):AM a (upd H l o) g G:=by
 obtain⟨d,f,⟨r,i,j⟩,k,m⟩:=h;have c:∀{b v},H b=some v->v≠.lst xs->upd H l o b=some v:=λ{b v} e n=>by rw[Aw (AH e p n)];exact e
 exact⟨c d A4,by rw[Aw (K6 n1)];exact f,⟨r,by rw[Aw (K6 n2)];exact i,PairedM.imp (λt q z=>c z A4) j⟩,c k A4,m⟩
def An(G:Gv)(x:Nat)(l:Int):Prop:=∃q,G[x]?=some q/\q.lev=l
structure GOk(G:Gv):Prop where
leaf:∀s:Nat,s<8->G[s]?=some ⟨[(s:Int)],0⟩
node:∀(i:Nat) q,G[i]?=some q->8<=i->∃x y z w:Nat,q.parts=[(x:Int),(y:Int),(z:Int),(w:Int)]/\(An G x (q.lev-1)/\An G y (q.lev-1)/\An G z (q.lev-1)/\An G w (q.lev-1))/\1<=q.lev/\q.lev<=48
nd:(G.map Sq.parts).Nodup
theorem An.lt{G:Gv}{x:Nat}{l:Int}(h:An G x l):x<G.length:=by
 obtain⟨q,h,_⟩:=h;exact(B9.mp h).1
theorem Lz{G r:Gv}{x:Nat}{q:Sq}(h:G[x]?=some q):(G++r)[x]?=some q:=by
 rw[N5 (B9.mp h).1];exact h
theorem An.app{G r:Gv}{x:Nat}{l:Int}(h:An G x l):An (G++r) x l:=by
 obtain⟨q,h,e⟩:=h;exact⟨q,Lz h,e⟩
theorem GOk.lev{G:Gv}(h:GOk G){i:Nat}{q:Sq}(e:G[i]?=some q):0<=q.lev/\q.lev<=48:=by
 by_cases b:i<8
 .rw[h.leaf i b]at e;cases e;exact⟨R5 0,by show(0:Int)<=48;decide⟩
 .obtain⟨x,y,z,w,_,_,c,a⟩:=h.node i q e A0;exact⟨by lia,a⟩
theorem GOk.snoc{G:Gv}(h:GOk G){x y z w:Nat}{l:Int}(B:An G x l)(C:An G y l)(D:An G z l)(A:An G w l)(n:l<=47)(new:∀q∈G,q.parts≠[(x:Int),(y:Int),(z:Int),(w:Int)]):GOk (G++[⟨[(x:Int),(y:Int),(z:Int),(w:Int)],l+1⟩]) where
 leaf:=λs v=>Lz (h.leaf s v)
 node:=λi q e o=>by
  by_cases r:i<G.length
  .rw[N5 r]at e;obtain⟨x,y,z,w,k,⟨c,d,f,g⟩,m⟩:=h.node i q e o;exact⟨x,y,z,w,k,⟨c.app,d.app,f.app,g.app⟩,m⟩
  .rw[L6 A0]at e;have:i-G.length=0:=by
    by_cases z:i-G.length=0
    .exact z
    .rw[S3 (by rw[S2];lia)]at e;cases e
   rw[this]at e;cases e;obtain⟨H,b,E⟩:=B;have:=(h.lev b).1;have j:l+1-1=l:=by lia
   refine⟨x,y,z,w,Z,?_,?_,?_⟩
   .show An _ x (l+1-1)/\An _ y (l+1-1)/\An _ z (l+1-1)/\An _ w (l+1-1);rw[j];exact⟨An.app ⟨H,b,E⟩,C.app,D.app,A.app⟩
   .show 1<=l+1;lia
   .show l+1<=48;lia
 nd:=by
  rw[C7,Q7];refine⟨h.nd,by simp,λp t F a=>?_⟩;obtain⟨q,u,rfl⟩:=D3.mp t;rw[show F=[(x:Int),(y:Int),(z:Int),(w:Int)] by simpa using a];exact new q u
theorem GOk.one{G:Gv}(h:GOk G){i j:Nat}{p q:Sq}(a:G[i]?=some p)(b:G[j]?=some q)(e:p.parts=q.parts):i=j:=by
 have d:=(B9.mp a).1;have f:=(B9.mp b).1;have c:(G.map Sq.parts)[i]'(by rw[B8];exact d)=(G.map Sq.parts)[j]'(by rw[B8];exact f):=by
  rw[List.getElem_map,List.getElem_map,(B9.mp a).2,(B9.mp b).2,e]
 exact(List.getElem_inj h.nd).mp c
seal L2.PA L2.PE L2.PS L2.PSs L2.PT L2.PW
theorem EH{n:Nat}(h:n<10000000):n<sizeLine:=F5 h A3
theorem kit_w(K:O_):kitOne K (.type "int") (.type "int")=some true/\kitOne K (.type "int") (.type "bool")=some false:=⟨by kernel_rfl,by kernel_rfl⟩
section
variable{P:N_}{w:Q_}{K:O_}{mg:C_}{base:T_}{a:Ad}
inductive SpIW(vs:List V)(H:Hp)(Q:VK):Prop
|mk (i:Int) (_:vs=[.int i]) (_:Q (.bl true) H):SpIW vs H Q
def UD:Sp:=λvs H Q _=>SpIW vs H Q
theorem ok_iw(F:Fun K "is_whole" "is_whole" Mb f fd)(T:Top K mg a):AL P w K mg base CX0 1 f fd UZ UD:=by
 refine F.ok Tg D_9 λc A b s H vs Q E d h=>?_
 obtain⟨i,rfl,k⟩:=h;exact⟨_,(Ai (Av (Jd (AU GC Z T.b_isinstance A1a (Aa (pv 0) (Aa (Jc (v:=.ty "int") Z T.b_int A2g Z) Ae))) (JM (Zz (AU GC Z T.b_isinstance A1a (Aa (pv 0) (Aa (Jc (v:=.ty "bool") Z T.b_bool PyProof.Rows.boot_bool Z) Ae)))))))),(xq1 Z ⟨_,_,_,.type "int",true,Z,Z,.of (.int i),(kit_w K).1,true,Z,BY (xq1 Z ⟨_,_,_,.type "int",false,Z,Z,.of (.int i),(kit_w K).2,false,Z,k⟩)⟩)⟩
inductive SpIS(vs:List V)(H:Hp)(Q:VK):Prop
|mk (i:Int) (_:vs=[.int i]) (_:0<=i) (_:i<8) (_:Q (.bl true) H):SpIS vs H Q
def spIS:Sp:=λvs H Q _=>SpIS vs H Q
theorem ok_is(F:Fun K "is_state" "is_state" Mc f fd)(T:Top K mg a)(c:Cal P w K mg base CX0 1 "is_whole" UZ UD):AL P w K mg base CX0 2 f fd UZ spIS:=by
 refine F.ok Th D_9 λd A b s H vs Q E j h=>?_
 obtain⟨i,rfl,e,g,k⟩:=h;refine⟨_,(Ai (Av (Jd (As c (rm j) Z Aq (Aa (pv 0) Ae)) (JM (ZB ML FH Ab (pv 0) (Cj Z T.k_STATES)))))),?_⟩
 try dsimp only[cxK]
 refine xq1 Z ⟨i,Z,true,Z,BY (xwb Z Z Z (xq1 Z ?_))⟩;rw[K0 e];refine BY (xq2 Z Z ?_);show Q (.bl (decide (i<8))) H;rw[K0 g];exact k
inductive SpKept(a:Ad)(vs:List V)(H:Hp)(Q:VK):Prop
|mk (g:GA) (G:Gv) (t:R_) (ps:I_) (l:Int) (_:vs=[.ref g.p,.ref t,.int l]) (_:AM a H g G) (_:H t=some (.tup (ps.map V.int))) (_:(∀q∈G,q.parts≠ps)) (_:G.length<9000000) (_:∀H',Fr g H H'->AM a H' g (G++[⟨ps,l⟩])->Q (.int (G.length:Int)) H'):SpKept a vs H Q
def Rp(a:Ad):Sp:=λvs H Q _=>SpKept a vs H Q
theorem ok_kept(F:Fun K "kept" "Grove.kept" IV f fd)(T:Top K mg a):AL P w K mg base CX0 1 f fd FP (Rp a):=by
 refine F.ok LP D_9 λaa A Y s H vs Q E hr h=>?_
 obtain⟨g,G,t,ps,l,rfl,hg,ht,new,few,k⟩:=h;obtain⟨d,r,⟨S,O,h4⟩,y,U⟩:=hg;have lt:S.length=G.length:=A0e h4;refine⟨_,(Ac (Ao (i:=3) LP.nd Z O_9 (AU Ca Z T.b_len A1e (Aa (AE (pv 0) Z) Ae))) (Ac (FM (EC hr) (AE (pv 0) Z) (pv 1) (pv 3) Z) (Ac (BJ (De K8 K9 A0a BF (AE (pv 0) Z) (Aa (pv 2) Ae))) (Ac (BJ (De K8 K9 A0a BF (AE (pv 0) Z) (Aa (pv 1) Ae))) (Ai (Av (pv 3))))))),?_⟩
 try dsimp only[cxK]
 refine xwf Z Z d T.cl_Grove T.na_Grove_levels (EX g) ⟨g.lv,(xq1 Z ⟨.inl (SqL.of r),?_⟩)⟩;rw[B8];have j:g.p≠g.nm:=AH d y A4;have m:g.lv≠g.nm:=AH r y A4;have I:g.pt≠g.nm:=AH O y A4;have L:g.p≠g.lv:=AH d r A4;have X:g.p≠g.pt:=AH d O A4;have vn:Br (Lj 0 G) (kOf ps)=none:=by
  rcases RZ ps G 0 with ⟨i,q,e1,e2,_⟩|⟨e,_⟩
  .exact absurd e2 (new q (D6 e1))
  .exact e
 refine xw2 Z Z (xq5 d T.cl_Grove T.na_Grove_numbers (fl6_nm g) (xq1 Z ⟨g.nm,(xq1 Z ⟨LN.t (k:=kOf ps) y (by rw[kOf_v];exact ht) (by rw[TV];exact EH A0),?_⟩)⟩));rw[Gk _ vn];have e5:Lj 0 G++[(kOf ps,V.int (G.length:Int))]=Lj 0 (G++[⟨ps,l⟩]):=by rw[QK,N3]
 rw[e5];generalize B:upd H g.nm (.dT (Lj 0 (G++[⟨ps,l⟩])))=M;have u:∀b o,H b=some o->b≠g.nm->M b=some o:=λb o e n=>by rw[<-B,Aw n];exact e
 have n1:M g.nm=some (.dT (Lj 0 (G++[⟨ps,l⟩]))):=by rw[<-B];exact Af
 refine xwf Z Z (u _ _ d j) T.cl_Grove T.na_Grove_levels (EX g) ⟨.inl ⟨Z,_,SqL.of (u _ _ r m)⟩,(xq1 Z ⟨g.lv,(xq2 Z Z ⟨u _ _ r m,by rw[B8];exact EH A0,?_⟩)⟩)⟩;generalize C:upd M g.lv (.lst ((G.map λq=>V.int q.lev)++[.int l]))=N;have R:∀b o,M b=some o->b≠g.lv->N b=some o:=λb o e n=>by rw[<-C,Aw n];exact e
 have n2:N g.lv=some (.lst ((G++[(⟨ps,l⟩:Sq)]).map λq=>V.int q.lev)):=by rw[<-C,Af,C7];rfl
 have x:=R _ _ (u _ _ O I) (K6 U);refine xwf Z Z (R _ _ (u _ _ d j) L) T.cl_Grove T.na_Grove_parts (Cg g) ⟨.inl ⟨Z,_,SqL.of x⟩,(xq1 Z ⟨g.pt,(xq2 Z Z ⟨x,by rw[B8,lt];exact EH A0,?_⟩)⟩)⟩;generalize D:upd N g.pt (.lst (S.map V.ref++[.ref t]))=v;have W:∀b o,N b=some o->b≠g.pt->v b=some o:=λb o e n=>by rw[<-D,Aw n];exact e
 have n3:v g.pt=some (.lst ((S++[t]).map V.ref)):=by rw[<-D,Af,C7];rfl
 have fr:Fr g H v:=λb o e m1 m2 m3=>W _ _ (R _ _ (u _ _ e m3) m1) m2;have tp:∀(c:R_)(xs:List V),H c=some (.tup xs)->v c=some (.tup xs):=λc xs e=>fr _ _ e (AH e r A4) (AH e O A4) (AH e y A4);refine xq1 Z (k v fr ⟨fr _ _ d L X j,W _ _ n2 U,⟨S++[t],n3,A2d (PairedM.imp (λc q z=>tp c _ z) h4) (tp t _ ht)⟩,W _ _ (R _ _ n1 (K6 m)) (K6 I),U⟩)
structure AI(G G':Gv)(n:Nat):Prop where
ok:GOk G'
pre:∃r,G'=G++r
few:G'.length<=G.length+n
theorem AI.refl{G:Gv}(h:GOk G):AI G G 0:=⟨h,⟨[],by simp⟩,C1 _⟩
theorem AI.trans{G d b:Gv}{n m:Nat}(h:AI G d n)(c:AI d b m):AI G b (n+m):=by
 obtain⟨r,e⟩:=h.pre;obtain⟨t,f⟩:=c.pre;have g:=h.few;have i:=c.few;exact⟨c.ok,⟨r++t,by rw[f,e,S5]⟩,by lia⟩
theorem AI.get{G b:Gv}{n x:Nat}{q:Sq}(h:AI G b n)(e:G[x]?=some q):b[x]?=some q:=by
 obtain⟨r,c⟩:=h.pre;rw[c];exact Lz e
theorem AI.lev{G b:Gv}{n x:Nat}{l:Int}(h:AI G b n)(e:An G x l):An b x l:=by
 obtain⟨q,e,z⟩:=e;exact⟨q,h.get e,z⟩
inductive Vy(a:Ad)(vs:List V)(H:Hp)(Q:VK):Prop
|mk (g:GA) (G:Gv) (t:R_) (x y z w:Nat) (l:Int) (_:vs=[.ref g.p,.ref t]) (_:AM a H g G) (_:GOk G) (_:H t=some (.tup [.int x,.int y,.int z,.int w])) (_:(An G x l/\An G y l/\An G z l/\An G w l)) (_:l<=47) (_:G.length<9000000) (_:∀(n:Nat)(G':Gv)(H':Hp),Fr g H H'->AM a H' g G'->AI G G' 1->G'[n]?=some ⟨[(x:Int),(y:Int),(z:Int),(w:Int)],l+1⟩->Q (.int n) H'):Vy a vs H Q
def Eg(a:Ad):Sp:=λvs H Q _=>Vy a vs H Q
theorem ok_link(F:Fun K "linked" "Grove.linked" Gg f fd)(T:Top K mg a)(R:Cd P w K mg base CX0 1 a.c_Grove "kept" FP (Rp a)):AL P w K mg base CX0 2 f fd AW (Eg a):=by
 refine F.ok Jy D_9 λS A v s H vs Q E I h=>?_
 obtain⟨g,G,t,x,y,z,w,l,rfl,D,ok,r,⟨u,hy,hz,Y⟩,o,few,k⟩:=h;have d:=D;obtain⟨n,W,⟨ts,h3,h4⟩,C,h6⟩:=D;refine⟨_,(Ac (Ao (i:=2) Jy.nd Z O_9 (IA (EC I) (AE (pv 0) Z) (pv 1) ⟨Z,Z,Z,Z⟩)) (Ac (AQ (Az FE (pv 2) Cw (AF _)) (Ai (Av (AJ (pv 0) R (rm I) Aq (Aa (pv 1) (AV AO (Aj Ax (AE (pv 0) Z) (Aj Ak (pv 1) Ab R_9) R_9) Ab Ae))))) AC) (Ai (Av (pv 2))))),?_⟩
 try dsimp only[cxK]
 refine xwf Z Z n T.cl_Grove T.na_Grove_numbers (fl6_nm g) ⟨g.nm,Z,.inr ⟨_,.inl C⟩,(xq1 Z ⟨_,IF.t (k:=kOf [(x:Int),(y:Int),(z:Int),(w:Int)]) C (by rw[kOf_v];exact r),?_⟩)⟩;rcases RZ [(x:Int),(y:Int),(z:Int),(w:Int)] G 0 with ⟨i,q,c,b,U⟩|⟨e,new⟩
 .rw[U];refine xq1 Z ⟨Z,(xq1 Z (AY (xq1 Z ?_)))⟩;rw[N3];refine k i G H (Fr.refl g H) d ⟨ok,⟨[],by simp⟩,by lia⟩ ?_;have X:8<=i:=by
   refine P8 λM=>?_;rw[ok.leaf i M]at c;cases c;cases b
  obtain⟨x',y',M,w',p1,⟨L,_⟩,_⟩:=ok.node i q c X;have m:x'=x:=by
   rw[p1]at b;injection b with b _
   exact K5 b
  rw[m]at L;obtain⟨qa,O,a2⟩:=L;obtain⟨qb,B,b2⟩:=u;rw[O]at B;cases B;have V:q.lev=l+1:=by lia
  rw[c];cases q with
  |mk pp ll=>cases b;cases V;rfl
 .rw[e];refine xq1 Z ⟨Z,(xq1 Z (BY ?_))⟩;obtain⟨q,c,b⟩:=id u;refine xwn Z Z n (RH g) Z (xwf Z Z n T.cl_Grove T.na_Grove_levels (EX g) (xwi Z Z Z (SqT.of r) (Ah (j:=0) Z) (xq4 Z Z (SqL.of W) (Ah (by rw[C0,c];rfl)) (xq2 Z Z ?_))));refine⟨g,G,t,[(x:Int),(y:Int),(z:Int),(w:Int)],l+1,by rw[<-b];rfl,d,r,new,few,λN fr p=>?_⟩;refine k G.length _ N fr p ⟨ok.snoc u hy hz Y o new,⟨_,Z⟩,by rw[C5];exact C1 _⟩ ?_;rw[L6 (C1 _),W4];rfl
inductive SpChk(a:Ad)(vs:List V)(H:Hp)(Q:VK):Prop
|mk (g:GA) (G:Gv) (i:Nat) (_:vs=[.ref g.p,.int i]) (_:AM a H g G) (_:i<G.length) (_:Q .non H):SpChk a vs H Q
def VU(a:Ad):Sp:=λvs H Q _=>SpChk a vs H Q
theorem ok_chk(F:Fun K "check_square" "Grove.check_square" Dt f fd)(T:Top K mg a)(d:Cal P w K mg base CX0 1 "is_whole" UZ UD):AL P w K mg base CX0 2 f fd Lh (VU a):=by
 refine F.ok JA D_9 λe A b s H vs Q E j h=>?_
 obtain⟨g,G,i,rfl,c,l,k⟩:=h;refine⟨_,(Ai (AQ (PW.pt (Jz (CS (Cu (As d (rm j) Z Aq (Aa (pv 1) Ae)))) (JK (CS (Tu ML FH Ab (pv 1) (AU Ca Z T.b_len A1e (Aa (AE (pv 0) Z) Ae))))))) (Ai Bl) AC)),?_⟩
 try dsimp only[cxK]
 refine⟨_,Z,_,Z,true,Z,AY ⟨_,Z,_,_,Z,Z,_,Z,?_⟩⟩;rw[K0 (by lia:(0:Int)<=(i:Int))];refine BY (xwf Z Z c.hp T.cl_Grove T.na_Grove_levels (EX g) ⟨g.lv,(xq1 Z ⟨.inl (SqL.of c.lv),(xq2 Z Z (xq1 Z ?_))⟩)⟩);rw[B8,K0 (by lia:(i:Int)<(G.length:Int))];exact AY k
inductive SpLeaf(a:Ad)(vs:List V)(H:Hp)(Q:VK):Prop
|mk (p:R_) (i:Int) (_:vs=[.ref p,.int i]) (_:0<=i) (_:i<8) (_:Q (.int i) H):SpLeaf a vs H Q
def Ro(a:Ad):Sp:=λvs H Q _=>SpLeaf a vs H Q
theorem ok_leaf(F:Fun K "leaf" "Grove.leaf" IU f fd)(T:Top K mg a)(c:Cal P w K mg base CX0 2 "is_state" UZ spIS):AL P w K mg base CX0 3 f fd RT (Ro a):=by
 refine F.ok Qk D_9 λd A b s H vs Q E l h=>?_
 obtain⟨g,i,rfl,e,j,k⟩:=h;exact⟨_,(Ac (AQ (CS (Cu (As c (rm l) Z Aq (Aa (pv 1) Ae)))) (Ai Bl) AC) (Ai (Av (pv 1)))),(xq1 Z ⟨i,Z,e,j,true,Z,AY (xq1 Z k)⟩)⟩
inductive SpLev(a:Ad)(vs:List V)(H:Hp)(Q:VK):Prop
|mk (g:GA) (G:Gv) (i:Nat) (q:Sq) (_:vs=[.ref g.p,.int i]) (_:AM a H g G) (_:G[i]?=some q) (_:Q (.int q.lev) H):SpLev a vs H Q
def Mv(a:Ad):Sp:=λvs H Q _=>SpLev a vs H Q
theorem ok_lev(F:Fun K "level_of" "Grove.level_of" ER f fd)(T:Top K mg a)(e:Cd P w K mg base CX0 2 a.c_Grove "check_square" Lh (VU a)):AL P w K mg base CX0 3 f fd Lh (Mv a):=by
 refine F.ok MF D_9 λj A c s H vs Q E l h=>?_
 obtain⟨g,G,i,q,rfl,b,d,k⟩:=h;refine⟨_,(Ac (BJ (AJ (pv 0) e (rm l) Aq (Aa (pv 1) Ae))) (Ai (Av (Aj Ax (AE (pv 0) Z) (pv 1) R_9)))),?_⟩
 try dsimp only[cxK]
 refine xwn Z Z b.hp (TC g) Z ⟨g,G,i,Z,b,(B9.mp d).1,?_⟩;exact xwf Z Z b.hp T.cl_Grove T.na_Grove_levels (EX g) (xwi Z Z Z (SqL.of b.lv) (Ah (by rw[C0,d];rfl)) k)
inductive SpSta(a:Ad)(vs:List V)(H:Hp)(Q:VK):Prop
|mk (g:GA) (G:Gv) (i:Nat) (q:Sq) (_:vs=[.ref g.p,.int i]) (_:AM a H g G) (_:G[i]?=some q) (_:q.lev=0) (_:Q (.int i) H):SpSta a vs H Q
def Za(a:Ad):Sp:=λvs H Q _=>SpSta a vs H Q
theorem ok_sta(F:Fun K "state_of" "Grove.state_of" EQ f fd)(T:Top K mg a)(d:Cd P w K mg base CX0 3 a.c_Grove "level_of" Lh (Mv a)):AL P w K mg base CX0 4 f fd Lh (Za a):=by
 refine F.ok ME D_9 λe A b s H vs Q E m h=>?_
 obtain⟨g,G,i,q,rfl,c,l,j,k⟩:=h;refine⟨_,(Ac (AQ (Az JY (AJ (pv 0) d (rm m) Aq (Aa (pv 1) Ae)) Ab (AF _)) (Ai Bl) AC) (Ai (Av (pv 1)))),?_⟩
 try dsimp only[cxK]
 refine xwn Z Z c.hp (DX g) Z ⟨g,G,i,q,Z,c,l,Z,(xq1 Z ?_)⟩;rw[j];exact Wr Z (xq1 Z k)
end
end J
namespace J
open PySem L2
def bareN:Nat->Nat
|0=>0
|j+1=>8+j
def Eb(n:Nat):Gv:=(List.range n).map λ(s:Nat)=>(⟨[(s:Int)],0⟩:Sq)
def GD(n:Nat):Gv:=(List.range n).map λ(j:Nat)=>(⟨[(bareN j:Int),(bareN j:Int),(bareN j:Int),(bareN j:Int)],(j:Int)+1⟩:Sq)
def G0:Gv:=Eb 8++GD 48
theorem Vk(n:Nat):Eb (n+1)=Eb n++[⟨[(n:Int)],0⟩]:=by unfold Eb;rw[P2,C7];rfl
theorem Qa(n:Nat):GD (n+1)=GD n++[⟨[(bareN n:Int),(bareN n:Int),(bareN n:Int),(bareN n:Int)],(n:Int)+1⟩]:=by unfold GD;rw[P2,C7];rfl
theorem FV(n:Nat):(Eb n).length=n:=by unfold Eb;rw[B8,L7]
theorem Rf(n:Nat):(GD n).length=n:=by unfold GD;rw[B8,L7]
theorem YG{i j:Nat}(h:bareN i=bareN j):i=j:=by
 cases i<;>cases j
 .rfl
 .have:0=8+_:=h;lia
 .have:8+_=0:=h;lia
 .have:8+_=8+_:=h;lia
theorem Yp(n:Nat):∀q∈Eb n,q.parts≠[(n:Int)]:=λq a z=>by
 obtain⟨s,b,rfl⟩:=D3.mp a;have:=J6.mp b;injection z with z _
 have:s=n:=K5 z;lia
theorem Re(n:Nat):∀q∈Eb 8++GD n,q.parts≠[(bareN n:Int),(bareN n:Int),(bareN n:Int),(bareN n:Int)]:=λq a z=>by
 rcases F4.mp a with a|a
 .obtain⟨s,b,rfl⟩:=D3.mp a;cases z
 .obtain⟨s,b,rfl⟩:=D3.mp a;have:=J6.mp b;injection z with z _
  have:=YG (K5 z);lia
theorem Sg:G0.length=56:=by unfold G0;rw[C5,FV,Rf]
theorem MW(j:Nat)(h:j<48):G0[8+j]?=some ⟨[(bareN j:Int),(bareN j:Int),(bareN j:Int),(bareN j:Int)],(j:Int)+1⟩:=by
 unfold G0;rw[L6 (by rw[FV];lia),FV,show 8+j-8=j by lia];unfold GD;rw[C0,O3 h];rfl
theorem Sh(s:Nat)(h:s<8):G0[s]?=some ⟨[(s:Int)],0⟩:=by
 unfold G0;rw[N5 (by rw[FV];exact h)];unfold Eb;rw[C0,O3 h];rfl
theorem g0_lev(j:Nat)(h:j<=48):An G0 (bareN j) (j:Int):=by
 cases j with
 |zero=>exact⟨_,Sh 0 A3,Z⟩
 |succ j=>exact⟨_,MW j A0,Z⟩
theorem g0_nd:∀n,((Eb 8++GD n).map Sq.parts).Nodup
|0=>by decide
|n+1=>by
 rw[Qa,<-S5,C7,Q7];refine⟨g0_nd n,by simp,λp b d a=>?_⟩;obtain⟨q,c,rfl⟩:=D3.mp b;rw[show d=[(bareN n:Int),(bareN n:Int),(bareN n:Int),(bareN n:Int)] by simpa using a];exact Re n q c
theorem g0_ok:GOk G0 where
 leaf:=Sh
 node:=λi q e a=>by
  have b:i<56:=by rw[<-Sg];exact(B9.mp e).1
  obtain⟨j,rfl⟩:∃j,i=8+j:=⟨i-8,by lia⟩
  rw[MW j A0]at e;cases e;have:=g0_lev j A0;refine⟨bareN j,bareN j,bareN j,bareN j,Z,?_,?_,?_⟩
  .show An G0 _ ((j:Int)+1-1)/\An G0 _ ((j:Int)+1-1)/\An G0 _ ((j:Int)+1-1)/\An G0 _ ((j:Int)+1-1);rw[show(j:Int)+1-1=(j:Int) by lia];exact⟨this,this,this,this⟩
  .show 1<=(j:Int)+1;lia
  .show(j:Int)+1<=48;lia
 nd:=g0_nd 48
def amK(n:Nat):List (Key×V):=(List.range n).map λ(s:Nat)=>(Sum.inl (s:Int),V.int (if(1:Int)<(s:Int)then 1 else(s:Int)))
theorem Uo(n:Nat):amK (n+1)=amK n++[(Sum.inl (n:Int),V.int (if(1:Int)<(n:Int)then 1 else(n:Int)))]:=by unfold amK;rw[P2,C7];rfl
theorem amK_len(n:Nat):(amK n).length=n:=by unfold amK;rw[B8,L7]
theorem Ri{κ:Type}[DecidableEq κ]{k:κ}:∀{l m:List (κ×V)},Br l k=none->Br (l++m) k=Br m k
|[],_,_=>rfl
|p::r,m,h=>by
 by_cases e:p.1=k
 .rw[BN e]at h;cases h
 .rw[BB e]at h;show Br (p::(r++m)) k=_;rw[BB e];exact Ri h
theorem Uq(n:Nat):∀m,n<=m->Br (amK n) (Sum.inl (m:Int))=none:=by
 induction n with
 |zero=>intro m _;rfl
 |succ n a =>
  intro m b;rw[Uo,Ri (a m A0),BB (by intro z;injection z with z;have:=K5 z;lia)];rfl
def Dw(n:Nat):List Int:=(List.range (n+1)).map λj=>((bareN j:Nat):Int)
theorem Qb(n:Nat):Dw (n+1)=Dw n++[((bareN (n+1):Nat):Int)]:=by unfold Dw;rw[P2,C7];rfl
theorem Vv(n:Nat):(Dw n).getLast?=some ((bareN n:Nat):Int):=by
 cases n with
 |zero=>rfl
 |succ n=>rw[Qb,List.getLast?_append];rfl
theorem at_lastV{xs:List V}{x:V}(h:xs.getLast?=some x):atI xs (-1)=some x:=by
 obtain⟨ys,rfl⟩:=List.getLast?_eq_some_iff.mp h;unfold atI ixN;rw[X9 A3,K2 (by rw[C5,S2];lia)];show(ys++[x])[((-1:Int)+((ys++[x]).length:Nat)).toNat]?=some x;rw[C5,S2,show((-1:Int)+((ys.length+1:Nat):Int)).toNat=ys.length by lia,L6 (C1 _),W4];rfl
seal L2.PA L2.PE L2.PS L2.PSs L2.PT L2.PW
structure Uu(a:Ad)(H H':Hp)(g:GA)(G:Gv)(B:I_)(am:List (Key×V)):Prop where
kp:∀b o,H b=some o->b≠g.p->H' b=some o
at':AM a H' g G
br:H' g.br=some (.lst (B.map V.int))
am:H' g.am=some (.dK am)
bx:H' g.bx=some (.dK [])
fresh:H g.lv=none/\H g.pt=none/\H g.nm=none/\H g.br=none/\H g.am=none/\H g.bx=none
n1:g.br≠g.lv
n2:g.br≠g.pt
n3:g.am≠g.bx
section
variable{P:N_}{w:Q_}{K:O_}{mg:C_}{base:T_}{a:Ad}
inductive WH(a:Ad)(vs:List V)(H:Hp)(Q:VK):Prop
|mk (p dx:R_) (_:vs=[.ref p]) (_:H p=some (.ins a.c_Grove dx [])) (_:∀(g:GA)(H':Hp),g.p=p->Uu a H H' g G0 (Dw 48) (amK 8)->Q .non H'):WH a vs H Q
def Rt(a:Ad):Sp:=λvs H Q _=>WH a vs H Q
theorem ZN(F:Fun K "__init__" "Grove.__init__" IW f fd)(T:Top K mg a)(aV:Cd P w K mg base CX0 1 a.c_Grove "kept" FP (Rp a)):AL P w K mg base CX0 2 f fd Jo (Rt a):=by
 refine F.ok EY D_9 λav A as s H vs Q E hr h=>?_
 obtain⟨p,dx,rfl,hp,k⟩:=h;refine⟨_,(Ac (CT (pv 0) (BX Ae) Z) (Ac (CT (pv 0) (BX Ae) Z) (Ac (CT (pv 0) MJ Z) (Ac (CT (pv 0) (BX (AN Ae)) Z) (Ac (CT (pv 0) JN Z) (Ac (CT (pv 0) JN Z) (Ac (Cv A0b Z (CC Z T.b_range (Aa (Cj Z T.k_STATES) Ae)) (Bn (i:=1) EY.nd Z O_9) (Ac (BJ (AJ (pv 0) aV (rm hr) Aq (Bp (Aa (pv 1) Ae) (AN Ae)))) (Ai (FM (EC hr) (AE (pv 0) Z) (pv 1) (AU (QX Z) Z T.b_min A4h (Aa (pv 1) (AN Ae))) Z)))) (Ai (Cv A0b Z (NC Z T.b_range (AN (AV AO (Cj Z T.k_TOP_LEVEL) Ab Ae))) (Bn (i:=2) EY.nd Z O_9) (Ac (Ao (i:=3) EY.nd Z O_9 (Aj Ax (AE (pv 0) Z) (Iz EI Ab) R_9)) (Ai (BJ (De K8 K9 A0a BF (AE (pv 0) Z) (Aa (AJ (pv 0) aV (rm hr) Aq (Bp (Aa (pv 3) (Aa (pv 3) (Aa (pv 3) (Aa (pv 3) Ae)))) (Aa (pv 2) Ae))) Ae)))))))))))))),?_⟩
 try dsimp only[cxK]
 have stp:∀{u:Hp}{x:R_}{o:HO}{fs fs':List (Str×V)},u p=some (.ins a.c_Grove dx fs)->u x=none->(∀b v,u b=some v->b≠p->upd (upd u x o) p (.ins a.c_Grove dx fs') b=some v)/\upd (upd u x o) p (.ins a.c_Grove dx fs') x=some o/\upd (upd u x o) p (.ins a.c_Grove dx fs') p=some (.ins a.c_Grove dx fs')/\upd u x o p=some (.ins a.c_Grove dx fs):=λ{u x o fs fs'} e1 e2=>by
  have n:x≠p:=λz=>by rw[z,e1]at e2;cases e2
  exact⟨λb v e nb=>by rw[Aw nb,Aw (Ay e e2)];exact e,by rw[Aw n];exact Af,Af,by rw[Aw (K6 n)];exact e1⟩
 refine Bm ?_;intro L M Y m G;refine⟨S_0,λD aa=>?_⟩;obtain⟨k1,x1,p1,q1⟩:=stp (o:=.lst []) (fs':=AZ "levels" (.ref D) []) hp aa;refine xq1 Z ⟨p,_,dx,[],Z,q1,T.cl_Grove,T.na_Grove_levels,B2,?_⟩;show Y _ _;generalize upd (upd H D _) p _=H1 at k1 x1 p1⊢;refine m ?_;refine Bm ?_;intro L M Y m G;refine⟨S_0,λpt X=>?_⟩;obtain⟨k2,x2,p2,q2⟩:=stp (o:=.lst []) (fs':=AZ "parts" (.ref pt) (AZ "levels" (.ref D) [])) p1 X;refine xq1 Z ⟨p,_,dx,(xq1 Z ⟨q2,T.cl_Grove,T.na_Grove_parts,B3,?_⟩)⟩;show Y _ _;generalize upd (upd H1 pt _) p _=H2 at k2 x2 p2⊢;refine m ?_;refine Bm ?_;intro L M Y m G;intro nm ab;obtain⟨k3,x3,p3,q3⟩:=stp (o:=.dT []) (fs':=AZ "numbers" (.ref nm) (AZ "parts" (.ref pt) (AZ "levels" (.ref D) []))) p2 ab;refine xq1 Z ⟨p,_,dx,(xq1 Z ⟨q3,T.cl_Grove,T.na_Grove_numbers,(by show 2<1000;decide),?_⟩)⟩;show Y _ _;generalize upd (upd H2 nm _) p _=H3 at k3 x3 p3⊢;refine m ?_;refine Bm ?_;intro L M Y m G;refine⟨S_1,λO l=>?_⟩;obtain⟨k4,x4,p4,q4⟩:=stp (o:=.lst [.int 0]) (fs':=AZ "bares" (.ref O) (AZ "numbers" (.ref nm) (AZ "parts" (.ref pt) (AZ "levels" (.ref D) [])))) p3 l;refine xq1 Z ⟨p,_,dx,(xq1 Z ⟨q4,T.cl_Grove,T.na_Grove_bares,(by show 3<1000;decide),?_⟩)⟩;show Y _ _;generalize upd (upd H3 O _) p _=H4 at k4 x4 p4⊢;refine m ?_;refine Bm ?_;intro L M Y m G;intro U I;obtain⟨k5,x5,p5,q5⟩:=stp (o:=.dK []) (fs':=AZ "amounts" (.ref U) (AZ "bares" (.ref O) (AZ "numbers" (.ref nm) (AZ "parts" (.ref pt) (AZ "levels" (.ref D) []))))) p4 I;refine xq1 Z ⟨p,_,dx,(xq1 Z ⟨q5,T.cl_Grove,T.na_Grove_amounts,(by show 4<1000;decide),?_⟩)⟩;show Y _ _;generalize upd (upd H4 U _) p _=H5 at k5 x5 p5⊢;refine m ?_;refine Bm ?_;intro L M Y m G;intro bx C;obtain⟨k6,x6,p6,q6⟩:=stp (o:=.dK []) (fs':=fl6 ⟨p,dx,D,pt,nm,O,U,bx⟩) p5 C;refine xq1 Z ⟨p,_,dx,(xq1 Z ⟨q6,T.cl_Grove,T.na_Grove_boxes,(by show 5<1000;decide),?_⟩)⟩;show Y _ (upd (upd H5 bx (.dK [])) p (.ins a.c_Grove dx (fl6 ⟨p,dx,D,pt,nm,O,U,bx⟩)));generalize upd (upd H5 bx _) p _=H6 at k6 x6 p6⊢;refine m ?_;have aj:∀b v,H1 b=some v->b≠p->H6 b=some v:=λb v e n=>k6 _ _ (k5 _ _ (k4 _ _ (k3 _ _ (k2 _ _ e n) n) n) n) n;have ak:∀b v,H2 b=some v->b≠p->H6 b=some v:=λb v e n=>k6 _ _ (k5 _ _ (k4 _ _ (k3 _ _ e n) n) n) n;have al:∀b v,H3 b=some v->b≠p->H6 b=some v:=λb v e n=>k6 _ _ (k5 _ _ (k4 _ _ e n) n) n;have an:∀b v,H4 b=some v->b≠p->H6 b=some v:=λb v e n=>k6 _ _ (k5 _ _ e n) n;have np:∀{u:Hp}{x:R_}{fs:List (Str×V)},u p=some (.ins a.c_Grove dx fs)->u x=none->x≠p:=λ{u x fs} e1 e2 z=>by rw[z,e1]at e2;cases e2
 have no:∀{u Hm:Hp}{x y:R_}{v:HO},u x=some v->u y=none->x≠y:=λ{u Hm x y v} e1 e2=>Ay e1 e2;have ac:=np hp aa;have ad:=np p1 X;have ah:=np p2 ab;have ag:=np p3 l;have af:=np p4 I;have aq:=np p5 C;have y1:=aj _ _ x1 ac;have y2:=ak _ _ x2 ad;have y3:=al _ _ x3 ah;have y4:=an _ _ x4 ag;have y5:=k6 _ _ x5 af;have B:∀{u:Hp}{x:R_},(∀b v,H b=some v->b≠p->u b=some v)->x≠p->u x=none->H x=none:=λ{u x} kp n e=>by
  cases h:H x with
  |none=>rfl
  |some v=>rw[kp _ _ h n]at e;cases e
 have c2:∀b v,H b=some v->b≠p->H2 b=some v:=λb v e n=>k2 _ _ (k1 _ _ e n) n;have c3:∀b v,H b=some v->b≠p->H3 b=some v:=λb v e n=>k3 _ _ (c2 _ _ e n) n;have c4:∀b v,H b=some v->b≠p->H4 b=some v:=λb v e n=>k4 _ _ (c3 _ _ e n) n;have c5:∀b v,H b=some v->b≠p->H5 b=some v:=λb v e n=>k5 _ _ (c4 _ _ e n) n;have c6:∀b v,H b=some v->b≠p->H6 b=some v:=λb v e n=>k6 _ _ (c5 _ _ e n) n;have d1:D≠pt:=Ay x1 X;have d2:O≠D:=K6 (Ay (k3 _ _ (k2 _ _ x1 ac) ac) l);have d3:O≠pt:=K6 (Ay (k3 _ _ x2 ad) l);have d4:U≠bx:=Ay x5 C;have N0:Uu a H H6 ⟨p,dx,D,pt,nm,O,U,bx⟩ (Eb 0) (Dw 0) (amK 0):=⟨c6,⟨p6,y1,⟨[],y2,.nil⟩,y3,d1⟩,y4,y5,x6,⟨aa,B k1 ad X,B c2 ah ab,B c3 ag l,B c4 af I,B c5 aq C⟩,d2,d3,d4⟩
 have k':=k ⟨p,dx,D,pt,nm,O,U,bx⟩;have gp:(⟨p,dx,D,pt,nm,O,U,bx⟩:GA).p=p:=rfl;generalize (⟨p,dx,D,pt,nm,O,U,bx⟩:GA)=g at N0 k' gp;subst gp;clear k p6 q6 q5 q4 q3 q2 q1 y1 y2 y3 y4 y5 x6 c6 c5 c4 c3 c2 aj ak al an k1 k2 k3 k4 k5 k6 x1 x2 x3 x4 x5 p1 p2 p3 p4 p5 d1 d2 d3 d4 ac ad ah ag af aq C I l ab X aa B no np stp;refine⟨8,Z,by decide,by decide,?_⟩;refine CF (n:=8) (λi σ H7=>∃u1:Option V,σ=[some (.ref g.p),u1,none,none]/\Uu a H H7 g (Eb i) (Dw 0) (amK i)) ⟨none,Z,N0⟩ ?_ ?_
 .rintro i σ H7 hi ⟨u1,rfl,N⟩;obtain⟨kp,at',l,I,C,fresh,n1,n2,n3⟩:=N;have cl:(i:Int)=0+(i:Int):=(T8 _).symm;refine xq1 Z ⟨g.p,g.dx,(xq1 Z ⟨at'.hp,RH g,(xq1 Z ⟨S_1,λt ht=>?_⟩)⟩)⟩;have s1:=AG (o:=.tup [.int (0+(i:Int))]) ht;refine⟨g,Eb i,t,[0+(i:Int)],0,Z,at'.same s1,Af,by rw[<-cl];exact Yp i,by rw[FV];lia,λS fr r=>?_⟩;rw[<-cl,<-Vk]at r;have R:Fr g H7 S:=(AA.fr s1).trans fr;obtain⟨ts,h3,h4⟩:=at'.pt;have kd:∀(b:R_)(kvs:List (Key×V)),H7 b=some (.dK kvs)->S b=some (.dK kvs):=λb kvs e=>R _ _ e (AH e at'.lv A4) (AH e h3 A4) (AH e at'.nm A4);have ae:=kd _ _ I;refine xq1 Z ⟨_,_,Z,(xwf Z Z r.hp T.cl_Grove T.na_Grove_amounts (fl6_am g) (xq1 Z ⟨g.am,(xq1 Z ⟨LN.k (k:=Sum.inl (0+(i:Int))) ae (by rw[amK_len];exact EH A0),?_⟩)⟩))⟩;rw[<-cl,Gk _ (Uq i i (C1 _)),<-Uo];have d:∀{b:R_}{v:HO},S b=some v->b≠g.am->upd S g.am (.dK (amK (i+1))) b=some v:=λ{b v} e n=>by rw[Aw n];exact e
  have na:∀{b:R_}{v:HO},S b=some v->v≠.dK (amK i)->b≠g.am:=λ{b v} e n=>AH e ae n;obtain⟨au,ao,ar⟩:=r.pt;refine xq1 Z ⟨?_,⟨d r.hp (na r.hp A4),d r.lv (na r.lv A4),⟨au,d ao (na ao A4),PairedM.imp (λc q z=>d z (na z A4)) ar⟩,d r.nm (na r.nm A4),r.ne⟩,?_,Af,?_,fresh,n1,n2,n3⟩
  .intro b v e nb;have e8:S b=some v:=R _ _ (kp _ _ e nb) (Ay e fresh.1) (Ay e fresh.2.1) (Ay e fresh.2.2.1);exact d e8 (Ay e fresh.2.2.2.2.1)
  .have e8:S g.br=_:=R _ _ l n1 n2 (AH l at'.nm A4);exact d e8 (na e8 A4)
  .exact d (kd _ _ C) (K6 n3)
 .rintro σ H7 ⟨u1,rfl,N⟩;refine xq2 Z Z ⟨1,49,Z,⟨by decide,by decide,by decide,by decide⟩,?_⟩;have N0:Uu a H H7 g (Eb 8++GD 0) (Dw 0) (amK 8):=by rw[show Eb 8++GD 0=Eb 8 from U5 _];exact N
  clear N;refine CF (lo:=1) (n:=48) (λj σ S=>∃u2 u3:Option V,σ=[some (.ref g.p),u1,u2,u3]/\Uu a H S g (Eb 8++GD j) (Dw j) (amK 8)) ⟨none,none,Z,N0⟩ ?_ ?_
  .rintro j σ S hj ⟨u2,u3,rfl,N⟩;obtain⟨kp,at',l,I,C,fresh,n1,n2,n3⟩:=N;refine xwf Z Z at'.hp T.cl_Grove T.na_Grove_bares (Iq g) (xwi Z Z Z (SqL.of l) (at_lastV (by rw[List.getLast?_map,Vv];rfl)) ?_);refine xwf Z Z at'.hp T.cl_Grove T.na_Grove_bares (Iq g) ⟨.inl ⟨Z,_,SqL.of l⟩,(xq1 Z ⟨g.p,g.dx,(xq1 Z ⟨at'.hp,RH g,(xw3 Z Z Z (xq1 Z ⟨S_4,λt ht=>(xq1 Z ?_)⟩))⟩)⟩)⟩;have s1:=AG (o:=.tup [.int (bareN j:Int),.int (bareN j:Int),.int (bareN j:Int),.int (bareN j:Int)]) ht;have ln:(Eb 8++GD j).length=8+j:=by rw[C5,FV,Rf]
   refine⟨g,Eb 8++GD j,t,[(bareN j:Int),(bareN j:Int),(bareN j:Int),(bareN j:Int)],1+(j:Int),Z,at'.same s1,Af,Re j,by rw[ln];lia,λH9 fr ai=>?_⟩;rw[show(1:Int)+(j:Int)=(j:Int)+1 by lia,S5,<-Qa]at ai;have R:Fr g S H9:=(AA.fr s1).trans fr;obtain⟨ts,h3,h4⟩:=at'.pt;have kd:∀(b:R_)(kvs:List (Key×V)),S b=some (.dK kvs)->H9 b=some (.dK kvs):=λb kvs e=>R _ _ e (AH e at'.lv A4) (AH e h3 A4) (AH e at'.nm A4);have W:H9 g.br=_:=R _ _ l n1 n2 (AH l at'.nm A4);refine⟨g.br,(xq2 Z Z ⟨W,by rw[B8];unfold Dw;rw[B8,L7];exact EH A0,?_⟩)⟩;have eb:(Dw j).map V.int++[V.int ((Eb 8++GD j).length:Int)]=(Dw (j+1)).map V.int:=by rw[Qb,C7,ln];rfl
   rw[eb];have d:∀{b:R_}{v:HO},H9 b=some v->v≠.lst ((Dw j).map V.int)->upd H9 g.br (.lst ((Dw (j+1)).map V.int)) b=some v:=λ{b v} e n=>by rw[Aw (AH e W n)];exact e
   refine⟨_,_,Z,?_,ai.put W n1 n2,Af,d (kd _ _ I) A4,d (kd _ _ C) A4,fresh,n1,n2,n3⟩;intro b v e nb;rw[Aw (Ay e fresh.2.2.2.1)];exact R _ _ (kp _ _ e nb) (Ay e fresh.1) (Ay e fresh.2.1) (Ay e fresh.2.2.1)
  .rintro σ S ⟨u2,u3,rfl,N⟩;exact k' S Z N
end
end J
namespace J
open PySem L2
theorem An.uniq{G:Gv}{i:Nat}{l m:Int}(h:An G i l)(b:An G i m):l=m:=by
 obtain⟨q,e,z⟩:=h;obtain⟨p,a,c⟩:=b;rw[e]at a;cases a;exact z.symm.trans c
structure Iv(G:Gv)(n i:Nat)(q:Sq)(x y z w:Nat):Prop where
g:G[i]?=some q
ps:q.parts=[(x:Int),(y:Int),(z:Int),(w:Int)]
lev:q.lev=(n:Int)+1
hx:An G x n
hy:An G y n
hz:An G z n
hw:An G w n
theorem BD{G:Gv}(ok:GOk G){n i:Nat}(h:An G i ((n+1:Nat):Int)):∃q x y z w,Iv G n i q x y z w:=by
 obtain⟨q,e,f⟩:=h;have l:8<=i:=by
  refine P8 λk=>?_;rw[ok.leaf i k]at e;cases e;have:(0:Int)=((n+1:Nat):Int):=f;lia
 obtain⟨x,y,z,w,j,⟨b,c,d,a⟩,_,_⟩:=ok.node i q e l;have g:q.lev-1=(n:Int):=by lia
 rw[g]at b c d a;exact⟨q,x,y,z,w,e,j,by lia,b,c,d,a⟩
theorem Iv.app{G a:Gv}{k n i:Nat}{q:Sq}{x y z w:Nat}(go:AI G a k)(h:Iv G n i q x y z w):Iv a n i q x y z w:=⟨go.get h.g,h.ps,h.lev,go.lev h.hx,go.lev h.hy,go.lev h.hz,go.lev h.hw⟩
def DZ(G:Gv):Nat->Nat->Int
|0,i=>if i=0 then 0 else 1
|n+1,i=>match G[i]? with
 |some q=>(q.parts.map λp=>DZ G n p.toNat).sum
 |none=>0
theorem LE{G:Gv}{n i:Nat}{q:Sq}{x y z w:Nat}(h:Iv G n i q x y z w):DZ G (n+1) i=([x,y,z,w].map λk=>DZ G n k).sum:=by
 rw[show DZ G (n+1) i=(match G[i]? with|some q=>(q.parts.map λ(p:Int)=>DZ G n p.toNat).sum|none=>0)from rfl,h.g];show(q.parts.map λ(p:Int)=>DZ G n p.toNat).sum=_;rw[h.ps];rfl
theorem Ll{G a:Gv}{k:Nat}(ok:GOk G)(go:AI G a k):∀(n i:Nat),An G i (n:Int)->DZ a n i=DZ G n i
|0,i,_=>rfl
|n+1,i,h=>by
 obtain⟨q,x,y,z,w,b⟩:=BD ok h;rw[LE b,LE (b.app go)];show DZ a n x+(DZ a n y+(DZ a n z+(DZ a n w+0)))=_;rw[Ll ok go n x b.hx,Ll ok go n y b.hy,Ll ok go n z b.hz,Ll ok go n w b.hw];rfl
theorem FQ(G:Gv):∀(n i:Nat),0<=DZ G n i
|0,i=>by
 show 0<=if i=0 then(0:Int)else 1;split<;>lia
|n+1,i=>by
 unfold DZ;split
 .rename_i q _;have:∀l:List Int,0<=(l.map λp=>DZ G n p.toNat).sum:=by
   intro l;induction l with
   |nil=>exact R5 0
   |cons p r a=>rw[J3,P5];have:=FQ G n p.toNat;lia
  exact this _
 .exact R5 0
theorem LB:∀(n:Nat)(l:J_),l.Nodup->(∀x∈l,x<n)->l.length<=n
|0,l,_,h=>by
 cases l with
 |nil=>exact C1 0
 |cons x r=>exact absurd (h x C9) (M7 _)
|n+1,l,nd,h=>by
 by_cases c:n∈l
 .have:=LB n (l.erase n) (nd.erase n) λx a=>by
   have b:=(nd.mem_erase_iff).mp a;have:=h x b.2;have:=b.1;lia
  rw[List.length_erase_of_mem c]at this;lia
 .have:=LB n l nd λx a=>by
   have:=h x a;have:x≠n:=λz=>c (z▸a);lia
  lia
structure Iw(G:Gv)(ks:List (Key×V)):Prop where
nd:(ks.map Prod.fst).Nodup
lt:∀k∈ks.map Prod.fst,∃i:Nat,i<G.length/\k=Sum.inl (i:Int)
theorem Iw.len{G:Gv}{ks:List (Key×V)}(h:Iw G ks):ks.length<=G.length:=by
 let f:Key->Nat:=λk=>match k with|.inl i=>i.toNat|.inr _=>0
 have:=LB G.length ((ks.map Prod.fst).map f) (by
  rw[O1,T7];refine A4c (λ{a b} d e c z=>c ?_) (O1.mp h.nd);obtain⟨i,_,rfl⟩:=h.lt a d;obtain⟨j,_,rfl⟩:=h.lt b e;have:(i:Int).toNat=(j:Int).toNat:=z;rw[J7,J7]at this;rw[this]) (λx m=>by
  obtain⟨k,l,rfl⟩:=D3.mp m;obtain⟨i,g,rfl⟩:=h.lt k l;show(i:Int).toNat<_;rw[J7];exact g)
 rw[B8,B8]at this;exact this
theorem Iw.app{G a:Gv}{ks:List (Key×V)}(le:G.length<=a.length)(h:Iw G ks):Iw a ks:=⟨h.nd,λk b=>by
 obtain⟨i,c,e⟩:=h.lt k b;exact⟨i,by lia,e⟩⟩
theorem Iw.put{G:Gv}{ks:List (Key×V)}(h:Iw G ks){i:Nat}(j:i<G.length)(v:V):Iw G (DI ks (Sum.inl (i:Int)) v):=by
 unfold DI;by_cases a:(ks.any λb=>decide (b.1=Sum.inl (i:Int)))=true
 .rw[K2 a];have e:(ks.map λb=>if b.1=Sum.inl (i:Int)then(b.1,v)else b).map Prod.fst=ks.map Prod.fst:=by
   rw[N4];refine List.map_congr_left λb _=>?_;show(if b.1=Sum.inl (i:Int)then(b.1,v)else b).1=b.1;split<;>rfl
  exact⟨by rw[e];exact h.nd,by rw[e];exact h.lt⟩
 .rw[X9 a];refine⟨?_,λk c=>?_⟩
  .rw[C7,Q7];refine⟨h.nd,by simp,λk c l d z=>a ?_⟩;have:l=Sum.inl (i:Int):=by simpa using d
   subst this;subst z;obtain⟨b,f,g⟩:=D3.mp c;exact U0.mpr ⟨b,f,K0 g⟩
  .rw[C7]at c;rcases F4.mp c with z|z
   .exact h.lt k z
   .exact⟨i,j,by simpa using z⟩
structure AmOk(G:Gv)(ks:List (Key×V)):Prop where
keys:Iw G ks
leaf:∀s:Nat,s<8->∃v,Br ks (Sum.inl (s:Int))=some v
val:∀(i:Nat) v,Br ks (Sum.inl (i:Int))=some v->∃l:Nat,An G i l/\v=.int (DZ G l i)
theorem AmOk.app{G a:Gv}{k:Nat}{ks:List (Key×V)}(ok:GOk G)(go:AI G a k)(h:AmOk G ks):AmOk a ks:=⟨h.keys.app (by obtain⟨r,e⟩:=go.pre;rw[e,C5];lia),h.leaf,λi v e=>by
 obtain⟨l,b,c⟩:=h.val i v e;exact⟨l,go.lev b,by rw[Ll ok go l i b];exact c⟩⟩
theorem am0:AmOk G0 (amK 8) where
 keys:=⟨by decide +kernel,λk c=>by
  obtain⟨p,d,rfl⟩:=D3.mp c;obtain⟨s,a,rfl⟩:=D3.mp d;have:=J6.mp a;exact⟨s,by rw[Sg];lia,Z⟩⟩
 leaf:=λs a=>by
  match s,a with
  |0,_=>exact⟨_,Z⟩
  |1,_=>exact⟨_,Z⟩
  |2,_=>exact⟨_,Z⟩
  |3,_=>exact⟨_,Z⟩
  |4,_=>exact⟨_,Z⟩
  |5,_=>exact⟨_,Z⟩
  |6,_=>exact⟨_,Z⟩
  |7,_=>exact⟨_,Z⟩
 val:=λi v e=>by
  have b:i<8:=by
   refine V9 λz=>?_;rw[Uq 8 i z]at e;cases e
  refine⟨0,⟨_,Sh i b,Z⟩,?_⟩
  match i,b with
  |0,_=>cases e;rfl
  |1,_=>cases e;rfl
  |2,_=>cases e;rfl
  |3,_=>cases e;rfl
  |4,_=>cases e;rfl
  |5,_=>cases e;rfl
  |6,_=>cases e;rfl
  |7,_=>cases e;rfl
structure Bx where
l:Int
t:Int
w:Int
h:Int
def Bx.ns(b:Bx):List Int:=[b.l,b.t,b.w,b.h]
def shB(half:Int)(k:Nat)(b:Bx):Bx:=⟨b.l+half*((k:Int)%2),b.t+half*((k:Int)/2),b.w,b.h⟩
def Ef(half:Int):Nat->List (Option Bx)->List Bx
|_,[]=>[]
|k,none::r=>Ef half (k+1) r
|k,some b::r=>shB half k b::Ef half (k+1) r
def mnL(l:I_):Int:=l.min?.getD 0
def mxL(l:I_):Int:=l.max?.getD 0
def PN(bs:List Bx):Bx:=⟨mnL (bs.map (·.l)),mnL (bs.map (·.t)),mxL (bs.map λb=>b.l+b.w)-mnL (bs.map (·.l)),mxL (bs.map λb=>b.t+b.h)-mnL (bs.map (·.t))⟩
def Ql(half:Int)(obs:List (Option Bx)):Option Bx:=match Ef half 0 obs with
|[]=>none
|b::r=>some (PN (b::r))
def Cb(G:Gv):Nat->Nat->Option Bx
|0,i=>if i=0 then none else some ⟨0,0,1,1⟩
|n+1,i=>match G[i]? with
 |some q=>Ql (2^n) (q.parts.map λ(p:Int)=>Cb G n p.toNat)
 |none=>none
theorem mnL_of{l:I_}{m:Int}(h:m∈l)(a:∀x∈l,m<=x):m=mnL l:=by
 unfold mnL;rw[List.min?_eq_some_iff.mpr ⟨h,a⟩];rfl
theorem ZZ{l:I_}{m:Int}(h:m∈l)(a:∀x∈l,x<=m):m=mxL l:=by
 unfold mxL;rw[List.max?_eq_some_iff.mpr ⟨h,a⟩];rfl
theorem FW{G:Gv}{n i:Nat}{q:Sq}{x y z w:Nat}(h:Iv G n i q x y z w):Cb G (n+1) i=Ql (2^n) [Cb G n x,Cb G n y,Cb G n z,Cb G n w]:=by
 rw[show Cb G (n+1) i=(match G[i]? with|some q=>Ql (2^n) (q.parts.map λ(p:Int)=>Cb G n p.toNat)|none=>none)from rfl,h.g];show Ql (2^n) (q.parts.map λ(p:Int)=>Cb G n p.toNat)=_;rw[h.ps];rfl
theorem IE{G b:Gv}{k:Nat}(ok:GOk G)(go:AI G b k):∀(n i:Nat),An G i (n:Int)->Cb b n i=Cb G n i
|0,i,_=>rfl
|n+1,i,h=>by
 obtain⟨q,x,y,z,w,a⟩:=BD ok h;rw[FW a,FW (a.app go),IE ok go n x a.hx,IE ok go n y a.hy,IE ok go n z a.hz,IE ok go n w a.hw]
theorem QF{half:Int}:∀{a:List (Option Bx)},Ql half a=none ↔ ∀o∈a,o=none:=by
 intro a;have g:∀(a:List (Option Bx))(k:Nat),Ef half k a=[] ↔ ∀o∈a,o=none:=by
  intro a;induction a with
  |nil=>intro k;exact⟨λ_ o c=>by simp at c,λ_=>Z⟩
  |cons o r d =>
   intro k;cases o with
   |none =>
    rw[show Ef half k (none::r)=Ef half (k+1) r from rfl,d (k+1)];exact⟨λh o c=>by rcases C3.mp c with z|z;exact z;exact h o z,λh o c=>h o (C8 _ c)⟩
   |some b=>exact⟨λh=>(by cases h),λh=>(by cases h (some b) C9)⟩
 rw[<-g a 0];unfold Ql;constructor
 .intro h;split at h
  .assumption
  .cases h
 .intro h;rw[h]
theorem LJ{G:Gv}(ok:GOk G):∀(n i:Nat),An G i (n:Int)->(Cb G n i=none↔DZ G n i=0)
|0,i,_=>by
 show(if i=0 then none else some (⟨0,0,1,1⟩:Bx))=none↔(if i=0 then(0:Int)else 1)=0;split
 .exact⟨λ_=>Z,λ_=>Z⟩
 .exact⟨λh=>(by cases h),λh=>A0⟩
|n+1,i,h=>by
 obtain⟨q,x,y,z,w,a⟩:=BD ok h;rw[FW a,LE a,QF];show _↔DZ G n x+(DZ G n y+(DZ G n z+(DZ G n w+0)))=0;have c:=LJ ok n x a.hx;have d:=LJ ok n y a.hy;have e:=LJ ok n z a.hz;have b:=LJ ok n w a.hw;have nx:=FQ G n x;have g:=FQ G n y;have j:=FQ G n z;have nw:=FQ G n w;constructor
 .intro h;rw[c.mp (h _ A6),d.mp (h _ A6),e.mp (h _ A6),b.mp (h _ A6)];rfl
 .intro h o f;simp only[C3,D8,A0g]at f;rcases f with rfl|rfl|rfl|rfl
  .exact c.mpr A0
  .exact d.mpr A0
  .exact e.mpr A0
  .exact b.mpr A0
theorem g0_pre{G r:Gv}(e:G=G0++r)(j:Nat)(h:j<48):G[8+j]?=some ⟨[(bareN j:Int),(bareN j:Int),(bareN j:Int),(bareN j:Int)],(j:Int)+1⟩:=by
 rw[e];exact Lz (MW j h)
theorem Lo{G:Gv}(ok:GOk G){r:Gv}(e:G=G0++r):∀(n i:Nat),n<=48->An G i (n:Int)->(Cb G n i=none↔i=bareN n)
|0,i,_,_=>by
 show(if i=0 then none else some (⟨0,0,1,1⟩:Bx))=none↔i=0;split
 .rename_i z;exact⟨λ_=>z,λ_=>Z⟩
 .rename_i z;exact⟨λh=>(by cases h),λh=>absurd h z⟩
|n+1,i,hn,h=>by
 obtain⟨q,x,y,z,w,a⟩:=BD ok h;rw[FW a,QF];have c:=Lo ok e n x A0 a.hx;have d:=Lo ok e n y A0 a.hy;have f:=Lo ok e n z A0 a.hz;have b:=Lo ok e n w A0 a.hw;have j:=g0_pre e n A0;constructor
 .intro h;have m:=c.mp (h _ A6);have s:=d.mp (h _ A6);have t:=f.mp (h _ A6);have l:=b.mp (h _ A6);show i=8+n;refine ok.one a.g j ?_;rw[a.ps,m,s,t,l]
 .intro h;have h:i=8+n:=h;have g:=a.g;rw[h,j]at g;cases g;have p:=a.ps;have p:[(bareN n:Int),(bareN n:Int),(bareN n:Int),(bareN n:Int)]=[(x:Int),(y:Int),(z:Int),(w:Int)]:=p;injection p with p1 p
  injection p with p2 p
  injection p with p3 p
  injection p with p4 p
  intro o k;simp only[C3,D8,A0g]at k;rcases k with rfl|rfl|rfl|rfl
  .exact c.mpr (K5 p1).symm
  .exact d.mpr (K5 p2).symm
  .exact f.mpr (K5 p3).symm
  .exact b.mpr (K5 p4).symm
structure BxOk(G:Gv)(H:Hp)(ks:List (Key×V)):Prop where
keys:Iw G ks
val:∀(i:Nat) v,Br ks (Sum.inl (i:Int))=some v->∃(l:Nat)(b:Bx)(t:R_),An G i l/\Cb G l i=some b/\v=.ref t/\H t=some (.tup (b.ns.map V.int))
structure AX(a:Ad)(H:Hp)(g:GA)(G:Gv):Prop where
at':AM a H g G
ok:GOk G
g0:∃r,G=G0++r
br:H g.br=some (.lst ((Dw 48).map V.int))
am:∃ks,H g.am=some (.dK ks)/\AmOk G ks
bx:∃ks,H g.bx=some (.dK ks)/\BxOk G H ks
n1:g.br≠g.lv
n2:g.br≠g.pt
n3:g.am≠g.bx
theorem AX.new{a:Ad}{H b:Hp}{g:GA}(h:Uu a H b g G0 (Dw 48) (amK 8)):AX a b g G0:=⟨h.at',g0_ok,⟨[],by simp⟩,h.br,⟨_,h.am,am0⟩,⟨_,h.bx,⟨by simp,λk c=>by simp at c⟩,λi v e=>by cases e⟩,h.n1,h.n2,h.n3⟩
theorem AX.ne_am{a:Ad}{H:Hp}{g:GA}{G:Gv}(h:AX a H g G){b:R_}{o:HO}(e:H b=some o)(n:∀ks,o≠.dK ks):b≠g.am/\b≠g.bx:=by
 obtain⟨ks,c,_⟩:=h.am;obtain⟨f,d,_⟩:=h.bx;exact⟨AH e c (n _),AH e d (n _)⟩
theorem AX.same{a:Ad}{H d:Hp}{g:GA}{G:Gv}(s:AA H d)(h:AX a H g G):AX a d g G:=by
 obtain⟨at',ok,p,j,⟨ks,q,r⟩,⟨c,u,f⟩,n1,n2,w⟩:=h;refine⟨at'.same s,ok,p,s _ _ j,⟨ks,s _ _ q,r⟩,⟨c,s _ _ u,f.keys,λi v e=>?_⟩,n1,n2,w⟩;obtain⟨l,b,t,k,m,n,o⟩:=f.val i v e;exact⟨l,b,t,k,m,n,s _ _ o⟩
theorem AI.le{G a:Gv}{k:Nat}(go:AI G a k):G.length<=a.length:=by
 obtain⟨r,e⟩:=go.pre;rw[e,C5];lia
theorem AX.fr{a:Ad}{H c:Hp}{g:GA}{G d:Gv}{m:Nat}(h:AX a H g G)(f:Fr g H c)(j:AM a c g d)(go:AI G d m):AX a c g d:=by
 obtain⟨at',ok,⟨r,A⟩,n,⟨ks,B,C⟩,⟨k,D,q⟩,n1,n2,F⟩:=h;obtain⟨us,E,_⟩:=at'.pt;have keep:∀{b:R_}{o:HO},H b=some o->(∀l,o≠.lst l)->(∀l,o≠.dT l)->c b=some o:=λ{b o} e s I=>f _ _ e (AH e at'.lv (s _)) (AH e E (s _)) (AH e at'.nm (I _));obtain⟨t,y⟩:=go.pre;refine⟨j,go.ok,⟨r++t,by rw[y,A,S5]⟩,f _ _ n n1 n2 (AH n at'.nm A4),⟨ks,keep B (by intro l z;cases z) (by intro l z;cases z),C.app ok go⟩,⟨k,keep D (by intro l z;cases z) (by intro l z;cases z),q.keys.app go.le,λi v e=>?_⟩,n1,n2,F⟩;obtain⟨l,b,t,p,u,w,x⟩:=q.val i v e;exact⟨l,b,t,go.lev p,by rw[IE ok go l i p];exact u,w,keep x (by intro l z;cases z) (by intro l z;cases z)⟩
theorem AX.put{a:Ad}{H:Hp}{g:GA}{G:Gv}{l:R_}{xs:List V}{o:HO}(h:AX a H g G)(k:H l=some (.lst xs))(y:l≠g.lv)(z:l≠g.pt)(A:l≠g.br):AX a (upd H l o) g G:=by
 obtain⟨at',ok,s,f,⟨ks,u,w⟩,⟨d,x,j⟩,n1,n2,B⟩:=h;have c:∀{b v},H b=some v->v≠.lst xs->upd H l o b=some v:=λ{b v} e n=>by rw[Aw (AH e k n)];exact e
 refine⟨at'.put k y z,ok,s,by rw[Aw (K6 A)];exact f,⟨ks,c u A4,w⟩,⟨d,c x A4,j.keys,λi v e=>?_⟩,n1,n2,B⟩;obtain⟨l,b,t,m,p,q,r⟩:=j.val i v e;exact⟨l,b,t,m,p,q,c r A4⟩
def FrQ(g:GA)(H H':Hp):Prop:=∀b o,H b=some o->b≠g.am->b≠g.bx->H' b=some o
theorem FrQ.refl(g:GA)(H:Hp):FrQ g H H:=λ_ _ e _ _=>e
theorem FrQ.trans{g:GA}{a c d:Hp}(h:FrQ g a c)(f:FrQ g c d):FrQ g a d:=λb o e n1 n2=>f b o (h b o e n1 n2) n1 n2
theorem AA.frq{g:GA}{a c:Hp}(h:AA a c):FrQ g a c:=λb o e _ _=>h b o e
theorem AM.dict{a:Ad}{H:Hp}{g:GA}{G:Gv}{d:R_}{ks:List (Key×V)}{o:HO}(p:H d=some (.dK ks))(h:AM a H g G):AM a (upd H d o) g G:=by
 obtain⟨f,i,⟨r,j,k⟩,l,m⟩:=h;have c:∀{b v},H b=some v->v≠.dK ks->upd H d o b=some v:=λ{b v} e n=>by rw[Aw (AH e p n)];exact e
 exact⟨c f A4,c i A4,⟨r,c j A4,PairedM.imp (λt q z=>c z A4) k⟩,c l A4,m⟩
theorem AX.bx_put{a:Ad}{H:Hp}{g:GA}{G:Gv}{ks ks2:List (Key×V)}(h:AX a H g G)(e:H g.bx=some (.dK ks))(j:BxOk G H ks2):AX a (upd H g.bx (.dK ks2)) g G/\FrQ g H (upd H g.bx (.dK ks2)):=by
 obtain⟨at',ok,u,m,⟨f,w,x⟩,⟨_,_,_⟩,n1,n2,k⟩:=h;have c:∀{b v},H b=some v->v≠.dK ks->upd H g.bx (.dK ks2) b=some v:=λ{b v} d n=>by rw[Aw (AH d e n)];exact d
 refine⟨⟨at'.dict e,ok,u,c m A4,⟨f,by rw[Aw k];exact w,x⟩,⟨_,Af,j.keys,λi v e=>?_⟩,n1,n2,k⟩,λb o d _ y=>by rw[Aw y];exact d⟩;obtain⟨l,b,t,p,q,r,s⟩:=j.val i v e;exact⟨l,b,t,p,q,r,c s A4⟩
theorem TD(g:GA):(fl6 g).lookup ("boxed" : Str)=none:=Jq g A1 A1 A1 A1 A1 A1
theorem TB(g:GA):(fl6 g).lookup ("measured" : Str)=none:=Jq g A1 A1 A1 A1 A1 A1
theorem no_span(g:GA):(fl6 g).lookup ("span" : Str)=none:=Jq g A1 A1 A1 A1 A1 A1
seal L2.PA L2.PE L2.PS L2.PSs L2.PT L2.PW
theorem Iv.mem{G:Gv}{n i:Nat}{q:Sq}{x y z w:Nat}(h:Iv G n i q x y z w){j:Nat}{v:V}(e:(q.parts.map V.int)[j]?=some v):∃k:Nat,v=.int k/\An G k n/\q.parts[j]?=some (k:Int):=by
 rw[C0]at e;obtain⟨p,a,rfl⟩:=D7.mp e;have b:=D6 a;rw[h.ps]at b;simp only[C3,D8,A0g]at b;rcases b with rfl|rfl|rfl|rfl
 .exact⟨x,Z,h.hx,a⟩
 .exact⟨y,Z,h.hy,a⟩
 .exact⟨z,Z,h.hz,a⟩
 .exact⟨w,Z,h.hw,a⟩
theorem PQ(half:Int):∀(l r:List (Option Bx))(k:Nat),Ef half k (l++r)=Ef half k l++Ef half (k+l.length) r
|[],r,k=>rfl
|none::l,r,k=>by
 show Ef half (k+1) (l++r)=Ef half (k+1) l++Ef half (k+(l.length+1)) r;rw[PQ half l r (k+1),show k+1+l.length=k+(l.length+1) by lia]
|some b::l,r,k=>by
 show shB half k b::Ef half (k+1) (l++r)=shB half k b::(Ef half (k+1) l++Ef half (k+(l.length+1)) r);rw[PQ half l r (k+1),show k+1+l.length=k+(l.length+1) by lia]
theorem MV(half:Int):∀(l:List (Option Bx))(k:Nat),(Ef half k l).length<=l.length
|[],k=>C1 _
|none::l,k=>D0 (MV half l (k+1)) (S6 _)
|some b::l,k=>P6 (MV half l (k+1))
theorem PairedM.getL{α β:Type}{F:α->β->Prop}:∀{l:List α}{m:List β}{i:Nat}{x:α},Paired F l m->l[i]?=some x->∃y,m[i]?=some y/\F x y
|_,_,_,_,.nil,e=>by simp at e
|_,_,0,_,.cons r _,e=>by simp at e;subst e;exact⟨_,Z,r⟩
|_,_,i+1,x,.cons _ t,e=>by
 obtain⟨y,a,b⟩:=PairedM.getL (i:=i) (x:=x) t (by simpa using e);exact⟨y,by simpa using a,b⟩
def NY(H:Hp)(t:R_)(b:Bx):Prop:=H t=some (.tup (b.ns.map V.int))
theorem ON{β:Type}{K:O_}{k:Nat}{cs:J_}{g:TG}{tc:TT}{l:TE}{σ:St}{H:Hp}{fin:List V->Hp->Prop}{D:Addr->β->Prop}{L:R_}{e:H_}{bs:List β}(c:β->Int)(o:H L=some (.lst (e.map V.ref)))(i:Paired D e bs)(few:e.length<1000)
  (q:∀t b a N,D t b->a.length<sizeLine->N (a++[.int (c b)]) H->Bt k cs g tc l σ (.ref t) a H N) (p:fin ((bs.map c).map V.int) H):GS k cs g tc l (Itl K L) σ H fin:=by
 have r:e.length=bs.length:=A0e i;refine Dv (xs:=e.map V.ref) (λj a f=>H=f/\a=((bs.take j).map c).map V.int) ⟨Z,Z⟩ (λj a f _ z=>z.1▸SqL.of o) ?_ ?_
 .rintro j v a f h ⟨rfl,rfl⟩;rw[C0]at h;obtain⟨t,n,rfl⟩:=D7.mp h;obtain⟨b,m,d⟩:=PairedM.getL i n;refine q t b _ _ d (by rw[B8,B8,L8];exact EH A0) ⟨Z,?_⟩;rw[F9,m,C7,C7];rfl
 .rintro a f ⟨rfl,rfl⟩;rw[B8,r,J8];exact p
section
variable{P:N_}{w:Q_}{K:O_}{mg:C_}{base:T_}{a:Ad}
inductive WB(vs:List V)(H:Hp)(Q:VK):Prop
|mk (t:R_) (b:Bx) (dx dy:Int) (_:vs=[.ref t,.int dx,.int dy]) (_:NY H t b) (_:∀t',H t'=none->Q (.ref t') (upd H t' (.tup [.int (b.l+dx),.int (b.t+dy),.int b.w,.int b.h]))):WB vs H Q
def Lp:Sp:=λvs H Q _=>WB vs H Q
theorem ZE(F:Fun K "shifted_box" "shifted_box" GV f fd)(T:Top K mg a):AL P w K mg base CX0 1 f fd Qm Lp:=by
 refine F.ok OX D_9 λe A d s H vs Q E g h=>?_
 obtain⟨t,b,dx,dy,rfl,c,k⟩:=h;have c:H t=some (.tup [.int b.l,.int b.t,.int b.w,.int b.h]):=c;refine⟨_,(Ai (Av (CD (AV AO (Aj Ak (pv 0) Ab R_9) (pv 1) (AV AO (Aj Ak (pv 0) Ab R_9) (pv 2) (Aa (Aj Ak (pv 0) Ab R_9) (Aa (Aj Ak (pv 0) Ab R_9) Ae))))))),?_⟩
 try dsimp only[cxK]
 refine xwi Z Z Z (SqT.of c) (Ah (j:=0) Z) (xwb Z Z Z (xwi Z Z Z (SqT.of c) (Ah (j:=1) Z) (xwb Z Z Z (xwi Z Z Z (SqT.of c) (Ah (j:=2) Z) (xwi Z Z Z (SqT.of c) (Ah (j:=3) Z) ⟨S_4,λt' n=>k t' n⟩)))))
inductive WF(vs:List V)(H:Hp)(Q:VK):Prop
|mk (L:R_) (ts:H_) (bs:List Bx) (_:vs=[.ref L]) (_:H L=some (.lst (ts.map V.ref))) (_:Paired (NY H) ts bs) (_:bs≠[]) (_:ts.length<1000) (_:∀t' H',AA H H'->NY H' t' (PN bs)->Q (.ref t') H'):WF vs H Q
def Oz:Sp:=λvs H Q _=>WF vs H Q
theorem ZK(F:Fun K "least_box" "least_box" Dr f fd)(T:Top K mg a):AL P w K mg base CX0 1 f fd GM Oz:=by
 refine F.ok Ej D_9 λaa A S s H vs Q E hr h=>?_
 obtain⟨L,Y,bs,rfl,n,u,ne,few,k⟩:=h;have c:∀m:Bx->Int,bs.map m≠[]:=λm z=>ne (R0.mp z);refine⟨_,(Ac (Ao (i:=1) Ej.nd Z O_9 (AU (QW Z) Z T.b_min A4h (Aa (Ck Z (BE.of (So:=Al Dr) (No:=Fs) (N:=["box"]) (k:=1) (cs:=[]) Z Z A1) (Ci (pv 0)) (λ_ _ _=>(Bg (i:=0) A1 Z Z)) (λ_ _ _=>BL) (λ_ _ _=>(Aj (Ly (K:=K) Z) (pv 0) Ab R_9))) Ae))) (Ac (Ao (i:=2) Ej.nd Z O_9 (AU (QW Z) Z T.b_min A4h (Aa (Ck Z (BE.of (So:=Al Dr) (No:=Fs) (N:=["box"]) (k:=1) (cs:=[]) Z Z A1) (Ci (pv 0)) (λ_ _ _=>(Bg (i:=0) A1 Z Z)) (λ_ _ _=>BL) (λ_ _ _=>(Aj (Ly (K:=K) Z) (pv 0) Ab R_9))) Ae))) (Ac (Ao (i:=3) Ej.nd Z O_9 (AU (QY Z) Z T.b_max A5h (Aa (Ck Z (BE.of (So:=Al Dr) (No:=Fs) (N:=["box"]) (k:=1) (cs:=[]) Z Z A1) (Ci (pv 0)) (λ_ _ _=>(Bg (i:=0) A1 Z Z)) (λ_ _ _=>BL) (λ_ _ _=>(AB AO (Aj (Ly (K:=K) Z) (pv 0) Ab R_9) (Aj (Ly (K:=K) Z) (pv 0) Ab R_9)))) Ae))) (Ac (Ao (i:=4) Ej.nd Z O_9 (AU (QY Z) Z T.b_max A5h (Aa (Ck Z (BE.of (So:=Al Dr) (No:=Fs) (N:=["box"]) (k:=1) (cs:=[]) Z Z A1) (Ci (pv 0)) (λ_ _ _=>(Bg (i:=0) A1 Z Z)) (λ_ _ _=>BL) (λ_ _ _=>(AB AO (Aj (Ly (K:=K) Z) (pv 0) Ab R_9) (Aj (Ly (K:=K) Z) (pv 0) Ab R_9)))) Ae))) (Ai (Av (CD (Aa (pv 1) (Aa (pv 2) (AV BI (pv 3) (pv 1) (AV BI (pv 4) (pv 2) Ae))))))))))),?_⟩
 try dsimp only[cxK]
 refine xq1 Z ⟨L,Z,⟨_,SqL.of n⟩,ON (·.l) n u few (λt b e N d g nx=>⟨⟨[some (.ref t)],Z,Z⟩,g,GQ (xwi Z Z Z (SqT.of d) (Ah (j:=0) Z) nx)⟩) λq1 h1=>?_⟩;refine⟨q1,(xq1 Z ⟨SqL.of Af,c _,λm1 B I=>?_⟩)⟩;obtain rfl:=mnL_of B I;have v:=AG (o:=.lst ((bs.map (·.l)).map V.int)) h1;generalize upd H q1 (.lst ((bs.map (·.l)).map V.int))=H1 at v⊢;have p:=v _ _ n;have U:Paired (NY H1) Y bs:=PairedM.imp (λt b z=>v _ _ z) u;refine xq1 Z ⟨L,Z,⟨_,SqL.of p⟩,ON (·.t) p U few (λt b e N d g nx=>⟨⟨[some (.ref t)],Z,Z⟩,g,GQ (xwi Z Z Z (SqT.of d) (Ah (j:=1) Z) nx)⟩) λq2 h2=>?_⟩;refine⟨q2,(xq1 Z ⟨SqL.of Af,c _,λm2 C M=>?_⟩)⟩;obtain rfl:=mnL_of C M;have x:=v.trans (AG (o:=.lst ((bs.map (·.t)).map V.int)) h2);generalize upd H1 q2 (.lst ((bs.map (·.t)).map V.int))=H2 at x⊢;have q:=x _ _ n;have W:Paired (NY H2) Y bs:=PairedM.imp (λt b z=>x _ _ z) u;refine xq1 Z ⟨L,Z,⟨_,SqL.of q⟩,ON (λb=>b.l+b.w) q W few (λt b e N d g nx=>⟨⟨[some (.ref t)],Z,Z⟩,g,GQ (xwi Z Z Z (SqT.of d) (Ah (j:=0) Z) (xwi Z Z Z (SqT.of d) (Ah (j:=2) Z) (xq2 Z Z nx)))⟩) λq3 h3=>?_⟩;refine⟨q3,(xq1 Z ⟨SqL.of Af,c _,λm3 D O=>?_⟩)⟩;obtain rfl:=ZZ D O;have y:=x.trans (AG (o:=.lst ((bs.map λb=>b.l+b.w).map V.int)) h3);generalize upd H2 q3 (.lst ((bs.map λb=>b.l+b.w).map V.int))=H3 at y⊢;have r:=y _ _ n;have X:Paired (NY H3) Y bs:=PairedM.imp (λt b z=>y _ _ z) u;refine xq1 Z ⟨L,Z,⟨_,SqL.of r⟩,ON (λb=>b.t+b.h) r X few (λt b e N d g nx=>⟨⟨[some (.ref t)],Z,Z⟩,g,GQ (xwi Z Z Z (SqT.of d) (Ah (j:=1) Z) (xwi Z Z Z (SqT.of d) (Ah (j:=3) Z) (xq2 Z Z nx)))⟩) λq4 h4=>?_⟩;refine⟨q4,(xq1 Z ⟨SqL.of Af,c _,λm4 G R=>?_⟩)⟩;obtain rfl:=ZZ G R;have s4:=y.trans (AG (o:=.lst ((bs.map λb=>b.t+b.h).map V.int)) h4);generalize upd H3 q4 (.lst ((bs.map λb=>b.t+b.h).map V.int))=H4 at s4⊢;exact xw3 Z Z Z (xwb Z Z Z (xw2 Z Z (xq2 Z Z ⟨S_4,λt5 h5=>k t5 _ (s4.trans (AG h5)) Af⟩)))
inductive SpBox(a:Ad)(n:Nat)(vs:List V)(H:Hp)(Q:VK):Prop
|mk (g:GA) (G:Gv) (i l:Nat) (_:vs=[.ref g.p,.int i]) (_:AX a H g G) (_:An G i l) (_:l<n) (_:G.length<9000000) (_:(Cb G l i=none->∀H',FrQ g H H'->AX a H' g G->Q .non H')) (_:∀b,Cb G l i=some b->∀t H',FrQ g H H'->AX a H' g G->NY H' t b->Q (.ref t) H'):SpBox a n vs H Q
def Tc(a:Ad)(n:Nat):Sp:=λvs H Q _=>SpBox a n vs H Q
inductive SpMea(a:Ad)(n:Nat)(vs:List V)(H:Hp)(Q:VK):Prop
|mk (g:GA) (G:Gv) (i l:Nat) (b:Bx) (_:vs=[.ref g.p,.int i]) (_:AX a H g G) (_:An G i l) (_:l<n) (_:G.length<9000000) (_:Cb G l i=some b) (_:∀t H',FrQ g H H'->AX a H' g G->NY H' t b->Q (.ref t) H'):SpMea a n vs H Q
def spMea(a:Ad)(n:Nat):Sp:=λvs H Q _=>SpMea a n vs H Q
theorem Rj(m:Nat){l:Int}(e:l=(m:Int)+1):(1:Int)*2^(l-1).toNat=2^m:=by
 rw[e,Int.one_mul,show((m:Int)+1-1).toNat=m by lia]
theorem ok_mea{n d:Nat}(F:Fun K "measured" "Grove.measured" Dy f fd)(T:Top K mg a)(hd:1<=d)(aC:Cal P w K mg base CX0 1 "shifted_box" Qm Lp)(b9:Cal P w K mg base CX0 1 "least_box" GM Oz)(b7:Cd P w K mg base CX0 d a.c_Grove "boxed" Lh (Tc a n)):AL P w K mg base CX0 (d+1) f fd Lh (spMea a (n+1)):=by
 refine F.ok BC (λvs H Q E h=>?_) (λan A am s H vs Q E hr h=>?_)
 .obtain⟨g,G,i,l,b,rfl,_⟩:=h;rfl
 .obtain⟨g,G,i,l,b,rfl,M,hl,ln,few,eb,k⟩:=h;obtain⟨q0,e0,l0⟩:=id hl;refine⟨_,(Ac (Ao (i:=2) BC.nd Z O_9 (Aj Ax (AE (pv 0) Z) (pv 1) R_9)) (Ac (AQ (Az CK (pv 2) Ab (AF _)) (Ai (Av (CD (AN (AN (AN (AN Ae))))))) AC) (Ac (Ao (i:=3) BC.nd Z O_9 (AB Mq Ab (AB BI (pv 2) Ab))) (Ac (Ao (i:=4) BC.nd Z O_9 (BX Ae)) (Ac (Cv A0b Z (OF true Z T.b_enumerate (Aa (Aj Ax (AE (pv 0) Z) (pv 1) R_9) Ae)) (Pn Z (DJ (Bn (i:=5) BC.nd Z O_9) (DJ (Bn (i:=6) BC.nd Z O_9) MI))) (Ac (Ao (i:=7) BC.nd Z O_9 (AJ (pv 0) b7 (rm hr) Aq (Aa (pv 6) Ae))) (Ai (AQ (Az RF (pv 7) Cw (AF _)) (Ai (BJ (De K8 K9 A0a BF (pv 4) (Aa (As aC (rm hr) Z Aq (Aa (pv 7) (AV DE (pv 3) (AB Bc (pv 5) Ab) (AV DE (pv 3) (AB Do (pv 5) Ab) Ae)))) Ae)))) AC)))) (Ai (Av (As b9 (rm hr) Z Aq (Aa (pv 4) Ae))))))))),?_⟩
  try dsimp only[cxK]
  refine⟨_,Z,g.p,_,g.dx,_,_,Z,M.at'.hp,T.cl_Grove,T.na_Grove_levels,EX g,_,Z,g.lv,_,(i:Int),.int q0.lev,Z,Z,SqL.of M.at'.lv,Ah (by rw[C0,e0];rfl),?_⟩;cases l with
  |zero =>
   rw[l0];refine xq1 Z ⟨Z,(xq1 Z (BY ⟨S_4,λt Y=>?_⟩))⟩;have e:b=⟨0,0,1,1⟩:=by
    have eb:(if i=0 then none else some (⟨0,0,1,1⟩:Bx))=some b:=eb;split at eb
    .cases eb
    .cases eb;rfl
   subst e;have sm:=AG (o:=.tup [.int 0,.int 0,.int 1,.int 1]) Y;exact k t _ (AA.frq sm) (M.same sm) Af
  |succ m =>
   have al:q0.lev=(m:Int)+1:=by rw[l0];lia
   refine xq1 Z ⟨Z,(xq1 Z ?_)⟩;rw[K1 (by intro z;injection z with z;lia)];obtain⟨q,x,y,z,w,D⟩:=BD M.ok hl;obtain⟨ts,h3,h4⟩:=M.at'.pt;obtain⟨t,et,Y⟩:=PairedM.get h4 D.g;have Y:H t=some (.tup (q.parts.map V.int)):=Y;have nt:=M.ne_am Y (by intro l z;cases z);refine AY (xwb Z Z Z (xq2 Z Z ⟨⟨by lia,by have:=(M.ok.lev e0).2;lia,by decide⟩,?_⟩));rw[show(λ(i j:Int)=>V.int (i*2^j.toNat)) 1 (q0.lev-1)=V.int (2^m)from A0c V.int (Rj m al)];refine⟨S_0,λL hL=>?_⟩;have m1:L≠g.lv:=K6 (Ay M.at'.lv hL);have m2:L≠g.pt:=K6 (Ay h3 hL);have m3:L≠g.br:=K6 (Ay M.br hL);have s1:=AG (o:=.lst []) hL;have ad:upd H L (.lst []) L=some (.lst []):=Af;generalize upd H L (.lst [])=H1 at s1 ad⊢;have ab:=M.same s1;have ai:=s1 _ _ h3;have aj:=s1 _ _ Y;generalize B:[Cb G m x,Cb G m y,Cb G m z,Cb G m w]=r;have C:r.length=4:=by rw[<-B];rfl
   have aa:Cb G (m+1) i=Ql (2^m) r:=by rw[FW D,B]
   have ac:∀(j k:Nat),q.parts[j]?=some (k:Int)->r[j]?=some (Cb G m k):=by
    intro j k e;rw[D.ps]at e;rw[<-B]
    match j,e with
    |0,e=>have e:some (x:Int)=some (k:Int):=e;rw[show x=k from K5 (K7 e)];rfl
    |1,e=>have e:some (y:Int)=some (k:Int):=e;rw[show y=k from K5 (K7 e)];rfl
    |2,e=>have e:some (z:Int)=some (k:Int):=e;rw[show z=k from K5 (K7 e)];rfl
    |3,e=>have e:some (w:Int)=some (k:Int):=e;rw[show w=k from K5 (K7 e)];rfl
    |j+4,e=>simp at e
   refine xwf Z Z ab.at'.hp T.cl_Grove T.na_Grove_parts (Cg g) (xwi Z Z Z (SqL.of ai) (Ah (by rw[C0,et];rfl)) ⟨t,Z,⟨_,SqT.of aj⟩,?_⟩);refine MY (b:=true) (xs:=q.parts.map V.int) (λj σ R=>∃(us:H_)(u5 u6 u7:Option V),σ=[some (.ref g.p),some (.int i),some (.int q0.lev),some (.int (2^m)),some (.ref L),u5,u6,u7]/\FrQ g H R/\AX a R g G/\R L=some (.lst (us.map V.ref))/\Paired (NY R) us (Ef (2^m) 0 (r.take j))) ⟨[],none,none,none,Z,AA.frq s1,ab,ad,.nil⟩ (λj σ R _ ⟨_,_,_,_,_,fr,_⟩=>SqT.of (fr _ _ Y nt.1 nt.2)) ?_ ?_
   .rintro j v σ R T' ev ⟨us,u5,u6,u7,rfl,fr,S,W,pr⟩ nT;obtain⟨k',rfl,hk,ek⟩:=D.mem ev;have eo:=ac j k' ek;have hj:j<4:=by rw[<-C];exact(B9.mp eo).1
    have lu:us.length<=4:=by
     rw[A0e pr];have:=MV (2^m) (r.take j) 0;rw[L8]at this;lia
    have s2:=AG (o:=.tup [.int j,.int k']) nT;refine TX Af ?_;generalize upd R T' (.tup [.int j,.int k'])=H3 at s2⊢;have O:=S.same s2;have ge:Ef (2^m) 0 (r.take (j+1))=Ef (2^m) 0 (r.take j)++Ef (2^m) j [Cb G m k']:=by
     rw[F9,eo,R6,PQ,L8,C,N3,Nat.min_eq_left A0]
    have nL:∀{u:Hp},FrQ g H3 u->u L=some (.lst (us.map V.ref)):=λ{u} f4=>by
     have:=s2 _ _ W;have n:=O.ne_am this (by intro l z;cases z);exact f4 _ _ this n.1 n.2
    have nP:∀{u:Hp},FrQ g H3 u->Paired (NY u) us (Ef (2^m) 0 (r.take j)):=λ{u} f4=>PairedM.imp (λt b z=>by
     have:=s2 _ _ z;have n:=O.ne_am this (by intro l z;cases z);exact f4 _ _ this n.1 n.2) pr
    refine xq1 Z ⟨g.p,g.dx,(xq1 Z ⟨O.at'.hp,TD g,(xq1 Z ⟨g,G,k',m,Z,O,hk,by lia,few,λen u f4 U=>?_,λb' ag t4 u f4 U ak=>?_⟩)⟩)⟩
    .refine xq1 Z ⟨Z,(xq1 Z (AY ⟨us,_,_,_,Z,(fr.trans (AA.frq s2)).trans f4,U,nL f4,?_⟩))⟩;rw[ge,en];show Paired _ us (_++[]);rw[U5];exact nP f4
    .refine xq1 Z ⟨Z,(xq1 Z (BY ?_))⟩;refine xq1 Z ⟨.inl ⟨Z,_,SqL.of (nL f4)⟩,(xw3 Z Z Z (xq2 Z Z ⟨B7,(xq2 Z Z ⟨.inr ⟨by lia,by lia⟩,(xw2 Z Z (xq2 Z Z ⟨⟨by decide,by decide⟩,(xq2 Z Z ⟨.inr ⟨by lia,by lia⟩,?_⟩)⟩))⟩)⟩))⟩;refine⟨t4,b',_,_,Z,ak,λt5 h5=>?_⟩;have s5:=AG (o:=.tup [.int (b'.l+2^m*((j:Int)%2)),.int (b'.t+2^m*((j:Int)/2)),.int b'.w,.int b'.h]) h5;have af:NY (upd u t5 (.tup [.int (b'.l+2^m*((j:Int)%2)),.int (b'.t+2^m*((j:Int)/2)),.int b'.w,.int b'.h])) t5 (shB (2^m) j b'):=Af;generalize upd u t5 (.tup [.int (b'.l+2^m*((j:Int)%2)),.int (b'.t+2^m*((j:Int)/2)),.int b'.w,.int b'.h])=H5 at s5 af⊢;have X:=s5 _ _ (nL f4);have ah:=U.same s5;refine⟨L,(xq2 Z Z ⟨X,by rw[B8];exact EH A0,?_⟩)⟩;have I:∀{c:R_}{l:List V},H5 c=some (.tup l)->upd H5 L (.lst (us.map V.ref++[.ref t5])) c=some (.tup l):=λ{c l} e=>by rw[Aw (AH e X A4)];exact e
     refine⟨us++[t5],_,_,_,Z,?_,ah.put X m1 m2 m3,by rw[Af,C7];rfl,?_⟩
     .intro c o e n1 n2;have e5:=s5 _ _ (((fr.trans (AA.frq s2)).trans f4) _ _ e n1 n2);rw[Aw (Ay e hL)];exact e5
     .rw[ge,ag];exact A2d (PairedM.imp (λc b z=>I (s5 _ _ z)) (nP f4)) (I af)
   .rintro σ R ⟨us,u5,u6,u7,rfl,fr,S,W,pr⟩;rw[B8,show q.parts.length=r.length by rw[D.ps,C];rfl,J8]at pr;have N:Ql (2^m) r=some b:=by rw[<-aa];exact eb
    have lu:us.length<=4:=by
     rw[A0e pr];have:=MV (2^m) r 0;lia
    have e3:Ef (2^m) 0 r≠[]/\PN (Ef (2^m) 0 r)=b:=by
     unfold Ql at N;split at N
     .cases N
     .rename_i b1 r1 eg;rw[eg];exact⟨A4,K7 N⟩
    refine xq1 Z ⟨L,us,_,Z,W,pr,e3.1,by lia,λt' H' s' ae=>?_⟩;rw[e3.2]at ae;exact k t' H' (fr.trans (AA.frq s')) (S.same s') ae
theorem bareL_at{l:Nat}(h:l<=48):((Dw 48).map V.int)[l]?=some (.int (bareN l:Int)):=by
 unfold Dw;rw[C0,C0,O3 A0];rfl
theorem ok_boxS{n d:Nat}(F:Fun K "boxed" "Grove.boxed" Fc f fd)(T:Top K mg a)(Y:Cd P w K mg base CX0 d a.c_Grove "measured" Lh (spMea a n)):AL P w K mg base CX0 (d+1) f fd Lh (Tc a n):=by
 refine F.ok En D_9 λaa A S s H vs Q E R h=>?_
 obtain⟨g,G,i,l,rfl,c,x,ln,few,k1,X⟩:=h;obtain⟨q0,V,l0⟩:=id x;have I:l<=48:=by have:=(c.ok.lev V).2;lia
 obtain⟨ks,D,y⟩:=c.bx;have lk:=y.keys.len;obtain⟨r,eg⟩:=c.g0;have U:=Lo c.ok eg l i I x;refine⟨_,(Ac (AQ (Az CK (pv 1) (Aj Ax (AE (pv 0) Z) (Aj Ax (AE (pv 0) Z) (pv 1) R_9) R_9) (AF _)) (Ai (Av Cw)) AC) (Ac (Ao (i:=2) En.nd Z O_9 (IA (EC R) (AE (pv 0) Z) (pv 1) ⟨Z,Z,Z,Z⟩)) (Ac (AQ (Az FE (pv 2) Cw (AF _)) (Ac (Ao (i:=2) En.nd Z O_9 (AJ (pv 0) Y (rm R) Aq (Aa (pv 1) Ae))) (Ai (FM (EC R) (AE (pv 0) Z) (pv 1) (pv 2) Z))) AC) (Ai (Av (pv 2)))))),?_⟩
 try dsimp only[cxK]
 refine xw2 Z Z (xq5 c.at'.hp T.cl_Grove T.na_Grove_bares (Iq g) (xwf Z Z c.at'.hp T.cl_Grove T.na_Grove_levels (EX g) (xwi Z Z Z (SqL.of c.at'.lv) (Ah (by rw[C0,V];rfl)) (xq4 Z Z (SqL.of c.br) (by rw[l0];exact Ah (bareL_at I)) ⟨Z,(xq1 Z ?_)⟩))));refine Ip (λN=>?_) (λN=>?_)
 .have ei:i=bareN l:=by
   have:=A0d N;injection this with this
   exact K5 this
  exact k1 (U.mpr ei) H (FrQ.refl g H) c
 .have ne:¬i=bareN l:=λz=>N (by rw[z];exact K0 Z);obtain⟨b,B⟩:∃b,Cb G l i=some b:=by
   cases e:Cb G l i with
   |none=>exact absurd (U.mp e) ne
   |some b=>exact⟨b,Z⟩
  refine xwf Z Z c.at'.hp T.cl_Grove T.na_Grove_boxes (fl6_bx g) ⟨g.bx,Z,.inl ⟨_,.inl D⟩,(xq1 Z ⟨_,IF.k (k:=Sum.inl (i:Int)) D,?_⟩)⟩;cases e:Br ks (Sum.inl (i:Int))with
  |some v =>
   obtain⟨l',b',t,O,C,rfl,ht⟩:=y.val i v e;have el:l'=l:=K5 (O.uniq x);subst el;rw[B]at C;cases C;exact xq1 Z ⟨Z,(xq1 Z (AY (xq1 Z (X b B t H (FrQ.refl g H) c ht))))⟩
  |none =>
   refine xq1 Z ⟨Z,(xq1 Z (BY (xq1 Z ⟨g.p,g.dx,(xq1 Z ⟨c.at'.hp,TB g,(xq1 Z ⟨g,G,i,l,b,Z,c,x,ln,few,B,λt H2 f2 o u=>?_⟩)⟩)⟩)))⟩;obtain⟨ks2,q,m⟩:=o.bx;have ab:=m.keys.len;obtain⟨M,W⟩:=o.bx_put q (ks2:=DI ks2 (Sum.inl (i:Int)) (.ref t)) ⟨m.keys.put x.lt _,λj v L=>by
    rw[Fl]at L;split at L
    .rename_i z;injection z with z
     have:j=i:=K5 z;subst this;cases L;exact⟨l,b,t,x,B,Z,u⟩
    .exact m.val j v L⟩
   have nt:=o.ne_am u (by intro l z;cases z);exact xw2 Z Z (xq5 o.at'.hp T.cl_Grove T.na_Grove_boxes (fl6_bx g) (xq1 Z ⟨g.bx,(xq1 Z ⟨LN.k (k:=Sum.inl (i:Int)) q (EH A0),(xq1 Z (X b B t _ (f2.trans W) M (W _ _ u nt.1 nt.2)))⟩)⟩))
theorem ZQ{f:R_}{j:E_}{k:R_}{b:E_}(F:Fun K "boxed" "Grove.boxed" Fc f j)(q:Fun K "measured" "Grove.measured" Dy k b)(T:Top K mg a)(r:Qw K a.c_Grove "boxed" f)(p:CN K j Lh [])(e:Qw K a.c_Grove "measured" k)(c:CN K b Lh [])
 (t:Cal P w K mg base CX0 1 "shifted_box" Qm Lp) (u:Cal P w K mg base CX0 1 "least_box" GM Oz):∀n,AL P w K mg base CX0 (2*n+2) f j Lh (Tc a n)
|0=>by
 refine F.ok En (λvs H Q E h=>?_) (λv A o s H vs Q E x h=>?_)
 .obtain⟨g,G,i,l,rfl,_,_,m,_⟩:=h;exact absurd m (M7 _)
 .obtain⟨g,G,i,l,rfl,_,_,m,_⟩:=h;exact absurd m (M7 _)
|n+1=>ok_boxS F T ⟨⟨k,b,ok_mea (d:=2*n+2) q T A0 t u ⟨⟨f,j,ZQ F q T r p e c t u n,r,p⟩,T.cl_Grove⟩,e,c⟩,T.cl_Grove⟩
inductive SpSpan(a:Ad)(vs:List V)(H:Hp)(Q:VK):Prop
|mk (g:GA) (G:Gv) (i l:Nat) (_:vs=[.ref g.p,.int i]) (_:AX a H g G) (_:An G i l) (_:G.length<9000000) (_:(Cb G l i=none->∀H',FrQ g H H'->AX a H' g G->Q .non H')) (_:∀b,Cb G l i=some b->∀t H',FrQ g H H'->AX a H' g G->NY H' t b->Q (.ref t) H'):SpSpan a vs H Q
def UA(a:Ad):Sp:=λvs H Q _=>SpSpan a vs H Q
theorem ok_span(F:Fun K "span" "Grove.span" IT f fd)(T:Top K mg a)(m:Cd P w K mg base CX0 2 a.c_Grove "check_square" Lh (VU a))(n:Cd P w K mg base CX0 100 a.c_Grove "boxed" Lh (Tc a 49)):AL P w K mg base CX0 101 f fd Lh (UA a):=by
 refine F.ok Qj D_9 λo A j s H vs Q E k h=>?_
 obtain⟨g,G,i,l,rfl,b,c,few,r,t⟩:=h;refine⟨_,(Ac (BJ (AJ (pv 0) m (rm k) Aq (Aa (pv 1) Ae))) (Ai (Av (AJ (pv 0) n (rm k) Aq (Aa (pv 1) Ae))))),?_⟩
 try dsimp only[cxK]
 have d:l<49:=by
  obtain⟨q,e,u⟩:=id c;have:=(b.ok.lev e).2;lia
 refine xq1 Z ⟨g.p,g.dx,(xq1 Z ⟨b.at'.hp,TC g,(xq1 Z ⟨g,G,i,Z,b.at',c.lt,?_⟩)⟩)⟩;exact xq1 Z ⟨g.p,g.dx,(xq1 Z ⟨b.at'.hp,TD g,(xq1 Z ⟨g,G,i,l,Z,b,c,d,few,r,t⟩)⟩)⟩
end
def atN(ns:I_)(k:Int):Int:=ns.getD k.toNat 0
theorem kit_ii(K:O_):kitOne K (.type "int") (.type "int")=some true/\kitOne K (.type "int") (.type "bool")=some false:=⟨by kernel_rfl,by kernel_rfl⟩
theorem kit_ni(K:O_):kitOne K (.type "NoneType") (.type "int")=some false:=by kernel_rfl
section
variable{P:N_}{w:Q_}{K:O_}{mg:C_}{base:T_}{a:Ad}
inductive SpAt(K:O_)(vs:List V)(H:Hp)(Q:VK):Prop
|mk (l:R_) (ns:I_) (k:Int) (_:vs=[.ref l,.int k]) (_:SqL K H l (ns.map V.int)) (_:0<=k) (_:Q (.int (atN ns k)) H):SpAt K vs H Q
def WU(K:O_):Sp:=λvs H Q _=>SpAt K vs H Q
theorem ok_at(F:Fun K "_law_at" "_law_at" Nz f fd)(T:Top K mg a):AL P w K mg base CX0 1 f fd Ym (WU K):=by
 refine F.ok UI D_9 λi A d s H vs Q E m h=>?_
 obtain⟨l,ns,k,rfl,g,j,q⟩:=h;refine⟨_,(Ac (AQ (Az FH (pv 1) (AU Ca Z T.b_len A1e (Aa (pv 0) Ae)) (AF _)) (Ai (Av (Aj Ax (pv 0) (pv 1) R_9))) AC) (Ai (Av Ab))),?_⟩
 try dsimp only[cxK]
 refine⟨_,Z,_,Z,l,_,Z,.inl g,_,_,Z,Z,_,Z,?_⟩;obtain⟨n,rfl⟩:=F8 j;refine Ip (λc=>?_) (λc=>?_)
 .have b:n<ns.length:=by
   have:=A0d c;rw[B8]at this;lia
  refine⟨_,Z,_,Z,l,_,n,.int ns[n],Z,Z,g,Ah (by rw[C0,C6 b];rfl),?_⟩;have e:atN ns (n:Int)=ns[n]:=by
   unfold atN;rw[J7,F0,C6 b];rfl
  rw[e]at q;exact q
 .have b:ns.length<=n:=by
   have:¬(n:Int)<((ns.map V.int).length:Int):=λz=>c (K0 z);rw[B8]at this;lia
  have e:atN ns (n:Int)=0:=by
   unfold atN;rw[J7,F0,S3 b];rfl
  rw[e]at q;exact q
end
inductive SpLaw(K:O_)(vs:List V)(H:Hp)(Q:VK):Prop
|mk (a:R_) (ns:I_) (_:vs=[.ref a]) (_:SqL K H a (ns.map V.int)) (_:ns.length<=63) (_:∀H',Q (.bl true) H'):SpLaw K vs H Q
def VS(K:O_):Sp:=λvs H Q _=>SpLaw K vs H Q
end J
namespace J
open PySem L2
def Ap(g:GA)(x:R_):Prop:=x≠g.lv/\x≠g.pt/\x≠g.nm
theorem Ap.new{a:Ad}{H:Hp}{g:GA}{G:Gv}(h:AM a H g G){x:R_}(n:H x=none):Ap g x:=by
 obtain⟨c,b,_⟩:=h.pt;exact⟨K6 (Ay h.lv n),K6 (Ay b n),K6 (Ay h.nm n)⟩
theorem Fr.get{g:GA}{H a:Hp}{x:R_}{o:HO}(f:Fr g H a)(p:Ap g x)(e:H x=some o):a x=some o:=f _ _ e p.1 p.2.1 p.2.2
theorem Fr.tup{a:Ad}{g:GA}{G:Gv}{H b:Hp}{x:R_}{l:List V}(f:Fr g H b)(h:AM a H g G)(e:H x=some (.tup l)):b x=some (.tup l):=by
 obtain⟨us,c,_⟩:=h.pt;exact f _ _ e (AH e h.lv A4) (AH e c A4) (AH e h.nm A4)
theorem AI.mono{G a:Gv}{n m:Nat}(h:AI G a n)(e:n<=m):AI G a m:=⟨h.ok,h.pre,D0 h.few A0⟩
theorem OE(l:Nat):(0:Int)<2^l:=Int.pow_pos A3
theorem pow2_lt{l:Nat}(h:l<64):(2:Int)^l<2^64:=by
 have:(2:Nat)^l<2^64:=Y7 A3 h
 exact_mod_cast this
seal L2.PA L2.PE L2.PS L2.PSs L2.PT L2.PW
section
variable{P:N_}{w:Q_}{K:O_}{mg:C_}{base:T_}{a:Ad}
def spWh:Sp:=λvs H Q _=>(∃i:Int,vs=[.int i]/\Q (.bl true) H)\/(vs=[.non]/\Q (.bl false) H)
theorem ok_wh(F:Fun K "_law_whole" "_law_whole" IQ f fd)(T:Top K mg a):AL P w K mg base CX0 1 f fd RO spWh:=by
 refine F.ok Qh (λvs H Q E h=>?_) (λc A b s H vs Q E d h=>?_)
 .rcases h with ⟨i,rfl,_⟩|⟨rfl,_⟩<;>rfl
 .refine⟨_,(Ai (Av (Jd (AU GC Z T.b_isinstance A1a (Aa (pv 0) (Aa (Jc (v:=.ty "int") Z T.b_int A2g Z) Ae))) (JM (Zz (AU GC Z T.b_isinstance A1a (Aa (pv 0) (Aa (Jc (v:=.ty "bool") Z T.b_bool PyProof.Rows.boot_bool Z) Ae)))))))),?_⟩;rcases h with ⟨i,rfl,k⟩|⟨rfl,k⟩
  .exact⟨_,Z,_,_,_,.type "int",true,Z,Z,.of (.int i),(kit_ii K).1,true,Z,BY ⟨_,Z,_,_,_,.type "int",false,Z,Z,.of (.int i),(kit_ii K).2,false,Z,k⟩⟩
  .exact⟨_,Z,_,_,_,.type "NoneType",false,Z,Z,.of .non,kit_ni K,false,Z,AY k⟩
end
theorem EJ{d:Int}(a:0<=d)(b:d<=9):d.natAbs.log2<1920:=by
 obtain⟨m,rfl⟩:=F8 a;exact(show ∀m:Nat,m<10->(m:Int).natAbs.log2<1920 by decide +kernel) m (by omega)
theorem Dp{n:Nat}(h:n<=100000):n<=sizeLine:=D0 h A3
abbrev SX:Str:=Str.ofString "01234567*"
theorem VN:∀m:Nat,m<9->SX.cps.toList[m]?=some (if m=8 then 42 else 48+m):=by decide +kernel
def LV(n:Int)(k:Nat):Bool:=decide (V.int (Builtin.bitAnd (n/2^k) 1)=V.int 1)
def La(n:Int):List Int:=((List.range 9).filter (LV n)).map λ(k:Nat)=>(k:Int)
theorem nums_ne:∀m:Nat,m<511->La ((m:Int)+1)≠[]:=by decide +kernel
theorem ZT(n:Int):(La n).Pairwise (· < ·):=by
 unfold La;rw[T7];have:((List.range 9).filter (LV n)).Pairwise (· < ·):=W6.sublist List.filter_sublist;exact this.imp λh=>by omega
theorem nums_in(n:Int):∀m∈La n,0<=m/\m<=8:=λm b=>by
 obtain⟨k,a,rfl⟩:=D3.mp b;have:=J6.mp (T3.mp a).1;omega
abbrev amT:Str:=Str.ofString "amount"
abbrev plT:Str:=Str.ofString "places"
def unO:Option Int->Int
|none=>8
|some d=>d
inductive Da(H:Hp):Addr->Ba->Prop where
|am {q l:R_} {s:Int} {ns:I_} (h:H q=some (.tup [.str amT,.int s,.ref l])) (hl:H l=some (.lst (ns.map V.int))):Da H q (.am s ns)
|pl {q l:R_} {ws:List (Option Int)} (h:H q=some (.tup [.str plT,.ref l])) (hl:H l=some (.lst (ws.map λw=>V.int (unO w)))):Da H q (.pl ws)
structure Rh(H:Hp)(q:R_)(c:AT):Prop where
ex:∃(l:R_)(ds:H_),H q=some (.tup [.int (unO c.cell),.ref l,.int c.makes])/\H l=some (.lst (ds.map V.ref))/\Paired (Da H) ds c.conds
structure Oh(H:Hp)(q:R_)(r:AD):Prop where
ex:∃cs:List Addr,H q=some (.lst (cs.map V.ref))/\Paired (Rh H) cs r
theorem Da.same{H b:Hp}{q:R_}{d:Ba}(s:AA H b)(h:Da H q d):Da b q d:=by
 cases h with
 |am h a=>exact .am (s _ _ h) (s _ _ a)
 |pl h a=>exact .pl (s _ _ h) (s _ _ a)
theorem Rh.same{H a:Hp}{q:R_}{c:AT}(s:AA H a)(h:Rh H q c):Rh a q c:=by
 obtain⟨l,ds,b,d,e⟩:=h.ex;exact⟨l,ds,s _ _ b,s _ _ d,Paired.imp (λ_ _ z=>z.same s) e⟩
theorem Oh.same{H a:Hp}{q:R_}{r:AD}(s:AA H a)(h:Oh H q r):Oh a q r:=by
 obtain⟨cs,b,c⟩:=h.ex;exact⟨cs,s _ _ b,Paired.imp (λ_ _ z=>z.same s) c⟩
theorem unO_le{x:Option Int}(h:wOk x):0<=unO x/\unO x<=8:=by
 cases x with
 |none=>exact⟨by decide,by decide⟩
 |some d=>exact⟨h.1,Int.le_of_lt h.2⟩
theorem YY{x:Option Int}(h:wOk x):atI SX.cps.toList (unO x)=some (wC x):=by
 cases x with
 |none=>exact Ah (VN 8 A3)
 |some d =>
  obtain⟨n,b⟩:=F8 h.1;have c:=h.2;have a:n≠8:=by lia
  show atI SX.cps.toList d=some (48+d.toNat);rw[b,J7];have:=VN n A0;rw[X9 a]at this;exact Ah this
theorem SR{x:Option Int}(h:wOk x)(y:Int):BW x y=(decide (unO x=8) || decide (unO x=y)):=by
 cases x with
 |none=>rfl
 |some d =>
  have:=h.2;show decide (d=y)=(decide (d=8) || decide (d=y))
  rw[K1 (by lia:¬d=8),Bool.false_or]
theorem join_w(a:List (Option Int)):Str.join (Str.ofString "") (a.map λw=>(⟨#[wC w]⟩:Str))=Bb (.pl a):=by
 have b:Str.ofString "" = (⟨#[]⟩:Str):=by decide +kernel
 rw[b];refine Nu.ext ?_;rw[Tx.Fw,Tx.Vm,N4];show(a.map _).flatten=a.map wC;induction a with
 |nil=>rfl
 |cons x r c=>rw[J3,S4,c,J3];rfl
theorem join_d{ns:I_}(h:∀m∈ns,0<=m/\m<=8):Str.join (Str.ofString "") (ns.map λn=>Str.ofString (toString n))=Ed ns:=by
 have a:Str.ofString "" = (⟨#[]⟩:Str):=by decide +kernel
 rw[a];refine Nu.ext ?_;rw[Tx.Fw,Tx.Vm,N4];show(ns.map _).flatten=ns.map λn=>48+n.toNat;induction ns with
 |nil=>rfl
 |cons n r d =>
  have b:=h n C9;rw[J3,S4,d λm c=>h m (C8 _ c)];show(Str.ofString (toString n)).cps.toList++_=_;rw[Tx.ED b.1 A0];rfl
theorem Sl{d:Int}(a:0<=d)(b:d<=9):(Str.ofString (toString d)).length=1:=by rw[Tx.ED a b];rfl
section
variable{P:N_}{w:Q_}{K:O_}{mg:C_}{base:T_}{a:Ad}
inductive SpMix(vs:List V)(H:Hp)(Q:VK):Prop
|mk (c k:Int) (_:vs=[.int c,.int k]) (_:0<=k) (_:k<=1000000) (_:∀i:Int,0<=i->Q (.int i) H):SpMix vs H Q
def VQ:Sp:=λvs H Q _=>SpMix vs H Q
theorem ok_mix(F:Fun K "_law_mix" "_law_mix" Mh f fd):AL P w K mg base CX0 1 f fd Jk VQ:=by
 refine F.ok Oa D_9 λd A b s H vs Q E j h=>?_
 obtain⟨c,k,rfl,e,g,q⟩:=h;refine⟨_,(Ac (Ao (i:=2) Oa.nd Z O_9 (AB Bc (AB DE (AB AO (AB AO (AB Bc (pv 0) Ab) (AB DE Ab (pv 1))) Ab) (AB AO Ab (AB DE Ab (pv 1)))) Ab)) (Ai (Av (AB Do (AB Bc (AB DE (AB AO (AB Do (pv 2) Ab) (pv 1)) Ab) Ab) Ab)))),?_⟩
 try dsimp only[cxK]
 refine xwb Z Z Z ⟨(by show(0:Int)<998244353;decide),(xwb Z Z Z ⟨.inl ⟨by decide,by decide⟩,(xq2 Z Z (xq2 Z Z (xwb Z Z Z ⟨.inl ⟨by decide,by decide⟩,(xq2 Z Z (xq2 Z Z ⟨.inr ⟨by lia,by lia⟩,(xq2 Z Z ⟨(by show(0:Int)<2147483647;decide),?_⟩)⟩))⟩)))⟩)⟩;refine xwb Z Z Z ⟨⟨by decide,by decide⟩,(xwb Z Z Z (xq2 Z Z ⟨.inr ⟨by decide,by decide⟩,(xq2 Z Z ⟨(by show(0:Int)<2147483629;decide),(xq2 Z Z ⟨⟨by decide,by decide⟩,?_⟩)⟩)⟩))⟩;exact q _ A0
inductive SpSt(vs:List V)(H:Hp)(Q:VK):Prop
|mk (m:R_) (x y v:Int) (_:vs=[.ref m,.int v]) (_:H m=some (.tup [.int x,.int y])) (_:Iy x) (_:Iy y) (_:∀d:Int,Iy d->Q (.int d) H):SpSt vs H Q
def spSt:Sp:=λvs H Q _=>SpSt vs H Q
theorem ok_st(F:Fun K "_law_state_by" "_law_state_by" FB f fd):AL P w K mg base CX0 1 f fd Os spSt:=by
 refine F.ok Nm D_9 λd A b s H vs Q E n h=>?_
 obtain⟨m,x,y,v,rfl,c,k,l,q⟩:=h;refine⟨_,(Ac (AQ (Az FH (AB Bc (pv 1) Ab) Ab (AF _)) (Ai (Av (Aj Ak (pv 0) (AB Bc (pv 1) Ab) R_9))) AC) (Ai (Av (AB Bc (AB Do (pv 1) Ab) Ab)))),?_⟩
 try dsimp only[cxK]
 refine xwb Z Z Z ⟨B1,(xq2 Z Z (xq1 Z ?_))⟩;refine Ip (λg=>?_) (λ_=>?_)
 .have i:v%3<2:=A0d g;rcases(show v%3=0\/v%3=1 by lia)with e|e
  .exact xw2 Z Z (xq2 Z Z ⟨B1,(xq4 Z Z (SqT.of c) (by rw[e];exact Ah (j:=0) Z) (q x k))⟩)
  .exact xw2 Z Z (xq2 Z Z ⟨B1,(xq4 Z Z (SqT.of c) (by rw[e];exact Ah (j:=1) Z) (q y l))⟩)
 .exact xwb Z Z Z ⟨⟨by decide,by decide⟩,(xq2 Z Z ⟨B5,q _ ⟨by lia,by lia⟩⟩)⟩
def YI(H:Hp)(m:R_):Prop:=∃x y:Int,H m=some (.tup [.int x,.int y])/\Iy x/\Iy y
theorem YI.same{H b:Hp}{m:R_}(s:AA H b)(h:YI H m):YI b m:=by
 obtain⟨x,y,c,d⟩:=h;exact⟨x,y,s _ _ c,d⟩
inductive SpCo(vs:List V)(H:Hp)(Q:VK):Prop
|mk (m:R_) (sd j:Int) (_:vs=[.ref m,.int sd,.int j]) (_:YI H m) (_:0<=j) (_:j<=900000) (_:∀(q:R_)(d:Ba)(H':Hp),AA H H'->Da H' q d->d.ok->Q (.ref q) H'):SpCo vs H Q
def spCo:Sp:=λvs H Q _=>SpCo vs H Q
theorem ok_co(F:Fun K "_law_condition_by" "_law_condition_by" Cz f fd)(T:Top K mg a)(M:Cal P w K mg base CX0 1 "_law_mix" Jk VQ)(aK:Cal P w K mg base CX0 1 "_law_state_by" Os spSt) :
 AL P w K mg base CX0 2 f fd DD spCo:=by
 refine F.ok BO D_9 λae A aa s H vs Q E B h=>?_
 obtain⟨m,u,j,rfl,⟨mx,my,hm,C,R⟩,h0,h1,k⟩:=h;refine⟨_,(Ac (AQ (Az CK (AB Bc (As M (rm B) Z Aq (Aa (pv 1) (Aa (pv 2) Ae))) Ab) Ab (AF _)) (Ac (Ao (i:=3) BO.nd Z O_9 (BX Ae)) (Ac (Cv A0b Z (CC Z T.b_range (AN Ae)) (Bn (i:=4) BO.nd Z O_9) (Ac (Ao (i:=5) BO.nd Z O_9 (As M (rm B) Z Aq (Aa (pv 1) (AV AO (AB AO (pv 2) Ab) (pv 4) Ae)))) (Ai (AQ (Az CK (AB Bc (AB Do (pv 5) Ab) Ab) Ab (AF _)) (Ai (BJ (De K8 K9 A0a BF (pv 3) (Aa (As aK (rm B) Z Aq (Aa (pv 0) (Aa (pv 5) Ae))) Ae)))) (Ai (BJ (De K8 K9 A0a BF (pv 3) (AN Ae)))))))) (Ai (Av (CD (ND (Aa (pv 3) Ae))))))) AC) (Ac (Ao (i:=6) BO.nd Z (Or.inr Z) (AB AO (AB Bc (As M (rm B) Z Aq (Aa (pv 1) (AV AO (pv 2) Ab Ae))) Ab) Ab)) (Ai (Av (CD (ND (Aa (As aK (rm B) Z Aq (Aa (pv 0) (Aa (As M (rm B) Z Aq (Aa (pv 1) (AV AO (pv 2) Ab Ae))) Ae))) (Aa (Ck Z (BE.of (So:=Al Cz) (No:=FI) (N:=["_law_k","_law_mask"]) (k:=1) (cs:=[6]) Z Z A1) (CC Z T.b_range (AN Ae)) (λ_ _ _=>(Bg (i:=0) A1 Z Z)) (λ_ _ _=>(pts_one (Az CK (AB op_and (AB op_shr (pv 1) (pv 0)) Ab) Ab (AF _)))) (λ_ _ _=>(pv 0))) Ae)))))))),?_⟩
 try dsimp only[cxK]
 refine xw2 Z Z ⟨u,j,Z,h0,by lia,λv hv=>(xq2 Z Z ⟨B1,Z,(xq1 Z ?_)⟩)⟩;refine Ip (λ_=>?_) (λ_=>?_)
 .refine⟨S_0,λl O=>?_⟩;refine⟨8,Z,by decide,by decide,CF (n:=8) (λi σ g=>∃(c:List (Option Int))(u5 D G:Option V),σ=[some (.ref m),some (.int u),some (.int j),some (.ref l),u5,D,G]/\g=upd H l (.lst (c.map λw=>V.int (unO w)))/\c.length=i/\∀x∈c,wOk x) ⟨[],none,none,none,Z,Z,Z,λx C=>by simp at C⟩ ?_ ?_⟩
  .rintro i σ g W ⟨c,u5,D,G,rfl,rfl,t,hw⟩;have lt:(c.map λw=>V.int (unO w)).length<sizeLine:=by rw[B8,t];exact F5 W A3
   have X:upd H l (.lst (c.map λw=>V.int (unO w))) m=some (.tup [.int mx,.int my]):=Ar O _ _ hm;refine xq1 Z (xq1 Z (xq2 Z Z (xq1 Z (xq2 Z Z ⟨u,_,Z,by lia,by lia,λb Y=>?_⟩))));have app:∀x:Option Int,wOk x->∀D G,∃(z:List (Option Int))(ab ac ad:Option V),([some (.ref m),some (.int u),some (.int j),some (.ref l),some (.int (0+(i:Int))),D,G]:St)=[some (.ref m),some (.int u),some (.int j),some (.ref l),ab,ac,ad] /\
     upd (upd H l (.lst (c.map λw=>V.int (unO w)))) l (.lst ((c.map λw=>V.int (unO w))++[V.int (unO x)]))=upd H l (.lst (z.map λw=>V.int (unO w)))/\z.length=i+1/\∀x∈z,wOk x:=λx C D G =>
    ⟨c++[x],_,_,_,Z,by rw[GG,C7];rfl,by rw[C5,t];rfl,λy R=>by
     rcases F4.mp R with q|q
     .exact hw y q
     .rw[D4.mp q];exact C⟩
   refine xwb Z Z Z ⟨⟨by decide,by decide⟩,(xq2 Z Z ⟨B1,Z,(xq1 Z ?_)⟩)⟩;refine Ip (λ_=>?_) (λ_=>?_)
   .exact xq1 Z ⟨.inl ⟨Z,_,SqL.of Af⟩,(xw2 Z Z ⟨m,mx,my,b,Z,X,C,R,λd U=>⟨l,(xq2 Z Z ⟨Af,lt,app (some d) U _ _⟩)⟩⟩)⟩
   .exact xq1 Z ⟨.inl ⟨Z,_,SqL.of Af⟩,l,(xq2 Z Z ⟨Af,lt,app none trivial _ _⟩)⟩
  .rintro σ g ⟨c,u5,D,G,rfl,rfl,t,hw⟩;refine xq1 Z ⟨S_2,λq L=>?_⟩;have s2:=(Ar (o:=.lst (c.map λw=>V.int (unO w))) O).trans (Ar (o:=.tup [.str plT,.ref l]) L);exact k q (.pl c) _ s2 (.pl Af (Ar L _ _ Af)) ⟨t,hw⟩
 .refine xq1 Z (xq1 Z (xq2 Z Z ⟨u,_,Z,by lia,by lia,λb Y=>(xq2 Z Z ⟨(by show(0:Int)<511;decide),_,_,Z,Z,?_⟩)⟩));have r:∃n:Nat,n<511/\b%511+1=(n:Int)+1:=by
   obtain⟨n,t⟩:=F8 (show 0<=b%511 by lia);exact⟨n,by lia,by lia⟩
  refine xq1 Z (xq1 Z (xq1 Z (xq2 Z Z ⟨u,_,Z,by lia,by lia,λv3 af=>⟨m,mx,my,v3,Z,hm,C,R,λd U=>?_⟩⟩)));refine⟨9,Z,by decide,by decide,?_⟩;refine NV (n:=9) (λi p g=>H=g/\p=(((List.range i).filter (LV (b%511+1))).map λ(k:Nat)=>V.int (k:Int))) ⟨Z,Z⟩ ?_ ?_
  .rintro i p g W ⟨rfl,rfl⟩;have lt:(((List.range i).filter (LV (b%511+1))).map λ(k:Nat)=>V.int (k:Int)).length<sizeLine:=by
    rw[B8];have:=List.length_filter_le (LV (b%511+1)) (List.range i);rw[L7]at this;exact F7 (D0 this (V1 W)) A3
   refine⟨⟨[some (.int (0+(i:Int)))],Z,Z⟩,lt,?_⟩;refine xw2 Z Z (xq2 Z Z ⟨(by show(0:Int)<=0+(i:Int);lia),(xq2 Z Z ⟨Z,(xq1 Z ?_)⟩)⟩);have ei:(0+(i:Int)).toNat=i:=by lia
   have e:(List.range (i+1)).filter (LV (b%511+1))=(List.range i).filter (LV (b%511+1))++if LV (b%511+1) i=true then [i]else []:=by
    rw[P2,List.filter_append,List.filter_cons,List.filter_nil]
   rw[ei];show if LV (b%511+1) i=true then _ else _;refine Ip (λS=>?_) (λS=>?_)
   .refine xq1 Z ⟨Z,?_⟩;rw[e,K2 S,C7];show _++[V.int (0+(i:Int))]=_++[V.int (i:Int)]
    rw[T8]
   .refine⟨Z,?_⟩;rw[e,X9 S,U5]
  .rintro p g ⟨rfl,rfl⟩ l O;have I:(((List.range 9).filter (LV (b%511+1))).map λ(k:Nat)=>V.int (k:Int))=(La (b%511+1)).map V.int:=by
    unfold La;rw[N4];rfl
   rw[I];refine⟨S_3,λq L=>?_⟩;have s2:=(Ar (o:=.lst ((La (b%511+1)).map V.int)) O).trans (Ar (o:=.tup [.str amT,.int d,.ref l]) L);refine k q (.am d (La (b%511+1))) _ s2 (.am Af (Ar L _ _ Af)) ⟨U,?_,nums_in _,ZT _⟩;obtain⟨n,t,e⟩:=r;rw[e];exact nums_ne n t
end
theorem pl_am:decide (V.str amT=V.str (Str.ofString "places"))=false:=by decide +kernel
theorem pl_pl:decide (V.str plT=V.str (Str.ofString "places"))=true:=by decide +kernel
section
variable{P:N_}{w:Q_}{K:O_}{mg:C_}{base:T_}{a:Ad}
inductive SpWd(vs:List V)(H:Hp)(Q:VK):Prop
|mk (q:R_) (d:Ba) (_:vs=[.ref q]) (_:Da H q d) (_:d.ok) (_:∀H',AA H H'->Q (.str (Bb d)) H'):SpWd vs H Q
def spWd:Sp:=λvs H Q _=>SpWd vs H Q
theorem ok_wd(F:Fun K "_law_word" "_law_word" Fp f fd)(T:Top K mg a):AL P w K mg base CX0 1 f fd Ld spWd:=by
 refine F.ok Rv D_9 λX A R s H vs Q E hr h=>?_
 obtain⟨q,d,rfl,hd,D,k⟩:=h;have W:(Str.ofString "").length=0:=by decide +kernel
 refine⟨_,(Ac (AQ (Az CK (Aj Ak (pv 0) Ab R_9) Dk (AF _)) (Ai (Av (De A1d A2h A3a MS Dk (Aa (Ck Z (BE.of (So:=Al Fp) (No:=Ld) (N:=["_law_state"]) (k:=1) (cs:=[]) Z Z A1) (Ci (Aj Ak (pv 0) Ab R_9)) (λ_ _ _=>(Bg (i:=0) A1 Z Z)) (λ_ _ _=>BL) (λ_ _ _=>(Aj ix_str Dk (pv 0) R_9))) Ae)))) AC) (Ai (Av (AB CV (AB CV (Bd CY Z T.b_str A1b (Aa (Aj Ak (pv 0) Ab R_9) Ae)) Dk) (De A1d A2h A3a MS Dk (Aa (Ck Z (BE.of (So:=Al Fp) (No:=Ld) (N:=["_law_k"]) (k:=1) (cs:=[]) Z Z A1) (Ci (Aj Ak (pv 0) Ab R_9)) (λ_ _ _=>(Bg (i:=0) A1 Z Z)) (λ_ _ _=>BL) (λ_ _ _=>(Bd CY Z T.b_str A1b (Aa (pv 0) Ae)))) Ae)))))),?_⟩
 try dsimp only[cxK]
 cases hd with
 |@pl l S h B =>
  refine xwi Z Z Z (SqT.of h) (Ah (j:=0) Z) ⟨Z,(xq1 Z ?_)⟩;rw[pl_pl];refine BY ⟨Z,(xwi Z Z Z (SqT.of h) (Ah (j:=1) Z) ⟨l,Z,⟨_,SqL.of B⟩,?_⟩)⟩;refine Dv (xs:=S.map λw=>V.int (unO w)) (λi b m=>H=m/\b=((S.take i).map λx=>(⟨#[wC x]⟩:Str)).map V.str) ⟨Z,Z⟩ (λi b m _ z=>z.1▸SqL.of B) ?_ ?_
  .rintro i x b m C ⟨rfl,rfl⟩;rw[C0]at C;obtain⟨n,v,rfl⟩:=D7.mp C;have u:=D.2 n (D6 v);refine⟨⟨[some (.int (unO n))],Z,Z⟩,?_,GQ (xq1 Z ⟨SX,_,wC n,Z,Z,A1,YY u,Z,?_⟩)⟩
   .rw[B8,B8,L8,D.1];exact F7 (P7 _ _) A3
   .rw[F9,v,C7,C7];rfl
  .rintro b m ⟨rfl,rfl⟩ p M;rw[B8,J8];have c:JoinOk (Str.ofString "") (S.map λx=>(⟨#[wC x]⟩:Str))=true:=by
    refine Tx.MU 1 (λt O=>?_) ?_
    .obtain⟨n,u,rfl⟩:=D3.mp O;exact C1 1
    .rw[B8,W,D.1];decide
   refine⟨_,p,(xq1 Z ⟨Z,SqL.of Af,c,?_⟩)⟩;rw[join_w];exact k _ (Ar M)
 |@am l G ns h B =>
  obtain⟨g,_,u,y⟩:=D;have U:=OO ns 0 A3 u y;have r:G<=9:=by have:=g.2;lia
  refine xwi Z Z Z (SqT.of h) (Ah (j:=0) Z) ⟨Z,(xq1 Z ?_)⟩;rw[pl_am];refine AY (xwi Z Z Z (SqT.of h) (Ah (j:=1) Z) ⟨G,Z,EJ g.1 r,(xq2 Z Z ⟨Dp (by erw [Sl g.1 r];decide),Z,(xwi Z Z Z (SqT.of h) (Ah (j:=2) Z) ⟨l,Z,⟨_,SqL.of B⟩,?_⟩)⟩)⟩);refine Dv (xs:=ns.map V.int) (λi b m=>H=m/\b=((ns.take i).map λn=>Str.ofString (toString n)).map V.str) ⟨Z,Z⟩ (λi b m _ z=>z.1▸SqL.of B) ?_ ?_
  .rintro i x b m C ⟨rfl,rfl⟩;rw[C0]at C;obtain⟨n,v,rfl⟩:=D7.mp C;have I:=u n (D6 v);refine⟨⟨[some (.int n)],Z,Z⟩,?_,GQ (xq1 Z ⟨n,Z,EJ I.1 A0,Z,?_⟩)⟩
   .rw[B8,B8,L8];exact F7 (P7 _ _) (F7 (show _<=9 by lia) A3)
   .rw[F9,v,C7,C7];rfl
  .rintro b m ⟨rfl,rfl⟩ p M;rw[B8,J8];have c:JoinOk (Str.ofString "") (ns.map λn=>Str.ofString (toString n))=true:=by
    refine Tx.MU 1 (λt O=>?_) ?_
    .obtain⟨n,L,rfl⟩:=D3.mp O;have:=u n L;rw[Sl this.1 A0];decide
    .rw[B8,W];lia
   refine⟨_,p,(xq1 Z ⟨Z,SqL.of Af,c,(xq2 Z Z ⟨Dp ?_,?_⟩)⟩)⟩
   .rw[join_d u];have Y:(Ed ns).length=ns.length:=by rw[Nu.len];show(ns.map _).length=_;rw[B8]
    have e2:(Str.ofString "=").length=1:=by decide +kernel
    rw[Tx.app_len,Y,e2]
    erw [Sl g.1 r]
    lia
   .have e:Str.ofString (toString G)++Str.ofString "=" ++ Str.join (Str.ofString "") (ns.map λn=>Str.ofString (toString n))=Bb (.am G ns):=by
     rw[join_d u,Tx.ED g.1 r,show Str.ofString "=" = (⟨#[61]⟩:Str) by decide +kernel];rfl
    have:=k _ (Ar (o:=.lst ((ns.map λn=>Str.ofString (toString n)).map V.str)) M);rw[<-e]at this;exact this
inductive SpTx(vs:List V)(H:Hp)(Q:VK):Prop
|mk (q:R_) (r:AD) (_:vs=[.ref q]) (_:Oh H q r) (_:GF r) (_:∀H',AA H H'->Q (.str (Dm r)) H'):SpTx vs H Q
def spTx:Sp:=λvs H Q _=>SpTx vs H Q
theorem ok_tx(F:Fun K "_law_text" "_law_text" GK f fd)(T:Top K mg a)(cL:Cal P w K mg base CX0 1 "_law_word" Ld spWd):AL P w K mg base CX0 2 f fd JU spTx:=by
 refine F.ok FL D_9 λak A aj s H vs Q E hr h=>?_
 obtain⟨q,r,rfl,hR,ho,k⟩:=h;obtain⟨cs,hq,S⟩:=hR.ex;have ln:cs.length=r.length:=A0e S;have ad:=ho.few;refine⟨_,(Ac (Ao (i:=1) FL.nd Z O_9 (BX Ae)) (Ac (Cv A0b Z (Ci (pv 0)) (Bn (i:=2) FL.nd Z O_9) (Ac (Ao (i:=3) FL.nd Z O_9 (AB RG (BX (Aa (Aj ix_str Dk (Aj Ak (pv 2) Ab R_9) R_9) Ae)) (Ck Z (BE.of (So:=Al GK) (No:=Oe) (N:=["_law_condition"]) (k:=1) (cs:=[]) Z Z A1) (Ci (Aj Ak (pv 2) Ab R_9)) (λ_ _ _=>(Bg (i:=0) A1 Z Z)) (λ_ _ _=>BL) (λ_ _ _=>(As cL (rm hr) Z Aq (Aa (pv 0) Ae)))))) (Ai (BJ (De K8 K9 A0a BF (pv 1) (Aa (De A1d A2h A3a MS Dk (AV RG (pv 3) (BX (Aa (Bd CY Z T.b_str A1b (Aa (Aj Ak (pv 2) Ab R_9) Ae)) Ae)) Ae)) Ae)))))) (Ai (Av (De A1d A2h A3a MS Dk (Aa (pv 1) Ae)))))),?_⟩
 try dsimp only[cxK]
 refine⟨S_0,λpt I=>?_⟩;have ae:∀o,upd H pt o q=some (.lst (cs.map V.ref)):=λo=>Ar I _ _ hq;refine xq1 Z ⟨q,Z,⟨_,SqL.of (ae _)⟩,MX (xs:=cs.map V.ref) (λi σ m=>∃u2 u3:Option V,σ=[some (.ref q),some (.ref pt),u2,u3]/\AA H m/\m pt=some (.lst ((r.take i).map λc=>V.str (Bf c)))) ⟨none,none,Z,Ar I,Af⟩ (λi σ m _ ⟨_,_,_,R,_⟩=>SqL.of (R _ _ hq)) ?_ ?_⟩
 .rintro i x σ m X ⟨u2,u3,rfl,R,l⟩;rw[C0]at X;obtain⟨cq,ab,rfl⟩:=D7.mp X;obtain⟨c,ec,hc⟩:=Paired.get S ab;have mc:=D6 ec;have G:=ho.ok c mc;have aa:=G.few;obtain⟨cl,ds,h1,h2,h3⟩:=(hc.same R).ex;have Y:c.makes<=9:=by have:=G.makes.2;lia
  have un:=unO_le G.cell;refine xwi Z Z Z (SqT.of h1) (Ah (j:=0) Z) ⟨SX,_,wC c.cell,Z,Z,A1,YY G.cell,S_1,λw1 af=>?_⟩;have O:=Ar (o:=.lst [.str ⟨#[wC c.cell]⟩]) af;refine xwi Z Z Z (SqT.of (O _ _ h1)) (Ah (j:=1) Z) ⟨cl,Z,⟨_,SqL.of (O _ _ h2)⟩,?_⟩;have u:upd m w1 (.lst [.str ⟨#[wC c.cell]⟩]) w1=some (.lst [.str ⟨#[wC c.cell]⟩]):=Af;generalize upd m w1 (.lst [.str ⟨#[wC c.cell]⟩])=H3 at O u⊢;refine Dv (xs:=ds.map V.ref) (λj n M=>AA H3 M/\n=((c.conds.take j).map Bb).map V.str) ⟨AA.refl H3,Z⟩ (λj n M _ z=>SqL.of (z.1 _ _ (O _ _ h2))) ?_ ?_
  .rintro j x n M X ⟨s4,rfl⟩;rw[C0]at X;obtain⟨dq,ac,rfl⟩:=D7.mp X;obtain⟨d,ed,hd⟩:=Paired.get h3 ac;refine⟨⟨[some (.ref dq)],Z,Z⟩,?_,GQ (xq1 Z ⟨dq,d,Z,(hd.same O).same s4,G.conds d (D6 ed),λH5 s5=>⟨s4.trans s5,?_⟩⟩)⟩
   .rw[B8,B8,L8];exact F7 (P7 _ _) (F7 aa A3)
   .rw[F9,ed,C7,C7];rfl
  .rintro n M ⟨s4,rfl⟩ w2 ag;have ld:ds.length=c.conds.length:=A0e h3;rw[B8,ld,J8];have s5:=s4.trans (Ar (o:=.lst ((c.conds.map Bb).map V.str)) ag);have v:upd M w2 (.lst ((c.conds.map Bb).map V.str)) w2=some (.lst ((c.conds.map Bb).map V.str)):=Af;generalize upd M w2 (.lst ((c.conds.map Bb).map V.str))=H5 at s5 v⊢;refine⟨w1,w2,(xq2 Z Z ⟨s5 _ _ u,v,Dp (by simp only[F2,R9,B8];lia),λw3 ah=>?_⟩)⟩;have s6:=s5.trans (Ar (o:=.lst ([.str ⟨#[wC c.cell]⟩]++(c.conds.map Bb).map V.str)) ah);have y:upd H5 w3 (.lst ([.str ⟨#[wC c.cell]⟩]++(c.conds.map Bb).map V.str)) w3=some (.lst ([.str ⟨#[wC c.cell]⟩]++(c.conds.map Bb).map V.str)):=Af;generalize upd H5 w3 (.lst ([.str ⟨#[wC c.cell]⟩]++(c.conds.map Bb).map V.str))=H6 at s6 y⊢;have L:AA m H6:=O.trans s6;refine xq1 Z ⟨.inl ⟨Z,_,SqL.of (L _ _ l)⟩,Z,(xwj Z Z Z Z (SqT.of (L _ _ h1)) (Ah (j:=2) Z) ⟨c.makes,Z,EJ G.makes.1 Y,S_1,λw4 W=>?_⟩)⟩;have s7:=L.trans (Ar (o:=.lst [.str (Str.ofString (toString c.makes))]) W);have C:upd H6 w4 (.lst [.str (Str.ofString (toString c.makes))]) w4=some (.lst [.str (Str.ofString (toString c.makes))]):=Af;have B:=Ar (o:=.lst [.str (Str.ofString (toString c.makes))]) W _ _ y;generalize upd H6 w4 (.lst [.str (Str.ofString (toString c.makes))])=H7 at s7 C B⊢;refine⟨w3,w4,(xq2 Z Z ⟨B,C,Dp (by simp only[C5,F2,R9,B8];lia),λw5 ai=>?_⟩)⟩;have eL:([.str ⟨#[wC c.cell]⟩]++(c.conds.map Bb).map V.str)++[.str (Str.ofString (toString c.makes))]=(wS c.cell::(c.conds.map Bb++[sgD c.makes])).map V.str:=by
    rw[Tx.ED G.makes.1 Y,J3,C7];rfl
   rw[eL];have s8:=s7.trans (Ar (o:=.lst ((wS c.cell::(c.conds.map Bb++[sgD c.makes])).map V.str)) ai);have D:upd H7 w5 (.lst ((wS c.cell::(c.conds.map Bb++[sgD c.makes])).map V.str)) w5=some (.lst ((wS c.cell::(c.conds.map Bb++[sgD c.makes])).map V.str)):=Af;generalize upd H7 w5 (.lst ((wS c.cell::(c.conds.map Bb++[sgD c.makes])).map V.str))=H8 at s8 D⊢;have lb:(Str.ofString " ").length=1:=by decide +kernel
   have g:JoinOk (Str.ofString " ") (wS c.cell::(c.conds.map Bb++[sgD c.makes]))=true:=by
    refine Tx.MU 11 (λt p=>?_) ?_
    .rcases C3.mp p with rfl|p
     .show 1<=11;decide
     .rcases F4.mp p with p|p
      .obtain⟨d,hd,rfl⟩:=D3.mp p;exact Nc (G.conds d hd)
      .rw[D4.mp p];show 1<=11;decide
    .rw[lb,F2,C5,B8,F2,R9];lia
   refine⟨_,w5,(xq1 Z ⟨Z,SqL.of D,g,?_⟩)⟩;have eC:Str.join (Str.ofString " ") (wS c.cell::(c.conds.map Bb++[sgD c.makes]))=Bf c:=by
    rw[show Str.ofString " " = (⟨#[32]⟩:Str) by decide +kernel];rfl
   rw[eC];refine⟨pt,(xq2 Z Z ⟨s8 _ _ l,?_,?_⟩)⟩
   .rw[B8,L8];exact F7 (P7 _ _) (F7 ad A3)
   .refine⟨_,_,Z,λb o e=>?_,?_⟩
    .have ne:b≠pt:=Ay e I;rw[Aw ne];exact s8 _ _ (R _ _ e)
    .rw[Af,F9,ec,C7];rfl
 .rintro σ m ⟨u2,u3,rfl,R,l⟩;rw[B8,ln,J8]at l;have U:m pt=some (.lst ((r.map Bf).map V.str)):=by rw[l,N4];rfl
  have em:Str.ofString "; " = Og:=by decide +kernel
  have g:JoinOk (Str.ofString "; ") (r.map Bf)=true:=by
   refine Tx.MU 1000 (λt p=>?_) ?_
   .obtain⟨c,hc,rfl⟩:=D3.mp p;exact Js (ho.ok c hc)
   .rw[B8,em,show Og.length=2 from rfl];lia
  refine⟨Z,(xq1 Z ⟨_,pt,(xq1 Z ⟨Z,SqL.of U,g,?_⟩)⟩)⟩;rw[em];exact k m R
inductive SpHo(vs:List V)(H:Hp)(Q:VK):Prop
|mk (q m:R_) (d:Ba) (ar:I_) (_:vs=[.ref q,.ref m]) (_:Da H q d) (_:d.ok) (_:H m=some (.lst (ar.map V.int))) (_:ar.length=8) (_:Q (.bl (d.holds ar)) H):SpHo vs H Q
def spHo:Sp:=λvs H Q _=>SpHo vs H Q
theorem ok_ho(F:Fun K "_law_holds" "_law_holds" IR f fd)(T:Top K mg a):AL P w K mg base CX0 1 f fd Jl spHo:=by
 refine F.ok DH D_9 λO A C s H vs Q E hr h=>?_
 obtain⟨q,m,d,b,rfl,U,W,y,a8,k⟩:=h;refine⟨_,(Ac (AQ (Az CK (Aj Ak (pv 0) Ab R_9) Dk (AF _)) (Ac (Cv A0b Z (CC Z T.b_range (AN Ae)) (Bn (i:=2) DH.nd Z O_9) (Ai (AQ (PW.pt (Mj (Az JY (Aj Ax (Aj Ak (pv 0) Ab R_9) (pv 2) R_9) Ab (AF _)) (Ja (Az JY (Aj Ax (Aj Ak (pv 0) Ab R_9) (pv 2) R_9) (Aj Ax (pv 1) (pv 2) R_9) (AF _))))) (Ai (Av Po)) AC))) (Ai (Av Po))) AC) (Ac (Ao (i:=3) DH.nd Z O_9 Ab) (Ac (Cv A0b Z (Ci (pv 1)) (Bn (i:=4) DH.nd Z O_9) (Ai (AQ (Az CK (pv 4) (Aj Ak (pv 0) Ab R_9) (AF _)) (Ai (Ao (i:=3) DH.nd Z O_9 (AB AO (pv 3) Ab))) AC))) (Ai (Av (Et NG (pv 3) (Aj Ak (pv 0) Ab R_9) Z)))))),?_⟩
 try dsimp only[cxK]
 cases U with
 |@pl l c h t =>
  obtain⟨w8,X⟩:=W;refine xwi Z Z Z (SqT.of h) (Ah (j:=0) Z) ⟨Z,(xq1 Z ?_)⟩;rw[pl_pl];refine BY ⟨8,Z,by decide,by decide,CF (n:=8) (λi σ g=>H=g/\(∃v,σ=[some (.ref q),some (.ref m),v,none,none])/\∀p∈(c.zip b).take i,BW p.1 p.2=true) ⟨Z,⟨none,Z⟩,λp r=>by simp at r⟩ ?_ ?_⟩
  .rintro i σ g hi ⟨rfl,⟨v,rfl⟩,no⟩;have B:i<c.length:=by lia
   have N:i<b.length:=by lia
   have D:atI (c.map λw=>V.int (unO w)) (0+(i:Int))=some (V.int (unO c[i])):=by rw[T8];exact Ah (by rw[C0,C6 B];rfl)
   have R:atI (b.map V.int) (0+(i:Int))=some (V.int b[i]):=by rw[T8];exact Ah (by rw[C0,C6 N];rfl)
   have G:(c.zip b)[i]?=some (c[i],b[i]):=by rw[V4];exact⟨C6 B,C6 N⟩
   have tk:=SR (X c[i] (S8 B)) b[i];refine xwi Z Z Z (SqT.of h) (Ah (j:=1) Z) (xwi Z Z Z (SqL.of t) D ⟨Z,(xq1 Z ?_)⟩);rw[Jr];have nx:BW c[i] b[i]=true->(∃v,([some (.ref q),some (.ref m),some (.int (0+(i:Int))),none,none]:St)=[some (.ref q),some (.ref m),v,none,none])/\∀p∈(c.zip b).take (i+1),BW p.1 p.2=true:=λh=>⟨⟨_,Z⟩,λp r=>by
    rw[F9,G]at r;rcases F4.mp r with z|z
    .exact no p z
    .have:p=(c[i],b[i]):=by simpa using z
     rw[this];exact h⟩
   by_cases I:unO c[i]=8
   .rw[K0 I]at tk⊢;exact AY (AY ⟨Z,nx (by rw[tk];rfl)⟩)
   .rw[K1 I]at tk⊢;refine BY (xwi Z Z Z (SqT.of h) (Ah (j:=1) Z) (xwi Z Z Z (SqL.of t) D (xwj Z Z Z Z (SqL.of y) R ⟨Z,(xq1 Z ?_)⟩)));rw[Jr];by_cases L:unO c[i]=b[i]
    .rw[K0 L]at tk⊢;exact AY ⟨Z,nx (by rw[tk];rfl)⟩
    .rw[K1 L]at tk⊢;refine BY ?_;have e:Ba.holds b (.pl c)=false:=by
      show(c.zip b).all _=false;rw[List.all_eq_false];exact⟨_,D6 G,by rw[tk];exact D5⟩
     rw[e]at k;exact k
  .rintro σ g ⟨rfl,⟨v,rfl⟩,no⟩;have e:Ba.holds b (.pl c)=true:=by
    show(c.zip b).all _=true;rw[S9];intro p r;have Y:(c.zip b).length=8:=by rw[Y4];lia
    rw[<-Y,J8]at no;exact no p r
   rw[e]at k;exact k
 |@am l o ns h t =>
  refine xwi Z Z Z (SqT.of h) (Ah (j:=0) Z) ⟨Z,(xq1 Z ?_)⟩;rw[pl_am];refine AY ?_;refine xq1 Z ⟨m,Z,⟨_,SqL.of y⟩,MX (xs:=b.map V.int) (λi σ g=>H=g/\∃v,σ=[some (.ref q),some (.ref m),none,some (.int (((b.take i).countP (· == o):Nat):Int)),v]) ⟨Z,none,Z⟩ (λi σ g _ z=>z.1▸SqL.of y) ?_ ?_⟩
  .rintro i x σ g M ⟨rfl,v,rfl⟩;rw[C0]at M;obtain⟨n,S,rfl⟩:=D7.mp M;have e:(((b.take (i+1)).countP (· == o):Nat):Int)=(((b.take i).countP (· == o):Nat):Int)+(if n=o then 1 else 0):=by
    rw[F9,S,List.countP_append];by_cases h:n=o<;>simp[h]
   refine xwj Z Z Z Z (SqT.of h) (Ah (j:=1) Z) ⟨Z,(xq1 Z ?_)⟩;refine Ip (λu=>?_) (λu=>?_)
   .have:n=o:=by
     have:=A0d u;injection this
    refine xwb Z Z Z ⟨Z,some (.int n),?_⟩;rw[e,K2 this];rfl
   .have:¬n=o:=λz=>u (K0 (by rw[z]));refine⟨Z,some (.int n),?_⟩;rw[e,X9 this,O2];rfl
  .rintro σ g ⟨rfl,v,rfl⟩;rw[B8,J8];refine xwj Z Z Z Z (SqT.of h) (Ah (j:=2) Z) ⟨l,(xq1 Z ⟨.inl (SqL.of t),Z,QO _,?_⟩)⟩;show Q (.bl (inV _ _)) H;rw[Se];exact k
inductive SpDe(vs:List V)(H:Hp)(Q:VK):Prop
|mk (q m:R_) (r:AD) (cell:Int) (ar:I_) (_:vs=[.ref q,.int cell,.ref m]) (_:Oh H q r) (_:GF r) (_:H m=some (.lst (ar.map V.int))) (_:ar.length=8) (_:∀H',AA H H'->Q (decV (JB r cell ar)) H'):SpDe vs H Q
def spDe:Sp:=λvs H Q _=>SpDe vs H Q
theorem ok_de(F:Fun K "_law_decides" "_law_decides" Gd f fd)(T:Top K mg a)(cF:Cal P w K mg base CX0 1 "_law_holds" Jl spHo):AL P w K mg base CX0 2 f fd Gr spDe:=by
 refine F.ok Dc D_9 λaa A R s H vs Q E hr h=>?_
 obtain⟨q,m,r,cell,b,rfl,hR,ho,hm,a8,k⟩:=h;obtain⟨cs,O,y⟩:=hR.ex;have ln:cs.length=r.length:=A0e y;have ab:=ho.few;refine⟨_,(Ac (Cv A0b Z (CC Z T.b_range (Aa (AU Ca Z T.b_len A1e (Aa (pv 0) Ae)) Ae)) (Bn (i:=3) Dc.nd Z O_9) (Ac (Ao (i:=4) Dc.nd Z O_9 (Et NG (Aj Ak (Aj Ax (pv 0) (pv 3) R_9) Ab R_9) (BX (Aa (pv 1) (AN Ae))) Z)) (Ac (Cv A0b Z (Ci (Aj Ak (Aj Ax (pv 0) (pv 3) R_9) Ab R_9)) (Bn (i:=5) Dc.nd Z O_9) (Ai (Ao (i:=4) Dc.nd Z O_9 (Jd (pv 4) (JM (As cF (rm hr) Z Aq (Aa (pv 5) (Aa (pv 2) Ae)))))))) (Ai (AQ (Cu (pv 4)) (Ai (Av (pv 3))) AC))))) (Ai (Av Cw))),?_⟩
 try dsimp only[cxK]
 refine xq1 Z ⟨q,(xq1 Z ⟨.inl (SqL.of O),(xq1 Z ⟨by rw[B8];lia,by rw[B8];lia,?_⟩)⟩)⟩;rw[show(((cs.map V.ref).length:Nat):Int).toNat=cs.length by rw[B8,J7]];refine CF (n:=cs.length) (λi σ p=>AA H p/\(∃S U G:Option V,σ=[some (.ref q),some (.int cell),some (.ref m),S,U,G])/\∀c∈r.take i,c.fits cell b=false) ⟨AA.refl H,⟨none,none,none,Z⟩,λc M=>by simp at M⟩ ?_ ?_
 .rintro i σ p N ⟨l,⟨S,U,G,rfl⟩,no⟩;have u:cs[i]?=some cs[i]:=C6 N;obtain⟨c,C,M⟩:=Paired.get y u;have oc:=ho.ok c (D6 C);obtain⟨cl,ds,h1,h2,h3⟩:=(M.same l).ex;have X:atI (cs.map V.ref) (0+(i:Int))=some (.ref cs[i]):=by rw[T8];exact Ah (by rw[C0,u];rfl)
  refine xwj Z Z Z Z (SqL.of (l _ _ O)) X (xq4 Z Z (SqT.of h1) (Ah (j:=0) Z) (xq1 Z ⟨S_2,λt ht=>⟨t,(xq1 Z ⟨.inl (SqL.of Af),Z,Z,?_⟩)⟩⟩));have g:=Ar (o:=.lst [.int cell,.int 8]) ht;have eb:inV (.int (unO c.cell)) [.int cell,.int 8]=BW c.cell cell:=by
   have:=Se (unO c.cell) [cell,8];rw[show([cell,8]:I_).map V.int=[V.int cell,V.int 8]from rfl]at this;rw[this,SR oc.cell];simp only[U2,List.any_nil,Bool.or_false];rw[show decide (cell=unO c.cell)=decide (unO c.cell=cell)from decide_eq_decide.mpr eq_comm,show decide (8=unO c.cell)=decide (unO c.cell=8)from decide_eq_decide.mpr eq_comm,Bool.or_comm]
  show(WS _ _) _ _ _;rw[eb];generalize upd p t (.lst [.int cell,.int 8])=I at g⊢;refine xwj Z Z Z Z (SqL.of (g _ _ (l _ _ O))) X (xq4 Z Z (SqT.of (g _ _ h1)) (Ah (j:=1) Z) ⟨cl,Z,⟨_,SqL.of (g _ _ h2)⟩,?_⟩);refine MX (xs:=ds.map V.ref) (λj σ B=>I=B/\∃v,σ=[some (.ref q),some (.int cell),some (.ref m),some (.int (0+(i:Int))),some (.bl (BW c.cell cell && (c.conds.take j).all (Ba.holds b))),v]) ⟨Z,G,by rw[List.take_zero,List.all_nil,Z6];rfl⟩ (λj σ B _ z=>z.1▸SqL.of (g _ _ h2)) ?_ ?_
  .rintro j x σ B hx ⟨rfl,v,rfl⟩;rw[C0]at hx;obtain⟨W,L,rfl⟩:=D7.mp hx;obtain⟨d,Y,D⟩:=Paired.get h3 L;refine xq1 Z ?_;refine OP (b2:=Ba.holds b d) (λ_ Q' q'=>(xw2 Z Z ⟨W,m,d,b,Z,D.same g,oc.conds d (D6 Y),g _ _ (l _ _ hm),a8,q'⟩)) ?_;refine⟨Z,some (.ref W),?_⟩;rw[F9,Y,List.all_append,Bool.and_assoc];show _=[_,_,_,_,some (V.bl (BW c.cell cell && ((c.conds.take j).all (Ba.holds b) && (Ba.holds b d && true)))),_]
   rw[Z6];rfl
  .rintro σ B ⟨rfl,v,rfl⟩;have ld:ds.length=c.conds.length:=A0e h3;rw[B8,ld,J8];refine xw2 Z Z ?_;show if c.fits cell b=true then _ else _;cases ef:c.fits cell b with
   |true =>
    refine BY (xq1 Z ?_);have e:JB r cell b=some i:=by
     unfold JB;rw[T6];have N:i<r.length:=(B9.mp C).1;refine⟨N,?_,λj hj=>?_⟩
     .rw[(B9.mp C).2];exact ef
     .have:=no r[j] (List.mem_take_iff_getElem.mpr ⟨j,by lia,Z⟩);rw[this];exact D5
    have:=k I (l.trans g);rw[e]at this;show Q (.int (0+(i:Int))) I;rw[T8];exact this
   |false =>
    refine AY ⟨l.trans g,⟨_,_,_,Z⟩,λd D=>?_⟩;rw[F9,C]at D;rcases F4.mp D with z|z
    .exact no d z
    .have:d=c:=by simpa using z
     rw[this];exact ef
 .rintro σ p ⟨l,⟨S,U,G,rfl⟩,no⟩;rw[ln,J8]at no;have e:JB r cell b=none:=by
   unfold JB;rw[V5];exact no
  have:=k p l;rw[e]at this;exact this
inductive SpBe(vs:List V)(H:Hp)(Q:VK):Prop
|mk (q m:R_) (r:AD) (cell:Int) (ar:I_) (_:vs=[.ref q,.int cell,.ref m]) (_:Oh H q r) (_:GF r) (_:H m=some (.lst (ar.map V.int))) (_:ar.length=8) (_:∀H',AA H H'->Q (.int (CH r cell ar)) H'):SpBe vs H Q
def spBe:Sp:=λvs H Q _=>SpBe vs H Q
theorem ok_be(F:Fun K "_law_becomes" "_law_becomes" Gf f fd)(T:Top K mg a)(y:Cal P w K mg base CX0 2 "_law_decides" Gr spDe):AL P w K mg base CX0 3 f fd Gr spBe:=by
 refine F.ok Jw D_9 λz A l s H vs Q E M h=>?_
 obtain⟨q,m,r,cell,p,rfl,v,I,G,x,k⟩:=h;refine⟨_,(Ac (Ao (i:=3) Jw.nd Z O_9 (As y (rm M) Z Aq (Aa (pv 0) (Aa (pv 1) (Aa (pv 2) Ae))))) (Ac (AQ (Az FE (pv 3) Cw (AF _)) (Ai (Av (pv 1))) AC) (Ai (Av (Aj Ak (Aj Ax (pv 0) (pv 3) R_9) Ab R_9))))),?_⟩
 try dsimp only[cxK]
 refine xw3 Z Z Z ⟨q,m,r,cell,p,Z,v,I,G,x,λo n=>?_⟩;refine xq1 Z ⟨Z,(xq1 Z ?_)⟩;cases e:JB r cell p with
 |none =>
  refine BY (xq1 Z ?_);have:=k o n;rw[Nf e]at this;exact this
 |some i =>
  obtain⟨c,u,B⟩:=Nd e;obtain⟨cs,L,g⟩:=(v.same n).ex;obtain⟨t,d⟩:∃t,cs[i]?=some t:=by
   have N:cs.length=r.length:=A0e g;have:i<cs.length:=by rw[N];exact(B9.mp u).1
   exact⟨_,C6 this⟩
  obtain⟨O,b,D⟩:=Paired.get g d;rw[u]at b;cases b;obtain⟨cl,ds,C,_⟩:=D.ex;refine AY (xwj Z Z Z Z (SqL.of L) (Ah (by rw[C0,d];rfl)) (xq4 Z Z (SqT.of C) (Ah (j:=2) Z) ?_));have:=k o n;rw[B]at this;exact this
end
theorem Wb{ds:H_}{vs:I_}(h:vs≠[]):ds.map V.ref≠vs.map V.int:=λz=>by
 cases vs with
 |nil=>exact h Z
 |cons v r =>
  cases ds with
  |nil=>simp at z
  |cons d q=>simp at z
theorem Da.put{H:Hp}{l q:R_}{ds:H_}{o:HO}{d:Ba}(i:H l=some (.lst (ds.map V.ref)))(h:Da H q d)(ok:d.ok):Da (upd H l o) q d:=by
 have a:∀{b v},H b=some v->v≠.lst (ds.map V.ref)->upd H l o b=some v:=λ{b v} e n=>by rw[Aw (AH e i n)];exact e
 cases h with
 |@am j s ns h c=>exact .am (a h A4) (a c λz=>Wb ok.2.1 (HO.lst.inj z).symm)
 |@pl j f h c =>
  refine .pl (a h A4) (a c λz=>?_);have g:=(HO.lst.inj z).symm;rw[show(f.map λw=>V.int (unO w))=(f.map unO).map V.int by rw[N4];rfl]at g;refine Wb (ds:=ds) (λq=>?_) g;have:=A0c List.length q;rw[B8,ok.1]at this;cases this
theorem Paired.impMem{α β:Type}{F G:α->β->Prop}:∀{l:List α}{m:List β},(∀x y,y∈m->F x y->G x y)->Paired F l m->Paired G l m
|_,_,_,.nil=>.nil
|_,_,h,.cons r t=>.cons (h _ _ C9 r) (Paired.impMem (λx y a=>h x y (C8 _ a)) t)
def Qx(l0:R_)(H:Hp)(q:R_)(c:AT):Prop:=∃(l:R_)(ds:H_),l≠l0/\H q=some (.tup [.int (unO c.cell),.ref l,.int c.makes])/\H l=some (.lst (ds.map V.ref))/\Paired (Da H) ds c.conds
theorem Qx.at{a:R_}{H:Hp}{q:R_}{c:AT}(h:Qx a H q c):Rh H q c:=by
 obtain⟨l,ds,_,r⟩:=h;exact⟨l,ds,r⟩
theorem Qx.same{b:R_}{H a:Hp}{q:R_}{c:AT}(s:AA H a)(h:Qx b H q c):Qx b a q c:=by
 obtain⟨l,ds,n,d,e,f⟩:=h;exact⟨l,ds,n,s _ _ d,s _ _ e,Paired.imp (λ_ _ z=>z.same s) f⟩
theorem Qx.put{a:R_}{H:Hp}{q:R_}{c:AT}{cs:H_}{o:HO}(d:H a=some (.lst (cs.map V.ref)))(h:Qx a H q c)(ok:c.ok):Qx a (upd H a o) q c:=by
 obtain⟨l,ds,n,b,e,f⟩:=h;refine⟨l,ds,n,?_,?_,Paired.impMem (λx y g z=>z.put d (ok.conds y g)) f⟩
 .rw[Aw (AH b d A4)];exact b
 .rw[Aw n];exact e
def c00:AT:=⟨some 0,[.am 0 [8]],0⟩
theorem c00_ok:c00.ok where
 cell:=⟨by decide,by decide⟩
 makes:=⟨by decide,by decide⟩
 few:=by show 1<=50;decide
 conds:=λd a=>by
  rw[D4.mp a];exact⟨⟨by decide,by decide⟩,by simp,λn b=>by rw[D4.mp b];exact⟨by decide,by decide⟩,List.pairwise_singleton _ _⟩
theorem c00_rest(r:AD):CH (c00::r) 0 BV=0:=by
 unfold CH;rw[Q6];have:c00.fits 0 BV=true:=by decide
 rw[this];rfl
section
variable{P:N_}{w:Q_}{K:O_}{mg:C_}{base:T_}{a:Ad}
inductive SpCl(vs:List V)(H:Hp)(Q:VK):Prop
|mk (m:R_) (sd j:Int) (_:vs=[.ref m,.int sd,.int j]) (_:YI H m) (_:0<=j) (_:j<=800000) (_:∀(q l:R_)(ds:H_)(c:AT)(H':Hp),AA H H'->H l=none->H' q=some (.tup [.int (unO c.cell),.ref l,.int c.makes])->H' l=some (.lst (ds.map V.ref))->Paired (Da H') ds c.conds->c.ok->Q (.ref q) H'):SpCl vs H Q
def spCl:Sp:=λvs H Q _=>SpCl vs H Q
theorem ok_cl(F:Fun K "_law_clause_by" "_law_clause_by" EO f fd)(T:Top K mg a)(G:Cal P w K mg base CX0 1 "_law_mix" Jk VQ)(aK:Cal P w K mg base CX0 1 "_law_state_by" Os spSt)(b6:Cal P w K mg base CX0 2 "_law_condition_by" DD spCo) :
 AL P w K mg base CX0 3 f fd DD spCl:=by
 refine F.ok Co D_9 λaa A W s H vs Q E u h=>?_
 obtain⟨m,B,j,rfl,⟨S,U,M,R,C⟩,h0,h1,k⟩:=h;let J1:St->Hp->Prop:=fun σ r=>∃x:Option Int,σ=[some (.ref m),some (.int B),some (.int j),some (.int (unO x)),none,none]/\wOk x/\H=r;refine⟨_,(Ac (Ao (i:=3) Co.nd Z O_9 Ab) (Ac (ps_ifJ J1 (Az Oc (AB Bc (As G (rm u) Z Aq (Aa (pv 1) (Aa (pv 2) Ae))) Ab) Ab (AF _)) (Ai (Ao (i:=3) Co.nd Z O_9 (As aK (rm u) Z Aq (Aa (pv 0) (Aa (As G (rm u) Z Aq (Aa (pv 1) (AV AO (pv 2) Ab Ae))) Ae))))) AC) (Ac (Ao (i:=4) Co.nd Z O_9 (BX Ae)) (Ac (Cv A0b Z (CC Z T.b_range (AV Bc (As G (rm u) Z Aq (Aa (pv 1) (AV AO (pv 2) Ab Ae))) Ab Ae)) (Bn (i:=5) Co.nd Z O_9) (Ai (BJ (De K8 K9 A0a BF (pv 4) (Aa (As b6 (rm u) Z Aq (Aa (pv 0) (Aa (pv 1) (AV AO (pv 2) (AB DE Ab (AB AO (pv 5) Ab)) Ae)))) Ae))))) (Ai (Av (CD (Aa (pv 3) (Aa (pv 4) (Aa (As aK (rm u) Z Aq (Aa (pv 0) (Aa (As G (rm u) Z Aq (Aa (pv 1) (AV AO (pv 2) Ab Ae))) Ae))) Ae)))))))))),?_⟩
 try dsimp only[cxK]
 refine⟨(xw2 Z Z ⟨B,j,Z,h0,by lia,λv hv=>(xq2 Z Z ⟨B6,(xq2 Z Z (xq1 Z ?_))⟩)⟩),?_⟩
 .refine Ip (λ_=>?_) (λ_=>?_)
  .exact xq1 Z (xq1 Z (xq1 Z (xq2 Z Z ⟨B,_,Z,by lia,by lia,λY O=>⟨m,S,U,Y,Z,M,R,C,λd t=>⟨some d,Z,t,Z⟩⟩⟩)))
  .exact⟨none,Z,trivial,Z⟩
 .rintro σ r ⟨x,rfl,ox,rfl⟩;refine⟨S_0,λl L=>?_⟩;refine xq1 Z (xq1 Z (xq2 Z Z ⟨B,_,Z,by lia,by lia,λv hv=>?_⟩));obtain⟨n,ab⟩:=F8 (show 0<=v%4 by lia);refine xq2 Z Z ⟨B6,(xq1 Z ⟨by lia,by lia,?_⟩)⟩;rw[show(v%4).toNat=n by lia];refine CF (n:=n) (λi σ r=>∃(ds:H_)(cn:List Ba)(X:Option V),σ=[some (.ref m),some (.int B),some (.int j),some (.int (unO x)),some (.ref l),X]/\AA H r/\r l=some (.lst (ds.map V.ref))/\Paired (Da r) ds cn/\cn.length=i/\∀d∈cn,d.ok)
   ⟨[],[],none,Z,Ar L,Af,.nil,Z,λd t=>by simp at t⟩ ?_ ?_
  .rintro i σ r hi ⟨ds,cn,X,rfl,D,c,I,N,g⟩;have ld:=A0e I;refine xq1 Z ⟨.inl ⟨Z,_,SqL.of c⟩,_,Z,_,Z,_,Z,_,Z,_,_,Z,Z,_,_,Z,Z,.inl ⟨by decide,by decide⟩,_,_,Z,Z,m,B,_,Z,⟨S,U,D _ _ M,R,C⟩,by lia,by lia,λq d H3 p t od=>?_⟩;refine⟨l,_,_,Z,Z,p _ _ c,by rw[B8,ld,N];exact F5 hi (Dp A0),?_⟩;refine⟨ds++[q],cn++[d],(xq1 Z ⟨λb o e=>?_,?_,?_,by rw[C5,N];rfl,λe he=>?_⟩)⟩
   .rw[Aw (Ay e L)];exact p _ _ (D _ _ e)
   .rw[Af,C7];rfl
   .refine A2d (Paired.impMem (λx' y C z=>(z.same p).put (p _ _ c) (g y C)) I) (t.put (p _ _ c) od)
   .rcases F4.mp he with z|z
    .exact g e z
    .rw[D4.mp z];exact od
  .rintro σ r ⟨ds,cn,X,rfl,D,c,I,N,g⟩;refine xq1 Z (xq1 Z (xq1 Z (xq1 Z (xq1 Z (xq2 Z Z ⟨B,_,Z,by lia,by lia,λY O=>⟨m,S,U,Y,Z,D _ _ M,R,C,λd t=>⟨S_3,λq hq=>?_⟩⟩⟩)))));have p:=Ar (o:=.tup [.int (unO x),.ref l,.int d]) hq;exact k q l ds ⟨x,cn,d⟩ _ (D.trans p) L Af (p _ _ c) (Paired.imp (λ_ _ z=>z.same p) I) ⟨ox,t,(by show cn.length<=50;lia),g⟩
inductive SpCs(K:O_)(vs:List V)(H:Hp)(Q:VK):Prop
|mk (l:R_) (ns:I_) (ft mn:Int) (_:vs=[.ref l,.int ft,.int mn]) (_:SqL K H l (ns.map V.int)) (_:0<=ft) (_:0<=mn) (_:mn<=40) (_:∀(q:R_)(r:AD)(H':Hp),AA H H'->Oh H' q r->GF r->CH r 0 BV=0->mn<=r.length->r.length<=mn+1->Q (.ref q) H'):SpCs K vs H Q
def spCs(K:O_):Sp:=λvs H Q _=>SpCs K vs H Q
theorem ok_cs(F:Fun K "_law_clauses_by" "_law_clauses_by" Ep f fd)(T:Top K mg a)(aB:Cal P w K mg base CX0 1 "_law_at" Ym (WU K))(bI:Cal P w K mg base CX0 3 "_law_clause_by" DD spCl)(bS:Cal P w K mg base CX0 3 "_law_becomes" Gr spBe) :
 AL P w K mg base CX0 4 f fd Ez (spCs K):=by
 refine F.ok Cf D_9 λaf A ae s H vs Q E U h=>?_
 obtain⟨l,ns,p,mn,rfl,hS,h0,m0,ah,k⟩:=h;refine⟨_,(Ac (Ao (i:=3) Cf.nd Z O_9 (CD (AV Bc (As aB (rm U) Z Aq (Aa (pv 0) (Aa (pv 1) Ae))) Ab (AV Bc (As aB (rm U) Z Aq (Aa (pv 0) (AV AO (pv 1) Ab Ae))) Ab Ae)))) (Ac (Ao (i:=4) Cf.nd Z O_9 (BX Ae)) (Ac (Cv A0b Z (CC Z T.b_range (Aa (pv 2) Ae)) (Bn (i:=5) Cf.nd Z O_9) (Ai (BJ (De K8 K9 A0a BF (pv 4) (Aa (As bI (rm U) Z Aq (Aa (pv 3) (Aa (As aB (rm U) Z Aq (Aa (pv 0) (AV AO (AB AO (pv 1) Ab) (pv 5) Ae))) (AV DE Ab (pv 5) Ae)))) Ae))))) (Ac (AQ (Az JY (As bS (rm U) Z Aq (Aa (pv 4) (AN (UQ (AN (AN (AN (AN (AN (AN (AN (AN Ae)))))))) Ae)))) Ab (AF _)) (Ai (Ao (i:=4) Cf.nd Z O_9 (AB RG (BX (Bp (AN (UQ (Bp (ND (AN (UQ (AN Ae) Ae))) Ae) (AN Ae))) Ae)) (pv 4)))) AC) (Ai (Av (pv 4))))))),?_⟩
 try dsimp only[cxK]
 refine xw2 Z Z ⟨l,ns,p,Z,hS,h0,?_⟩;refine xq2 Z Z ⟨B5,(xq1 Z ?_)⟩;refine xq1 Z (xq2 Z Z ⟨l,ns,_,Z,hS,by lia,?_⟩);refine⟨_,_,Z,Z,B5,S_2,λm hm=>?_⟩;have s1:=Ar (o:=.tup [.int (atN ns p%8),.int (atN ns (p+1)%8)]) hm;have hM:YI (upd H m (.tup [.int (atN ns p%8),.int (atN ns (p+1)%8)])) m:=⟨_,_,Af,⟨by lia,by lia⟩,⟨by lia,by lia⟩⟩
 have I:AA H (upd H m (.tup [.int (atN ns p%8),.int (atN ns (p+1)%8)])):=s1;show(WS _ _) _ _ (upd H m (.tup [.int (atN ns p%8),.int (atN ns (p+1)%8)]));generalize upd H m (.tup [.int (atN ns p%8),.int (atN ns (p+1)%8)])=H1 at s1 I hM⊢;refine⟨S_0,λcl R=>?_⟩;obtain⟨n,rfl⟩:=F8 m0;refine xw2 Z Z ⟨by lia,by lia,?_⟩;rw[J7];refine CF (n:=n) (λi σ B=>∃(cs:H_)(r:AD)(u5:Option V),σ=[some (.ref l),some (.int p),some (.int n),some (.ref m),some (.ref cl),u5]/\AA H1 B/\B cl=some (.lst (cs.map V.ref))/\Paired (Qx cl B) cs r/\r.length=i/\∀c∈r,c.ok)
  ⟨[],[],none,Z,Ar R,Af,.nil,Z,λd hd=>by simp at hd⟩ ?_ ?_
 .rintro i σ B hi ⟨cs,r,u5,rfl,Y,g,pr,hn,u⟩;have ld:=A0e pr;have aa:SqL K B l (ns.map V.int):=(I.trans Y).seq hS;refine xq1 Z ⟨.inl ⟨Z,_,SqL.of g⟩,_,Z,_,Z,_,Z,_,_,Z,Z,_,Z,_,_,Z,Z,l,ns,_,Z,aa,by lia,_,Z,_,_,Z,Z,.inl ⟨by decide,by decide⟩,m,_,_,Z,hM.same Y,by lia,by lia,λq l' ds c H3 x nl e1 e2 e3 oc=>?_⟩;refine⟨cl,_,_,Z,Z,x _ _ g,by rw[B8,ld,hn];exact F5 hi (Dp A0),?_⟩;have ad:l'≠cl:=λz=>by rw[z,g]at nl;cases nl
  refine⟨cs++[q],r++[c],(xq1 Z ⟨λb o e=>?_,?_,?_,by rw[C5,hn];rfl,λe he=>?_⟩)⟩
  .rw[Aw (Ay e R)];exact x _ _ (Y _ _ e)
  .rw[Af,C7];rfl
  .refine A2d (Paired.impMem (λx' y hy z=>(z.same x).put (x _ _ g) (u y hy)) pr) (Qx.put (x _ _ g) ⟨l',ds,ad,e1,e2,e3⟩ oc)
  .rcases F4.mp he with z|z
   .exact u e z
   .rw[D4.mp z];exact oc
 .rintro σ B ⟨cs,r,u5,rfl,Y,g,pr,hn,u⟩;have hR:Oh B cl r:=⟨cs,g,Paired.imp (λ_ _ z=>z.at) pr⟩
  have rk:GF r:=⟨by lia,u⟩
  refine xq1 Z ⟨(by show 8<=sizeLine;decide),λz8 ac=>?_⟩;have x:=Ar (o:=.lst (BV.map V.int)) ac;refine⟨cl,z8,r,0,BV,Z,hR.same x,rk,Af,Z,λH4 s4=>?_⟩;have X:AA H H4:=((I.trans Y).trans x).trans s4;have N:=(hR.same x).same s4;refine⟨Z,(xq1 Z ?_)⟩;rw[Jr];by_cases hz:CH r 0 BV=0
  .rw[K0 hz];exact AY (xq1 Z (k cl r H4 X N rk hz A0 A0))
  .rw[K1 hz];refine BY ?_;refine⟨S_1,λb1 ab=>⟨S_3,λb2 O=>⟨S_1,λL G=>⟨S_3,λD v=>⟨S_1,λb5 t=>?_⟩⟩⟩⟩⟩;generalize j:upd (upd (upd (upd (upd H4 b1 (.lst [.int 8])) b2 (.tup [.str (Str.ofString "amount"),.int 0,.ref b1])) L (.lst [.ref b2])) D (.tup [.int 0,.ref L,.int 0])) b5 (.lst [.ref D])=C;have s5:AA H4 C:=by rw[<-j];exact(((Ar ab).trans (Ar O)).trans (Ar G)).trans ((Ar v).trans (Ar t))
   have e1:C b1=some (.lst [.int 8]):=by rw[<-j];exact Ar t _ _ (Ar v _ _ (Ar G _ _ (Ar O _ _ Af)))
   have e2:C b2=some (.tup [.str (Str.ofString "amount"),.int 0,.ref b1]):=by rw[<-j];exact Ar t _ _ (Ar v _ _ (Ar G _ _ Af))
   have e3:C L=some (.lst [.ref b2]):=by rw[<-j];exact Ar t _ _ (Ar v _ _ Af)
   have e4:C D=some (.tup [.int 0,.ref L,.int 0]):=by rw[<-j];exact Ar t _ _ Af
   have e5:C b5=some (.lst [.ref D]):=by rw[<-j];exact Af
   obtain⟨M,S,W⟩:=(N.same s5).ex;have ag:=A0e W;refine xq1 Z ⟨b5,cl,(xq2 Z Z ⟨e5,S,Dp (by simp only[F2,R9,B8];lia),λq hq=>?_⟩)⟩;have s6:=Ar (o:=.lst ([V.ref D]++M.map V.ref)) hq;have c0:Rh C D c00:=⟨L,[b2],e4,e3,.cons (.am (ns:=[8]) e2 e1) .nil⟩
   refine xq1 Z (k q (c00::r) _ ((X.trans s5).trans s6) ⟨D::M,Af,.cons (c0.same s6) (Paired.imp (λ_ _ z=>z.same s6) W)⟩ ⟨by rw[F2];lia,λc hc=>?_⟩ (c00_rest r) (by rw[F2];lia) (by rw[F2];lia));rcases C3.mp hc with z|z
   .rw[z];exact c00_ok
   .exact u c z
end
theorem AA.noneN{H a:Hp}(s:AA H a){x:R_}(n:a x=none):H x=none:=by
 cases e:H x with
 |none=>rfl
 |some o=>rw[s _ _ e]at n;cases n
theorem PL{T:St->Hp->Prop}{C:Prop}(P:St->Hp->Prop)(h:(∀σ H,P σ H->T σ H)->C)(k:∀σ H,P σ H->T σ H):C:=h k
structure MA where
tp:Addr
l:Addr
kc:Addr
ds:List Addr
def jf2(gp mem:R_):List (Str×V):=AZ "memories" (.ref mem) (AZ "grove" (.ref gp) [])
def jf5(gp mem pr l kc:R_):List (Str×V):=AZ "known_cells" (.ref kc) (AZ "known_squares" (.ref l) (AZ "rule" (.ref pr) (jf2 gp mem)))
theorem jf2_mem(a mem:R_):(jf2 a mem).lookup ("memories" : Str)=some (V.ref mem):=by
 unfold jf2;rw[Am,K2 rfl]
theorem jf2_no(a mem:R_){m:Str}(b:¬m=("memories" : Str))(c:¬m=("grove" : Str)):(jf2 a mem).lookup m=none:=by
 unfold jf2;rw[Am,X9 b,Am,X9 c];rfl
section
variable(gp mem pr l kc:R_)
theorem jf5_kc:(jf5 gp mem pr l kc).lookup ("known_cells" : Str)=some (V.ref kc):=by
 unfold jf5;rw[Am,K2 rfl]
theorem jf5_ks:(jf5 gp mem pr l kc).lookup ("known_squares" : Str)=some (V.ref l):=by
 unfold jf5;rw[Am,X9 A1,Am,K2 rfl]
theorem jf5_ru:(jf5 gp mem pr l kc).lookup ("rule" : Str)=some (V.ref pr):=by
 unfold jf5;rw[Am,X9 A1,Am,X9 A1,Am,K2 rfl]
theorem DY:(jf5 gp mem pr l kc).lookup ("grove" : Str)=some (V.ref gp):=by
 unfold jf5 jf2;rw[Am,X9 A1,Am,X9 A1,Am,X9 A1,Am,X9 A1,Am,K2 rfl]
theorem Mt{m:Str}(a:¬m=("known_cells" : Str))(b:¬m=("known_squares" : Str))(c:¬m=("rule" : Str))(d:¬m=("memories" : Str))(e:¬m=("grove" : Str)):(jf5 gp mem pr l kc).lookup m=none:=by
 unfold jf5;rw[Am,X9 a,Am,X9 b,Am,X9 c,jf2_no _ _ d e]
theorem Yg:(jf5 gp mem pr l kc).lookup ("after" : Str)=none:=Mt _ _ _ _ _ A1 A1 A1 A1 A1
theorem Yf:(jf5 gp mem pr l kc).lookup ("check_jump" : Str)=none:=Mt _ _ _ _ _ A1 A1 A1 A1 A1
theorem MO:(jf5 gp mem pr l kc).lookup ("reckoned" : Str)=none:=Mt _ _ _ _ _ A1 A1 A1 A1 A1
theorem Ye:(jf5 gp mem pr l kc).lookup ("fresh" : Str)=none:=Mt _ _ _ _ _ A1 A1 A1 A1 A1
theorem ZV:(jf5 gp mem pr l kc).lookup ("four_halfway" : Str)=none:=Mt _ _ _ _ _ A1 A1 A1 A1 A1
theorem noJ_mid:(jf5 gp mem pr l kc).lookup ("middle_after" : Str)=none:=Mt _ _ _ _ _ A1 A1 A1 A1 A1
theorem ZW:(jf5 gp mem pr l kc).lookup ("cell_after" : Str)=none:=Mt _ _ _ _ _ A1 A1 A1 A1 A1
end
inductive Nv:HO->Prop
|tup {xs:List V}:Nv (.tup xs)
|ins {C dx:R_} {fs:List (Str×V)} (h1:1<=fs.length) (h2:fs.length<=3):Nv (.ins C dx fs)
theorem OD(f:Str)(v:V):∀fs:List (Str×V),1<=(AZ f v fs).length
|[]=>C1 1
| (g,x)::r=>by
 unfold AZ;split
 .rw[F2];lia
 .rw[F2];lia
theorem DG.kp{a:Ad}{H e:Hp}{p:R_}{c:Ba}(k:∀b o,H b=some o->Nv o->e b=some o)(h:DG a H p c):DG a e p c:=by
 cases h with
 |am h d=>exact .am (k _ _ h (.ins (OD _ _ _) (D0 (BH _ _ _) (P6 (D0 (BH _ _ _) (by show 0+1<=2;decide)))))) (k _ _ d .tup)
 |pl h d=>exact .pl (k _ _ h (.ins (OD _ _ _) (D0 (BH _ _ _) (by show 0+1<=3;decide)))) (k _ _ d .tup)
theorem Ch.kp{a:Ad}{H d:Hp}{p:R_}{c:AT}(k:∀b o,H b=some o->Nv o->d b=some o)(h:Ch a H p c):Ch a d p c:=by
 obtain⟨dx,t,cs,e,f,g⟩:=h.ex;exact⟨dx,t,cs,k _ _ e (.ins (OD _ _ _) (D0 (BH _ _ _) (P6 (D0 (BH _ _ _) (P6 (D0 (BH _ _ _) (by show 0+1<=1;decide))))))),k _ _ f .tup,Paired.imp (λ_ _ z=>z.kp k) g⟩
theorem CZ.kp{a:Ad}{H c:Hp}{p:R_}{x:Str}{r:AD}(k:∀b o,H b=some o->Nv o->c b=some o)(h:CZ a H p x r):CZ a c p x r:=by
 obtain⟨dx,t,cs,d,e,f⟩:=h.ex;exact⟨dx,t,cs,k _ _ d (.ins (OD _ _ _) (D0 (BH _ _ _) (P6 (D0 (BH _ _ _) (by show 0+1<=2;decide))))),k _ _ e .tup,Paired.imp (λ_ _ z=>z.kp k) f⟩
def mK(ms:List (Str×MA)):List (Key×V):=ms.map λe=>(Sum.inr e.1,V.ref e.2.tp)
theorem Wk(t:Str):∀a:List (Str×MA),(∃m,(t,m)∈a/\Br (mK a) (Sum.inr t)=some (.ref m.tp))\/(Br (mK a) (Sum.inr t)=none/\∀e∈a,e.1≠t)
|[]=>.inr ⟨Z,λe d=>nomatch d⟩
|e::r=>by
 by_cases h:e.1=t
 .refine .inl ⟨e.2,?_,?_⟩
  .rw[<-h];exact C9
  .exact BN (p:=(Sum.inr e.1,V.ref e.2.tp)) (r:=mK r) (by rw[h])
 .have n:Br (mK (e::r)) (Sum.inr t)=Br (mK r) (Sum.inr t):=BB (p:=(Sum.inr e.1,V.ref e.2.tp)) (r:=mK r) λz=>h (Sum.inr.inj z);rcases Wk t r with ⟨m,b,c⟩|⟨b,c⟩
  .exact .inl ⟨m,C8 _ b,n.trans c⟩
  .refine .inr ⟨n.trans b,λx f=>?_⟩;rcases C3.mp f with z|z
   .rw[z];exact h
   .exact c x z
inductive ChgR(H H':Hp)(t:Str)(ms ms':List (Str×MA))(m:MA):Prop
|old (_:(t,m)∈ms) (_:ms'=ms):ChgR H H' t ms ms' m
|new (_:ms'=ms++[(t,m)]) (_:∀e∈ms,e.1≠t) (_:H m.tp=none/\H m.l=none/\H m.kc=none/\∀d∈m.ds,H d=none) (_:H' m.tp=some (.tup [.ref m.l,.ref m.kc])) (_:H' m.l=some (.lst (m.ds.map V.ref))) (_:H' m.kc=some (.dT [])) (_:∀d∈m.ds,H' d=some (.dK [])) (_:m.ds.length=47) (_:m.ds.Nodup):ChgR H H' t ms ms' m
section
variable{P:N_}{w:Q_}{K:O_}{mg:C_}{base:T_}{a:Ad}
inductive SpShow(a:Ad)(vs:List V)(H:Hp)(Q:VK):Prop
|mk (p:R_) (t:Str) (r:AD) (_:vs=[.ref p]) (_:CZ a H p t r) (_:Q (.str t) H):SpShow a vs H Q
def UB(a:Ad):Sp:=λvs H Q _=>SpShow a vs H Q
theorem ok_show(F:Fun K "shown_rule" "shown_rule" IL f fd)(T:Top K mg a):AL P w K mg base CX0 1 f fd RJ (UB a):=by
 refine F.ok Qe D_9 λc A b s H vs Q E j h=>?_
 obtain⟨p,t,r,rfl,e,k⟩:=h;obtain⟨dx,l,cs,d,g,i⟩:=e.ex;refine⟨_,(Ai (Av (AE (pv 0) Z))),?_⟩
 try dsimp only[cxK]
 exact xwf Z Z d T.cl_Rule T.na_Rule_text (fl2_1 A1) k
inductive SpChg(a:Ad)(vs:List V)(H:Hp)(Q:VK):Prop
|mk (p dx mem pr:R_) (fs:List (Str×V)) (t:Str) (r:AD) (ms:List (Str×MA)) (_:vs=[.ref p,.ref pr]) (_:H p=some (.ins a.c_Jumps dx fs)) (_:fs.lookup ("memories" : Str)=some (.ref mem)) (_:fs.length<=10) (_:H mem=some (.dK (mK ms))) (_:ms.length<=1000) (_:∀e∈ms,H e.2.tp=some (.tup [.ref e.2.l,.ref e.2.kc])) (_:CZ a H pr t r) (_:∀(H':Hp)(m:MA)(ms':List (Str×MA)),(∀b o,H b=some o->b≠p->b≠mem->H' b=some o)->H' p=some (.ins a.c_Jumps dx (AZ "known_cells" (.ref m.kc) (AZ "known_squares" (.ref m.l) (AZ "rule" (.ref pr) fs))))->H' mem=some (.dK (mK ms'))->ChgR H H' t ms ms' m->Q .non H'):SpChg a vs H Q
def Zm(a:Ad):Sp:=λvs H Q _=>SpChg a vs H Q
theorem ok_chg(F:Fun K "change" "Jumps.change" Es f fd)(T:Top K mg a)(cD:Cal P w K mg base CX0 1 "shown_rule" RJ (UB a)):AL P w K mg base CX0 2 f fd Gx (Zm a):=by
 refine F.ok Jx D_9 λaz A ay s H vs Q E hr h=>?_
 obtain⟨p,dx,mem,B,fs,t,r,I,rfl,hp,C,a0,hm,few,ac,hR,k⟩:=h;refine⟨_,(Ac (Ao (i:=2) Jx.nd Z O_9 (As cD (rm hr) Z Aq (Aa (pv 1) Ae))) (Ac (AQ (pt_cmp (WX (EC hr) (pv 2) (AE (pv 0) Z))) (Ai (FM (EC hr) (AE (pv 0) Z) (pv 2) (CD (Aa (Ck Z (BE.of (So:=Al Es) (No:=Lg) (N:=["e"]) (k:=1) (cs:=[]) Z Z A1) (CC Z T.b_range (AV BI (Cj Z T.k_TOP_LEVEL) Ab Ae)) (λ_ _ _=>(Bg (i:=0) A1 Z Z)) (λ_ _ _=>BL) (λ_ _ _=>JN)) (Aa MJ Ae))) Z)) AC) (Ac (CT (pv 0) (pv 1) Z) (Ac (CT (pv 0) (Aj Ak (RD (EC hr) (AE (pv 0) Z) (pv 2) R_9) Ab R_9) Z) (Ai (CT (pv 0) (Aj Ak (RD (EC hr) (AE (pv 0) Z) (pv 2) R_9) Ab R_9) Z)))))),?_⟩
 try dsimp only[cxK]
 have O:p≠mem:=AH hp hm A4;refine xq1 Z ⟨B,t,r,Z,hR,?_⟩;apply PL (fun σ S=>σ=[some (.ref p),some (.ref B),some (.str t)]/\∃(m:MA)(G:List (Str×MA)),(∀b o,H b=some o->b≠mem->S b=some o)/\S mem=some (.dK (mK G))/\Br (mK G) (Sum.inr t)=some (.ref m.tp)/\S m.tp=some (.tup [.ref m.l,.ref m.kc])/\ChgR H S t I G m/\m.tp≠p/\(H m.tp=none->m.l≠p/\m.kc≠p/\∀d∈m.ds,d≠p))
 .intro R;refine xw2 Z Z (xq5 hp T.cl_Jumps T.na_Jumps_memories C ⟨mem,(xq1 Z ⟨IF.k (k:=Sum.inr t) hm,(xq1 Z ?_)⟩)⟩);rcases Wk t I with ⟨m,m1,m2⟩|⟨no,nk⟩
  .rw[m2];refine AY (R _ _ ⟨Z,m,I,λb o e _=>e,hm,m2,ac _ m1,.old m1 Z,AH (ac _ m1) hp A4,λz=>?_⟩);rw[ac _ m1]at z;cases z
  .rw[no];refine BY ?_;refine xq2 Z Z (xq1 Z ⟨by decide,by decide,?_⟩);refine NV (n:=47) (λi W U=>AA H U/\∃ds:List Addr,W=ds.map V.ref/\ds.length=i/\(∀d∈ds,U d=some (.dK []))/\(∀d∈ds,H d=none)/\ds.Nodup) ⟨AA.refl H,[],Z,Z,λd c=>(nomatch c),λd c=>(nomatch c),.nil⟩ ?_ ?_
   .rintro i W U hi ⟨sm,ds,rfl,ln,c1,c2,nd⟩;refine⟨⟨[some (.int (0+(i:Int)))],Z,Z⟩,?_,GQ λd c=>⟨sm.trans (Ar c),ds++[d],by rw[C7];rfl,by rw[C5,ln];rfl,λx hx=>?_,λx hx=>?_,?_⟩⟩
    .rw[B8,ln];exact F5 hi A3
    .rcases F4.mp hx with z|z
     .exact Ar c _ _ (c1 x z)
     .rw[D4.mp z];exact Af
    .rcases F4.mp hx with z|z
     .exact c2 x z
     .rw[D4.mp z];exact AA.noneN sm c
    .rw[Q7];refine⟨nd,by simp,λx hx y hy z=>?_⟩;rw[D4.mp hy]at z;rw[<-z,c1 x hx]at c;cases c
   .rintro W U ⟨sm,ds,rfl,ln,c1,c2,nd⟩ l hl;generalize ad:upd U l _=H3;obtain⟨s3,ar⟩:=alc hl ad;intro v af;generalize ae:upd H3 v _=H4;obtain⟨s4,aq⟩:=alc af ae;refine⟨S_2,λg am=>?_⟩;show ∃_,_;generalize dO:upd H4 g _=H5;obtain⟨s5,al⟩:=alc am dO;have n1:H l=none:=AA.noneN sm hl;have n2:H v=none:=AA.noneN (sm.trans s3) af;have n3:H g=none:=AA.noneN ((sm.trans s3).trans s4) am;have ab:=((sm.trans s3).trans s4).trans s5;have au:=ab _ _ hm;refine xwf Z Z (ab _ _ hp) T.cl_Jumps T.na_Jumps_memories C (xq1 Z ⟨mem,(xq1 Z ⟨LN.k (k:=Sum.inr t) au ?_,?_⟩)⟩)
    .unfold mK;rw[B8];exact F7 few A3
    .rw[Gk _ no];have e6:mK I++[(Sum.inr t,V.ref g)]=mK (I++[(t,⟨g,l,v,ds⟩)]):=by unfold mK;rw[C7];rfl
     rw[e6];have X:∀b o,H5 b=some o->b≠mem->upd H5 mem (.dK (mK (I++[(t,⟨g,l,v,ds⟩)]))) b=some o:=λb o e n=>by rw[Aw n];exact e
     have ai:upd H5 mem (.dK (mK (I++[(t,⟨g,l,v,ds⟩)]))) mem=some (.dK (mK (I++[(t,⟨g,l,v,ds⟩)]))):=Af;generalize upd H5 mem (.dK (mK (I++[(t,⟨g,l,v,ds⟩)])))=H6 at X ai⊢;have nm:∀{x:R_},H x=none->x≠mem:=λz y=>by rw[y,hm]at z;cases z
     have np:∀{x:R_},H x=none->x≠p:=λz y=>by rw[y,hp]at z;cases z
     refine R _ _ ⟨Z,⟨g,l,v,ds⟩,I++[(t,⟨g,l,v,ds⟩)],λb o e n=>X _ _ (ab _ _ e) n,ai,?_,X _ _ al (nm n3),.new Z nk ⟨n3,n1,n2,c2⟩ (X _ _ al (nm n3)) (X _ _ (s5 _ _ (s4 _ _ ar)) (nm n1)) (X _ _ (s5 _ _ aq) (nm n2)) (λd c=>X _ _ (s5 _ _ (s4 _ _ (s3 _ _ (c1 d c)))) (nm (c2 d c))) ln nd,np n3,λ_=>⟨np n1,np n2,λd c=>np (c2 d c)⟩⟩;rw[<-e6];rw[Ri no];exact BN Z
 rintro σ S ⟨rfl,m,G,k1,ag,vv,aw,ao,aa,an⟩;have aj:=k1 _ _ hp O;have lf:fs.length<1000:=by lia
 have put:∀{Hk:Hp}{fs':List (Str×V)}(q:List (Str×V)),Hk p=some (.ins a.c_Jumps dx fs')->(∀b o,Hk b=some o->b≠p->upd Hk p (.ins a.c_Jumps dx q) b=some o)/\upd Hk p (.ins a.c_Jumps dx q) p=some (.ins a.c_Jumps dx q):=λ{Hk fs'} q e=>⟨λb o e n=>by rw[Aw n];exact e,Af⟩
 refine xw2 Z Z ⟨p,_,dx,fs,Z,aj,T.cl_Jumps,T.na_Jumps_rule,lf,?_⟩;obtain⟨k2,L⟩:=put (AZ "rule" (.ref B) fs) aj;generalize upd S p (.ins a.c_Jumps dx (AZ "rule" (.ref B) fs))=U at k2 L⊢;have l2:=BH ("rule" : Str) (.ref B) fs;have D:(AZ "rule" (.ref B) fs).lookup ("memories" : Str)=some (.ref mem):=by rw[Am,X9 A1];exact C
 have ah:=k2 _ _ ag (K6 O);have ak:=k2 _ _ aw aa;refine xwf Z Z L T.cl_Jumps T.na_Jumps_memories D (xq1 Z ⟨mem,.ref m.tp,Z,vv▸IF.k (k:=Sum.inr t) ah,(xq4 Z Z (SqT.of ak) (Ah (j:=0) Z) (xq1 Z ⟨p,_,dx,(xq1 Z ⟨L,T.cl_Jumps,T.na_Jumps_known_squares,by lia,?_⟩)⟩))⟩);obtain⟨k3,M⟩:=put (AZ "known_squares" (.ref m.l) (AZ "rule" (.ref B) fs)) L;generalize upd U p (.ins a.c_Jumps dx (AZ "known_squares" (.ref m.l) (AZ "rule" (.ref B) fs)))=H3 at k3 M⊢;have l3:=BH ("known_squares" : Str) (.ref m.l) (AZ "rule" (.ref B) fs);have Y:(AZ "known_squares" (.ref m.l) (AZ "rule" (.ref B) fs)).lookup ("memories" : Str)=some (.ref mem):=by rw[Am,X9 A1];exact D
 have as:=k3 _ _ ah (K6 O);have ax:=k3 _ _ ak aa;refine xwf Z Z M T.cl_Jumps T.na_Jumps_memories Y (xq1 Z ⟨mem,.ref m.tp,Z,vv▸IF.k (k:=Sum.inr t) as,(xq4 Z Z (SqT.of ax) (Ah (j:=1) Z) (xq1 Z ⟨p,_,dx,(xq1 Z ⟨M,T.cl_Jumps,T.na_Jumps_known_cells,by lia,?_⟩)⟩))⟩);obtain⟨k4,av⟩:=put (AZ "known_cells" (.ref m.kc) (AZ "known_squares" (.ref m.l) (AZ "rule" (.ref B) fs))) M;have u:∀b o,S b=some o->b≠p->upd H3 p (.ins a.c_Jumps dx (AZ "known_cells" (.ref m.kc) (AZ "known_squares" (.ref m.l) (AZ "rule" (.ref B) fs)))) b=some o:=λb o e n=>k4 _ _ (k3 _ _ (k2 _ _ e n) n) n;refine k _ m G (λb o e n1 n2=>u _ _ (k1 _ _ e n2) n1) av (u _ _ ag (K6 O)) ?_;cases ao with
 |old h1 h2=>exact .old h1 h2
 |new h1 h2 h3 h4 h5 h6 h7 h8 h9 =>
  obtain⟨y1,y2,y3⟩:=an h3.1;exact .new h1 h2 h3 (u _ _ h4 aa) (u _ _ h5 y1) (u _ _ h6 y2) (λd c=>u _ _ (h7 d c) (y3 d c)) h8 h9
inductive SD(a:Ad)(vs:List V)(H:Hp)(Q:VK):Prop
|mk (p dx gp pr:R_) (t:Str) (r:AD) (_:vs=[.ref p,.ref gp,.ref pr]) (_:H p=some (.ins a.c_Jumps dx [])) (_:CZ a H pr t r) (_:∀(H':Hp)(mem:R_)(m:MA),(∀b o,H b=some o->b≠p->H' b=some o)->H mem=none->H' p=some (.ins a.c_Jumps dx (jf5 gp mem pr m.l m.kc))->H' mem=some (.dK (mK [(t,m)]))->(H m.tp=none/\H m.l=none/\H m.kc=none/\∀d∈m.ds,H d=none)->H' m.tp=some (.tup [.ref m.l,.ref m.kc])->H' m.l=some (.lst (m.ds.map V.ref))->H' m.kc=some (.dT [])->(∀d∈m.ds,H' d=some (.dK []))->m.ds.length=47->m.ds.Nodup->(∀d∈m.ds,d≠mem)->Q .non H'):SD a vs H Q
def Rq(a:Ad):Sp:=λvs H Q _=>SD a vs H Q
theorem ZL(F:Fun K "__init__" "Jumps.__init__" IS f fd)(T:Top K mg a)(bL:Cd P w K mg base CX0 2 a.c_Jumps "change" Gx (Zm a)):AL P w K mg base CX0 3 f fd RQ (Rq a):=by
 refine F.ok Qi D_9 λaa A R s H vs Q E hr h=>?_
 obtain⟨p,dx,g,Y,t,r,rfl,W,hR,k⟩:=h;refine⟨_,(Ac (CT (pv 0) (pv 1) Z) (Ac (CT (pv 0) JN Z) (Ai (BJ (AJ (pv 0) bL (rm hr) Aq (Aa (pv 2) Ae)))))),?_⟩
 try dsimp only[cxK]
 refine xw2 Z Z ⟨p,_,dx,[],Z,W,T.cl_Jumps,T.na_Jumps_grove,B2,?_⟩;have X:∀b o,H b=some o->b≠p->upd H p (.ins a.c_Jumps dx (AZ "grove" (.ref g) [])) b=some o:=λb o e n=>by rw[Aw n];exact e
 have j:upd H p (.ins a.c_Jumps dx (AZ "grove" (.ref g) [])) p=some (.ins a.c_Jumps dx (AZ "grove" (.ref g) [])):=Af;have C:∀b,upd H p (.ins a.c_Jumps dx (AZ "grove" (.ref g) [])) b=none->H b=none:=λb e=>by
  by_cases z:b=p
  .rw[z,j]at e;cases e
  .rw[Aw z]at e;exact e
 generalize upd H p (.ins a.c_Jumps dx (AZ "grove" (.ref g) []))=H1 at X j C⊢;intro mem c;generalize dU:upd H1 mem _=q;obtain⟨S,L⟩:=alc c dU;have O:mem≠p:=λz=>by rw[z,j]at c;cases c
 refine xq1 Z ⟨p,_,dx,(xq1 Z ⟨S _ _ j,T.cl_Jumps,T.na_Jumps_memories,B3,?_⟩)⟩;have N:∀b o,q b=some o->b≠p->upd q p (.ins a.c_Jumps dx (jf2 g mem)) b=some o:=λb o e n=>by rw[Aw n];exact e
 have l:upd q p (.ins a.c_Jumps dx (jf2 g mem)) p=some (.ins a.c_Jumps dx (jf2 g mem)):=Af;have i:∀b,upd q p (.ins a.c_Jumps dx (jf2 g mem)) b=none->H b=none:=λb e=>by
  by_cases z:b=p
  .rw[z,l]at e;cases e
  .rw[Aw z]at e;exact C _ (AA.noneN S e)
 rw[show AZ ("memories" : Str) (V.ref mem) (AZ ("grove" : Str) (V.ref g) [])=jf2 g mem from rfl];generalize upd q p (.ins a.c_Jumps dx (jf2 g mem))=U at N l i⊢;have B:∀b o,H b=some o->b≠p->U b=some o:=λb o e n=>N _ _ (S _ _ (X _ _ e n)) n;have y:=N _ _ L O;have G:CZ a U Y t r:=by
  refine hR.kp λb o e n=>B _ _ e λz=>?_;rw[z,W]at e;cases e;cases n with
  |ins u _=>cases u
 refine xwn Z Z l (jf2_no _ _ A1 A1) Z ⟨p,dx,mem,Y,jf2 g mem,t,r,[],Z,l,jf2_mem _ _,by rw[show(jf2 g mem).length=2 from rfl];decide,y,L5 _,λe he=>(nomatch he),G,λH' m ab fr M x D=>?_⟩;cases D with
 |old u _=>cases u
 |new u h2 v h4 h5 h6 h7 h8 h9 =>
  rw[u]at x;refine k H' mem m (λb o e n=>fr _ _ (B _ _ e n) n ?_) (C _ c) M x ⟨i _ v.1,i _ v.2.1,i _ v.2.2.1,λd I=>i _ (v.2.2.2 d I)⟩ h4 h5 h6 h7 h8 h9 λd I z=>?_
  .intro z;rw[z]at e;rw[C _ c]at e;cases e
  .have:=v.2.2.2 d I;rw[z,y]at this;cases this
end
def qO(G:Gv)(n k:Nat):Nat:=match G[n]? with
|some q=>(q.parts.getD k 0).toNat
|none=>0
def cel(G:Gv):Nat->Nat->Nat->Nat->Nat
|0,n,_,_=>n
|l+1,n,x,y=>cel G l (qO G n ((x/2^l)%2+2*((y/2^l)%2))) x y
def stp(r:AD)(c:Nat->Nat->Int):Nat->Nat->Int:=λx y=>CH r (c x y) [c (x-1) (y-1),c x (y-1),c (x+1) (y-1),c (x-1) y,c (x+1) y,c (x-1) (y+1),c x (y+1),c (x+1) (y+1)]
def Bu(r:AD):Nat->(Nat->Nat->Int)->Nat->Nat->Int
|0,c=>c
|n+1,c=>stp r (Bu r n c)
def CG(G:Gv)(l n:Nat):Nat->Nat->Int:=λx y=>(cel G l n x y:Int)
def JR(r:AD)(G:Gv)(e n m:Nat):Prop:=∃l:Nat,An G n ((l+2:Nat):Int)/\e<=l/\An G m ((l+1:Nat):Int)/\∀x y,x<2^(l+1)->y<2^(l+1)->CG G (l+1) m x y=Bu r (2^e) (CG G (l+2) n) (x+2^l) (y+2^l)
theorem GOk.four{G:Gv}(ok:GOk G){n l:Nat}(h:An G n ((l+1:Nat):Int)):∃x y z w:Nat,G[n]?=some ⟨[(x:Int),(y:Int),(z:Int),(w:Int)],((l+1:Nat):Int)⟩/\An G x (l:Int)/\An G y (l:Int)/\An G z (l:Int)/\An G w (l:Int):=by
 obtain⟨q,e,a⟩:=h;have i:8<=n:=by
  refine P8 λz=>?_;rw[ok.leaf n z]at e;cases e;have:(0:Int)=((l+1:Nat):Int):=a;lia
 obtain⟨x,y,z,w,p,⟨b,c,d,f⟩,_⟩:=ok.node n q e i;have g:q.lev-1=(l:Int):=by lia
 rw[g]at b c d f;refine⟨x,y,z,w,?_,b,c,d,f⟩;rw[e];cases q with
 |mk k j=>cases p;cases a;rfl
theorem GOk.cell{G:Gv}(ok:GOk G){n:Nat}(h:An G n 0):n<8:=by
 obtain⟨q,e,a⟩:=h;refine V9 λz=>?_;obtain⟨_,_,_,_,_,_,b,_⟩:=ok.node n q e z;lia
theorem EG{G:Gv}{n x y z w:Nat}{l:Int}(e:G[n]?=some ⟨[(x:Int),(y:Int),(z:Int),(w:Int)],l⟩):qO G n 0=x/\qO G n 1=y/\qO G n 2=z/\qO G n 3=w:=by
 unfold qO;rw[e];exact⟨Z,Z,Z,Z⟩
theorem Mi{G:Gv}(ok:GOk G){n l:Nat}(h:An G n ((l+1:Nat):Int)){k:Nat}(f:k<4):An G (qO G n k) (l:Int):=by
 obtain⟨x,y,z,w,e,a,b,c,d⟩:=ok.four h;obtain⟨g,i,j,m⟩:=EG e
 match k,f with
 |0,_=>rw[g];exact a
 |1,_=>rw[i];exact b
 |2,_=>rw[j];exact c
 |3,_=>rw[m];exact d
theorem Uk{G a:Gv}{i:Nat}(ok:GOk G)(go:AI G a i):∀(l n:Nat),An G n (l:Int)->∀x y,cel a l n x y=cel G l n x y
|0,n,_,x,y=>rfl
|l+1,n,h,x,y=>by
 have e:∀k,qO a n k=qO G n k:=λk=>by
  obtain⟨q,e,_⟩:=h;unfold qO;rw[go.get e,e]
 show cel a l (qO a n _) x y=cel G l (qO G n _) x y;rw[e];exact Uk ok go l _ (Mi ok h A0) x y
theorem Dj{G a:Gv}{i:Nat}(ok:GOk G)(go:AI G a i){l n:Nat}(h:An G n (l:Int)):CG a l n=CG G l n:=by
 funext x y
 unfold CG;rw[Uk ok go l n h]
theorem JR.goes{r:AD}{G a:Gv}{i e n m:Nat}(ok:GOk G)(go:AI G a i)(h:JR r G e n m):JR r a e n m:=by
 obtain⟨l,b,d,c,f⟩:=h;refine⟨l,go.lev b,d,go.lev c,λx y g j=>?_⟩;rw[Dj ok go b,Dj ok go c];exact f x y g j
def Bs(G:Gv):Prop:=∀j:Nat,j<48->G[8+j]?=some ⟨[(bareN j:Int),(bareN j:Int),(bareN j:Int),(bareN j:Int)],(j:Int)+1⟩
theorem Bs.goes{G a:Gv}{i:Nat}(h:Bs G)(go:AI G a i):Bs a:=λj b=>go.get (h j b)
theorem Bs.zero{G:Gv}(h:Bs G):∀(l:Nat),l<=48->∀x y,cel G l (bareN l) x y=0
|0,_,x,y=>rfl
|l+1,hl,x,y=>by
 obtain⟨b,c,d,f⟩:=EG (h l A0);have e:∀k,k<4->qO G (8+l) k=bareN l:=λk a=>by
  match k,a with
  |0,_=>exact b
  |1,_=>exact c
  |2,_=>exact d
  |3,_=>exact f
 show cel G l (qO G (8+l) _) x y=0;rw[e _ A0];exact h.zero l A0 x y
theorem ST{r:AD}(h:CH r 0 BV=0):∀k,Bu r k (λ_ _=>0)=λ_ _=>0
|0=>rfl
|k+1=>by
 show stp r (Bu r k _)=_;rw[ST h k]
 funext x y
 exact h
theorem Bs.lev{G:Gv}(ok:GOk G)(h:Bs G):∀l:Nat,l<=48->An G (bareN l) (l:Int)
|0,_=>⟨_,ok.leaf 0 A3,Z⟩
|l+1,hl=>⟨_,h l A0,by show(l:Int)+1=((l+1:Nat):Int);lia⟩
theorem JR.bare{r:AD}{G:Gv}(ok:GOk G)(h:Bs G)(d:CH r 0 BV=0){l e:Nat}(a:l+2<=48)(b:e<=l):JR r G e (bareN (l+2)) (bareN (l+1)):=by
 refine⟨l,h.lev ok _ a,b,h.lev ok _ A0,λx y _ _=>?_⟩;have z:∀k,k<=48->CG G k (bareN k)=λ_ _=>0:=λk c=>by
  funext x y
  unfold CG;rw[h.zero k c x y];rfl
 rw[z _ a,z _ A0,ST d]
theorem bec_st{r:AD}(h:GF r){cell:Int}(f:Iy cell)(a:I_):Iy (CH r cell a):=by
 cases e:JB r cell a with
 |none=>rw[Nf e];exact f
 |some i =>
  obtain⟨c,b,d⟩:=Nd e;rw[d];exact(h.ok c (D6 b)).makes
theorem eight_of:∀xs:List Int,xs.length=8->∃a b c d e f g h,xs=[a,b,c,d,e,f,g,h]
|[a,b,c,d,e,f,g,h],_=>⟨a,b,c,d,e,f,g,h,Z⟩
structure Ju(H:Hp)(g:GA)(G:Gv)(N M:Nat)(r:AD)(m:MA):Prop where
tp:H m.tp=some (.tup [.ref m.l,.ref m.kc])
l:H m.l=some (.lst (m.ds.map V.ref))
ap:m.l≠g.lv/\m.l≠g.pt/\m.kc≠g.nm
len:m.ds.length=47
nd:m.ds.Nodup
sq:∀(e:Nat) d,m.ds[e]?=some d->∃kv,H d=some (.dK kv)/\kv.length<=N/\(∀p∈kv,∃i,p.1=Sum.inl i)/\∀(n:Nat) v,Br kv (Sum.inl (n:Int))=some v->∃k:Nat,v=.int (k:Int)/\JR r G e n k
ce:∃kc,H m.kc=some (.dT kc)/\kc.length<=M/\∀(ks:I_) v,Br kc (kOf ks)=some v->∃c ar,ks=c::ar/\v=.int (CH r c ar)
theorem Ju.mono{H:Hp}{g:GA}{G:Gv}{N M i f:Nat}{r:AD}{m:MA}(h:Ju H g G N M r m)(j:N<=i)(k:M<=f):Ju H g G i f r m:=by
 refine⟨h.tp,h.l,h.ap,h.len,h.nd,λe d n=>?_,?_⟩
 .obtain⟨q,a,b,c,o⟩:=h.sq e d n;exact⟨q,a,D0 b j,c,o⟩
 .obtain⟨p,a,b,c⟩:=h.ce;exact⟨p,a,D0 b k,c⟩
theorem Ju.kp{H p:Hp}{g:GA}{G j:Gv}{N M i:Nat}{r:AD}{m:MA}(h:Ju H g G N M r m)(ok:GOk G)(go:AI G j i)(k:∀b o,H b=some o->b=m.tp\/b=m.l\/b∈m.ds\/b=m.kc->p b=some o):Ju p g j N M r m:=by
 refine⟨k _ _ h.tp (.inl Z),k _ _ h.l (.inr (.inl Z)),h.ap,h.len,h.nd,λe d q=>?_,?_⟩
 .obtain⟨z,a,c,f,w⟩:=h.sq e d q;refine⟨z,k _ _ a (.inr (.inr (.inl (D6 q)))),c,f,λn v y=>?_⟩;obtain⟨x,t,u⟩:=w n v y;exact⟨x,t,u.goes ok go⟩
 .obtain⟨s,a,c,f⟩:=h.ce;exact⟨s,k _ _ a (.inr (.inr (.inr Z))),c,f⟩
structure JW(a:Ad)(H:Hp)(g:GA)(G:Gv)(N M:Nat)(p dx mem pr:R_)(r:AD)(m:MA):Prop where
gr:AM a H g G
ok:GOk G
bs:Bs G
br:H g.br=some (.lst ((Dw 48).map V.int))
nbr:g.br≠g.lv/\g.br≠g.pt
hp:H p=some (.ins a.c_Jumps dx (jf5 g.p mem pr m.l m.kc))
ru:CZ a H pr (Dm r) r
rok:GF r
rest:CH r 0 BV=0
me:Ju H g G N M r m
theorem JW.same{a:Ad}{H c:Hp}{g:GA}{G:Gv}{N M:Nat}{p dx mem d:R_}{r:AD}{m:MA}(s:AA H c)(h:JW a H g G N M p dx mem d r m):JW a c g G N M p dx mem d r m :=
 ⟨h.gr.same s,h.ok,h.bs,s _ _ h.br,h.nbr,s _ _ h.hp,h.ru.same s,h.rok,h.rest,h.me.kp h.ok (AI.refl h.ok) λb o e _=>s _ _ e⟩
theorem JW.mono{a:Ad}{H:Hp}{g:GA}{G:Gv}{N M c b:Nat}{p dx mem d:R_}{r:AD}{m:MA}(h:JW a H g G N M p dx mem d r m)(e:N<=c)(f:M<=b):JW a H g G c b p dx mem d r m :=
 ⟨h.gr,h.ok,h.bs,h.br,h.nbr,h.hp,h.ru,h.rok,h.rest,h.me.mono e f⟩
theorem Ju.fr{a:Ad}{H p:Hp}{g:GA}{G n:Gv}{N M i:Nat}{r:AD}{m:MA}(h:Ju H g G N M r m)(d:AM a H g G)(ok:GOk G)(f:Fr g H p)(go:AI G n i):Ju p g n N M r m:=by
 obtain⟨u,k,_⟩:=d.pt;refine h.kp ok go λb o e w=>?_;rcases w with z|z|z|z
 .have c:=h.tp;rw[<-z,e]at c;cases c;exact f _ _ e (AH e d.lv A4) (AH e k A4) (AH e d.nm A4)
 .have c:=h.l;rw[z]at e⊢;rw[e]at c;cases c;exact f _ _ e h.ap.1 h.ap.2.1 (AH e d.nm A4)
 .obtain⟨j,q⟩:=L9 z;obtain⟨t,c,_⟩:=h.sq j b q;rw[e]at c;cases c;exact f _ _ e (AH e d.lv A4) (AH e k A4) (AH e d.nm A4)
 .obtain⟨s,c,_⟩:=h.ce;rw[z]at e⊢;rw[e]at c;cases c;exact f _ _ e (AH e d.lv A4) (AH e k A4) h.ap.2.2
theorem CZ.fr{a:Ad}{H d:Hp}{g:GA}{G:Gv}{p:R_}{x:Str}{r:AD}(h:CZ a H p x r)(c:AM a H g G)(f:Fr g H d):CZ a d p x r:=by
 obtain⟨j,i,_⟩:=c.pt;exact h.kp λb o e n=>f _ _ e (AH e c.lv (by intro z;rw[z]at n;cases n)) (AH e i (by intro z;rw[z]at n;cases n)) (AH e c.nm (by intro z;rw[z]at n;cases n))
theorem JW.fr{a:Ad}{H c:Hp}{g:GA}{G b:Gv}{N M i:Nat}{p dx mem e:R_}{r:AD}{m:MA}(h:JW a H g G N M p dx mem e r m)(f:Fr g H c)(d:AM a c g b)(go:AI G b i):JW a c g b N M p dx mem e r m:=by
 obtain⟨k,j,_⟩:=h.gr.pt;refine⟨d,go.ok,h.bs.goes go,f _ _ h.br h.nbr.1 h.nbr.2 (AH h.br h.gr.nm A4),h.nbr,f _ _ h.hp (AH h.hp h.gr.lv A4) (AH h.hp j A4) (AH h.hp h.gr.nm A4),h.ru.fr h.gr f,h.rok,h.rest,h.me.fr h.gr h.ok f go⟩
def FrJ(g:GA)(m:MA)(H H':Hp):Prop:=∀b o,H b=some o->b≠g.lv->b≠g.pt->b≠g.nm->b≠m.kc->b∉m.ds->H' b=some o
theorem FrJ.trans{g:GA}{m:MA}{a c d:Hp}(h:FrJ g m a c)(k:FrJ g m c d):FrJ g m a d:=λb o e n1 n2 f i j=>k _ _ (h _ _ e n1 n2 f i j) n1 n2 f i j
theorem Fr.j{g:GA}{m:MA}{a c:Hp}(h:Fr g a c):FrJ g m a c:=λb o e n1 n2 d _ _=>h _ _ e n1 n2 d
theorem AA.j{g:GA}{m:MA}{a c:Hp}(h:AA a c):FrJ g m a c:=λb o e _ _ _ _ _=>h _ _ e
theorem JW.putC{a:Ad}{H:Hp}{g:GA}{G:Gv}{N M:Nat}{p dx mem s:R_}{r:AD}{m:MA}{i:List (List Key×V)}(h:JW a H g G N M p dx mem s r m)(len:i.length<=M+1)(j:∀(ks:I_) v,Br i (kOf ks)=some v->∃c k,ks=c::k/\v=.int (CH r c k)):JW a (upd H m.kc (.dT i)) g G N (M+1) p dx mem s r m:=by
 obtain⟨A,y,_⟩:=h.me.ce;have f:∀{b v},H b=some v->(∀kk,v≠.dT kk)->upd H m.kc (.dT i) b=some v:=λ{b v} e n=>by rw[Aw (AH e y (n _))];exact e
 obtain⟨I,w,x⟩:=h.gr.pt;refine⟨⟨f h.gr.hp B0,f h.gr.lv B0,⟨I,f w B0,PairedM.imp (λt q z=>f z B0) x⟩,by rw[Aw (K6 h.me.ap.2.2)];exact h.gr.nm,h.gr.ne⟩,h.ok,h.bs,f h.br B0,h.nbr,f h.hp B0,h.ru.kp λb o e n=>f e λkk z=>(by rw[z]at n;cases n),h.rok,h.rest,⟨f h.me.tp B0,f h.me.l B0,h.me.ap,h.me.len,h.me.nd,λe d u=>?_,⟨i,Af,len,j⟩⟩⟩;obtain⟨B,C,D,E,F⟩:=h.me.sq e d u;exact⟨B,f C B0,D,E,F⟩
theorem JW.putS{a:Ad}{H:Hp}{g:GA}{G:Gv}{N M:Nat}{p dx mem I:R_}{r:AD}{m:MA}{e:Nat}{d:R_}{u:List (Key×V)}{n k:Nat}(h:JW a H g G N M p dx mem I r m)(C:m.ds[e]?=some d)(E:H d=some (.dK u))(jr:JR r G e n k):JW a (upd H d (.dK (DI u (Sum.inl (n:Int)) (.int (k:Int))))) g G (N+1) M p dx mem I r m:=by
 have c:∀{b v},H b=some v->(∀kk,v≠.dK kk)->upd H d (.dK (DI u (Sum.inl (n:Int)) (.int (k:Int)))) b=some v:=λ{b v} e n=>by rw[Aw (AH e E (n _))];exact e
 obtain⟨S,O,P⟩:=h.gr.pt;obtain⟨Q,c1,c2,c3⟩:=h.me.ce;refine⟨⟨c h.gr.hp B0,c h.gr.lv B0,⟨S,c O B0,PairedM.imp (λt q z=>c z B0) P⟩,c h.gr.nm B0,h.gr.ne⟩,h.ok,h.bs,c h.br B0,h.nbr,c h.hp B0,h.ru.kp λb o e n=>c e λkk z=>(by rw[z]at n;cases n),h.rok,h.rest,⟨c h.me.tp B0,c h.me.l B0,h.me.ap,h.me.len,h.me.nd,λB d' f=>?_,⟨Q,c c1 B0,c2,c3⟩⟩⟩;obtain⟨w,A,R,s,L⟩:=h.me.sq B d' f;by_cases z:B=e
 .rw[z,C]at f;cases f;rw[E]at A;cases A;subst z;refine⟨_,Af,D0 (GN _ _ _) A0,λq i=>?_,λF v j=>?_⟩
  .unfold DI at i;split at i
   .obtain⟨K,D,rfl⟩:=D3.mp i;split
    .exact s K D
    .exact s K D
   .rcases F4.mp i with y|y
    .exact s q y
    .rw[D4.mp y];exact⟨_,Z⟩
  .rw[Fl]at j;split at j
   .rename_i y;have:F=n:=by have:=Sum.inl.inj y;lia
    rw[this];cases j;exact⟨k,Z,jr⟩
   .exact L F v j
 .have x:d'≠d:=λy=>z (by
   rw[y]at f;exact(List.getElem?_inj (B9.mp f).1 h.me.nd).mp (f.trans C.symm))
  exact⟨w,by rw[Aw x];exact A,D0 R A0,s,L⟩
section
variable{P:N_}{w:Q_}{K:O_}{mg:C_}{base:T_}{a:Ad}
inductive SpCel(a:Ad)(vs:List V)(H:Hp)(Q:VK):Prop
|mk (p dx mem pr t:R_) (g:GA) (G:Gv) (N M:Nat) (r:AD) (m:MA) (c:Int) (ar:I_) (_:vs=[.ref p,.ref t]) (_:JW a H g G N M p dx mem pr r m) (_:H t=some (.tup ((c::ar).map V.int))) (_:ar.length=8) (_:∀x∈c::ar,Iy x) (_:M<9000000) (_:∀H',(∀b o,H b=some o->b≠m.kc->H' b=some o)->JW a H' g G N (M+1) p dx mem pr r m->Q (.int (CH r c ar)) H'):SpCel a vs H Q
def VV(a:Ad):Sp:=λvs H Q _=>SpCel a vs H Q
theorem ok_cel(F:Fun K "cell_after" "Jumps.cell_after" CQ f fd)(T:Top K mg a)(bD:Cd P w K mg base CX0 4 a.c_Grove "state_of" Lh (Za a))(aU:Cd P w K mg base CX0 3 a.c_Grove "leaf" RT (Ro a))(bK:Cal P w K mg base CX0 5 "becomes" Mo (VW a)):AL P w K mg base CX0 6 f fd DW (VV a):=by
 refine F.ok Cy D_9 λaf A ad s H vs Q E X h=>?_
 obtain⟨p,dx,mem,pr,t,g,G,N,M,r,m,c,d,rfl,q,ht,h8,aa,few,k⟩:=h;obtain⟨kc,c1,c2,c3⟩:=q.me.ce;have Y:H t=some (.tup ((kOf (c::d)).map kV)):=by rw[kOf_v];exact ht
 refine⟨_,(Ac (Ao (i:=2) Cy.nd Z O_9 (IA (EC X) (AE (pv 0) Z) (pv 1) ⟨Z,Z,Z,Z⟩)) (Ac (AQ (Az FE (pv 2) Cw (AF _)) (Ac (Jb (i:=3) Z Cy.nd Z Z (BE.of (So:=Al CQ) (No:=GB) (N:=["one","self"]) (k:=1) (cs:=[0]) Z Z A1) (UM (pv 1)) (λ_ _ _=>(Bg (i:=0) A1 Z Z)) (λ_ _ _=>BL) (λ_ _ _=>(AJ (RC (K:=K) Z (pv 1) Z) bD (rm X) Aq (Aa (pv 0) Ae)))) (Ac (Ao (i:=2) Cy.nd Z O_9 (AJ (AE (pv 0) Z) aU (rm X) Aq (Aa (As bK (rm X) Z Aq (Aa (AE (pv 0) Z) (Aa (Aj Ax (pv 3) Ab R_9) (Aa (Tw VX (pv 3) (Rz Ab) po_none) Ae)))) Ae))) (Ai (FM (EC X) (AE (pv 0) Z) (pv 1) (pv 2) Z)))) AC) (Ai (Av (pv 2))))),?_⟩
 try dsimp only[cxK]
 refine xwf Z Z q.hp T.cl_Jumps T.na_Jumps_known_cells (jf5_kc _ _ _ _ _) ⟨m.kc,Z,.inr ⟨_,.inl c1⟩,(xq1 Z ⟨_,IF.t (k:=kOf (c::d)) c1 Y,?_⟩)⟩;cases ev:Br kc (kOf (c::d))with
 |some v =>
  obtain⟨c',ae,e1,e2⟩:=c3 _ v ev;cases e1;rw[e2];exact xq1 Z ⟨Z,(xq1 Z (AY (xq1 Z (k H (λb o e _=>e) (q.mono (C1 _) (S6 _))))))⟩
 |none =>
  refine xq1 Z ⟨Z,(xq1 Z (BY ?_))⟩;refine xq1 Z ⟨t,Z,⟨_,SqT.of ht⟩,?_⟩;refine Sw (xs:=(c::d).map V.int) (λi l D=>H=D/\l=((c::d).take i).map V.int) ⟨Z,Z⟩ (λi l D _ z=>z.1▸SqT.of ht) ?_ ?_
  .rintro i v l D S ⟨rfl,rfl⟩;rw[C0]at S;obtain⟨x,ex,rfl⟩:=D7.mp S;obtain⟨x0,x8⟩:=aa x (D6 ex);obtain⟨n,rfl⟩:=F8 x0;refine⟨⟨[some (.int (n:Int))],Z,Z⟩,?_,GQ (xq1 Z (xq5 q.hp T.cl_Jumps T.na_Jumps_grove (DY _ _ _ _ _) (xq3 Z q.gr.hp (UU g) (xq1 Z ⟨g,G,n,_,Z,q.gr,q.ok.leaf n A0,Z,Z,?_⟩))))⟩
   .rw[B8,L8];exact F7 (P7 _ _) (by rw[F2,h8];decide)
   .rw[F9,ex,R6,C7];rfl
  .rintro l D ⟨rfl,rfl⟩ L hL;rw[B8,J8];generalize O:upd H L _=H1;obtain⟨s1,U⟩:=alc hL O;have u:=q.same s1;refine xwf Z Z u.hp T.cl_Jumps T.na_Jumps_grove (DY _ _ _ _ _) (xq3 Z u.gr.hp (Wg g) (xwf Z Z u.hp T.cl_Jumps T.na_Jumps_rule (jf5_ru _ _ _ _ _) (xwi Z Z Z (SqL.of U) (Ah (j:=0) Z) ?_)));refine xq1 Z ⟨1,Z,L,(xq1 Z ⟨SqL.of U,λSL ac=>?_⟩)⟩;have R:Vs ((c::d).map V.int) (some 1) none=d.map V.int:=by
    obtain⟨x1,x2,x3,x4,x5,x6,x7,x8,rfl⟩:=eight_of d h8;rfl
   rw[R];generalize dU:upd H1 SL _=D;obtain⟨s2,ab⟩:=alc ac dU;have B:=u.same s2;refine⟨pr,SL,_,r,c,d,Z,B.ru,B.rok.rok,ab,λH3 s3=>?_⟩;have W:=B.same s3;have C:=(s1.trans s2).trans s3;have I:=bec_st q.rok (aa c C9) d;refine⟨g.p,_,Z,I.1,I.2,?_⟩;refine xq1 Z (xq1 Z (xq5 W.hp T.cl_Jumps T.na_Jumps_known_cells (jf5_kc _ _ _ _ _) (xq1 Z ⟨m.kc,(xq1 Z ⟨LN.t (k:=kOf (c::d)) (C _ _ c1) (C _ _ Y) (F7 (show kc.length<=9000000 by lia) A3),?_⟩)⟩)));refine xq1 Z (k _ (λb o e n=>by rw[Aw n];exact C _ _ e) (W.putC (D0 (GN _ _ _) A0) λks v hv=>?_));rw[Fl]at hv;split at hv
   .rename_i y;rw[Lx y];cases hv;exact⟨c,d,Z,Z⟩
   .exact c3 ks v hv
end
def FrC(g:GA)(m:MA)(H H':Hp):Prop:=∀b o,H b=some o->b≠g.lv->b≠g.pt->b≠g.nm->b≠m.kc->H' b=some o
theorem FrC.trans{g:GA}{m:MA}{a c d:Hp}(h:FrC g m a c)(k:FrC g m c d):FrC g m a d:=λb o e n1 n2 f i=>k _ _ (h _ _ e n1 n2 f i) n1 n2 f i
theorem FrC.j{g:GA}{m:MA}{a c:Hp}(h:FrC g m a c):FrJ g m a c:=λb o e n1 n2 d f _=>h _ _ e n1 n2 d f
theorem Fr.c{g:GA}{m:MA}{a d:Hp}(h:Fr g a d):FrC g m a d:=λb o e n1 n2 f _=>h _ _ e n1 n2 f
def spNo:Sp:=λ_ _ _ _=>False
theorem AL.no{P:N_}{w:Q_}{K:O_}{c:C_}{a:T_}{CX:CXT}{k:Nat}{f:R_}{b:E_}{ps:K_}:AL P w K c a CX k f b ps spNo :=
 ⟨λ_ _ _ _ h=>h.elim,λ_ _ _ _ _ _ _ _ _ _ _ _ _ h=>h.elim⟩
theorem bareJ{l:Nat}(h:l<=48):((Dw 48).map V.int)[l]?=some (.int (bareN l:Int)):=by
 unfold Dw;rw[C0,C0,O3 A0];rfl
section
variable{P:N_}{w:Q_}{K:O_}{mg:C_}{base:T_}{a:Ad}
theorem tretl {c:TA} {D:Nh} {σ:St} {H:Hp} (h:c σ H λxs b=>xs.length<=sizeLine/\∀p,b p=none->D.rt (.ref p) (upd b p (.lst xs))):tRet (tLst c) D σ H:=h
theorem GH {b:TE} {c:TA} {σ:St} {H:Hp} {Q:List V->Hp->Prop} (h:b σ H λx d=>c σ d λxs e=>Q (x::xs) e):Db b c σ H Q:=h
theorem ixt{K:O_}{σ:St}{i:Nat}{H:Hp}{t:R_}{xs:List V}{j:Int}{v:V}{Q:VK}(r:σ[i]?=some (some (.ref t)))(h:H t=some (.tup xs))(e:atI xs j=some v)(k:Q v H):tOp (LL K) (GR i) (tC (V.int j)) σ H Q:=⟨_,r,t,xs,j,v,Z,Z,SqT.of h,e,k⟩
theorem ixp{K:O_}{H:Hp}{p t:R_}{b:H_}{n:Nat}{Q:VK}(h:H p=some (.lst (b.map V.ref)))(e:b[n]?=some t)(k:Q (.ref t) H):rIxL K (.ref p) (.int n) H Q:=⟨p,_,n,_,Z,Z,SqL.of h,Ah (by rw[C0,e];rfl),k⟩
structure Ln(a:Ad)(g:GA)(H0:Hp)(G0:Gv)(j:Nat)(H:Hp)(G:Gv):Prop where
fr:Fr g H0 H
kt:∀{b:R_}{xs:List V},H0 b=some (.tup xs)->H b=some (.tup xs)
gr:AM a H g G
go:AI G0 G j
theorem lnk{a:Ad}{r H:Hp}{g:GA}{G0 G:Gv}{j:Nat}{u:R_}{x y z w:Nat}{l:Int}{Q:VK}(s:Ln a g r G0 j H G)(A:H u=none)(d:An G0 x l/\An G0 y l/\An G0 z l/\An G0 w l)(o:l<=47)(few:G0.length+j<9000000)
  (k:∀(n:Nat)(c:Gv)(f:Hp),Ln a g r G0 (j+1) f c->AI G c 1->c[n]?=some ⟨[(x:Int),(y:Int),(z:Int),(w:Int)],l+1⟩->Q (.int n) f):Vy a [.ref g.p,.ref u] (upd H u (.tup [.int x,.int y,.int z,.int w])) Q:=by
 generalize m:upd H u _=C;obtain⟨q,t⟩:=alc A m;have i:=s.gr.same q;have D:=s.go.few;refine⟨g,G,u,x,y,z,w,l,Z,i,s.go.ok,t,⟨s.go.lev d.1,s.go.lev d.2.1,s.go.lev d.2.2.1,s.go.lev d.2.2.2⟩,o,by lia,λn c f fr v go e=>k n c f ⟨s.fr.trans ((AA.fr q).trans fr),λ{b xs} e=>?_,v,s.go.trans go⟩ go e⟩;obtain⟨us,B,_⟩:=i.pt;have h:=q _ _ (s.kt e);exact fr _ _ h (AH h i.lv A4) (AH h B A4) (AH h i.nm A4)
theorem ttup {c:TA} {σ:St} {H:Hp} {Q:VK} (h:c σ H λxs b=>xs.length<=sizeLine/\∀p,b p=none->Q (.ref p) (upd b p (.tup xs))):YU c σ H Q:=h
theorem al9{P:Int->Prop}{a b c d e f g h i:Int}(k:P a)(l:P b)(m:P c)(n:P d)(o:P e)(p:P f)(q:P g)(r:P h)(s:P i):∀x∈[a,b,c,d,e,f,g,h,i],P x:=by
 intro x j;simp only[C3,D8,A0g]at j;rcases j with rfl|rfl|rfl|rfl|rfl|rfl|rfl|rfl|rfl<;>assumption
structure Lc(g:GA)(m:MA)(H0 H:Hp):Prop where
fr:FrC g m H0 H
kt:∀{b:R_}{xs:List V},H0 b=some (.tup xs)->H b=some (.tup xs)
theorem celT{a:Ad}{q H:Hp}{g:GA}{G:Gv}{N M:Nat}{p dx mem n u:R_}{r:AD}{m:MA}{c:Int}{d:I_}{Q:VK}(t:JW a H g G N M p dx mem n r m)(v:Lc g m q H)(A:H u=none)(f:∀x∈c::d,Iy x)(z:d.length=8)(y:M<9000000)
  (h:∀(k:Nat)(Y:Hp),CH r c d=k->k<8->Lc g m q Y->JW a Y g G N (M+1) p dx mem n r m->Q (.int k) Y):SpCel a [.ref p,.ref u] (upd H u (.tup ((c::d).map V.int))) Q:=by
 generalize j:upd H u _=X;obtain⟨s,B⟩:=alc A j;have i:=t.same s;refine⟨p,dx,mem,n,u,g,G,N,M,r,m,c,d,Z,i,B,z,f,y,λY fr l=>?_⟩;obtain⟨D,F⟩:=bec_st t.rok (f c (.head ..)) d;obtain⟨k,e⟩:=F8 D;rw[e];refine h k Y e A0 ⟨v.fr.trans λb o e _ _ _ C=>fr _ _ (s _ _ e) C,λ{b xs} e=>?_⟩ l;obtain⟨E,c1,_⟩:=i.me.ce;have e:=s _ _ (v.kt e);exact fr _ _ e (AH e c1 A4)
theorem cel9{K:O_}{a:Ad}{b H:Hp}{g:GA}{G:Gv}{N M:Nat}{p dx mem pr:R_}{r:AD}{m:MA}{σ:St}{Q:VK}{D E F I L O R S T:Nat}{t1 t2 t3 t4 t5 t6 t7 t8 t9:R_}{f h i j l n o q s:List V}{U X j3 j4 j5 j6 j7 j8 j9 c1 c2 c3 t u v y z A:Int}(C:JW a H g G N M p dx mem pr r m)(c:Lc g m b H)(h1:b t1=some (.tup f))(h2:b t2=some (.tup h))(h3:b t3=some (.tup i))(h4:b t4=some (.tup j))(h5:b t5=some (.tup l))(h6:b t6=some (.tup n))(h7:b t7=some (.tup o))(h8:b t8=some (.tup q))(h9:b t9=some (.tup s))(B:∀x∈[c1,c2,c3,t,u,v,y,z,A],Iy x)(hM:M<9000000)
  (k:∀(k:Nat)(Y:Hp),CH r c1 [c2,c3,t,u,v,y,z,A]=k->k<8->Lc g m b Y->JW a Y g G N (M+1) p dx mem pr r m->Q (.int k) Y) (e:σ[0]?=some (some (.ref p))/\(σ[D]?=some (some (.ref t1))/\atI f U=some (.int c1))/\(σ[E]?=some (some (.ref t2))/\atI h X=some (.int c2))/\(σ[F]?=some (some (.ref t3))/\atI i j3=some (.int c3))/\(σ[I]?=some (some (.ref t4))/\atI j j4=some (.int t))/\(σ[L]?=some (some (.ref t5))/\atI l j5=some (.int u))/\(σ[O]?=some (some (.ref t6))/\atI n j6=some (.int v))/\(σ[R]?=some (some (.ref t7))/\atI o j7=some (.int y))/\(σ[S]?=some (some (.ref t8))/\atI q j8=some (.int z))/\(σ[T]?=some (some (.ref t9))/\atI s j9=some (.int A)):=by exact⟨Z,⟨Z,Z⟩,⟨Z,Z⟩,⟨Z,Z⟩,⟨Z,Z⟩,⟨Z,Z⟩,⟨Z,Z⟩,⟨Z,Z⟩,⟨Z,Z⟩,⟨Z,Z⟩⟩) :
  VH a.c_Jumps "cell_after" (VV a) [] E0 (GR 0) (Db (YU (Db (tOp (LL K) (GR D) (tC (V.int U))) (Db (tOp (LL K) (GR E) (tC (V.int X))) (Db (tOp (LL K) (GR F) (tC (V.int j3))) (Db (tOp (LL K) (GR I) (tC (V.int j4))) (Db (tOp (LL K) (GR L) (tC (V.int j5))) (Db (tOp (LL K) (GR O) (tC (V.int j6))) (Db (tOp (LL K) (GR R) (tC (V.int j7))) (Db (tOp (LL K) (GR S) (tC (V.int j8))) (Db (tOp (LL K) (GR T) (tC (V.int j9))) Qc)))))))))) Qc) σ H Q:=by
 apply AR;intro G_ d;obtain⟨r0,⟨r1,e1⟩,⟨r2,e2⟩,⟨r3,e3⟩,⟨r4,e4⟩,⟨r5,e5⟩,⟨r6,e6⟩,⟨r7,e7⟩,⟨r8,e8⟩,⟨r9,e9⟩⟩:=e;apply d;clear d G_;exact⟨_,r0,(xq3 Z C.hp (ZW _ _ _ _ _) (ixt r1 (c.kt h1) e1 (ixt r2 (c.kt h2) e2 (ixt r3 (c.kt h3) e3 (ixt r4 (c.kt h4) e4 (ixt r5 (c.kt h5) e5 (ixt r6 (c.kt h6) e6 (ixt r7 (c.kt h7) e7 (ixt r8 (c.kt h8) e8 (ixt r9 (c.kt h9) e9 ⟨(by show 9<=sizeLine;decide),λ_ hu=>celT C c hu B Z hM k⟩))))))))))⟩
inductive SpMid2(a:Ad)(vs:List V)(H:Hp)(Q:VK):Prop
|mk (p dx mem pr:R_) (g:GA) (G:Gv) (N M:Nat) (r:AD) (m:MA) (n:Nat) (_:vs=[.ref p,.int n]) (_:JW a H g G N M p dx mem pr r m) (_:An G n ((1+1:Nat):Int)) (_:M<8500000) (_:G.length<8000000) (_:∀(k:Nat)(G':Gv)(H':Hp),FrC g m H H'->JW a H' g G' N (M+4) p dx mem pr r m->AI G G' 1->JR r G' 0 n k->Q (.int k) H'):SpMid2 a vs H Q
def Rn(a:Ad):Sp:=λvs H Q _=>SpMid2 a vs H Q
theorem ok_mid2(F:Fun K "middle_after" "Jumps.middle_after" Ds f fd)(T:Top K mg a)(a9:Cd P w K mg base CX0 2 a.c_Grove "linked" AW (Eg a))(aM:Cd P w K mg base CX0 6 a.c_Jumps "cell_after" DW (VV a)):AL P w K mg base CX0 7 f fd Lh (Rn a):=by
 refine F.ok Bo (λvs H Q E h=>?_) (λbh A av s H vs Q E S h=>?_)
 .apply AR;intro L y;obtain⟨p,dx,mem,pr,g,G,N,M,r,m,n,rfl,_⟩:=h;apply y;clear y L;rfl
 .apply AR;intro L y;obtain⟨p,dx,mem,pr,g,G,N,M,r,m,n,rfl,d,hl,a5,few,k⟩:=h;obtain⟨qa,qb,qc,qd,en,la,lb,lc,ld⟩:=d.ok.four hl;obtain⟨a0,a1,a2,a3,ea,aq,U,V,B⟩:=d.ok.four (l:=0) la;obtain⟨b0,b1,b2,b3,eb,W,ar,C,X⟩:=d.ok.four (l:=0) lb;obtain⟨c0,c1,c2,c3,ec,Y,D,as,aa⟩:=d.ok.four (l:=0) lc;obtain⟨d0,d1,d2,d3,ed,I,ab,ac,au⟩:=d.ok.four (l:=0) ld;obtain⟨ts,O,R⟩:=d.gr.pt;obtain⟨t,et,ht⟩:=PairedM.get R en;obtain⟨ta,ah,j⟩:=PairedM.get R ea;obtain⟨tb,ai,o⟩:=PairedM.get R eb;obtain⟨tc,aj,q⟩:=PairedM.get R ec;obtain⟨td,ak,v⟩:=PairedM.get R ed;apply y;clear y L;refine⟨_,(Ac (Ao (i:=2) Bo.nd Z O_9 (Aj Ax (AE (AE (pv 0) Z) Z) (pv 1) R_9)) (Ac (Ao (i:=3) Bo.nd Z O_9 (Aj Ax (AE (AE (pv 0) Z) Z) (Aj Ak (pv 2) Ab R_9) R_9)) (Ac (Ao (i:=4) Bo.nd Z O_9 (Aj Ax (AE (AE (pv 0) Z) Z) (Aj Ak (pv 2) Ab R_9) R_9)) (Ac (Ao (i:=5) Bo.nd Z O_9 (Aj Ax (AE (AE (pv 0) Z) Z) (Aj Ak (pv 2) Ab R_9) R_9)) (Ac (Ao (i:=6) Bo.nd Z O_9 (Aj Ax (AE (AE (pv 0) Z) Z) (Aj Ak (pv 2) Ab R_9) R_9)) (Ai (Av (AJ (AE (pv 0) Z) a9 (rm S) Aq (Bp (Aa (AJ (pv 0) aM (rm S) Aq (Bp (Aa (Aj Ak (pv 3) Ab R_9) (Aa (Aj Ak (pv 3) Ab R_9) (Aa (Aj Ak (pv 3) Ab R_9) (Aa (Aj Ak (pv 4) Ab R_9) (Aa (Aj Ak (pv 3) Ab R_9) (Aa (Aj Ak (pv 4) Ab R_9) (Aa (Aj Ak (pv 5) Ab R_9) (Aa (Aj Ak (pv 5) Ab R_9) (Aa (Aj Ak (pv 6) Ab R_9) Ae))))))))) Ae)) (Aa (AJ (pv 0) aM (rm S) Aq (Bp (Aa (Aj Ak (pv 4) Ab R_9) (Aa (Aj Ak (pv 3) Ab R_9) (Aa (Aj Ak (pv 4) Ab R_9) (Aa (Aj Ak (pv 4) Ab R_9) (Aa (Aj Ak (pv 3) Ab R_9) (Aa (Aj Ak (pv 4) Ab R_9) (Aa (Aj Ak (pv 5) Ab R_9) (Aa (Aj Ak (pv 6) Ab R_9) (Aa (Aj Ak (pv 6) Ab R_9) Ae))))))))) Ae)) (Aa (AJ (pv 0) aM (rm S) Aq (Bp (Aa (Aj Ak (pv 5) Ab R_9) (Aa (Aj Ak (pv 3) Ab R_9) (Aa (Aj Ak (pv 3) Ab R_9) (Aa (Aj Ak (pv 4) Ab R_9) (Aa (Aj Ak (pv 5) Ab R_9) (Aa (Aj Ak (pv 6) Ab R_9) (Aa (Aj Ak (pv 5) Ab R_9) (Aa (Aj Ak (pv 5) Ab R_9) (Aa (Aj Ak (pv 6) Ab R_9) Ae))))))))) Ae)) (Aa (AJ (pv 0) aM (rm S) Aq (Bp (Aa (Aj Ak (pv 6) Ab R_9) (Aa (Aj Ak (pv 3) Ab R_9) (Aa (Aj Ak (pv 4) Ab R_9) (Aa (Aj Ak (pv 4) Ab R_9) (Aa (Aj Ak (pv 5) Ab R_9) (Aa (Aj Ak (pv 6) Ab R_9) (Aa (Aj Ak (pv 5) Ab R_9) (Aa (Aj Ak (pv 6) Ab R_9) (Aa (Aj Ak (pv 6) Ab R_9) Ae))))))))) Ae)) Ae)))) Ae))))))))),?_⟩
  try dsimp only[cxK]
  refine Bm ?_;intro a6 bc k0 z aw;refine xwf Z Z d.hp T.cl_Jumps T.na_Jumps_grove (DY _ _ _ _ _) (xq5 d.gr.hp T.cl_Grove T.na_Grove_parts (Cg g) (xq1 Z (ixp O et ?_)));refine z ?_;refine Bm ?_;intro a7 bd k1 z ax;refine xwf Z Z d.hp T.cl_Jumps T.na_Jumps_grove (DY _ _ _ _ _) (xq5 d.gr.hp T.cl_Grove T.na_Grove_parts (Cg g) (ixt Z ht Z (ixp O ah ?_)));refine z ?_;refine Bm ?_;intro a8 be k2 z ay;refine xwf Z Z d.hp T.cl_Jumps T.na_Jumps_grove (DY _ _ _ _ _) (xq5 d.gr.hp T.cl_Grove T.na_Grove_parts (Cg g) (ixt Z ht Z (ixp O ai ?_)));refine z ?_;refine Bm ?_;intro ba bf k3 z az;refine xwf Z Z d.hp T.cl_Jumps T.na_Jumps_grove (DY _ _ _ _ _) (xq5 d.gr.hp T.cl_Grove T.na_Grove_parts (Cg g) (ixt Z ht Z (ixp O aj ?_)));refine z ?_;refine Bm ?_;intro bb bg k4 z a4;refine xwf Z Z d.hp T.cl_Jumps T.na_Jumps_grove (DY _ _ _ _ _) (xq5 d.gr.hp T.cl_Grove T.na_Grove_parts (Cg g) (ixt Z ht Z (ixp O ak ?_)));refine z ?_;have b:∀{x:Nat},An G x ((0:Nat):Int)->Iy (x:Int):=λ{x} h=>by
   have:=d.ok.cell h;exact⟨by lia,by lia⟩
  have c_:Lc g m H H:=⟨λ_ _ e _ _ _ _=>e,λe=>e⟩
  refine xwf Z Z d.hp T.cl_Jumps T.na_Jumps_grove (DY _ _ _ _ _) (xq3 Z d.gr.hp (BT g) ?_);refine GH (ttup (GH (cel9 d c_ j j j o j o q q v (al9 (b B) (b aq) (b U) (b W) (b V) (b C) (b Y) (b D) (b I)) A0 λk0 Y0 ad al x0 j0=>?_)));refine GH (cel9 j0 x0 o j o o j o q v v (al9 (b C) (b U) (b W) (b ar) (b B) (b X) (b D) (b I) (b ab)) A0 λk1 Y1 ae am x1 j1=>?_);refine GH (cel9 j1 x1 q j j o q v q q v (al9 (b D) (b V) (b B) (b C) (b Y) (b I) (b as) (b aa) (b ac)) A0 λk2 Y2 af an x2 j2=>?_);refine GH (cel9 j2 x2 v j o o q v q v v (al9 (b I) (b B) (b C) (b X) (b D) (b ab) (b aa) (b ac) (b au)) A0 λk3 Y3 ag ao x3 j3=>?_);have lf:∀{k:Nat},k<8->An G k ((0:Nat):Int):=λ{k} h=>⟨_,d.ok.leaf k h,Z⟩
  refine⟨S_4,λu hu=>lnk (⟨.refl _ _,λe=>e,j3.gr,.refl d.ok⟩:Ln a g Y3 G 0 Y3 G) hu ⟨lf al,lf am,lf an,lf ao⟩ A3 A0 λx G' H' s go e=>?_⟩;refine k x G' H' (x3.fr.trans (Fr.c s.fr)) (j3.fr s.fr s.gr go) go ⟨0,go.lev hl,C1 0,⟨_,e,Z⟩,?_⟩;apply AR;intro L y;obtain⟨rfl,rfl,rfl,rfl⟩:=EG (go.get ea);obtain⟨rfl,rfl,rfl,rfl⟩:=EG (go.get eb);obtain⟨rfl,rfl,rfl,rfl⟩:=EG (go.get ec);obtain⟨rfl,rfl,rfl,rfl⟩:=EG (go.get ed);obtain⟨rfl,rfl,rfl,rfl⟩:=EG (go.get en);obtain⟨rfl,rfl,rfl,rfl⟩:=EG e;apply y;clear y L;intro x' y' hx hy
  match x',hx,y',hy with
  |0,_,0,_=>exact ad.symm
  |1,_,0,_=>exact ae.symm
  |0,_,1,_=>exact af.symm
  |1,_,1,_=>exact ag.symm
inductive SpCj(a:Ad)(vs:List V)(H:Hp)(Q:VK):Prop
|mk (p dx gp mem pr l kc:R_) (g:GA) (G:Gv) (n e:Nat) (q:Sq) (_:vs=[.ref p,.int n,.int e]) (_:H p=some (.ins a.c_Jumps dx (jf5 g.p mem pr l kc))) (_:AM a H g G) (_:G[n]?=some q) (_:2+(e:Int)<=q.lev) (_:Q .non H):SpCj a vs H Q
def spCj(a:Ad):Sp:=λvs H Q _=>SpCj a vs H Q
theorem ok_cj(F:Fun K "check_jump" "Jumps.check_jump" DS f fd)(T:Top K mg a)(r:Cd P w K mg base CX0 3 a.c_Grove "level_of" Lh (Mv a))(t:Cal P w K mg base CX0 1 "is_whole" UZ UD):AL P w K mg base CX0 4 f fd Qs (spCj a):=by
 refine F.ok FG (λvs H Q E h=>?_) (λu A d s H vs Q E o h=>?_)
 .apply AR;intro c b;obtain⟨p,dx,v,mem,y,l,x,g,G,n,e,q,rfl,_⟩:=h;apply b;clear b c;rfl
 .apply AR;intro c b;obtain⟨p,dx,v,mem,y,l,x,g,G,n,e,q,rfl,m,j,eq,z,k⟩:=h;apply b;clear b c;refine⟨_,(Ac (Ao (i:=3) FG.nd Z O_9 (AJ (AE (pv 0) Z) r (rm o) Aq (Aa (pv 1) Ae))) (Ac (AQ (Az FH (pv 3) (Cj Z T.k_LEAST_JUMPED) (AF _)) (Ai Bl) AC) (Ai (AQ (PW.pt (Jz (CS (Cu (As t (rm o) Z Aq (Aa (pv 2) Ae)))) (JK (CS (Tu ML ML Ab (pv 2) (AB BI (pv 3) (Cj Z T.k_LEAST_JUMPED))))))) (Ai Bl) AC)))),?_⟩
  try dsimp only[cxK]
  refine xwf Z Z m T.cl_Jumps T.na_Jumps_grove (DY _ _ _ _ _) (xq3 Z j.hp (DX g) (xq1 Z ⟨g,G,n,q,Z,j,eq,?_⟩));refine xwb Z Z Z (xq1 Z ?_);rw[K1 (by lia:¬q.lev<2)];refine AY ?_;refine⟨_,Z,_,Z,true,Z,AY ⟨_,Z,_,_,Z,Z,_,Z,?_⟩⟩;rw[K0 (by lia:(0:Int)<=(e:Int))];refine BY (xwb Z Z Z (xq2 Z Z (xq1 Z ?_)));rw[K0 (by lia:(e:Int)<=q.lev-2)];exact AY k
end
end J
namespace J
open PySem L2
theorem Ss(G:Gv):∀(l n x y i j:Nat),cel G l n (x+2^l*i) (y+2^l*j)=cel G l n x y
|0,n,x,y,i,j=>rfl
|l+1,n,x,y,i,j=>by
 show cel G l (qO G n (((x+2^(l+1)*i)/2^l)%2+2*(((y+2^(l+1)*j)/2^l)%2))) (x+2^(l+1)*i) (y+2^(l+1)*j)=cel G l (qO G n ((x/2^l)%2+2*((y/2^l)%2))) x y;have p:0<2^l:=V6 A3;have e:∀i:Nat,2^(l+1)*i=2^l*(2*i):=λi=>by rw[J0,Nat.mul_assoc]
 rw[e i,e j,P0 _ _ p,P0 _ _ p,Q5,Q5];exact Ss G l _ x y (2*i) (2*j)
theorem PZ(G:Gv)(l n:Nat){x y i j:Nat}(c:x<2^l)(d:y<2^l)(a:i<2)(b:j<2):CG G (l+1) n (x+2^l*i) (y+2^l*j)=CG G l (qO G n (i+2*j)) x y:=by
 unfold CG;show((cel G l (qO G n (((x+2^l*i)/2^l)%2+2*(((y+2^l*j)/2^l)%2))) (x+2^l*i) (y+2^l*j):Nat):Int)=_;have p:0<2^l:=V6 A3;rw[P0 _ _ p,P0 _ _ p,M6 c,M6 d,N3,N3,N6 a,N6 b,Ss]
theorem SV(r:AD)(c:Nat->Nat->Int)(n:Nat):∀m,Bu r (m+n) c=Bu r m (Bu r n c)
|0=>by rw[N3];rfl
|m+1=>by
 rw[show m+1+n=(m+n)+1 by lia];show stp r (Bu r (m+n) c)=stp r (Bu r m (Bu r n c));rw[SV r c n m]
theorem SU(r:AD){c d:Nat->Nat->Int}{X Y:Nat}:∀(k x y:Nat),k<=x->k<=y->(∀u v,x-k<=u->u<=x+k->y-k<=v->v<=y+k->c u v=d (u+X) (v+Y))->Bu r k c x y=Bu r k d (x+X) (y+Y)
|0,x,y,_,_,h=>h x y A0 A0 A0 A0
|k+1,x,y,hx,hy,h=>by
 have e:∀u v,x-1<=u->u<=x+1->y-1<=v->v<=y+1->Bu r k c u v=Bu r k d (u+X) (v+Y):=λu v f g i j=>SU r k u v A0 A0 λa b l m n o=>h a b A0 A0 A0 A0;show CH r (Bu r k c x y) [Bu r k c (x-1) (y-1),Bu r k c x (y-1),Bu r k c (x+1) (y-1),Bu r k c (x-1) y,Bu r k c (x+1) y,Bu r k c (x-1) (y+1),Bu r k c x (y+1),Bu r k c (x+1) (y+1)]=CH r (Bu r k d (x+X) (y+Y)) [Bu r k d (x+X-1) (y+Y-1),Bu r k d (x+X) (y+Y-1),Bu r k d (x+X+1) (y+Y-1),Bu r k d (x+X-1) (y+Y),Bu r k d (x+X+1) (y+Y),Bu r k d (x+X-1) (y+Y+1),Bu r k d (x+X) (y+Y+1),Bu r k d (x+X+1) (y+Y+1)];rw[e x y A0 A0 A0 A0,e (x-1) (y-1) A0 A0 A0 A0,e x (y-1) A0 A0 A0 A0,e (x+1) (y-1) A0 A0 A0 A0,e (x-1) y A0 A0 A0 A0,e (x+1) y A0 A0 A0 A0,e (x-1) (y+1) A0 A0 A0 A0,e x (y+1) A0 A0 A0 A0,e (x+1) (y+1) A0 A0 A0 A0];rw[show x-1+X=x+X-1 by lia,show y-1+Y=y+Y-1 by lia,show x+1+X=x+X+1 by lia,show y+1+Y=y+Y+1 by lia]
def Vw(G:Gv)(c:Nat->Nat->Int)(l m X Y:Nat):Prop:=∀x y,x<2^l->y<2^l->CG G l m x y=c (x+X) (y+Y)
theorem Vw.q{G:Gv}{c:Nat->Nat->Int}{l m X Y i j:Nat}(h:Vw G c (l+1) m X Y)(a:i<2)(b:j<2):Vw G c l (qO G m (i+2*j)) (X+2^l*i) (Y+2^l*j):=λx y d e=>by
 rw[<-PZ G l m d e a b,h _ _ ?_ ?_]
 .rw[show x+2^l*i+X=x+(X+2^l*i) by lia,show y+2^l*j+Y=y+(Y+2^l*j) by lia]
 .rw[J0];have:2^l*i<=2^l*1:=M4 _ A0;lia
 .rw[J0];have:2^l*j<=2^l*1:=M4 _ A0;lia
theorem Vw.of{G:Gv}{c:Nat->Nat->Int}{l m X Y:Nat}(d:Vw G c l (qO G m 0) X Y)(e:Vw G c l (qO G m 1) (X+2^l) Y)(f:Vw G c l (qO G m 2) X (Y+2^l))(g:Vw G c l (qO G m 3) (X+2^l) (Y+2^l)):Vw G c (l+1) m X Y:=λx y h k=>by
 rw[J0]at h k;by_cases b:x<2^l
 .by_cases a:y<2^l
  .have:=PZ G l m b a (i:=0) (j:=0) A3 A3;rw[show x+2^l*0=x by lia,show y+2^l*0=y by lia]at this;rw[this];exact d x y b a
  .have:=PZ G l m b (y:=y-2^l) A0 (i:=0) (j:=1) A3 A3;rw[show x+2^l*0=x by lia,show y-2^l+2^l*1=y by lia]at this;rw[this,f x (y-2^l) b A0,show y-2^l+(Y+2^l)=y+Y by lia]
 .by_cases a:y<2^l
  .have:=PZ G l m (x:=x-2^l) A0 a (i:=1) (j:=0) A3 A3;rw[show y+2^l*0=y by lia,show x-2^l+2^l*1=x by lia]at this;rw[this,e (x-2^l) y A0 a,show x-2^l+(X+2^l)=x+X by lia]
  .have:=PZ G l m (x:=x-2^l) (y:=y-2^l) A0 A0 (i:=1) (j:=1) A3 A3;rw[show x-2^l+2^l*1=x by lia,show y-2^l+2^l*1=y by lia]at this;rw[this,g (x-2^l) (y-2^l) A0 A0,show x-2^l+(X+2^l)=x+X by lia,show y-2^l+(Y+2^l)=y+Y by lia]
theorem Vw.jump{G:Gv}{r:AD}{c:Nat->Nat->Int}{l e m k X Y:Nat}(h:Vw G c (l+2) m X Y)(a:e<=l)(j:∀x y,x<2^(l+1)->y<2^(l+1)->CG G (l+1) k x y=Bu r (2^e) (CG G (l+2) m) (x+2^l) (y+2^l)):Vw G (Bu r (2^e) c) (l+1) k (X+2^l) (Y+2^l):=λx y b d=>by
 have p:2^e<=2^l:=N7 A3 a;have o:2^(l+1)=2^l*2:=J0 ..;have q:2^(l+2)=2^l*2*2:=by rw[J0,J0]
 rw[j x y b d,SU r (X:=X) (Y:=Y) (2^e) (x+2^l) (y+2^l) A0 A0 λu v f g i n=>h u v A0 A0];rw[show x+2^l+X=x+(X+2^l) by lia,show y+2^l+Y=y+(Y+2^l) by lia]
seal L2.PA L2.PE L2.PS L2.PSs L2.PT L2.PW
theorem Vw.at'{G:Gv}{c:Nat->Nat->Int}{l m X Y X' Y':Nat}(h:Vw G c l m X Y)(a:X=X')(b:Y=Y'):Vw G c l m X' Y':=by
 subst a;subst b;exact h
theorem Vw.goes{G a:Gv}{c:Nat->Nat->Int}{l m X Y i:Nat}(h:Vw G c l m X Y)(ok:GOk G)(go:AI G a i)(e:An G m (l:Int)):Vw a c l m X Y:=λx y b d=>by
 rw[Dj ok go e];exact h x y b d
section
variable{P:N_}{w:Q_}{K:O_}{mg:C_}{base:T_}{a:Ad}
inductive SpNine(a:Ad)(vs:List V)(H:Hp)(Q:VK):Prop
|mk (g:GA) (G:Gv) (n l:Nat) (_:vs=[.ref g.p,.int n]) (_:AM a H g G) (_:GOk G) (_:An G n ((l+1+1:Nat):Int)) (_:l<=46) (_:G.length<8000000) (_:∀(L:R_)(ks:J_)(G':Gv)(H':Hp),Fr g H H'->AM a H' g G'->AI G G' 5->H' L=some (.lst (ks.map λ(k:Nat)=>V.int (k:Int)))->ks.length=9->(∀i j,i<3->j<3->∃k,ks[i+3*j]?=some k/\An G' k ((l+1:Nat):Int)/\Vw G' (CG G (l+2) n) (l+1) k (2^l*i) (2^l*j))->Q (.ref L) H'):SpNine a vs H Q
def OU(a:Ad):Sp:=λvs H Q _=>SpNine a vs H Q
theorem lnk4{K:O_}{a:Ad}{b H:Hp}{g:GA}{G0 G:Gv}{j:Nat}{σ:St}{q t u v:Nat}{E F I L:R_}{d f h i:List V}{A B C D:Int}{x y z w:Nat}{l:Int}{Q:VK}(s:Ln a g b G0 j H G)(T:b E=some (.tup d))(U:b F=some (.tup f))(X:b I=some (.tup h))(Y:b L=some (.tup i))(lv:An G0 x l/\An G0 y l/\An G0 z l/\An G0 w l)(few:l<=47/\G0.length+j<9000000)
  (k:∀(n:Nat)(m:Gv)(o:Hp),Ln a g b G0 (j+1) o m->AI G m 1->m[n]?=some ⟨[(x:Int),(y:Int),(z:Int),(w:Int)],l+1⟩->Q (.int n) o) (e:(σ[0]?=some (some (.ref g.p))/\σ[q]?=some (some (.ref E))/\σ[t]?=some (some (.ref F))/\σ[u]?=some (some (.ref I))/\σ[v]?=some (some (.ref L)))/\atI d A=some (.int x)/\atI f B=some (.int y)/\atI h C=some (.int z)/\atI i D=some (.int w):=by exact⟨⟨Z,Z,Z,Z,Z⟩,Z,Z,Z,Z⟩):VH a.c_Grove "linked" (Eg a) [] E0 (GR 0) (Db (YU (Db (tOp (LL K) (GR q) (tC (V.int A))) (Db (tOp (LL K) (GR t) (tC (V.int B))) (Db (tOp (LL K) (GR u) (tC (V.int C))) (Db (tOp (LL K) (GR v) (tC (V.int D))) Qc))))) Qc) σ H Q:=by
 apply AR;intro M c;obtain⟨⟨r,r1,r2,r3,r4⟩,N,O,R,S⟩:=e;apply c;clear c M;exact⟨_,r,(xq3 Z s.gr.hp (BT g) (ixt r1 (s.kt T) N (ixt r2 (s.kt U) O (ixt r3 (s.kt X) R (ixt r4 (s.kt Y) S ⟨S_4,λ_ hu=>lnk s hu lv few.1 few.2 k⟩)))))⟩
theorem vw4{G:Gv}{c:Nat->Nat->Int}{l m x y z w X Y:Nat}{j:Int}(e:G[m]?=some ⟨[(x:Int),(y:Int),(z:Int),(w:Int)],j⟩)(f:Vw G c l x (2^l*X) (2^l*Y))(g:Vw G c l y (2^l*(X+1)) (2^l*Y))(h:Vw G c l z (2^l*X) (2^l*(Y+1)))(i:Vw G c l w (2^l*(X+1)) (2^l*(Y+1))):Vw G c (l+1) m (2^l*X) (2^l*Y):=by
 apply AR;intro d b;obtain⟨rfl,rfl,rfl,rfl⟩:=EG e;apply b;clear b d;exact .of f g h i
theorem vwQ{G:Gv}{c:Nat->Nat->Int}{l m x y z w X Y:Nat}{f:Int}(e:G[m]?=some ⟨[(x:Int),(y:Int),(z:Int),(w:Int)],f⟩)(v:Vw G c (l+1) m (2^l*X) (2^l*Y)):Vw G c l x (2^l*X) (2^l*Y)/\Vw G c l y (2^l*(X+1)) (2^l*Y)/\Vw G c l z (2^l*X) (2^l*(Y+1))/\Vw G c l w (2^l*(X+1)) (2^l*(Y+1)):=by
 apply AR;intro d b;obtain⟨rfl,rfl,rfl,rfl⟩:=EG e;apply b;clear b d;exact⟨v.q (i:=0) (j:=0) A3 A3,(v.q (i:=1) (j:=0) A3 A3).at' A0 Z,(v.q (i:=0) (j:=1) A3 A3).at' Z A0,(v.q (i:=1) (j:=1) A3 A3).at' A0 A0⟩
theorem ok_nine(F:Fun K "nine_parts" "nine_parts" IN f fd)(T:Top K mg a)(W:Cd P w K mg base CX0 2 a.c_Grove "linked" AW (Eg a)):AL P w K mg base CX0 3 f fd Lu (OU a):=by
 refine F.ok Df (λvs H Q E h=>?_) (λbi A an s H vs Q E hr h=>?_)
 .apply AR;intro z b;obtain⟨g,G,n,l,rfl,_⟩:=h;apply b;clear b z;rfl
 .apply AR;intro z b;obtain⟨g,G,n,l,rfl,C,ok,hl,bl,few,k⟩:=h;obtain⟨qa,qb,qc,qd,en,la,lb,lc,ld⟩:=ok.four hl;obtain⟨a0,a1,a2,a3,ea,bm,af,ag,D⟩:=ok.four la;obtain⟨b0,b1,b2,b3,eb,ah,bn,I,ai⟩:=ok.four lb;obtain⟨c0,c1,c2,c3,ec,aj,M,bo,ak⟩:=ok.four lc;obtain⟨d0,d1,d2,d3,ed,N,al,am,bp⟩:=ok.four ld;obtain⟨ts,Y,h4⟩:=C.pt;obtain⟨t,et,v⟩:=PairedM.get h4 en;obtain⟨ta,aa,d⟩:=PairedM.get h4 ea;obtain⟨tb,ab,m⟩:=PairedM.get h4 eb;obtain⟨tc,ac,p⟩:=PairedM.get h4 ec;obtain⟨td,ad,q⟩:=PairedM.get h4 ed;apply b;clear b z;have s0:Ln a g H G 0 H G:=⟨.refl _ _,λe=>e,C,.refl ok⟩
  refine⟨_,(Ac (Ao (i:=2) Df.nd Z O_9 (Aj Ax (AE (pv 0) Z) (pv 1) R_9)) (Ac (Ao (i:=3) Df.nd Z O_9 (Aj Ax (AE (pv 0) Z) (Aj Ak (pv 2) Ab R_9) R_9)) (Ac (Ao (i:=4) Df.nd Z O_9 (Aj Ax (AE (pv 0) Z) (Aj Ak (pv 2) Ab R_9) R_9)) (Ac (Ao (i:=5) Df.nd Z O_9 (Aj Ax (AE (pv 0) Z) (Aj Ak (pv 2) Ab R_9) R_9)) (Ac (Ao (i:=6) Df.nd Z O_9 (Aj Ax (AE (pv 0) Z) (Aj Ak (pv 2) Ab R_9) R_9)) (Ai (Av (BX (Aa (Aj Ak (pv 2) Ab R_9) (Aa (AJ (pv 0) W (rm hr) Aq (Bp (Aa (Aj Ak (pv 3) Ab R_9) (Aa (Aj Ak (pv 4) Ab R_9) (Aa (Aj Ak (pv 3) Ab R_9) (Aa (Aj Ak (pv 4) Ab R_9) Ae)))) Ae)) (Aa (Aj Ak (pv 2) Ab R_9) (Aa (AJ (pv 0) W (rm hr) Aq (Bp (Aa (Aj Ak (pv 3) Ab R_9) (Aa (Aj Ak (pv 3) Ab R_9) (Aa (Aj Ak (pv 5) Ab R_9) (Aa (Aj Ak (pv 5) Ab R_9) Ae)))) Ae)) (Aa (AJ (pv 0) W (rm hr) Aq (Bp (Aa (Aj Ak (pv 3) Ab R_9) (Aa (Aj Ak (pv 4) Ab R_9) (Aa (Aj Ak (pv 5) Ab R_9) (Aa (Aj Ak (pv 6) Ab R_9) Ae)))) Ae)) (Aa (AJ (pv 0) W (rm hr) Aq (Bp (Aa (Aj Ak (pv 4) Ab R_9) (Aa (Aj Ak (pv 4) Ab R_9) (Aa (Aj Ak (pv 6) Ab R_9) (Aa (Aj Ak (pv 6) Ab R_9) Ae)))) Ae)) (Aa (Aj Ak (pv 2) Ab R_9) (Aa (AJ (pv 0) W (rm hr) Aq (Bp (Aa (Aj Ak (pv 5) Ab R_9) (Aa (Aj Ak (pv 6) Ab R_9) (Aa (Aj Ak (pv 5) Ab R_9) (Aa (Aj Ak (pv 6) Ab R_9) Ae)))) Ae)) (Aa (Aj Ak (pv 2) Ab R_9) Ae))))))))))))))))),?_⟩
  try dsimp only[cxK]
  refine Bm ?_;intro a7 bd k0 u ay;refine xwf Z Z C.hp T.cl_Grove T.na_Grove_parts (Cg g) (xq1 Z (ixp Y et ?_));refine u ?_;refine Bm ?_;intro a8 be k1 u az;refine xwf Z Z C.hp T.cl_Grove T.na_Grove_parts (Cg g) (ixt Z v Z (ixp Y aa ?_));refine u ?_;refine Bm ?_;intro ba bf k2 u a4;refine xwf Z Z C.hp T.cl_Grove T.na_Grove_parts (Cg g) (ixt Z v Z (ixp Y ab ?_));refine u ?_;refine Bm ?_;intro bb bg k3 u a5;refine xwf Z Z C.hp T.cl_Grove T.na_Grove_parts (Cg g) (ixt Z v Z (ixp Y ac ?_));refine u ?_;refine Bm ?_;intro bc bh k4 u a6;refine xwf Z Z C.hp T.cl_Grove T.na_Grove_parts (Cg g) (ixt Z v Z (ixp Y ad ?_));refine u ?_;refine tretl (GH (ixt Z (s0.kt v) Z (GH (lnk4 s0 d m d m ⟨af,ah,D,I⟩ ⟨by lia,by lia⟩ λm1 G1 H1 s1 bj e1=>?_))));refine GH (ixt Z (s1.kt v) Z (GH (lnk4 s1 d d p p ⟨ag,D,aj,M⟩ ⟨by lia,by lia⟩ λm3 G3 H3 s3 ae e3=>?_)));refine GH (lnk4 s3 d m p q ⟨D,I,M,N⟩ ⟨by lia,by lia⟩ λm4 G4 H4 s4 X e4=>?_);refine GH (lnk4 s4 m m q q ⟨I,ai,N,al⟩ ⟨by lia,by lia⟩ λm5 G5 H5 s5 B e5=>?_);refine GH (ixt Z (s5.kt v) Z (GH (lnk4 s5 p q p q ⟨M,N,ak,am⟩ ⟨by lia,by lia⟩ λm7 G7 H7 s7 r e7=>?_)));refine GH (ixt Z (s7.kt v) Z ⟨(by show 9<=sizeLine;decide),λL hL=>?_⟩);have c:=s7.go;have sL:=Ar (o:=.lst (([qa,m1,qb,m3,m4,m5,qc,m7,qd]:J_).map λ(k:Nat)=>V.int (k:Int))) hL;refine k L [qa,m1,qb,m3,m4,m5,qc,m7,qd] G7 _ (s7.fr.trans (AA.fr sL)) (s7.gr.same sL) c Af Z ?_;have v0:Vw G (CG G (l+2) n) (l+1+1) n (2^(l+1)*0) (2^(l+1)*0):=λx y _ _=>Z;have p1:2^(l+1)=2^l*2:=J0 ..;apply AR;intro z b;obtain⟨va,vb,vc,vd⟩:=vwQ (c.get en) (v0.goes ok c hl);apply b;clear b z;have va:=va.at' (X':=2^l*0) (Y':=2^l*0) A0 A0;have vb:=vb.at' (X':=2^l*2) (Y':=2^l*0) A0 A0;have vc:=vc.at' (X':=2^l*0) (Y':=2^l*2) A0 A0;have vd:=vd.at' (X':=2^l*2) (Y':=2^l*2) A0 A0;apply AR;intro z b;obtain⟨bq,ao,aq,O⟩:=vwQ (c.get ea) va;obtain⟨ar,br,R,as⟩:=vwQ (c.get eb) vb;obtain⟨au,S,bt,av⟩:=vwQ (c.get ec) vc;obtain⟨U,aw,ax,bu⟩:=vwQ (c.get ed) vd;apply b;clear b z;have g5:=r.get e5;have g4:=r.get (B.get e4);have g3:=r.get (B.get (X.get e3));have g1:=r.get (B.get (X.get (ae.get e1)));intro i j hi hj
  match i,hi,j,hj with
  |0,_,0,_=>exact⟨qa,Z,c.lev la,va⟩
  |1,_,0,_=>exact⟨m1,Z,⟨_,g1,Z⟩,vw4 g1 ao ar O R⟩
  |2,_,0,_=>exact⟨qb,Z,c.lev lb,vb⟩
  |0,_,1,_=>exact⟨m3,Z,⟨_,g3,Z⟩,vw4 g3 aq O au S⟩
  |1,_,1,_=>exact⟨m4,Z,⟨_,g4,Z⟩,vw4 g4 O R S U⟩
  |2,_,1,_=>exact⟨m5,Z,⟨_,g5,Z⟩,vw4 g5 R as U aw⟩
  |0,_,2,_=>exact⟨qc,Z,c.lev lc,vc⟩
  |1,_,2,_=>exact⟨m7,Z,⟨_,e7,Z⟩,vw4 e7 S U av ax⟩
  |2,_,2,_=>exact⟨qd,Z,c.lev ld,vd⟩
inductive WI(vs:List V)(H:Hp)(Q:VK):Prop
|mk (L:R_) (k0 k1 k2 k3 k4 k5 k6 k7 k8:Nat) (_:vs=[.ref L]) (_:H L=some (.lst [.int k0,.int k1,.int k2,.int k3,.int k4,.int k5,.int k6,.int k7,.int k8])) (_:∀(M t0 t1 t2 t3:R_)(H':Hp),AA H H'->H' M=some (.lst [.ref t0,.ref t1,.ref t2,.ref t3])->H' t0=some (.tup [.int k0,.int k1,.int k3,.int k4])->H' t1=some (.tup [.int k1,.int k2,.int k4,.int k5])->H' t2=some (.tup [.int k3,.int k4,.int k6,.int k7])->H' t3=some (.tup [.int k4,.int k5,.int k7,.int k8])->Q (.ref M) H'):WI vs H Q
def Mw:Sp:=λvs H Q _=>WI vs H Q
theorem ZO(F:Fun K "fours_of" "fours_of" Md f fd)(T:Top K mg a):AL P w K mg base CX0 1 f fd Vb Mw:=by
 refine F.ok Ti (λvs H Q E h=>?_) (λaa A Y s H vs Q E hr h=>?_)
 .apply AR;intro S c;obtain⟨L,x,i,y,l,b,m,z,n,B,rfl,_⟩:=h;apply c;clear c S;rfl
 .apply AR;intro S c;obtain⟨L,x,i,y,l,b,m,z,n,B,rfl,q,k⟩:=h;apply c;clear c S;refine⟨_,(Ai (Av (BX (Bp (Aa (Aj Ax (pv 0) Ab R_9) (Aa (Aj Ax (pv 0) Ab R_9) (Aa (Aj Ax (pv 0) Ab R_9) (Aa (Aj Ax (pv 0) Ab R_9) Ae)))) (Bp (Aa (Aj Ax (pv 0) Ab R_9) (Aa (Aj Ax (pv 0) Ab R_9) (Aa (Aj Ax (pv 0) Ab R_9) (Aa (Aj Ax (pv 0) Ab R_9) Ae)))) (Bp (Aa (Aj Ax (pv 0) Ab R_9) (Aa (Aj Ax (pv 0) Ab R_9) (Aa (Aj Ax (pv 0) Ab R_9) (Aa (Aj Ax (pv 0) Ab R_9) Ae)))) (Bp (Aa (Aj Ax (pv 0) Ab R_9) (Aa (Aj Ax (pv 0) Ab R_9) (Aa (Aj Ax (pv 0) Ab R_9) (Aa (Aj Ax (pv 0) Ab R_9) Ae)))) Ae))))))),?_⟩
  try dsimp only[cxK]
  refine xwi Z Z Z (SqL.of q) (Ah (j:=0) Z) (xwi Z Z Z (SqL.of q) (Ah (j:=1) Z) (xwi Z Z Z (SqL.of q) (Ah (j:=3) Z) (xwi Z Z Z (SqL.of q) (Ah (j:=4) Z) ⟨S_4,λG U=>?_⟩)));have s0:=Ar (o:=.tup [.int (x:Int),.int (i:Int),.int (l:Int),.int (b:Int)]) U;have h0:upd H G (.tup [.int (x:Int),.int (i:Int),.int (l:Int),.int (b:Int)]) G=some (.tup [.int (x:Int),.int (i:Int),.int (l:Int),.int (b:Int)]):=Af;generalize r:upd H G (.tup [.int (x:Int),.int (i:Int),.int (l:Int),.int (b:Int)])=X0 at s0 h0;have d:=s0 _ _ q
  first|rw[r]|(show ∃_,_;rw[r])|skip
  refine xwi Z Z Z (SqL.of d) (Ah (j:=1) Z) (xwi Z Z Z (SqL.of d) (Ah (j:=2) Z) (xwi Z Z Z (SqL.of d) (Ah (j:=4) Z) (xwi Z Z Z (SqL.of d) (Ah (j:=5) Z) ⟨S_4,λI V=>?_⟩)));have R:=Ar (o:=.tup [.int (i:Int),.int (y:Int),.int (b:Int),.int (m:Int)]) V;have h1:upd X0 I (.tup [.int (i:Int),.int (y:Int),.int (b:Int),.int (m:Int)]) I=some (.tup [.int (i:Int),.int (y:Int),.int (b:Int),.int (m:Int)]):=Af;generalize t:upd X0 I (.tup [.int (i:Int),.int (y:Int),.int (b:Int),.int (m:Int)])=X1 at R h1;have e:=R _ _ d
  first|rw[t]|(show ∃_,_;rw[t])|skip
  refine xwi Z Z Z (SqL.of e) (Ah (j:=3) Z) (xwi Z Z Z (SqL.of e) (Ah (j:=4) Z) (xwi Z Z Z (SqL.of e) (Ah (j:=6) Z) (xwi Z Z Z (SqL.of e) (Ah (j:=7) Z) ⟨S_4,λN W=>?_⟩)));have C:=Ar (o:=.tup [.int (l:Int),.int (b:Int),.int (z:Int),.int (n:Int)]) W;have h2:upd X1 N (.tup [.int (l:Int),.int (b:Int),.int (z:Int),.int (n:Int)]) N=some (.tup [.int (l:Int),.int (b:Int),.int (z:Int),.int (n:Int)]):=Af;generalize u:upd X1 N (.tup [.int (l:Int),.int (b:Int),.int (z:Int),.int (n:Int)])=X2 at C h2;have g:=C _ _ e
  first|rw[u]|(show ∃_,_;rw[u])|skip
  refine xwi Z Z Z (SqL.of g) (Ah (j:=4) Z) (xwi Z Z Z (SqL.of g) (Ah (j:=5) Z) (xwi Z Z Z (SqL.of g) (Ah (j:=7) Z) (xwi Z Z Z (SqL.of g) (Ah (j:=8) Z) ⟨S_4,λO X=>?_⟩)));have p:=Ar (o:=.tup [.int (b:Int),.int (m:Int),.int (n:Int),.int (B:Int)]) X;have h3:upd X2 O (.tup [.int (b:Int),.int (m:Int),.int (n:Int),.int (B:Int)]) O=some (.tup [.int (b:Int),.int (m:Int),.int (n:Int),.int (B:Int)]):=Af;generalize v:upd X2 O (.tup [.int (b:Int),.int (m:Int),.int (n:Int),.int (B:Int)])=X3 at p h3;have ab:=p _ _ g
  first|rw[v]|(show ∃_,_;rw[v])|skip
  refine⟨S_4,λM hM=>?_⟩;have D:=Ar (o:=.lst [.ref G,.ref I,.ref N,.ref O]) hM;exact k M G I N O _ ((((s0.trans R).trans C).trans p).trans D) Af (D _ _ (p _ _ (C _ _ (R _ _ h0)))) (D _ _ (p _ _ (C _ _ h1))) (D _ _ (p _ _ h2)) (D _ _ h3)
inductive SpMet(a:Ad)(vs:List V)(H:Hp)(Q:VK):Prop
|mk (g:GA) (G:Gv) (t:R_) (f0 f1 f2 f3 l:Nat) (_:vs=[.ref g.p,.ref t]) (_:AM a H g G) (_:GOk G) (_:H t=some (.tup [.int f0,.int f1,.int f2,.int f3])) (_:An G f0 ((l+1:Nat):Int)/\An G f1 ((l+1:Nat):Int)/\An G f2 ((l+1:Nat):Int)/\An G f3 ((l+1:Nat):Int)) (_:l<=47) (_:G.length<9000000) (_:∀(k:Nat)(G':Gv)(H':Hp),Fr g H H'->AM a H' g G'->AI G G' 1->G'[k]?=some ⟨[((qO G f0 3:Nat):Int),((qO G f1 2:Nat):Int),((qO G f2 1:Nat):Int),((qO G f3 0:Nat):Int)],(l:Int)+1⟩->Q (.int k) H'):SpMet a vs H Q
def VR(a:Ad):Sp:=λvs H Q _=>SpMet a vs H Q
theorem ok_met(F:Fun K "met_in_the_middle" "met_in_the_middle" DC f fd)(T:Top K mg a)(a9:Cd P w K mg base CX0 2 a.c_Grove "linked" AW (Eg a)):AL P w K mg base CX0 3 f fd CU (VR a):=by
 refine F.ok Fo (λvs H Q E h=>?_) (λac A W s H vs Q E hr h=>?_)
 .apply AR;intro y b;obtain⟨g,G,t,f0,f1,f2,f3,l,rfl,_⟩:=h;apply b;clear b y;rfl
 .apply AR;intro y b;obtain⟨g,G,t,f0,f1,f2,f3,l,rfl,v,ok,x,⟨l0,l1,l2,l3⟩,ad,few,k⟩:=h;obtain⟨ts,q,r⟩:=v.pt;obtain⟨ar,as,au,c,e0,ae,af,ag,R⟩:=ok.four l0;obtain⟨u0,z,L⟩:=PairedM.get r e0;obtain⟨a4,a5,a6,X⟩:=EG e0;obtain⟨av,aw,d,ax,e1,ah,ai,S,aj⟩:=ok.four l1;obtain⟨u1,B,M⟩:=PairedM.get r e1;obtain⟨a7,a8,Y,ba⟩:=EG e1;obtain⟨ay,m,az,a0,e2,ak,U,al,am⟩:=ok.four l2;obtain⟨u2,C,N⟩:=PairedM.get r e2;obtain⟨bb,aa,bc,bd⟩:=EG e2;obtain⟨p,a1,a2,a3,e3,V,an,ao,aq⟩:=ok.four l3;obtain⟨u3,D,O⟩:=PairedM.get r e3;obtain⟨ab,be,bf,bg⟩:=EG e3;apply b;clear b y;rw[X,Y,aa,ab]at k;refine⟨_,(Ac (Ao (i:=2) Fo.nd Z O_9 (AE (pv 0) Z)) (Ai (Av (AJ (pv 0) a9 (rm hr) Aq (Bp (Aa (Aj Ak (Aj Ax (pv 2) (Aj Ak (pv 1) Ab R_9) R_9) Ab R_9) (Aa (Aj Ak (Aj Ax (pv 2) (Aj Ak (pv 1) Ab R_9) R_9) Ab R_9) (Aa (Aj Ak (Aj Ax (pv 2) (Aj Ak (pv 1) Ab R_9) R_9) Ab R_9) (Aa (Aj Ak (Aj Ax (pv 2) (Aj Ak (pv 1) Ab R_9) R_9) Ab R_9) Ae)))) Ae))))),?_⟩
  try dsimp only[cxK]
  refine xwf Z Z v.hp T.cl_Grove T.na_Grove_parts (Cg g) ?_;refine xwn Z Z v.hp (BT g) Z (xwi Z Z Z (SqT.of x) (Ah (j:=0) Z) (xq4 Z Z (SqL.of q) (Ah (by rw[C0,z];rfl)) (xq4 Z Z (SqT.of L) (Ah (j:=3) Z) (xwj Z Z Z Z (SqT.of x) (Ah (j:=1) Z) (xq4 Z Z (SqL.of q) (Ah (by rw[C0,B];rfl)) (xq4 Z Z (SqT.of M) (Ah (j:=2) Z) (xwj Z Z Z Z (SqT.of x) (Ah (j:=2) Z) (xq4 Z Z (SqL.of q) (Ah (by rw[C0,C];rfl)) (xq4 Z Z (SqT.of N) (Ah (j:=1) Z) (xwj Z Z Z Z (SqT.of x) (Ah (j:=3) Z) (xq4 Z Z (SqL.of q) (Ah (by rw[C0,D];rfl)) (xq4 Z Z (SqT.of O) (Ah (j:=0) Z) ⟨S_4,λu hu=>?_⟩))))))))))));have s1:=Ar (o:=.tup [.int (c:Int),.int (d:Int),.int (m:Int),.int (p:Int)]) hu;exact⟨g,G,u,c,d,m,p,(l:Int),Z,v.same s1,ok,Af,⟨R,S,U,V⟩,by lia,few,λn G' H' fr I go e=>k n G' H' ((AA.fr s1).trans fr) I go e⟩
end
end J
namespace J
open PySem L2
def Sv(o:HO):Prop:=Nv o\/∃xs:List V,o=.lst xs/\xs.length<=50
def KpS(H H':Hp):Prop:=∀b o,H b=some o->Sv o->H' b=some o
theorem Sv.lst{xs:List V}(h:xs.length<=50):Sv (.lst xs):=.inr ⟨xs,Z,h⟩
theorem Bs.long{G:Gv}(h:Bs G):56<=G.length:=(B9.mp (h 47 A3)).1
theorem Sv.nl{b x:R_}{H:Hp}{o:HO}{xs:List V}(s:Sv o)(e:H b=some o)(a:H x=some (.lst xs))(d:50<xs.length):b≠x:=λz=>by
 rw[z,a]at e;cases e;rcases s with s|⟨ys,c,f⟩
 .cases s
 .cases c;lia
theorem Sv.nt{b x:R_}{H:Hp}{o:HO}{k:List (List Key×V)}(s:Sv o)(e:H b=some o)(a:H x=some (.dT k)):b≠x:=λz=>by
 rw[z,a]at e;cases e;rcases s with s|⟨ys,c,d⟩
 .cases s
 .cases c
theorem Sv.nk{b x:R_}{H:Hp}{o:HO}{k:List (Key×V)}(s:Sv o)(e:H b=some o)(a:H x=some (.dK k)):b≠x:=λz=>by
 rw[z,a]at e;cases e;rcases s with s|⟨ys,c,d⟩
 .cases s
 .cases c
theorem Fr.kps{a:Ad}{H d:Hp}{g:GA}{G:Gv}(f:Fr g H d)(c:AM a H g G)(j:56<=G.length):KpS H d:=by
 intro b o e s;obtain⟨k,h,i⟩:=c.pt;have lt:k.length=G.length:=A0e i;exact f _ _ e (s.nl e c.lv (by rw[B8];lia)) (s.nl e h (by rw[B8];lia)) (s.nt e c.nm)
theorem FrJ.kps{a:Ad}{H d:Hp}{g:GA}{G:Gv}{N M:Nat}{r:AD}{m:MA}(f:FrJ g m H d)(c:AM a H g G)(p:56<=G.length)(h:Ju H g G N M r m):KpS H d:=by
 intro b o e s;obtain⟨q,k,l⟩:=c.pt;obtain⟨t,c1,_⟩:=h.ce;have lt:q.length=G.length:=A0e l;refine f _ _ e (s.nl e c.lv (by rw[B8];lia)) (s.nl e k (by rw[B8];lia)) (s.nt e c.nm) (s.nt e c1) λz=>?_;obtain⟨j,n⟩:=L9 z;obtain⟨u,i,_⟩:=h.sq j b n;exact s.nk e i Z
theorem Wz{G:Gv}(ok:GOk G):∀(l:Nat){n m:Nat},An G n (l:Int)->An G m (l:Int)->(∀x y,x<2^l->y<2^l->CG G l n x y=CG G l m x y)->n=m
|0,n,m,_,_,h=>K5 (h 0 0 A3 A3)
|l+1,n,m,hn,hm,h=>by
 have a:∀i j,i<2->j<2->qO G n (i+2*j)=qO G m (i+2*j):=λi j k o=>by
  refine Wz ok l (Mi ok hn A0) (Mi ok hm A0) λx y p q=>?_;rw[<-PZ G l n p q k o,<-PZ G l m p q k o];have H:2^l*i<=2^l*1:=M4 _ A0;have I:2^l*j<=2^l*1:=M4 _ A0;exact h _ _ (by rw[J0];lia) (by rw[J0];lia)
 obtain⟨x,y,z,w,e,_⟩:=ok.four hn;obtain⟨D,E,F,C,g,_⟩:=ok.four hm;obtain⟨r,s,t,u⟩:=EG e;obtain⟨v,A,b2,B⟩:=EG g;have b:=a 0 0 A3 A3;have c:=a 1 0 A3 A3;have d:=a 0 1 A3 A3;have f:=a 1 1 A3 A3;have b:x=D:=r.symm.trans (b.trans v);have c:y=E:=s.symm.trans (c.trans A);have d:z=F:=t.symm.trans (d.trans b2);have f:w=C:=u.symm.trans (f.trans B);refine ok.one e g ?_;rw[b,c,d,f]
abbrev Sht:=Nat->Nat->Int
abbrev KTy:=Nat->Nat->Sht->Prop
def EqOn(l:Nat)(φ ψ:Sht):Prop:=∀x y,x<2^(l+2)->y<2^(l+2)->φ x y=ψ x y
def s47(f:L_):Nat:=((List.range 47).map f).sum
theorem VJ(f:L_)(e:Nat):∀l:List Nat,l.Nodup->(l.map λi=>if i=e then f i+1 else f i).sum=(l.map f).sum+if e∈l then 1 else 0
|[],_=>by simp
|a::l,h=>by
 rw[N8]at h;rw[J3,J3,P5,P5,VJ f e l h.2];by_cases z:a=e
 .subst z;rw[K2 rfl,X9 h.1,K2 C9];lia
 .rw[X9 z];by_cases y:e∈l
  .rw[K2 y,K2 (C8 _ y)];lia
  .rw[X9 y,X9 (λq=>by rcases C3.mp q with rfl|q;exact z rfl;exact y q)];lia
theorem VZ(f:L_){e:Nat}(h:e<47):s47 (λi=>if i=e then f i+1 else f i)=s47 f+1:=by
 unfold s47;rw[VJ f e _ List.nodup_range,K2 (J6.mpr h)]
theorem Sd{α β:Type}(R:α->β->Prop)(inj:∀x f y,R x y->R f y->x=f):∀(l:List β)(ks:List α),ks.Nodup->(∀k∈ks,∃y∈l,R k y)->ks.length<=l.length
|[],ks,_,h=>by
 cases ks with
 |nil=>exact C1 _
 |cons k ks=>obtain⟨y,i,_⟩:=h k C9;cases i
|y::l,ks,nd,h=>by
 classical
 have j:=Sd R inj l (ks.filter λk=>decide (¬R k y)) (nd.sublist List.filter_sublist) λk b=>by
  rw[T3,decide_eq_true_iff]at b;obtain⟨z,c,e⟩:=h k b.1;rcases C3.mp c with rfl|c
  .exact absurd e b.2
  .exact⟨z,c,e⟩
 have few:∀ks:List α,ks.Nodup->ks.length<=(ks.filter λk=>decide (¬R k y)).length+1:=by
  intro ks;induction ks with
  |nil=>intro _;exact L5 _
  |cons k ks d =>
   intro a;rw[N8]at a;by_cases z:R k y
   .have:ks.filter (λk=>decide (¬R k y))=ks:=List.filter_eq_self.mpr λx g=>K0 λq=>a.1 (by rw[inj k x y z q];exact g);rw[List.filter_cons_of_neg (by simp[z]),this,F2];exact C1 _
   .rw[List.filter_cons_of_pos (by simp[z]),F2,F2];have:=d a.2;lia
 have:=few ks nd;rw[F2];lia
structure Ng(Κ:KTy)(N:Nat):Prop where
ls:∃M:Nat->Nat,s47 M<=N/\∀e,∃Ls:List (Nat×Sht),Ls.length<=M e/\∀l φ,Κ l e φ->∃ψ,(l,ψ)∈Ls/\EqOn l φ ψ
ext:∀{l e φ ψ},Κ l e φ->EqOn l φ ψ->Κ l e ψ
theorem VL(f:L_):∀(l:J_){e:Nat},e∈l->f e<=(l.map f).sum
|a::l,e,h=>by
 rw[J3,P5];rcases C3.mp h with rfl|h
 .exact R3 _ _
 .exact D0 (VL f l h) (Nat.le_add_left _ _)
theorem SS{f g:L_}:∀{l:J_},(∀e∈l,f e<=g e)->(l.map f).sum<=(l.map g).sum
|[],_=>C1 _
|a::l,h=>by
 have:=SS (l:=l) λe b=>h e (C8 _ b);have:=h a C9;rw[J3,P5,J3,P5];lia
structure Cn(H:Hp)(G:Gv)(m:MA)(Κ:KTy)(b:Nat)(f:L_):Prop where
sq:∀(e:Nat) d,m.ds[e]?=some d->∃kv,H d=some (.dK kv)/\kv.length=f e/\(kv.map (·.1)).Nodup/\∀k∈kv.map (·.1),∃n l:Nat,k=Sum.inl (n:Int)/\An G n ((l+2:Nat):Int)/\Κ l e (CG G (l+2) n)
gl:G.length<=b+10*s47 f
ce:∃kc,H m.kc=some (.dT kc)/\kc.length<=b+10*s47 f
theorem Cn.few'{H:Hp}{G:Gv}{m:MA}{Κ:KTy}{b:Nat}{f M:L_}(h:Cn H G m Κ b f)(ok:GOk G)(fin:∀e,∃a:List (Nat×Sht),a.length<=M e/\∀l φ,Κ l e φ->∃ψ,(l,ψ)∈a/\EqOn l φ ψ)(len:m.ds.length=47){e:Nat}(t:e<47):f e<=M e:=by
 have g:e<m.ds.length:=by rw[len];exact t
 obtain⟨v,_,p,r,s⟩:=h.sq e (m.ds[e]'g) (C6 _);obtain⟨a,w,z⟩:=fin e;refine D0 ?_ w;rw[<-p,<-B8 (f:=(·.1)) (as:=v)];refine Sd (λ(k:Key)(q:Nat×Sht)=>∃n:Nat,k=Sum.inl (n:Int)/\An G n ((q.1+2:Nat):Int)/\EqOn q.1 (CG G (q.1+2) n) q.2) ?_ a _ r λk u=>?_
 .rintro x D ⟨l,ψ⟩ ⟨n,rfl,c,d⟩ ⟨C,rfl,o,b2⟩;rw[Wz ok _ c o λx y i j=>(d x y i j).trans (b2 x y i j).symm]
 .obtain⟨n,l,rfl,c,d⟩:=s k u;obtain⟨ψ,A,B⟩:=z l _ d;exact⟨_,A,n,Z,c,B⟩
theorem Cn.sum{H:Hp}{G:Gv}{m:MA}{Κ:KTy}{b N:Nat}{f:L_}(h:Cn H G m Κ b f)(ok:GOk G)(fin:Ng Κ N)(len:m.ds.length=47):s47 f<=N:=by
 obtain⟨M,a,c⟩:=fin.ls;exact D0 (SS λe d=>h.few' ok c len (J6.mp d)) a
theorem Cn.few{H:Hp}{G:Gv}{m:MA}{Κ:KTy}{b N:Nat}{f:L_}(h:Cn H G m Κ b f)(ok:GOk G)(fin:Ng Κ N)(len:m.ds.length=47){e:Nat}(a:e<47):f e<=N:=D0 (VL f _ (J6.mpr a)) (h.sum ok fin len)
theorem Cn.mono{H:Hp}{G:Gv}{m:MA}{Κ:KTy}{b b':Nat}{f:L_}(h:Cn H G m Κ b f)(e:b<=b'):Cn H G m Κ b' f:=by
 obtain⟨c,a,d⟩:=h.ce;have:=h.gl;exact⟨h.sq,by lia,c,a,by lia⟩
theorem Cn.kp{H g:Hp}{G q:Gv}{m:MA}{Κ:KTy}{b i:Nat}{f:L_}(h:Cn H G m Κ b f)(ok:GOk G)(go:AI G q i)(y:∀d∈m.ds,∀o,H d=some o->g d=some o)(z:∀c,H m.kc=some (.dT c)->∃a,g m.kc=some (.dT a)/\a.length<=c.length+i):Cn g q m Κ (b+i) f:=by
 refine⟨λe d s=>?_,?_,?_⟩
 .obtain⟨A,j,t,p,u⟩:=h.sq e d s;refine⟨A,y d (D6 s) _ j,t,p,λk x=>?_⟩;obtain⟨n,l,v,r,w⟩:=u k x;exact⟨n,l,v,go.lev r,by rw[Dj ok go r];exact w⟩
 .have:=h.gl;have:=go.few;lia
 .obtain⟨c,j,t⟩:=h.ce;obtain⟨a,p,u⟩:=z c j;exact⟨a,p,by lia⟩
structure JZ(a:Ad)(H:Hp)(g:GA)(G:Gv)(Κ:KTy)(N b:Nat)(p dx mem pr:R_)(r:AD)(m:MA):Prop where
jw:JW a H g G N (b+10*N) p dx mem pr r m
cn:∃f,Cn H G m Κ b f
section
variable{a:Ad}{H H':Hp}{g:GA}{G G':Gv}{Κ:KTy}{N b i:Nat}{p dx mem pr:R_}{r:AD}{m:MA}
theorem JZ.sz(h:JZ a H g G Κ N b p dx mem pr r m)(fin:Ng Κ N):G.length<=b+10*N:=by
 obtain⟨f,c⟩:=h.cn;have:=c.gl;have:=c.sum h.jw.ok fin h.jw.me.len;lia
theorem JZ.mono{b':Nat}(h:JZ a H g G Κ N b p dx mem pr r m)(e:b<=b'):JZ a H g G Κ N b' p dx mem pr r m:=by
 obtain⟨f,c⟩:=h.cn;exact⟨h.jw.mono (C1 _) A0,f,c.mono e⟩
theorem JZ.same(h:JZ a H g G Κ N b p dx mem pr r m)(s:AA H H'):JZ a H' g G Κ N b p dx mem pr r m:=by
 obtain⟨f,c⟩:=h.cn;exact⟨JW.same s h.jw,f,c.kp (i:=0) h.jw.ok (AI.refl h.jw.ok) (λd _ o e=>s _ _ e) λj e=>⟨j,s _ _ e,C1 _⟩⟩
theorem JZ.fr(h:JZ a H g G Κ N b p dx mem pr r m)(f:Fr g H H')(k:AM a H' g G')(go:AI G G' i):JZ a H' g G' Κ N (b+i) p dx mem pr r m:=by
 obtain⟨q,c⟩:=h.cn;obtain⟨w,n,_⟩:=h.jw.gr.pt;refine⟨(h.jw.fr f k go).mono (C1 _) A0,q,c.kp h.jw.ok go (λd s o e=>?_) λu e=>⟨u,?_,by lia⟩⟩
 .obtain⟨j,t⟩:=L9 s;obtain⟨v,l,_⟩:=c.sq j d t;rw[e]at l;cases l;exact f _ _ e (AH e h.jw.gr.lv A4) (AH e n A4) (AH e h.jw.gr.nm A4)
 .exact f _ _ e (AH e h.jw.gr.lv A4) (AH e n A4) h.jw.me.ap.2.2
def No(H:Hp)(m:MA)(e n:Nat):Prop:=∀d kv,m.ds[e]?=some d->H d=some (.dK kv)->Br kv (Sum.inl (n:Int))=none
def Up(l:Nat)(G:Gv)(H H':Hp)(m:MA):Prop:=∀e n l':Nat,An G n ((l'+2:Nat):Int)->l<=l'->No H m e n->No H' m e n
theorem Up.refl(l:Nat)(G:Gv)(H:Hp)(m:MA):Up l G H H m:=λ_ _ _ _ _ h=>h
theorem Up.trans{l:Nat}{c d f:Hp}(h:Up l G c d m)(k:Up l G' d f m)(go:AI G G' i):Up l G c f m:=λe n q j o s=>k e n q (go.lev j) o (h e n q j o s)
theorem Up.mono{l c:Nat}(h:Up l G H H' m)(e:l<=c):Up c G H H' m:=λk n o d f j=>h k n o d (D0 e f) j
theorem Up.of(l:Nat){N M:Nat}(q:Ju H g G N M r m)(k:∀d∈m.ds,∀o,H d=some o->H' d=some o):Up l G H H' m:=λe n u _ _ h d t c j=>by
 obtain⟨s,f,_⟩:=q.sq e d c;have:=k d (D6 c) _ f;rw[j]at this;cases this;exact h d _ c f
theorem JZ.upS(l:Nat)(h:JZ a H g G Κ N b p dx mem pr r m)(s:AA H H'):Up l G H H' m:=Up.of l h.jw.me λd _ o e=>s _ _ e
theorem JZ.upF(l:Nat)(h:JZ a H g G Κ N b p dx mem pr r m)(f:Fr g H H'):Up l G H H' m:=Up.of l h.jw.me λd n o e=>by
 obtain⟨t,k,_⟩:=h.jw.gr.pt;obtain⟨j,q⟩:=L9 n;obtain⟨s,c,_⟩:=h.jw.me.sq j d q;rw[e]at c;cases c;exact f _ _ e (AH e h.jw.gr.lv A4) (AH e k A4) (AH e h.jw.gr.nm A4)
theorem JW.tc{M:Nat}{c:List (List Key×V)}(h:JW a H g G N M p dx mem pr r m)(d:H m.kc=some (.dT c)):JW a H g G N c.length p dx mem pr r m:=by
 obtain⟨e,c1,_,c3⟩:=h.me.ce;rw[d]at c1;cases c1;exact⟨h.gr,h.ok,h.bs,h.br,h.nbr,h.hp,h.ru,h.rok,h.rest,⟨h.me.tp,h.me.l,h.me.ap,h.me.len,h.me.nd,h.me.sq,_,d,C1 _,c3⟩⟩
theorem JZ.mid{f:L_}{t:List (List Key×V)}(h:JZ a H g G Κ N b p dx mem pr r m)(c:Cn H G m Κ b f)(s:H m.kc=some (.dT t))(fr:FrC g m H H')(k:JW a H' g G' N (t.length+4) p dx mem pr r m)(go:AI G G' 1):JZ a H' g G' Κ N (b+4) p dx mem pr r m/\∀l,Up l G H H' m:=by
 obtain⟨C,y,_⟩:=h.jw.gr.pt;have x:∀d∈m.ds,∀o,H d=some o->H' d=some o:=λd z o e=>by
  obtain⟨j,k⟩:=L9 z;obtain⟨B,w,_⟩:=h.jw.me.sq j d k;rw[e]at w;cases w;exact fr _ _ e (AH e h.jw.gr.lv A4) (AH e y A4) (AH e h.jw.gr.nm A4) (AH e s A4)
 obtain⟨q,c1,c2,c3⟩:=k.me.ce;obtain⟨u,v,A,_⟩:=h.jw.me.ce;rw[s]at v;cases v;have n:=k.me;refine⟨⟨⟨k.gr,k.ok,k.bs,k.br,k.nbr,k.hp,k.ru,k.rok,k.rest,⟨n.tp,n.l,n.ap,n.len,n.nd,n.sq,q,c1,by lia,c3⟩⟩,f,c.kp (i:=4) h.jw.ok (go.mono A3) x λu e=>⟨q,c1,by rw[s]at e;cases e;exact c2⟩⟩,λl=>Up.of l h.jw.me x⟩
theorem JZ.put{e n k l:Nat}{d:R_}{t:List (Key×V)}(h:JZ a H g G Κ N (b+10) p dx mem pr r m)(fin:Ng Κ N)(B:m.ds[e]?=some d)(I:H d=some (.dK t))(no:Br t (Sum.inl (n:Int))=none)(S:An G n ((l+2:Nat):Int))(hk:Κ l e (CG G (l+2) n))(jr:JR r G e n k):JZ a (upd H d (.dK (DI t (Sum.inl (n:Int)) (.int (k:Int))))) g G Κ N b p dx mem pr r m/\Up (l+1) G H (upd H d (.dK (DI t (Sum.inl (n:Int)) (.int (k:Int))))) m:=by
 obtain⟨f,c⟩:=h.cn;have D:e<47:=by rw[<-h.jw.me.len];exact(B9.mp B).1
 have o:=h.jw.putS B I jr;obtain⟨ab,U,q2,q3,q4⟩:=c.sq e d B;rw[I]at U;cases U;have T:=Gk (.int (k:Int)) no;rw[T]at o⊢;have nn:(Sum.inl (n:Int):Key)∉t.map (·.1):=λz=>by
  obtain⟨q,hq,eq⟩:=D3.mp z;have:(t.find? λt=>decide (t.1=(Sum.inl (n:Int):Key)))=none:=by
   unfold Br at no;cases y:t.find? λt=>decide (t.1=(Sum.inl (n:Int):Key))with
   |none=>rfl
   |some w=>rw[y]at no;cases no
  have:=List.find?_eq_none.mp this q hq;exact this (K0 eq)
 obtain⟨kc,c1,c2⟩:=c.ce;have gl:=c.gl;have F:∀{d':R_}{s:Nat},m.ds[s]?=some d'->s≠e->d'≠d:=λ{d' s} j z y=>z (by
  rw[y]at j;exact(List.getElem?_inj (B9.mp j).1 h.jw.me.nd).mp (j.trans B.symm))
 have v:Cn (upd H d (.dK (t++[(Sum.inl (n:Int),.int (k:Int))]))) G m Κ b (λi=>if i=e then f i+1 else f i):=by
  refine⟨λs d' j=>?_,by rw[VZ f D];lia,kc,?_,by rw[VZ f D];lia⟩
  .by_cases z:s=e
   .subst z;rw[B]at j;cases j;refine⟨_,Af,by rw[K2 rfl,C5,q2];rfl,?_,λk' E=>?_⟩
    .rw[C7,Q7];refine⟨q3,by simp,λx hx y hy=>?_⟩;rw[D4.mp hy];exact λz=>nn ((show x=Sum.inl (n:Int)from z)▸hx)
    .rw[C7]at E;rcases F4.mp E with y|y
     .exact q4 k' y
     .rw[D4.mp y];exact⟨n,l,Z,S,hk⟩
   .obtain⟨C,M,O,K,P⟩:=c.sq s d' j;exact⟨C,by rw[Aw (F j z)];exact M,by rw[X9 z];exact O,K,P⟩
  .rw[Aw (AH c1 I A4)];exact c1
 refine⟨⟨?_,_,v⟩,λs n' l' a1 a2 Q d' C j A=>?_⟩
 .have fw:∀{s:Nat},s<47->(if s=e then f s+1 else f s)<=N:=λ{s} he=>v.few h.jw.ok fin h.jw.me.len he;have sm:=v.sum h.jw.ok fin h.jw.me.len;obtain⟨L,R,d2⟩:=v.ce;have u:=o.me;obtain⟨aa,W,r2,r3⟩:=u.ce;rw[R]at W;cases W;refine⟨o.gr,o.ok,o.bs,o.br,o.nbr,o.hp,o.ru,o.rok,o.rest,⟨u.tp,u.l,u.ap,u.len,u.nd,λs d' j=>?_,L,R,by lia,r3⟩⟩;obtain⟨kw,X,u2,u3,u4⟩:=u.sq s d' j;obtain⟨ac,Y,v2,_⟩:=v.sq s d' j;rw[X]at Y;cases Y;exact⟨kw,X,by rw[v2];exact fw (by rw[<-h.jw.me.len];exact(B9.mp j).1),u3,u4⟩
 .by_cases z:s=e
  .subst z;rw[B]at j;cases j;rw[Af]at A;cases A;rw[<-T,Fl];have ne:n'≠n:=λy=>by
    subst y;have:((l'+2:Nat):Int)=((l+2:Nat):Int):=by
     obtain⟨q,M,O⟩:=a1;obtain⟨q',K,P⟩:=S;rw[M]at K;cases K;exact O.symm.trans P
    lia
   rw[X9 (λy=>ne (by have:=Sum.inl.inj y;lia))];exact Q d t B I
  .rw[Aw (F j z)]at A;exact Q d' C j A
end
seal L2.PA L2.PE L2.PS L2.PSs L2.PT L2.PW
structure ClK(r:AD)(Κ:KTy):Prop where
nine1:∀{l e φ},Κ (l+1) e φ->e<=l->∀i j,i<3->j<3->Κ l e λx y=>φ (x+2^(l+1)*i) (y+2^(l+1)*j)
nine2:∀{l φ},Κ (l+1) (l+1) φ->∀i j,i<3->j<3->Κ l l λx y=>φ (x+2^(l+1)*i) (y+2^(l+1)*j)
four:∀{l φ},Κ (l+1) (l+1) φ->∀i j,i<2->j<2->Κ l l λx y=>Bu r (2^l) φ (x+(2^(l+1)*i+2^l)) (y+(2^(l+1)*j+2^l))
theorem An.one{G:Gv}{n:Nat}{i j:Int}(h:An G n i)(k:An G n j):i=j:=by
 obtain⟨q,b,c⟩:=h;obtain⟨p,a,d⟩:=k;rw[b]at a;cases a;exact c.symm.trans d
theorem JR.view{r:AD}{G:Gv}{c:Nat->Nat->Int}{e n m l X Y:Nat}(h:JR r G e n m)(o:An G n ((l+2:Nat):Int))(v:Vw G c (l+2) n X Y):An G m ((l+1:Nat):Int)/\e<=l/\Vw G (Bu r (2^e) c) (l+1) m (X+2^l) (Y+2^l):=by
 apply AR;intro d a;obtain⟨k,g,b,i,j⟩:=h;apply a;clear a d;have f:k=l:=by
  have:=g.one o;lia
 subst f;exact⟨i,b,v.jump b j⟩
theorem Vw.jr{r:AD}{G:Gv}{e n m l:Nat}(c:An G n ((l+1+2:Nat):Int))(a:e<=l+1)(b:An G m ((l+1+1:Nat):Int))(v:Vw G (Bu r (2^e) (CG G (l+1+2) n)) (l+1+1) m (2^(l+1)) (2^(l+1))):JR r G e n m:=⟨l+1,c,a,b,v⟩
theorem met_view{G b:Gv}{c:Nat->Nat->Int}{l d f g h z X Y i:Nat}(ok:GOk G)(go:AI G b i)(m:An G d ((l+1:Nat):Int))(n:An G f ((l+1:Nat):Int))(o:An G g ((l+1:Nat):Int))(p:An G h ((l+1:Nat):Int))(v:Vw G c (l+1) d X Y)(w:Vw G c (l+1) f (X+2^(l+1)) Y)(x:Vw G c (l+1) g X (Y+2^(l+1)))(y:Vw G c (l+1) h (X+2^(l+1)) (Y+2^(l+1)))(e:b[z]?=some ⟨[((qO G d 3:Nat):Int),((qO G f 2:Nat):Int),((qO G g 1:Nat):Int),((qO G h 0:Nat):Int)],(l:Int)+1⟩):Vw b c (l+1) z (X+2^l) (Y+2^l):=by
 have E:2^(l+1)=2^l*2:=J0 ..;apply AR;intro k a;obtain⟨A,B,C,D⟩:=EG e;apply a;clear a k;have r:=(v.q (i:=1) (j:=1) A3 A3).goes ok go (Mi ok m A3);have s:=(w.q (i:=0) (j:=1) A3 A3).goes ok go (Mi ok n A3);have t:=(x.q (i:=1) (j:=0) A3 A3).goes ok go (Mi ok o A3);have u:=(y.q (i:=0) (j:=0) A3 A3).goes ok go (Mi ok p A3);refine Vw.of ?_ ?_ ?_ ?_
 .rw[A];exact r.at' A0 A0
 .rw[B];exact s.at' A0 A0
 .rw[C];exact t.at' A0 A0
 .rw[D];exact u.at' A0 A0
theorem NT{G b:Gv}{c:Nat->Nat->Int}{l d f g h z X Y i:Nat}{L:Int}(ok:GOk G)(go:AI G b i)(k:An G d (l:Int))(m:An G f (l:Int))(n:An G g (l:Int))(o:An G h (l:Int))(p:Vw G c l d X Y)(q:Vw G c l f (X+2^l) Y)(r:Vw G c l g X (Y+2^l))(s:Vw G c l h (X+2^l) (Y+2^l))(e:b[z]?=some ⟨[(d:Int),(f:Int),(g:Int),(h:Int)],L⟩):Vw b c (l+1) z X Y:=by
 apply AR;intro j a;obtain⟨t,u,v,w⟩:=EG e;apply a;clear a j;refine Vw.of ?_ ?_ ?_ ?_
 .rw[t];exact p.goes ok go k
 .rw[u];exact q.goes ok go m
 .rw[v];exact r.goes ok go n
 .rw[w];exact s.goes ok go o
theorem Wh:∀xs:List Nat,xs.length=9->∃a b c d e f g h i,xs=[a,b,c,d,e,f,g,h,i]
|[a,b,c,d,e,f,g,h,i],_=>⟨a,b,c,d,e,f,g,h,i,Z⟩
theorem PU:∀xs:List Nat,xs.length=4->∃a b c d,xs=[a,b,c,d]
|[a,b,c,d],_=>⟨a,b,c,d,Z⟩
def toV(k:Nat):V:=.int (k:Int)
def Nine(G:Gv)(c:Nat->Nat->Int)(l X:Nat)(ys:J_):Prop:=∀i j,i<3->j<3->∃y,ys[i+3*j]?=some y/\An G y (l:Int)/\Vw G c l y (2^l*i+X) (2^l*j+X)
theorem QH {r:AD} {b d:Gv} {c:Nat->Nat->Int} {l e x:Nat} {ks ys:J_} (ok:GOk b) (go:AI b d x) (h:∀i j,i<3->j<3->∃k,ks[i+3*j]?=some k/\An b k ((l+1+1:Nat):Int)/\Vw b c (l+1+1) k (2^(l+1)*i) (2^(l+1)*j)) (t:Paired (λk y=>JR r d e k y) ks ys):Nine d (Bu r (2^e) c) (l+1) (2^l) ys:=λi j q s=>by
 apply AR;intro g a;obtain⟨k,m,f,n⟩:=h i j q s;obtain⟨y,o,p⟩:=Paired.get t m;obtain⟨u,_,v⟩:=p.view (go.lev f) (n.goes ok go f);apply a;clear a g;exact⟨y,o,u,v⟩
theorem Ps{G:Gv}{c:Nat->Nat->Int}{l X:Nat}{H:Hp}{x n y o g p z q A:Nat}{r s u v:R_}(m:Nine G c l X [x,n,y,o,g,p,z,q,A])(B:H r=some (.tup [.int x,.int n,.int o,.int g]))(C:H s=some (.tup [.int n,.int y,.int g,.int p]))(D:H u=some (.tup [.int o,.int g,.int z,.int q]))(E:H v=some (.tup [.int g,.int p,.int q,.int A]))(t:Nat)(w:R_)(a:[r,s,u,v][t]?=some w) :
  ∃b d e f:Nat,H w=some (.tup [.int b,.int d,.int e,.int f])/\(An G b (l:Int)/\An G d (l:Int)/\An G e (l:Int)/\An G f (l:Int))/\Vw G c l b (2^l*(t%2)+X) (2^l*(t/2)+X)/\Vw G c l d (2^l*(t%2)+X+2^l) (2^l*(t/2)+X)/\Vw G c l e (2^l*(t%2)+X) (2^l*(t/2)+X+2^l)/\Vw G c l f (2^l*(t%2)+X+2^l) (2^l*(t/2)+X+2^l):=by
 have M:t<4:=(B9.mp a).1;have R:=Nat.mul_succ (2^l) (t%2);have S:=Nat.mul_succ (2^l) (t/2);obtain⟨b,h,F,N⟩:=m (t%2) (t/2) A0 A0;obtain⟨d,i,I,O⟩:=m (t%2+1) (t/2) A0 A0;obtain⟨e,j,K,P⟩:=m (t%2) (t/2+1) A0 A0;obtain⟨f,k,L,Q⟩:=m (t%2+1) (t/2+1) A0 A0;refine⟨b,d,e,f,?_,⟨F,I,K,L⟩,N,O.at' A0 Z,P.at' Z A0,Q.at' A0 A0⟩
 match t,M,a with
 |0,_,a=>cases h;cases i;cases j;cases k;cases a;exact B
 |1,_,a=>cases h;cases i;cases j;cases k;cases a;exact C
 |2,_,a=>cases h;cases i;cases j;cases k;cases a;exact D
 |3,_,a=>cases h;cases i;cases j;cases k;cases a;exact E
theorem Sz{α:Type}{P:Nat->α->Prop}{b:List α}{z:α}{i:Nat}(c:b.length=i)(h:∀t a,b[t]?=some a->P t a)(d:P i z):∀t a,(b++[z])[t]?=some a->P t a:=λt a e=>by
 by_cases f:t<i
 .rw[N5 A0]at e;exact h t a e
 .have:t=i:=by
   have:=(B9.mp e).1;rw[C5,c]at this;have:t<i+1:=this;lia
  subst this;rw[L6 A0,c,W4]at e;cases e;exact d
section
variable{P:N_}{w:Q_}{K:O_}{mg:C_}{base:T_}{a:Ad}
inductive SpRecA(a:Ad)(L:Nat)(vs:List V)(H:Hp)(Q:VK):Prop
|mk (p dx mem pr:R_) (g:GA) (G:Gv) (Κ:KTy) (N b:Nat) (r:AD) (m:MA) (n l e:Nat) (_:vs=[.ref p,.int n,.int e]) (_:JZ a H g G Κ N b p dx mem pr r m) (_:Ng Κ N) (_:ClK r Κ) (_:An G n ((l+2:Nat):Int)) (_:l<L) (_:e<=l) (_:Κ l e (CG G (l+2) n)) (_:b+10*N+10*(l+1)<8000000) (_:∀(k:Nat)(G':Gv)(H':Hp)(i:Nat),FrJ g m H H'->JZ a H' g G' Κ N b p dx mem pr r m->AI G G' i->JR r G' e n k->Up (l+1) G H H' m->Q (.int k) H'):SpRecA a L vs H Q
def GT(a:Ad)(L:Nat):Sp:=λvs H Q _=>SpRecA a L vs H Q
inductive SpFreA(a:Ad)(L:Nat)(vs:List V)(H:Hp)(Q:VK):Prop
|mk (p dx mem pr:R_) (g:GA) (G:Gv) (Κ:KTy) (N b:Nat) (r:AD) (m:MA) (n l e:Nat) (_:vs=[.ref p,.int n,.int e]) (_:JZ a H g G Κ N b p dx mem pr r m) (_:Ng Κ N) (_:ClK r Κ) (_:An G n ((l+2:Nat):Int)) (_:l<L) (_:e<=l) (_:Κ l e (CG G (l+2) n)) (_:b+10*N+10*(l+1)<8000000) (_:∀(k:Nat)(G':Gv)(H':Hp)(i:Nat),FrJ g m H H'->JZ a H' g G' Κ N (b+10) p dx mem pr r m->AI G G' i->JR r G' e n k->Up l G H H' m->Q (.int k) H'):SpFreA a L vs H Q
def UF(a:Ad)(L:Nat):Sp:=λvs H Q _=>SpFreA a L vs H Q
inductive WG(a:Ad)(L:Nat)(vs:List V)(H:Hp)(Q:VK):Prop
|mk (p dx mem pr:R_) (g:GA) (G:Gv) (Κ:KTy) (N b:Nat) (r:AD) (m:MA) (n l:Nat) (_:vs=[.ref p,.int n,.int ((l+1:Nat):Int)]) (_:JZ a H g G Κ N b p dx mem pr r m) (_:Ng Κ N) (_:ClK r Κ) (_:An G n ((l+1+2:Nat):Int)) (_:l<L) (_:Κ (l+1) (l+1) (CG G (l+1+2) n)) (_:b+10*N+10*(l+2)<8000000) (_:∀(A:R_)(f0 f1 f2 f3:Nat)(G':Gv)(H':Hp)(i:Nat),FrJ g m H H'->JZ a H' g G' Κ N (b+9) p dx mem pr r m->AI G G' i->Up (l+1) G H H' m->H' A=some (.lst [toV f0,toV f1,toV f2,toV f3])->(An G' f0 ((l+2:Nat):Int)/\An G' f1 ((l+2:Nat):Int)/\An G' f2 ((l+2:Nat):Int)/\An G' f3 ((l+2:Nat):Int))->(Vw G' (Bu r (2^l) (CG G (l+1+2) n)) (l+2) f0 (2^l) (2^l)/\Vw G' (Bu r (2^l) (CG G (l+1+2) n)) (l+2) f1 (2^l+2^(l+1)) (2^l)/\Vw G' (Bu r (2^l) (CG G (l+1+2) n)) (l+2) f2 (2^l) (2^l+2^(l+1))/\Vw G' (Bu r (2^l) (CG G (l+1+2) n)) (l+2) f3 (2^l+2^(l+1)) (2^l+2^(l+1)))->Q (.ref A) H'):WG a L vs H Q
def Rr(a:Ad)(L:Nat):Sp:=λvs H Q _=>WG a L vs H Q
theorem ZM{L d:Nat}(F:Fun K "four_halfway" "Jumps.four_halfway" Bw f fd)(T:Top K mg a)(d3:3<=d)(aQ:Cal P w K mg base CX0 3 "nine_parts" Lu (OU a))(aW:Cal P w K mg base CX0 1 "fours_of" Vb Mw)(a9:Cd P w K mg base CX0 2 a.c_Grove "linked" AW (Eg a))(aG:Cd P w K mg base CX0 d a.c_Jumps "reckoned" Qs (GT a L)):AL P w K mg base CX0 (d+1) f fd Qs (Rr a L):=by
 refine F.ok EF (λvs H Q E h=>?_) (λbb A a7 s H vs Q E hr h=>?_)
 .apply AR;intro C c;obtain⟨p,dx,mem,pr,g,G,Κ,N,b,r,m,n,l,rfl,_⟩:=h;apply c;clear c C;rfl
 .apply AR;intro C c;obtain⟨p,dx,mem,pr,g,G,Κ,N,b,r,m,n,l,rfl,hz,fin,cl,hl,hL,a4,few,k⟩:=h;have hj:=hz.jw;have sz:=hz.sz fin;apply c;clear c C;refine⟨_,(Ac (Jb (i:=3) Z EF.nd Z Z (BE.of (So:=Al Bw) (No:=Du) (N:=["part","self","e"]) (k:=1) (cs:=[0,2]) Z Z A1) (Ci (As aQ (rm hr) Z Aq (Aa (AE (pv 0) Z) (Aa (pv 1) Ae)))) (λ_ _ _=>(Bg (i:=0) A1 Z Z)) (λ_ _ _=>BL) (λ_ _ _=>(AJ (pv 1) aG (rm hr) Aq (Aa (pv 0) (AV BI (pv 2) Ab Ae))))) (Ai (Av (Ck Z (BE.of (So:=Al Bw) (No:=Du) (N:=["four","self"]) (k:=1) (cs:=[0]) Z Z A1) (Ci (As aW (rm hr) Z Aq (Aa (pv 3) Ae))) (λ_ _ _=>(Bg (i:=0) A1 Z Z)) (λ_ _ _=>BL) (λ_ _ _=>(AJ (RC (K:=K) Z (pv 1) Z) a9 (rm hr) Aq (Aa (pv 0) Ae))))))),?_⟩
  try dsimp only[cxK]
  obtain⟨q9,aq,bc⟩:=id hl;have be:l<=45:=by have:=(hj.ok.lev aq).2;lia
  refine xwf Z Z hj.hp T.cl_Jumps T.na_Jumps_grove (DY _ _ _ _ _) (xq1 Z ⟨g,G,n,l+1,Z,hj.gr,hj.ok,hl,by lia,by lia,λA9 ks G3 H3 ac ax I am l9 nine=>?_⟩);have af:=hz.fr ac ax I;have M:=af.jw;have bf:=af.sz fin
  skip
  have ao:∀(t k:Nat),ks[t]?=some k->An G3 k ((l+2:Nat):Int):=λt k e=>by
   have ht:=(B9.mp e).1;obtain⟨k',e1,e2,_⟩:=nine (t%3) (t/3) A0 A0;rw[show t%3+3*(t/3)=t by lia,e]at e1;cases e1;exact e2
  have a6:∀(t k:Nat),ks[t]?=some k->Κ l l (CG G3 (l+2) k):=λt k e=>by
   have ht:=(B9.mp e).1;obtain⟨k',e1,_,v⟩:=nine (t%3) (t/3) A0 A0;rw[show t%3+3*(t/3)=t by lia,e]at e1;cases e1;exact fin.ext (cl.nine2 a4 (t%3) (t/3) A0 A0) λx y hx hy=>(v x y hx hy).symm
  refine⟨A9,Z,⟨_,SqL.of am⟩,?_⟩;refine Dv (xs:=ks.map λ(k:Nat)=>V.int (k:Int)) (λi u H5=>∃(Y:Gv)(ys:J_)(c5:Nat),u=ys.map toV/\ys.length=i/\FrJ g m H3 H5/\JZ a H5 g Y Κ N (b+5) p dx mem pr r m/\AI G3 Y c5/\Up (l+1) G3 H3 H5 m/\Paired (λk y=>JR r Y l k y) (ks.take i) ys) ⟨G3,[],0,Z,Z,λb o e _ _ _ _ _=>e,af,AI.refl M.ok,Up.refl _ _ _ _,.nil⟩ (λi u H5 _ z=>by obtain⟨_,_,_,_,_,fr,_⟩:=z;exact SqL.of ((fr.kps M.gr M.bs.long M.me) _ _ am (.lst (by rw[B8];lia)))) ?_ ?_
  .rintro i v u H5 ev aj;apply AR;intro C c;obtain⟨Y,ys,c5,rfl,ly,ad,R,q,ah,aa⟩:=aj;apply c;clear c C;rw[C0]at ev;obtain⟨k5,ek,rfl⟩:=D7.mp ev;have i9:i<9:=by have:=(B9.mp ek).1;lia
   have ae:=R.jw
   skip
   refine⟨⟨[some (.int (k5:Int))],Z,Z⟩,by rw[B8,ly];exact V0 i9 A3,GQ (xwn Z Z ae.hp (MO _ _ _ _ _) Z (xwb Z Z Z ⟨p,dx,mem,pr,g,Y,Κ,N,b+5,r,m,k5,l,l,(show [V.ref p,V.int (k5:Int),V.int (((l+1:Nat):Int)-1)]=[V.ref p,V.int (k5:Int),V.int (l:Int)] by rw[show((l+1:Nat):Int)-1=(l:Int) by lia]),R,fin,cl,q.lev (ao i k5 ek),hL,C1 l,(by rw[Dj M.ok q (ao i k5 ek)];exact a6 i k5 ek),by lia,λy G6 H6 c6 as X al a5 ba=>⟨G6,ys++[y],_,by rw[C7];rfl,by rw[C5,ly];rfl,ad.trans as,X,q.trans al,ah.trans ba q,?_⟩⟩))⟩;rw[F9,ek,R6];exact A2d (Paired.imp (λk y z=>z.goes ae.ok al) aa) a5
  rintro u H5 ai A5 av;apply AR;intro C c;obtain⟨Y,ys,c5,rfl,ly,ad,R,q,ah,aa⟩:=ai;have ae:=R.jw;apply c;clear c C;rw[B8,l9]at ly;rw[B8,J8]at aa;have nj:=QH M.ok q nine aa;apply AR;intro C c;obtain⟨y0,y1,y2,y3,y4,y5,y6,y7,y8,rfl⟩:=Wh ys ly;apply c;clear c C
  skip
  generalize dO:upd H5 A5 _=H6;obtain⟨s5,an⟩:=alc av dO;have X:=R.same s5;have bd:=X.jw;have ar:FrJ g m H H6:=(Fr.j ac).trans (ad.trans (AA.j s5));refine xq1 Z ⟨A5,y0,y1,y2,y3,y4,y5,y6,y7,y8,Z,an,λMM t0 t1 t2 t3 H7 s7 hM az a0 a1 a2=>?_⟩;have ag:=X.same s7;have W:=ag.jw;refine⟨MM,Z,⟨_,SqL.of hM⟩,?_⟩;have p1:2^(l+1)=2^l*2:=J0 ..;have four:=Ps nj az a0 a1 a2;have ab:=W.ok;refine Dv (xs:=[t0,t1,t2,t3].map V.ref) (λi u H8=>∃(G8:Gv)(zs:J_),u=zs.map toV/\zs.length=i/\Fr g H7 H8/\JZ a H8 g G8 Κ N (b+5+i) p dx mem pr r m/\AI Y G8 i/\∀(t z:Nat),zs[t]?=some z->An G8 z ((l+2:Nat):Int)/\Vw G8 (Bu r (2^l) (CG G (l+1+2) n)) (l+1+1) z (2^(l+1)*(t%2)+2^l) (2^(l+1)*(t/2)+2^l)) ⟨Y,[],Z,Z,Fr.refl g H7,ag,AI.refl ab,λt z e=>(nomatch e)⟩ (λi u H8 _ z=>by obtain⟨_,_,_,_,fr,_⟩:=z;exact SqL.of ((fr.kps W.gr W.bs.long) _ _ hM (.lst (by show 4<=50;decide)))) ?_ ?_
  .rintro i v u H8 ev aj;apply AR;intro C c;obtain⟨G8,zs,rfl,lz,S,D,B,vz⟩:=aj;have O:=D.jw;have a8:=D.sz fin;apply c;clear c C;rw[C0]at ev;obtain⟨tt,et,rfl⟩:=D7.mp ev;have i4:i<4:=(B9.mp et).1;apply AR;intro C c;obtain⟨f0,f1,f2,f3,a3,⟨m0,m1,m2,m3⟩,w0,w1,w2,w3⟩:=four i tt et;apply c;clear c C
   skip
   refine⟨⟨[some (.ref tt)],Z,Z⟩,by rw[B8,lz];exact V0 i4 A3,GQ (xwf Z Z O.hp T.cl_Jumps T.na_Jumps_grove (DY _ _ _ _ _) (xq3 Z O.gr.hp (BT g) (xq1 Z ⟨g,G8,tt,f0,f1,f2,f3,((l+1:Nat):Int),Z,O.gr,O.ok,(S.kps W.gr W.bs.long) _ _ a3 (.inl .tup),⟨B.lev m0,B.lev m1,B.lev m2,B.lev m3⟩,by lia,by lia,λz G9 H9 ak ay U e9=>⟨G9,zs++[z],by rw[C7];rfl,by rw[C5,lz];rfl,S.trans ak,D.fr ak ay U,B.trans U,?_⟩⟩)))⟩;refine Sz lz (λt z' e=>?_) ?_
   .obtain⟨q1,q2⟩:=vz t z' e;exact⟨U.lev q1,q2.goes O.ok U q1⟩
   .exact⟨⟨_,e9,by show((l+1:Nat):Int)+1=((l+2:Nat):Int);lia⟩,NT ab (B.trans U) m0 m1 m2 m3 w0 w1 w2 w3 e9⟩
  rintro u H8 ai A8 aw;apply AR;intro C c;obtain⟨G8,zs,rfl,lz,S,D,B,vz⟩:=ai;have O:=D.jw;have a8:=D.sz fin;apply c;clear c C;apply AR;intro C c;obtain⟨z0,z1,z2,z3,rfl⟩:=PU zs lz;apply c;clear c C;have s8:AA H8 (upd H8 A8 (.lst ([z0,z1,z2,z3].map toV))):=Ar aw;have au:AI Y G8 4:=B;obtain⟨q0,x0⟩:=vz 0 z0 Z;obtain⟨q1,x1⟩:=vz 1 z1 Z;obtain⟨q2,x2⟩:=vz 2 z2 Z;obtain⟨q3,x3⟩:=vz 3 z3 Z;refine k A8 z0 z1 z2 z3 G8 _ _ (ar.trans ((AA.j s7).trans ((Fr.j S).trans (AA.j s8)))) (D.same s8) ((I.trans q).trans au) (((((hz.upF (l+1) ac).trans ah I).trans (R.upS _ s5) (I.trans q)).trans (X.upS _ s7) (I.trans q)).trans ((ag.upF _ S).trans (D.upS _ s8) B) (I.trans q)) Af ⟨q0,q1,q2,q3⟩ ⟨x0.at' A0 A0,x1.at' A0 A0,x2.at' A0 A0,x3.at' A0 A0⟩
theorem ok_freA{L d:Nat}(F:Fun K "fresh" "Jumps.fresh" Ct f fd)(T:Top K mg a)(d7:7<=d)(aH:Cd P w K mg base CX0 7 a.c_Jumps "middle_after" Lh (Rn a))(a9:Cd P w K mg base CX0 2 a.c_Grove "linked" AW (Eg a))(aQ:Cal P w K mg base CX0 3 "nine_parts" Lu (OU a))(aW:Cal P w K mg base CX0 1 "fours_of" Vb Mw)(aJ:Cal P w K mg base CX0 3 "met_in_the_middle" CU (VR a))(aG:Cd P w K mg base CX0 d a.c_Jumps "reckoned" Qs (GT a L))(cG:Cd P w K mg base CX0 (d+1) a.c_Jumps "four_halfway" Qs (Rr a L)):AL P w K mg base CX0 (d+2) f fd Qs (UF a (L+1)):=by
 refine F.ok Em (λvs H Q E h=>?_) (λb7 A b2 s H vs Q E hr h=>?_)
 .apply AR;intro R c;obtain⟨p,dx,mem,pr,g,G,Κ,N,b,r,m,n,l,e,rfl,_⟩:=h;apply c;clear c R;rfl
 .apply AR;intro R c;obtain⟨p,dx,mem,pr,g,G,Κ,N,b,r,m,n,l,e,rfl,hz,fin,cl,hl,hL,he,a4,few,k⟩:=h;have U:=hz.jw;have sz:=hz.sz fin;obtain⟨q,eq,el⟩:=id hl;apply c;clear c R;have b9:=(U.ok.lev eq).2;have b0:l<=46:=by lia
  refine⟨_,(Ac (Ao (i:=3) Em.nd Z (Or.inr Z) (AE (pv 0) Z)) (Ac (Ao (i:=4) Em.nd Z O_9 (Aj Ax (AE (pv 3) Z) (pv 1) R_9)) (Ac (AQ (Az CK (pv 1) (Aj Ax (AE (pv 3) Z) (pv 4) R_9) (AF _)) (Ai (Av (Aj Ax (AE (pv 3) Z) (AB BI (pv 4) Ab) R_9))) AC) (Ac (AQ (Az CK (pv 4) (Cj Z T.k_LEAST_JUMPED) (AF _)) (Ai (Av (AJ (pv 0) aH (rm hr) Aq (Aa (pv 1) Ae)))) AC) (Ac (AQ (Az FH (pv 2) (AB BI (pv 4) (Cj Z T.k_LEAST_JUMPED)) (AF _)) (Ac (Jb (i:=5) Z Em.nd Z Z (BE.of (So:=Al Ct) (No:=Fk) (N:=["part","self","e"]) (k:=1) (cs:=[0,2]) Z Z A1) (Ci (As aQ (rm hr) Z Aq (Aa (pv 3) (Aa (pv 1) Ae)))) (λ_ _ _=>(Bg (i:=0) A1 Z Z)) (λ_ _ _=>BL) (λ_ _ _=>(AJ (pv 1) aG (rm hr) Aq (Aa (pv 0) (Aa (pv 2) Ae))))) (Ai (Av (AJ (pv 3) a9 (rm hr) Aq (Aa (Bd BM Z T.b_tuple A0h (Aa (Ck Z (BE.of (So:=Al Ct) (No:=Fk) (N:=["four","grove"]) (k:=1) (cs:=[3]) Z Z A1) (Ci (As aW (rm hr) Z Aq (Aa (pv 5) Ae))) (λ_ _ _=>(Bg (i:=0) A1 Z Z)) (λ_ _ _=>BL) (λ_ _ _=>(As aJ (rm hr) Z Aq (Aa (pv 1) (Aa (pv 0) Ae))))) Ae)) Ae))))) AC) (Ai (Av (AJ (pv 3) a9 (rm hr) Aq (Aa (Bd BM Z T.b_tuple A0h (Aa (Ck Z (BE.of (So:=Al Ct) (No:=Fk) (N:=["four","self","e"]) (k:=1) (cs:=[0,2]) Z Z A1) (Ci (AJ (pv 0) cG (rm hr) Aq (Aa (pv 1) (Aa (pv 2) Ae)))) (λ_ _ _=>(Bg (i:=0) A1 Z Z)) (λ_ _ _=>BL) (λ_ _ _=>(AJ (pv 1) aG (rm hr) Aq (Aa (pv 0) (AV BI (pv 2) Ab Ae))))) Ae)) Ae))))))))),?_⟩
  try dsimp only[cxK]
  refine xwf Z Z U.hp T.cl_Jumps T.na_Jumps_grove (DY _ _ _ _ _) ?_;refine xq1 Z ⟨g.p,_,g.dx,_,_,Z,U.gr.hp,T.cl_Grove,T.na_Grove_levels,EX g,_,Z,g.lv,_,(n:Int),.int ((l+2:Nat):Int),Z,Z,SqL.of U.gr.lv,Ah (by rw[C0,eq,<-el];rfl),?_⟩;refine xq1 Z (xq1 Z ⟨g.p,_,g.dx,_,_,Z,U.gr.hp,T.cl_Grove,T.na_Grove_bares,Iq g,_,Z,g.br,_,((l+2:Nat):Int),.int (bareN (l+2):Int),Z,Z,SqL.of U.br,Ah (bareJ A0),Z,_,Z,?_⟩);refine Ip (λhc=>?_) (λhc=>?_)
  .have ei:n=bareN (l+2):=by
    have:=A0d hc;injection this with this
    exact K5 this
   refine xwf Z Z U.gr.hp T.cl_Grove T.na_Grove_bares (Iq g) (xwb Z Z Z (xq4 Z Z (SqL.of U.br) (by rw[show((l+2:Nat):Int)-1=((l+1:Nat):Int) by lia];exact Ah (bareJ A0)) ?_));refine k (bareN (l+1)) G H 0 (λb o e _ _ _ _ _=>e) (hz.mono A0) (AI.refl U.ok) ?_ (Up.refl _ _ _ _);rw[ei];exact JR.bare U.ok U.bs U.rest A0 he
  refine xq1 Z ⟨Z,(xq1 Z ?_)⟩;cases l with
  |zero =>
   refine(show ∀{b:Bool}{A B:Prop},b=true->A->(if b=true then A else B)from λh x=>by rw[h];exact BY x) (K0 Z) ?_;have e0:e=0:=by lia
   subst e0;obtain⟨ff,cn⟩:=hz.cn;obtain⟨kc,c1,c2⟩:=cn.ce;have sm:=cn.sum U.ok fin U.me.len;refine xwn Z Z U.hp (noJ_mid _ _ _ _ _) Z ⟨p,dx,mem,pr,g,G,N,kc.length,r,m,n,Z,U.tc c1,hl,by lia,by lia,λk' G' H' fr bn go jr=>?_⟩;obtain⟨z1,z2⟩:=hz.mid cn c1 fr bn go;exact k k' G' H' 1 fr.j (z1.mono A0) go jr (z2 _)
  |succ l =>
   refine(show ∀{b:Bool}{A B:Prop},b=false->B->(if b=true then A else B)from λh x=>by rw[h];exact AY x) (K1 (by intro z;injection z with z;have z:((l+1+2:Nat):Int)=2:=z;lia)) ?_;have hL:l<L:=by lia
   have p1:2^(l+1)=2^l*2:=J0 ..;refine xw2 Z Z (xq2 Z Z (xq2 Z Z (xq1 Z ?_)));refine Ip (λhc=>?_) (λhc=>?_)
   .have ar:e<=l:=by
     have hc:=A0d hc;have hc:(e:Int)<((l+1+2:Nat):Int)-2:=hc;lia
    obtain⟨q9,be,b8⟩:=id hl;have b0:l<=45:=by have:=(U.ok.lev be).2;lia
    refine xw2 Z Z ⟨g,G,n,l+1,Z,U.gr,U.ok,hl,by lia,by lia,λA9 ks G3 H3 az bl ag a8 l9 nine=>?_⟩;have a3:=hz.fr az bl ag;have ah:=a3.jw;have ca:=a3.sz fin
    skip
    have bc:∀(t k:Nat),ks[t]?=some k->An G3 k ((l+2:Nat):Int):=λt k e=>by
     have ht:=(B9.mp e).1;obtain⟨k',e1,e2,_⟩:=nine (t%3) (t/3) A0 A0;rw[show t%3+3*(t/3)=t by lia,e]at e1;cases e1;exact e2
    have bz:∀(t k:Nat),ks[t]?=some k->Κ l e (CG G3 (l+2) k):=λt k e=>by
     have ht:=(B9.mp e).1;obtain⟨k',e1,_,v⟩:=nine (t%3) (t/3) A0 A0;rw[show t%3+3*(t/3)=t by lia,e]at e1;cases e1;exact fin.ext (cl.nine1 a4 ar (t%3) (t/3) A0 A0) λx y hx hy=>(v x y hx hy).symm
    refine⟨A9,Z,⟨_,SqL.of a8⟩,?_⟩;refine Dv (xs:=ks.map λ(k:Nat)=>V.int (k:Int)) (λi I H5=>∃(G5:Gv)(ys:J_)(c5:Nat),I=ys.map toV/\ys.length=i/\FrJ g m H3 H5/\JZ a H5 g G5 Κ N (b+5) p dx mem pr r m/\AI G3 G5 c5/\Up (l+1) G3 H3 H5 m/\Paired (λk y=>JR r G5 e k y) (ks.take i) ys) ⟨G3,[],0,Z,Z,λb o e _ _ _ _ _=>e,a3,AI.refl ah.ok,Up.refl _ _ _ _,.nil⟩ (λi I H5 _ z=>by obtain⟨_,_,_,_,_,fr,_⟩:=z;exact SqL.of ((fr.kps ah.gr ah.bs.long ah.me) _ _ a8 (.lst (by rw[B8];lia)))) ?_ ?_
    .rintro i v I H5 ev aq;apply AR;intro R c;obtain⟨G5,ys,c5,rfl,ly,a0,ai,O,a5,au⟩:=aq;apply c;clear c R;rw[C0]at ev;obtain⟨k5,ek,rfl⟩:=D7.mp ev;have i9:i<9:=by have:=(B9.mp ek).1;lia
     have a2:=ai.jw
     skip
     refine⟨⟨[some (.int (k5:Int))],Z,Z⟩,by rw[B8,ly];exact V0 i9 A3,GQ (xwn Z Z a2.hp (MO _ _ _ _ _) Z (xq1 Z ⟨p,dx,mem,pr,g,G5,Κ,N,b+5,r,m,k5,l,e,Z,ai,fin,cl,O.lev (bc i k5 ek),hL,ar,(by rw[Dj ah.ok O (bc i k5 ek)];exact bz i k5 ek),by lia,λy G6 H6 c6 bh an a7 bw b3=>⟨G6,ys++[y],_,by rw[C7];rfl,by rw[C5,ly];rfl,a0.trans bh,an,O.trans a7,a5.trans b3 O,?_⟩⟩))⟩;rw[F9,ek,R6];exact A2d (Paired.imp (λk y z=>z.goes a2.ok a7) au) bw
    rintro I H5 ao A5 bj;apply AR;intro R c;obtain⟨G5,ys,c5,rfl,ly,a0,ai,O,a5,au⟩:=ao;have a2:=ai.jw;apply c;clear c R;rw[B8,l9]at ly;rw[B8,J8]at au;have nj:=QH ah.ok O nine au;apply AR;intro R c;obtain⟨y0,y1,y2,y3,y4,y5,y6,y7,y8,rfl⟩:=Wh ys ly;apply c;clear c R
    skip
    generalize dO:upd H5 A5 _=H6;obtain⟨s5,ba⟩:=alc bj dO;have an:=ai.same s5;have bo:=an.jw;have bf:FrJ g m H H6:=(Fr.j az).trans (a0.trans (AA.j s5));refine xwm Z Z bo.gr.hp (BT g) ?_;refine xq1 Z ⟨A5,y0,y1,y2,y3,y4,y5,y6,y7,y8,Z,ba,λMM t0 t1 t2 t3 H7 s7 hM bp bq bt bu=>?_⟩;have aj:=an.same s7;have X:=aj.jw;refine⟨MM,Z,⟨_,SqL.of hM⟩,?_⟩;have four:=Ps nj bp bq bt bu;have aa:=X.ok;refine Dv (xs:=[t0,t1,t2,t3].map V.ref) (λi I H8=>∃(W:Gv)(zs:J_),I=zs.map toV/\zs.length=i/\Fr g H7 H8/\JZ a H8 g W Κ N (b+5+i) p dx mem pr r m/\AI G5 W i/\∀(t z:Nat),zs[t]?=some z->An W z ((l+1:Nat):Int)/\Vw W (Bu r (2^e) (CG G (l+1+2) n)) (l+1) z (2^(l+1)*(t%2)+2^(l+1)) (2^(l+1)*(t/2)+2^(l+1))) ⟨G5,[],Z,Z,Fr.refl g H7,aj,AI.refl aa,λt z e=>(nomatch e)⟩ (λi I H8 _ z=>by obtain⟨_,_,_,_,fr,_⟩:=z;exact SqL.of ((fr.kps X.gr X.bs.long) _ _ hM (.lst (by show 4<=50;decide)))) ?_ ?_
    .rintro i v I H8 ev aq;apply AR;intro R c;obtain⟨W,zs,rfl,lz,ab,D,C,vz⟩:=aq;have ac:=D.jw;have av:=D.sz fin;apply c;clear c R;rw[C0]at ev;obtain⟨tt,et,rfl⟩:=D7.mp ev;have i4:i<4:=(B9.mp et).1;apply AR;intro R c;obtain⟨f0,f1,f2,f3,bv,⟨m0,m1,m2,m3⟩,w0,w1,w2,w3⟩:=four i tt et;apply c;clear c R
     skip
     have qg:∀{f:Nat}(j:Nat),An G5 f ((l+1:Nat):Int)->qO W f j=qO G5 f j:=λ{f} j h=>by
      obtain⟨q,e,_⟩:=h;unfold qO;rw[C.get e,e]
     refine⟨⟨[some (.ref tt)],Z,Z⟩,by rw[B8,lz];exact V0 i4 A3,GQ (xw2 Z Z ⟨g,W,tt,f0,f1,f2,f3,l,Z,ac.gr,ac.ok,(ab.kps X.gr X.bs.long) _ _ bv (.inl .tup),⟨C.lev m0,C.lev m1,C.lev m2,C.lev m3⟩,by lia,by lia,λz G9 H9 as bm S e9=>⟨G9,zs++[z],by rw[C7];rfl,by rw[C5,lz];rfl,ab.trans as,D.fr as bm S,C.trans S,?_⟩⟩)⟩;rw[qg 3 m0,qg 2 m1,qg 1 m2,qg 0 m3]at e9;refine Sz lz (λt z' e=>?_) ?_
     .obtain⟨q1,q2⟩:=vz t z' e;exact⟨S.lev q1,q2.goes ac.ok S q1⟩
     .exact⟨⟨_,e9,by show(l:Int)+1=((l+1:Nat):Int);lia⟩,(met_view aa (C.trans S) m0 m1 m2 m3 w0 w1 w2 w3 e9).at' A0 A0⟩
    rintro I H8 ao A8 a1;apply AR;intro R c;obtain⟨W,zs,rfl,lz,ab,D,C,vz⟩:=ao;have ac:=D.jw;have av:=D.sz fin;apply c;clear c R;apply AR;intro R c;obtain⟨z0,z1,z2,z3,rfl⟩:=PU zs lz;apply c;clear c R;have bi:AI G5 W 4:=C;have D:JZ a H8 g W Κ N (b+5+4) p dx mem pr r m:=D;have av:=D.sz fin;have Y:=(ag.trans O).trans bi;have ay:FrJ g m H H8:=bf.trans ((AA.j s7).trans (Fr.j ab));generalize dS:upd H8 A8 _=H9;obtain⟨s8,am⟩:=alc a1 dS;refine⟨A8,(xq1 Z (.inl ⟨SqL.of am,λu hu=>?_⟩))⟩;have ad:=D.same s8;have af:=ad.jw;obtain⟨q0,x0⟩:=vz 0 z0 Z;obtain⟨q1,x1⟩:=vz 1 z1 Z;obtain⟨q2,x2⟩:=vz 2 z2 Z;obtain⟨q3,x3⟩:=vz 3 z3 Z
    skip
    refine lnk (⟨.refl _ _,λe=>e,af.gr,.refl af.ok⟩:Ln a g H9 W 0 H9 W) hu ⟨q0,q1,q2,q3⟩ A0 A0 λz aw ax ae M ak=>?_;refine k z aw ax _ (ay.trans ((AA.j s8).trans (Fr.j ae.fr))) ((ad.fr ae.fr ae.gr M).mono A0) (Y.trans M) ?_ (((((hz.upF (l+1) az).trans a5 ag).trans (ai.upS _ s5) (ag.trans O)).trans (an.upS _ s7) (ag.trans O)).trans (((aj.upF _ ab).trans (D.upS _ s8) C).trans (ad.upF _ ae.fr) C) (ag.trans O));have al:=Y.trans M;refine Vw.jr (al.lev hl) he ⟨_,ak,by show((l+1:Nat):Int)+1=((l+1+1:Nat):Int);lia⟩ ?_;rw[Dj U.ok al hl];exact NT af.ok M q0 q1 q2 q3 (x0.at' A0 A0) (x1.at' A0 A0) (x2.at' A0 A0) (x3.at' A0 A0) ak
   .have ar:e=l+1:=by
     have hc:¬(e:Int)<((l+1+2:Nat):Int)-2:=λz=>hc (K0 z);lia
    subst ar;refine xwm Z Z U.gr.hp (BT g) ?_;refine xwn Z Z U.hp (ZV _ _ _ _ _) Z (xq1 Z ⟨p,dx,mem,pr,g,G,Κ,N,b,r,m,n,l,Z,hz,fin,cl,hl,hL,a4,by lia,λA7 f0 f1 f2 f3 G5 H7 i5 bg aj O b4 bb b1 b6=>?_⟩);apply AR;intro R c;obtain⟨m0,m1,m2,m3⟩:=b1;obtain⟨w0,w1,w2,w3⟩:=b6;apply c;clear c R
    skip
    refine⟨A7,Z,⟨_,SqL.of bb⟩,?_⟩;have X:=aj.jw;have aa:=X.ok;have four:∀(t f:Nat),[f0,f1,f2,f3][t]?=some f->An G5 f ((l+2:Nat):Int)/\Vw G5 (Bu r (2^l) (CG G (l+1+2) n)) (l+2) f (2^(l+1)*(t%2)+2^l) (2^(l+1)*(t/2)+2^l):=λt f et=>by
     match t,et with
     |0,et=>cases et;exact⟨m0,w0.at' A0 A0⟩
     |1,et=>cases et;exact⟨m1,w1.at' A0 A0⟩
     |2,et=>cases et;exact⟨m2,w2.at' A0 A0⟩
     |3,et=>cases et;exact⟨m3,w3.at' A0 A0⟩
     |j+4,et=>cases et
    have bd:Bu r (2^l) (Bu r (2^l) (CG G (l+1+2) n))=Bu r (2^(l+1)) (CG G (l+1+2) n):=by
     rw[<-SV,p1,Nat.mul_two]
    refine Dv (xs:=[f0,f1,f2,f3].map toV) (λi I H8=>∃(W:Gv)(zs:J_)(c8:Nat),I=zs.map toV/\zs.length=i/\FrJ g m H7 H8/\JZ a H8 g W Κ N (b+9) p dx mem pr r m/\AI G5 W c8/\Up (l+1) G5 H7 H8 m/\∀(t z:Nat),zs[t]?=some z->An W z ((l+1:Nat):Int)/\Vw W (Bu r (2^(l+1)) (CG G (l+1+2) n)) (l+1) z (2^(l+1)*(t%2)+2^(l+1)) (2^(l+1)*(t/2)+2^(l+1))) ⟨G5,[],0,Z,Z,λb o e _ _ _ _ _=>e,aj,AI.refl aa,Up.refl _ _ _ _,λt z e=>(nomatch e)⟩ (λi I H8 _ z=>by obtain⟨_,_,_,_,_,fr,_⟩:=z;exact SqL.of ((fr.kps X.gr X.bs.long X.me) _ _ bb (.lst (by show 4<=50;decide)))) ?_ ?_
    .rintro i v I H8 ev aq;apply AR;intro R c;obtain⟨W,zs,c8,rfl,lz,ab,D,C,a6,vz⟩:=aq;have ac:=D.jw;have av:=D.sz fin;apply c;clear c R;rw[C0]at ev;obtain⟨ff,et,rfl⟩:=D7.mp ev;have i4:i<4:=(B9.mp et).1;obtain⟨mf,wf⟩:=four i ff et
     skip
     refine⟨⟨[some (toV ff)],Z,Z⟩,by rw[B8,lz];exact V0 i4 A3,GQ (xwn Z Z ac.hp (MO _ _ _ _ _) Z (xwb Z Z Z ⟨p,dx,mem,pr,g,W,Κ,N,b+9,r,m,ff,l,l,(show [V.ref p,V.int (ff:Int),V.int (((l+1:Nat):Int)-1)]=[V.ref p,V.int (ff:Int),V.int (l:Int)] by rw[show((l+1:Nat):Int)-1=(l:Int) by lia]),D,fin,cl,C.lev mf,hL,C1 l,(by rw[Dj aa C mf];exact fin.ext (cl.four a4 (i%2) (i/2) A0 A0) λx y hx hy=>(wf x y hx hy).symm),by lia,λz G9 H9 c9 as ad S bx b5=>⟨G9,zs++[z],_,by rw[C7];rfl,by rw[C5,lz];rfl,ab.trans as,ad,C.trans S,a6.trans b5 C,?_⟩⟩))⟩;refine Sz lz (λt z' e=>?_) ?_
     .obtain⟨q1,q2⟩:=vz t z' e;exact⟨S.lev q1,q2.goes ac.ok S q1⟩
     .obtain⟨r1,_,r3⟩:=bx.view ((C.trans S).lev mf) (wf.goes aa (C.trans S) mf);rw[bd]at r3;exact⟨r1,r3.at' A0 A0⟩
    rintro I H8 ao A8 a1;apply AR;intro R c;obtain⟨W,zs,c8,rfl,lz,ab,D,C,a6,vz⟩:=ao;have ac:=D.jw;have av:=D.sz fin;apply c;clear c R;apply AR;intro R c;obtain⟨z0,z1,z2,z3,rfl⟩:=PU zs lz;apply c;clear c R;have Y:=O.trans C;have ay:FrJ g m H H8:=bg.trans ab;generalize dS:upd H8 A8 _=H9;obtain⟨s8,am⟩:=alc a1 dS;refine⟨A8,(xq1 Z (.inl ⟨SqL.of am,λu hu=>?_⟩))⟩;have ad:=D.same s8;have af:=ad.jw;obtain⟨q0,x0⟩:=vz 0 z0 Z;obtain⟨q1,x1⟩:=vz 1 z1 Z;obtain⟨q2,x2⟩:=vz 2 z2 Z;obtain⟨q3,x3⟩:=vz 3 z3 Z
    skip
    refine lnk (⟨.refl _ _,λe=>e,af.gr,.refl af.ok⟩:Ln a g H9 W 0 H9 W) hu ⟨q0,q1,q2,q3⟩ A0 A0 λz aw ax ae M ak=>?_;refine k z aw ax _ (ay.trans ((AA.j s8).trans (Fr.j ae.fr))) ((ad.fr ae.fr ae.gr M).mono A0) (Y.trans M) ?_ ((b4.trans a6 O).trans ((D.upS _ s8).trans (ad.upF _ ae.fr) (AI.refl ac.ok)) Y);have al:=Y.trans M;refine Vw.jr (al.lev hl) he ⟨_,ak,by show((l+1:Nat):Int)+1=((l+1+1:Nat):Int);lia⟩ ?_;rw[Dj U.ok al hl];exact NT af.ok M q0 q1 q2 q3 (x0.at' A0 A0) (x1.at' A0 A0) (x2.at' A0 A0) (x3.at' A0 A0) ak
theorem ok_recB{L d:Nat}(F:Fun K "reckoned" "Jumps.reckoned" Dx f fd)(T:Top K mg a)(dC:Cd P w K mg base CX0 d a.c_Jumps "fresh" Qs (UF a L)):AL P w K mg base CX0 (d+1) f fd Qs (GT a L):=by
 refine F.ok El (λvs H Q E h=>?_) (λae A ac s H vs Q E hr h=>?_)
 .apply AR;intro j c;obtain⟨p,dx,mem,pr,g,G,Κ,N,b,r,m,n,l,e,rfl,_⟩:=h;apply c;clear c j;rfl
 .apply AR;intro j c;obtain⟨p,dx,mem,pr,g,G,Κ,N,b,r,m,n,l,e,rfl,Y,fin,cl,U,hL,he,W,few,k⟩:=h;have u:=Y.jw;have sz:=Y.sz fin;apply c;clear c j;obtain⟨q,eq,el⟩:=id U;have aj:=(u.ok.lev eq).2;have aa:e<m.ds.length:=by rw[u.me.len];lia
  obtain⟨d,C⟩:∃d,m.ds[e]?=some d:=⟨m.ds[e]'aa,C6 _⟩
  apply AR;intro j c;obtain⟨kv,hd,dl,dk,dv⟩:=u.me.sq e d C;apply c;clear c j;refine⟨_,(Ac (Ao (i:=3) El.nd Z O_9 (IA (EC hr) (Aj Ax (AE (pv 0) Z) (pv 2) R_9) (pv 1) ⟨Z,Z,Z,Z⟩)) (Ac (AQ (Az FE (pv 3) Cw (AF _)) (Ac (Ao (i:=3) El.nd Z O_9 (AJ (pv 0) dC (rm hr) Aq (Aa (pv 1) (Aa (pv 2) Ae)))) (Ai (FM (EC hr) (Aj Ax (AE (pv 0) Z) (pv 2) R_9) (pv 1) (pv 3) Z))) AC) (Ai (Av (pv 3))))),?_⟩
  try dsimp only[cxK]
  have O:atI (m.ds.map V.ref) (e:Int)=some (.ref d):=Ah (by rw[C0,C];rfl);refine xwf Z Z u.hp T.cl_Jumps T.na_Jumps_known_squares (jf5_ks _ _ _ _ _) (xwi Z Z Z (SqL.of u.me.l) O ⟨d,Z,.inl ⟨_,.inl hd⟩,(xq1 Z ⟨_,IF.k (k:=Sum.inl (n:Int)) hd,?_⟩)⟩);apply PL (fun σ M=>∃(x:Nat)(B:Gv),σ=[some (.ref p),some (.int (n:Int)),some (.int (e:Int)),some (.int (x:Int))]/\FrJ g m H M/\JZ a M g B Κ N b p dx mem pr r m/\(∃i,AI G B i)/\JR r B e n x/\Up (l+1) G H M m)
  .intro y;refine xq1 Z ⟨Z,(xq1 Z ?_)⟩;cases ev:Br kv (Sum.inl (n:Int))with
   |some v =>
    obtain⟨x,rfl,jr⟩:=dv n v ev;exact AY (y _ _ ⟨x,G,Z,λb o e _ _ _ _ _=>e,Y,⟨0,AI.refl u.ok⟩,jr,Up.refl _ _ _ _⟩)
   |none =>
    refine BY ?_;refine xwn Z Z u.hp (Ye _ _ _ _ _) Z (xq1 Z ⟨p,dx,mem,pr,g,G,Κ,N,b,r,m,n,l,e,Z,Y,fin,cl,U,hL,he,W,few,λx B H' i' fr t go jr up=>?_⟩);apply AR;intro j c;have I:=t.jw;obtain⟨X,D,ag,af,ah⟩:=I.me.sq e d C;apply c;clear c j;refine xw2 Z Z (xq5 I.hp T.cl_Jumps T.na_Jumps_known_squares (jf5_ks _ _ _ _ _) (xwi Z Z Z (SqL.of I.me.l) O (xq1 Z ⟨d,(xq1 Z ⟨LN.k (k:=Sum.inl (n:Int)) D (F7 (show X.length<=9000000 by lia) A3),?_⟩)⟩)));have ab:=up e n l U (C1 l) (λd2 ai R S=>by rw[C]at R;cases R;rw[hd]at S;cases S;exact ev) d X C D;obtain⟨z1,z2⟩:=t.put fin C D ab (go.lev U) (by rw[Dj u.ok go U];exact W) jr;exact y _ _ ⟨x,B,Z,λb o e n1 n2 n3 n4 n5=>by rw[Aw (λz=>n5 (by rw[z];exact D6 C))];exact fr _ _ e n1 n2 n3 n4 n5,z1,⟨i',go⟩,jr,(up.mono (S6 l)).trans z2 go⟩
  rintro σ M ad;apply AR;intro j c;obtain⟨x,B,rfl,fr,t,⟨i',go⟩,jr,up⟩:=ad;apply c;clear c j;exact xq1 Z (k x B M i' fr t go jr up)
theorem Wf{f M I:R_}{x q o:E_}(F:Fun K "reckoned" "Jumps.reckoned" Dx f x)(A:Fun K "four_halfway" "Jumps.four_halfway" Bw M q)(z:Fun K "fresh" "Jumps.fresh" Ct I o)(T:Top K mg a)(B:Qw K a.c_Jumps "reckoned" f)(y:CN K x Qs [])(j:Qw K a.c_Jumps "four_halfway" M)(d:CN K q Qs [])(i:Qw K a.c_Jumps "fresh" I)(c:CN K o Qs [])(C:Cd P w K mg base CX0 7 a.c_Jumps "middle_after" Lh (Rn a))(t:Cd P w K mg base CX0 2 a.c_Grove "linked" AW (Eg a))(u:Cal P w K mg base CX0 3 "nine_parts" Lu (OU a))(v:Cal P w K mg base CX0 1 "fours_of" Vb Mw)(D:Cal P w K mg base CX0 3 "met_in_the_middle" CU (VR a)):∀L,AL P w K mg base CX0 (10+3*L) f x Qs (GT a L)
|0=>(AL.no (k:=10)).imp λvs H Q E h=>by
 apply AR;intro O s;obtain⟨p,dx,mem,Y,g,G,Κ,N,b,r,m,n,l,e,_,_,_,_,_,W,_⟩:=h;apply s;clear s O;exact absurd W (M7 l)
|L+1=>by
 have X:=Wf F A z T B y j d i c C t u v D L;have M1:Cd P w K mg base CX0 (10+3*L) a.c_Jumps "reckoned" Qs (GT a L):=⟨⟨_,_,X,B,y⟩,T.cl_Jumps⟩
 have U:=ZM A T A0 u v t M1;have R:Cd P w K mg base CX0 (10+3*L+1) a.c_Jumps "four_halfway" Qs (Rr a L):=⟨⟨_,_,U,j,d⟩,T.cl_Jumps⟩
 have V:=ok_freA z T A0 C t u v D M1 R;have S:Cd P w K mg base CX0 (10+3*L+2) a.c_Jumps "fresh" Qs (UF a (L+1)):=⟨⟨_,_,V,i,c⟩,T.cl_Jumps⟩
 exact ok_recB F T S
theorem Ya{L d:Nat}(F:Fun K "after" "Jumps.after" Ib f fd)(T:Top K mg a)(O:4<=d)(B:Cd P w K mg base CX0 4 a.c_Jumps "check_jump" Qs (spCj a))(z:Cd P w K mg base CX0 d a.c_Jumps "reckoned" Qs (GT a L)):AL P w K mg base CX0 (d+1) f fd Qs (GT a L):=by
 refine F.ok Pf (λvs H Q E h=>?_) (λC A u s H vs Q E y h=>?_)
 .apply AR;intro j c;obtain⟨p,dx,mem,v,g,G,Κ,N,b,r,m,n,l,e,rfl,_⟩:=h;apply c;clear c j;rfl
 .apply AR;intro j c;obtain⟨p,dx,mem,v,g,G,Κ,N,b,r,m,n,l,e,rfl,o,fin,cl,x,I,M,t,few,k⟩:=h;have i:=o.jw;have sz:=o.sz fin;obtain⟨q,eq,D⟩:=id x;apply c;clear c j;refine⟨_,(Ac (BJ (AJ (pv 0) B (rm y) Aq (Aa (pv 1) (Aa (pv 2) Ae)))) (Ai (Av (AJ (pv 0) z (rm y) Aq (Aa (pv 1) (Aa (pv 2) Ae)))))),?_⟩
  try dsimp only[cxK]
  refine xwn Z Z i.hp (Yf _ _ _ _ _) Z (xq1 Z ⟨p,dx,g.p,mem,v,m.l,m.kc,g,G,n,e,q,Z,i.hp,i.gr,eq,by rw[D];lia,?_⟩);exact xwn Z Z i.hp (MO _ _ _ _ _) Z (xq1 Z ⟨p,dx,mem,v,g,G,Κ,N,b,r,m,n,l,e,Z,o,fin,cl,x,I,M,t,few,k⟩)
end
theorem Cm(l:Nat):(2:Int)^(l+1)=2^l+2^l:=by rw[W7];lia
def FR(x y w h r:Int):Prop:=-r<=x/\-r<=y/\x+w<=r/\y+h<=r
instance(x y w h r:Int):Decidable (FR x y w h r):=by unfold FR;infer_instance
theorem lies_b(x y w h r:Int):(decide (-r<=x) && (decide (-r<=y) && (decide (x+w<=r) && decide (y+h<=r))))=decide (FR x y w h r):=by
 rw[S1];simp only[Q0,A7c];exact Iff.rfl
structure Wid(G:Gv)(n f w:Nat):Prop where
ex:∃(q:Sq)(x y z v a b c d:Nat),Iv G n f q x y z v/\G[a]?=some ⟨[(bareN n:Int),(bareN n:Int),(bareN n:Int),(x:Int)],(n:Int)+1⟩/\G[b]?=some ⟨[(bareN n:Int),(bareN n:Int),(y:Int),(bareN n:Int)],(n:Int)+1⟩ /\
 G[c]?=some ⟨[(bareN n:Int),(z:Int),(bareN n:Int),(bareN n:Int)],(n:Int)+1⟩/\G[d]?=some ⟨[(v:Int),(bareN n:Int),(bareN n:Int),(bareN n:Int)],(n:Int)+1⟩/\G[w]?=some ⟨[(a:Int),(b:Int),(c:Int),(d:Int)],(n:Int)+2⟩
theorem Wid.lev{G:Gv}{n f w:Nat}(h:Wid G n f w):An G w ((n+2:Nat):Int):=by
 obtain⟨q,x,y,z,v,a,b,c,d,l,g,i,j,k,e⟩:=h.ex;exact⟨_,e,by show(n:Int)+2=_;lia⟩
theorem Wid.app{G e:Gv}{k n f w:Nat}(go:AI G e k)(h:Wid G n f w):Wid e n f w:=by
 obtain⟨q,x,y,z,v,a,b,c,d,o,g,i,j,l,m⟩:=h.ex;exact⟨q,x,y,z,v,a,b,c,d,o.app go,go.get g,go.get i,go.get j,go.get l,go.get m⟩
theorem EE{G r:Gv}(e:G=G0++r){n:Nat}(h:n<=48):An G (bareN n) (n:Int):=by
 rw[e];exact(g0_lev n h).app
theorem bareL_at'{l:Nat}(h:l<=48):((Dw 48).map V.int)[l]?=some (.int (bareN l:Int)):=by
 unfold Dw;rw[C0,C0,O3 A0];rfl
section
variable{P:N_}{w:Q_}{K:O_}{mg:C_}{base:T_}{a:Ad}
inductive SpLie(vs:List V)(H:Hp)(Q:VK):Prop
|mk (t:R_) (x y w h r:Int) (_:vs=[.ref t,.int r]) (_:H t=some (.tup [.int x,.int y,.int w,.int h])) (_:Q (.bl (decide (FR x y w h r))) H):SpLie vs H Q
def QD:Sp:=λvs H Q _=>SpLie vs H Q
theorem ok_lie(F:Fun K "lies_within" "lies_within" GX f fd)(T:Top K mg a):AL P w K mg base CX0 1 f fd Qo QD:=by
 refine F.ok Pa D_9 λd A c s H vs Q E p h=>?_
 obtain⟨t,x,y,q,o,r,rfl,b,k⟩:=h;rw[<-lies_b]at k;refine⟨_,(Ai (Av (Jd (Et ML (Iz EI (pv 1)) (Aj Ak (pv 0) Ab R_9) (AF _)) (Jd (Et ML (Iz EI (pv 1)) (Aj Ak (pv 0) Ab R_9) (AF _)) (Jd (Et ML (AB AO (Aj Ak (pv 0) Ab R_9) (Aj Ak (pv 0) Ab R_9)) (pv 1) (AF _)) (JM (Et ML (AB AO (Aj Ak (pv 0) Ab R_9) (Aj Ak (pv 0) Ab R_9)) (pv 1) (AF _)))))))),?_⟩
 try dsimp only[cxK]
 refine xw3 Z Z Z (xq4 Z Z (SqT.of b) (Ah (j:=0) Z) (xq2 Z Z (OP (λ_ l e=>?_) k)));refine xw3 Z Z Z (xq4 Z Z (SqT.of b) (Ah (j:=1) Z) (xq2 Z Z (OP (λ_ m g=>?_) e)));refine xwi Z Z Z (SqT.of b) (Ah (j:=0) Z) (xwi Z Z Z (SqT.of b) (Ah (j:=2) Z) (xq2 Z Z (xwb Z Z Z (OP (λ_ n i=>?_) g))));exact xwi Z Z Z (SqT.of b) (Ah (j:=1) Z) (xwi Z Z Z (SqT.of b) (Ah (j:=3) Z) (xq2 Z Z (xwb Z Z Z i)))
inductive WC(a:Ad)(vs:List V)(H:Hp)(Q:VK):Prop
|mk (g:GA) (G:Gv) (i n:Nat) (_:vs=[.ref g.p,.int i]) (_:AM a H g G) (_:An G i ((n+1:Nat):Int)) (_:n<48) (_:Q (.int (2^n)) H):WC a vs H Q
def IH(a:Ad):Sp:=λvs H Q _=>WC a vs H Q
theorem ZH(F:Fun K "reach_of" "reach_of" LZ f fd)(T:Top K mg a)(d:Cd P w K mg base CX0 3 a.c_Grove "level_of" Lh (Mv a)):AL P w K mg base CX0 4 f fd UX (IH a):=by
 refine F.ok Tf D_9 λj A b s H vs Q E o h=>?_
 obtain⟨g,G,i,n,rfl,c,⟨q,e,l⟩,p,k⟩:=h;refine⟨_,(Ai (Av (AB Mq Ab (AB BI (AJ (pv 0) d (rm o) Aq (Aa (pv 1) Ae)) Ab)))),?_⟩
 try dsimp only[cxK]
 have m:q.lev=(n:Int)+1:=by rw[l];lia
 refine xwn Z Z c.hp (DX g) Z ⟨g,G,i,q,Z,c,e,(xq2 Z Z (xq2 Z Z ⟨⟨by lia,by lia,by decide⟩,?_⟩))⟩;show Q (.int (1*2^(q.lev-1).toNat)) H;rw[Rj n m];exact k
inductive WK(a:Ad)(vs:List V)(H:Hp)(Q:VK):Prop
|mk (g:GA) (G:Gv) (_:vs=[.ref g.p]) (_:AX a H g G) (_:Q (.int (bareN 1:Int)) H):WK a vs H Q
def OA(a:Ad):Sp:=λvs H Q _=>WK a vs H Q
theorem ZR(F:Fun K "bare_field" "bare_field" IP f fd)(T:Top K mg a):AL P w K mg base CX0 1 f fd RN (OA a):=by
 refine F.ok Qg D_9 λd A b s H vs Q E e h=>?_
 obtain⟨g,G,rfl,c,k⟩:=h;exact⟨_,(Ai (Av (Aj Ax (AE (pv 0) Z) (Cj Z T.k_LEAST_LEVEL) R_9))),(xwf Z Z c.at'.hp T.cl_Grove T.na_Grove_bares (Iq g) (xq4 Z Z (SqL.of c.br) (Ah (j:=1) (bareL_at' A0)) k))⟩
inductive SpWid(a:Ad)(vs:List V)(H:Hp)(Q:VK):Prop
|mk (g:GA) (G:Gv) (f n:Nat) (_:vs=[.ref g.p,.int f]) (_:AX a H g G) (_:An G f ((n+1:Nat):Int)) (_:n<47) (_:G.length<8900000) (_:∀(w:Nat)(G':Gv)(H':Hp),Fr g H H'->AM a H' g G'->AI G G' 5->Wid G' n f w->Q (.int w) H'):SpWid a vs H Q
def VO(a:Ad):Sp:=λvs H Q _=>SpWid a vs H Q
theorem ok_wid(F:Fun K "widened" "widened" Nq f fd)(T:Top K mg a)(aA:Cd P w K mg base CX0 3 a.c_Grove "level_of" Lh (Mv a))(N:Cd P w K mg base CX0 2 a.c_Grove "linked" AW (Eg a)):AL P w K mg base CX0 4 f fd Lu (VO a):=by
 refine F.ok II D_9 λar A aq s H vs Q E M h=>?_
 obtain⟨g,G,f',n,rfl,d,hl,as,few,k⟩:=h;obtain⟨q,x,y,z,v,u⟩:=BD d.ok hl;have lq:=u.lev;obtain⟨ts,h3,h4⟩:=d.at'.pt;obtain⟨t,et,I⟩:=PairedM.get h4 u.g;have I:H t=some (.tup [.int x,.int y,.int z,.int v]):=by
  have I:H t=some (.tup (q.parts.map V.int)):=I;rw[u.ps]at I;exact I
 obtain⟨r,e0⟩:=d.g0;have m:=EE e0 (n:=n) A0;refine⟨_,(Ac (Ao (i:=2) II.nd Z O_9 (AJ (pv 0) aA (rm M) Aq (Aa (pv 1) Ae))) (Ac (AQ (PW.pt (Jz (Az FH (pv 2) (Cj Z T.k_LEAST_LEVEL) (AF _)) (JK (Az CK (pv 2) (Cj Z T.k_TOP_LEVEL) (AF _))))) (Ai Bl) AC) (Ac (Ao (i:=3) II.nd Z O_9 (Aj Ax (AE (pv 0) Z) (pv 1) R_9)) (Ac (Ao (i:=4) II.nd Z O_9 (Aj Ax (AE (pv 0) Z) (AB BI (pv 2) Ab) R_9)) (Ai (Av (AJ (pv 0) N (rm M) Aq (Bp (Aa (AJ (pv 0) N (rm M) Aq (Bp (Aa (pv 4) (Aa (pv 4) (Aa (pv 4) (Aa (Aj Ak (pv 3) Ab R_9) Ae)))) Ae)) (Aa (AJ (pv 0) N (rm M) Aq (Bp (Aa (pv 4) (Aa (pv 4) (Aa (Aj Ak (pv 3) Ab R_9) (Aa (pv 4) Ae)))) Ae)) (Aa (AJ (pv 0) N (rm M) Aq (Bp (Aa (pv 4) (Aa (Aj Ak (pv 3) Ab R_9) (Aa (pv 4) (Aa (pv 4) Ae)))) Ae)) (Aa (AJ (pv 0) N (rm M) Aq (Bp (Aa (Aj Ak (pv 3) Ab R_9) (Aa (pv 4) (Aa (pv 4) (Aa (pv 4) Ae)))) Ae)) Ae)))) Ae)))))))),?_⟩
 try dsimp only[cxK]
 refine xq1 Z ⟨g.p,g.dx,(xq1 Z ⟨d.at'.hp,DX g,(xq1 Z ⟨g,G,f',q,Z,d.at',u.g,?_⟩)⟩)⟩;refine xwb Z Z Z (xq1 Z ?_);rw[K1 (by lia:¬q.lev<1)];refine AY (xq1 Z ⟨Z,(xq1 Z ?_)⟩);rw[K1 (by intro z;injection z with z;lia)];refine AY (xwf Z Z d.at'.hp T.cl_Grove T.na_Grove_parts (Cg g) (xwi Z Z Z (SqL.of h3) (Ah (by rw[C0,et];rfl)) ?_));refine xwf Z Z d.at'.hp T.cl_Grove T.na_Grove_bares (Iq g) (xwb Z Z Z (xq4 Z Z (SqL.of d.br) (by rw[show q.lev-1=(n:Int) by lia];exact Ah (bareL_at' A0)) ?_));refine xq1 Z ⟨g.p,g.dx,(xq1 Z ⟨d.at'.hp,BT g,?_⟩)⟩;refine xq1 Z ⟨g.p,g.dx,(xq1 Z ⟨d.at'.hp,BT g,(xw3 Z Z Z (xwi Z Z Z (SqT.of I) (Ah (j:=0) Z) ⟨S_4,λt1 ah=>?_⟩))⟩)⟩;have s1:=AG (o:=.tup [.int (bareN n:Int),.int (bareN n:Int),.int (bareN n:Int),.int x]) ah;refine⟨g,G,t1,bareN n,bareN n,bareN n,x,(n:Int),Z,d.at'.same s1,d.ok,Af,⟨m,m,m,u.hx⟩,by lia,by lia,λW G1 H1 aa R e e1=>?_⟩;have f1:=(AA.fr s1).trans aa;have am:=f1.tup d.at' I;have n1:=e.few;refine xwn Z Z R.hp (BT g) Z (xwj Z Z Z Z (SqT.of am) (Ah (j:=1) Z) (xq1 Z ⟨S_4,λt2 ai=>?_⟩));have s2:=AG (o:=.tup [.int (bareN n:Int),.int (bareN n:Int),.int y,.int (bareN n:Int)]) ai;refine⟨g,G1,t2,bareN n,bareN n,y,bareN n,(n:Int),Z,R.same s2,e.ok,Af,⟨e.lev m,e.lev m,e.lev u.hy,e.lev m⟩,by lia,by lia,λX G2 H2 ab S D e2=>?_⟩;have f2:=f1.trans ((AA.fr s2).trans ab);have an:=f2.tup d.at' I;have n2:=D.few;have b:=e.trans D;refine xwn Z Z S.hp (BT g) Z (xwi Z Z Z (SqT.of an) (Ah (j:=2) Z) (xw2 Z Z ⟨S_4,λt3 aj=>?_⟩));have s3:=AG (o:=.tup [.int (bareN n:Int),.int z,.int (bareN n:Int),.int (bareN n:Int)]) aj;refine⟨g,G2,t3,bareN n,z,bareN n,bareN n,(n:Int),Z,S.same s3,D.ok,Af,⟨b.lev m,b.lev u.hz,b.lev m,b.lev m⟩,by lia,by lia,λY G3 H3 ac U B e3=>?_⟩;have f3:=f2.trans ((AA.fr s3).trans ac);have ao:=f3.tup d.at' I;have n3:=B.few;have c:=b.trans B;refine xwn Z Z U.hp (BT g) Z (xq4 Z Z (SqT.of ao) (Ah (j:=3) Z) (xw3 Z Z Z ⟨S_4,λt4 ak=>?_⟩));have s4:=AG (o:=.tup [.int v,.int (bareN n:Int),.int (bareN n:Int),.int (bareN n:Int)]) ak;refine⟨g,G3,t4,v,bareN n,bareN n,bareN n,(n:Int),Z,U.same s4,B.ok,Af,⟨c.lev u.hw,c.lev m,c.lev m,c.lev m⟩,by lia,by lia,λa4 G4 H4 ad af l e4=>?_⟩;have f4:=f3.trans ((AA.fr s4).trans ad);have n4:=l.few;have O:=c.trans l;refine⟨S_4,λt5 al=>?_⟩;have s5:=AG (o:=.tup [.int W,.int X,.int Y,.int a4]) al;have E1:=(D.trans (B.trans l)).get e1;have E2:=(B.trans l).get e2;have E3:=l.get e3;refine⟨g,G4,t5,W,X,Y,a4,(n:Int)+1,Z,af.same s5,l.ok,Af,⟨⟨_,E1,Z⟩,⟨_,E2,Z⟩,⟨_,E3,Z⟩,⟨_,e4,Z⟩⟩,by lia,by lia,λw' G5 H5 ae ag C e5=>?_⟩;have L:=O.trans C;exact k w' G5 H5 (f4.trans ((AA.fr s5).trans ae)) ag L ⟨q,x,y,z,v,W,X,Y,a4,u.app L,C.get E1,C.get E2,C.get E3,C.get e4,by rw[e5,show(n:Int)+1+1=(n:Int)+2 by lia]⟩
end
structure Ox(G:Gv)(n i:Nat)(qs:L_)(ps:Nat->Nat->Nat):Prop where
node:∃q,Iv G (n+1) i q (qs 0) (qs 1) (qs 2) (qs 3)
sub:∀k,k<4->∃q,Iv G n (qs k) q (ps k 0) (ps k 1) (ps k 2) (ps k 3)
theorem Ox.app{G b:Gv}{k n i:Nat}{c:L_}{ps:Nat->Nat->Nat}(go:AI G b k)(h:Ox G n i c ps):Ox b n i c ps:=by
 obtain⟨q,a⟩:=h.node;exact⟨⟨q,a.app go⟩,λk d=>by obtain⟨q,a⟩:=h.sub k d;exact⟨q,a.app go⟩⟩
def f4(x y z w:Nat)(k:Nat):Nat:=match k with|0=>x|1=>y|2=>z|_=>w
theorem deep_of{G:Gv}(ok:GOk G){n i:Nat}(h:An G i ((n+2:Nat):Int)):∃e ps,Ox G n i e ps:=by
 obtain⟨q,x,y,z,w,a⟩:=BD ok (n:=n+1) h;obtain⟨_,m,o,p,r,nx⟩:=BD ok a.hx;obtain⟨_,s,t,u,v,c⟩:=BD ok a.hy;obtain⟨_,A,B,C,D,d⟩:=BD ok a.hz;obtain⟨_,f,g,j,l,nw⟩:=BD ok a.hw;refine⟨f4 x y z w,λk=>match k with|0=>f4 m o p r|1=>f4 s t u v|2=>f4 A B C D|_=>f4 f g j l,⟨q,a⟩,λk b=>?_⟩
 match k,b with
 |0,_=>exact⟨_,nx⟩
 |1,_=>exact⟨_,c⟩
 |2,_=>exact⟨_,d⟩
 |3,_=>exact⟨_,nw⟩
theorem Iv.nat{G:Gv}{n i:Nat}{q:Sq}{x y z w:Nat}(h:Iv G n i q x y z w){j:Nat}(a:j<4):q.parts[j]?=some ((f4 x y z w j:Nat):Int)/\An G (f4 x y z w j) n:=by
 rw[h.ps]
 match j,a with
 |0,_=>exact⟨Z,h.hx⟩
 |1,_=>exact⟨Z,h.hy⟩
 |2,_=>exact⟨Z,h.hz⟩
 |3,_=>exact⟨Z,h.hw⟩
theorem Lk(p:L_){j:Nat}(a:j<4):f4 (p 0) (p 1) (p 2) (p 3) j=p j:=by
 match j,a with
 |0,_=>rfl
 |1,_=>rfl
 |2,_=>rfl
 |3,_=>rfl
def BA(n:Nat)(ps:Nat->Nat->Nat):Prop:=∀k j,k<4->j<4->j+k≠3->ps k j=bareN n
def FJ(G:Gv):Nat->Nat->Nat->Prop
|0,_,_=>False
|1,f,r=>r=f
|n+2,f,r=>∃qs ps,Ox G n f qs ps/\((¬BA n ps/\r=f)\/(BA n ps/\∃m,G[m]?=some ⟨[(ps 0 3:Int),(ps 1 2:Int),(ps 2 1:Int),(ps 3 0:Int)],(n:Int)+1⟩/\FJ G (n+1) m r))
theorem FJ.app{G a:Gv}{k:Nat}(go:AI G a k):∀{n f r:Nat},FJ G n f r->FJ a n f r
|0,_,_,h=>h
|1,_,_,h=>h
|n+2,f,r,h=>by
 obtain⟨g,ps,d,h⟩:=h;refine⟨g,ps,d.app go,?_⟩;rcases h with h|⟨b,m,c,e⟩
 .exact .inl h
 .exact .inr ⟨b,m,go.get c,FJ.app go e⟩
section
variable{P:N_}{w:Q_}{K:O_}{mg:C_}{base:T_}{a:Ad}
theorem Eu{H:Hp}{g:GA}{G:Gv}(h:AM a H g G){n i:Nat}{q:Sq}{x y z w:Nat}(d:Iv G n i q x y z w):∃(c:H_)(t:R_),H g.pt=some (.lst (c.map V.ref))/\(c.map V.ref)[i]?=some (.ref t)/\H t=some (.tup [.int x,.int y,.int z,.int w]):=by
 obtain⟨c,f,j⟩:=h.pt;obtain⟨t,e,b⟩:=PairedM.get j d.g;refine⟨c,t,f,by rw[C0,e];rfl,?_⟩;have b:H t=some (.tup (q.parts.map V.int)):=b;rw[d.ps]at b;exact b
inductive SpMid(a:Ad)(vs:List V)(H:Hp)(Q:VK):Prop
|mk (g:GA) (G:Gv) (i n:Nat) (qs:L_) (ps:Nat->Nat->Nat) (_:vs=[.ref g.p,.int i]) (_:AM a H g G) (_:GOk G) (_:Ox G n i qs ps) (_:n<47) (_:G.length<8900000) (_:∀(m:Nat)(G':Gv)(H':Hp),Fr g H H'->AM a H' g G'->AI G G' 1->G'[m]?=some ⟨[(ps 0 3:Int),(ps 1 2:Int),(ps 2 1:Int),(ps 3 0:Int)],(n:Int)+1⟩->Q (.int m) H'):SpMid a vs H Q
def Zg(a:Ad):Sp:=λvs H Q _=>SpMid a vs H Q
theorem ok_mid(F:Fun K "middle_of" "middle_of" GJ f fd)(T:Top K mg a)(a9:Cd P w K mg base CX0 2 a.c_Grove "linked" AW (Eg a)):AL P w K mg base CX0 3 f fd Lu (Zg a):=by
 refine F.ok MD D_9 λab A aa s H vs Q E hr h=>?_
 obtain⟨g,G,i,n,c,ps,rfl,I,ok,D,ac,few,k⟩:=h;obtain⟨q,nd⟩:=D.node;obtain⟨ts,t,S,et,ht⟩:=Eu I nd;refine⟨_,(Ac (Jb (i:=2) Z MD.nd Z Z (BE.of (So:=Al GJ) (No:=Od) (N:=["quarter","grove"]) (k:=1) (cs:=[0]) Z Z A1) (UM (Aj Ax (AE (pv 0) Z) (pv 1) R_9)) (λ_ _ _=>(Bg (i:=0) A1 Z Z)) (λ_ _ _=>BL) (λ_ _ _=>(Aj (ixc_list (K:=K) Z) (RC (K:=K) Z (pv 1) Z) (pv 0) R_9))) (Ai (Av (AJ (pv 0) a9 (rm hr) Aq (Bp (Aa (Aj Ak (Aj Ax (pv 2) Ab R_9) Ab R_9) (Aa (Aj Ak (Aj Ax (pv 2) Ab R_9) Ab R_9) (Aa (Aj Ak (Aj Ax (pv 2) Ab R_9) Ab R_9) (Aa (Aj Ak (Aj Ax (pv 2) Ab R_9) Ab R_9) Ae)))) Ae))))),?_⟩
 try dsimp only[cxK]
 refine xwf Z Z I.hp T.cl_Grove T.na_Grove_parts (Cg g) (xwi Z Z Z (SqL.of S) (Ah et) ⟨t,Z,⟨_,SqT.of ht⟩,?_⟩);have b:∀k,k<4->∃tk,(ts.map V.ref)[c k]?=some (.ref tk)/\H tk=some (.tup [.int (ps k 0),.int (ps k 1),.int (ps k 2),.int (ps k 3)]):=λk hk=>by
  obtain⟨qk,Y⟩:=D.sub k hk;obtain⟨ad,tk,r,R,W⟩:=Eu I Y;rw[S]at r;have r:=HO.lst.inj (K7 r);exact⟨tk,by rw[r];exact R,W⟩
 obtain⟨u,e0,p0⟩:=b 0 A3;obtain⟨x,e1,p1⟩:=b 1 A3;obtain⟨y,e2,p2⟩:=b 2 A3;obtain⟨B,e3,p3⟩:=b 3 A3;have all:∀(j:Nat)(v:V),[V.int (c 0:Int),V.int (c 1:Int),V.int (c 2:Int),V.int (c 3:Int)][j]?=some v->∃(k:Nat)(tk:R_),v=.int (k:Int)/\(ts.map V.ref)[k]?=some (.ref tk)/\[V.ref u,V.ref x,V.ref y,V.ref B][j]?=some (.ref tk):=λj v d=>by
  match j,d with
  |0,d=>cases d;exact⟨c 0,u,Z,e0,Z⟩
  |1,d=>cases d;exact⟨c 1,x,Z,e1,Z⟩
  |2,d=>cases d;exact⟨c 2,y,Z,e2,Z⟩
  |3,d=>cases d;exact⟨c 3,B,Z,e3,Z⟩
  |j+4,d=>simp at d
 refine Sw (xs:=[.int (c 0:Int),.int (c 1:Int),.int (c 2:Int),.int (c 3:Int)]) (λj p O=>H=O/\p=[V.ref u,V.ref x,V.ref y,V.ref B].take j) ⟨Z,Z⟩ (λj p O _ z=>z.1▸SqT.of ht) ?_ ?_
 .rintro j v p O d ⟨rfl,rfl⟩;obtain⟨k',tk,rfl,ek,el⟩:=all j v d;refine⟨⟨[some (.int k')],Z,Z⟩,by rw[L8];exact EH (by show min j 4<10000000;lia),GQ (xwf Z Z I.hp T.cl_Grove T.na_Grove_parts (Cg g) (xwi Z Z Z (SqL.of S) (Ah ek) ⟨Z,?_⟩))⟩;rw[F9,el];rfl
 .rintro p O ⟨rfl,rfl⟩ L hL;have C:=AG (o:=.lst [V.ref u,V.ref x,V.ref y,V.ref B]) hL;have l:upd H L (.lst [V.ref u,V.ref x,V.ref y,V.ref B]) L=some (.lst [V.ref u,V.ref x,V.ref y,V.ref B]):=Af;rw[show(List.take [V.int (c 0:Int),V.int (c 1:Int),V.int (c 2:Int),V.int (c 3:Int)].length [V.ref u,V.ref x,V.ref y,V.ref B])=[V.ref u,V.ref x,V.ref y,V.ref B]from rfl];generalize upd H L (.lst [V.ref u,V.ref x,V.ref y,V.ref B])=H1 at C l⊢;have M:=I.same C;refine xwn Z Z M.hp (BT g) Z (xq4 Z Z (SqL.of l) (Ah (j:=0) Z) (xq4 Z Z (SqT.of (C _ _ p0)) (Ah (j:=3) Z) (xwi Z Z Z (SqL.of l) (Ah (j:=1) Z) (xq4 Z Z (SqT.of (C _ _ p1)) (Ah (j:=2) Z) ?_))));refine xwi Z Z Z (SqL.of l) (Ah (j:=2) Z) (xq4 Z Z (SqT.of (C _ _ p2)) (Ah (j:=1) Z) (xwi Z Z Z (SqL.of l) (Ah (j:=3) Z) (xq4 Z Z (SqT.of (C _ _ p3)) (Ah (j:=0) Z) ⟨S_4,λt4 X=>?_⟩)));have s2:=AG (o:=.tup [.int (ps 0 3),.int (ps 1 2),.int (ps 2 1),.int (ps 3 0)]) X;obtain⟨_,n0⟩:=D.sub 0 A3;obtain⟨_,n1⟩:=D.sub 1 A3;obtain⟨_,n2⟩:=D.sub 2 A3;obtain⟨_,n3⟩:=D.sub 3 A3;exact⟨g,G,t4,ps 0 3,ps 1 2,ps 2 1,ps 3 0,(n:Int),Z,M.same s2,ok,Af,⟨n0.hw,n1.hz,n2.hy,n3.hx⟩,by lia,by lia,λm G' H' fr U go e=>k m G' H' ((AA.fr C).trans ((AA.fr s2).trans fr)) U go e⟩
inductive SpBA(a:Ad)(vs:List V)(H:Hp)(Q:VK):Prop
|mk (g:GA) (G:Gv) (i n:Nat) (qs:L_) (ps:Nat->Nat->Nat) (_:vs=[.ref g.p,.int i]) (_:AX a H g G) (_:Ox G n i qs ps) (_:n<47) (_:(BA n ps->∀H',AA H H'->Q (.bl true) H')) (_:(¬BA n ps->∀H',AA H H'->Q (.bl false) H')):SpBA a vs H Q
def spBA(a:Ad):Sp:=λvs H Q _=>SpBA a vs H Q
theorem ok_ba(F:Fun K "is_bare_around" "is_bare_around" EN f fd)(T:Top K mg a):AL P w K mg base CX0 1 f fd Lu (spBA a):=by
 refine F.ok BR D_9 λad A ac s H vs Q E hr h=>?_
 obtain⟨g,G,i,n,u,ps,rfl,m,dp,ae,k1,k2⟩:=h;obtain⟨q,r⟩:=dp.node;have lq:=r.lev;obtain⟨ts,t,h3,et,ht⟩:=Eu m.at' r;refine⟨_,(Ac (Ao (i:=2) BR.nd Z O_9 (Aj Ax (AE (pv 0) Z) (AB BI (Aj Ax (AE (pv 0) Z) (pv 1) R_9) Ab) R_9)) (Ac (Cv A0b Z (OF true Z T.b_enumerate (Aa (Aj Ax (AE (pv 0) Z) (pv 1) R_9) Ae)) (Pn Z (DJ (Bn (i:=3) BR.nd Z O_9) (DJ (Bn (i:=4) BR.nd Z O_9) MI))) (Ai (Cv A0b Z (OF true Z T.b_enumerate (Aa (Aj Ax (AE (pv 0) Z) (pv 4) R_9) Ae)) (Pn Z (DJ (Bn (i:=5) BR.nd Z O_9) (DJ (Bn (i:=6) BR.nd Z O_9) MI))) (Ai (AQ (PW.pt (Mj (Az JY (pv 6) (pv 2) (AF _)) (Ja (Az JY (pv 5) (AB BI Ab (pv 3)) (AF _))))) (Ai (Av Po)) AC))))) (Ai (Av Po)))),?_⟩
 try dsimp only[cxK]
 refine xwf Z Z m.at'.hp T.cl_Grove T.na_Grove_bares (Iq g) (xwf Z Z m.at'.hp T.cl_Grove T.na_Grove_levels (EX g) (xwi Z Z Z (SqL.of m.at'.lv) (Ah (by rw[C0,r.g];rfl)) (xq2 Z Z (xq4 Z Z (SqL.of m.br) (by rw[show q.lev-2=(n:Int) by lia];exact Ah (bareL_at' A0)) ?_))));refine xwf Z Z m.at'.hp T.cl_Grove T.na_Grove_parts (Cg g) (xwi Z Z Z (SqL.of h3) (Ah et) ⟨t,Z,⟨_,SqT.of ht⟩,?_⟩);refine MY (b:=true) (xs:=[.int (u 0:Int),.int (u 1:Int),.int (u 2:Int),.int (u 3:Int)]) (λj σ I=>AA H I/\(∃u3 u4 C D:Option V,σ=[some (.ref g.p),some (.int i),some (.int (bareN n:Int)),u3,u4,C,D])/\∀l d,l<j->l<4->d<4->d+l≠3->ps l d=bareN n) ⟨AA.refl H,⟨none,none,none,none,Z⟩,λl d h=>absurd h (M7 _)⟩ (λj σ I _ z=>SqT.of (z.1 _ _ ht)) ?_ ?_
 .rintro j v σ I T' c ⟨sm,⟨u3,u4,C,D,rfl⟩,W⟩ nT;have hj:j<4:=(B9.mp c).1;have y:v=.int (u j:Int):=by
   match j,hj,c with
   |0,_,c=>cases c;rfl
   |1,_,c=>cases c;rfl
   |2,_,c=>cases c;rfl
   |3,_,c=>cases c;rfl
  subst y;obtain⟨qk,ab⟩:=dp.sub j hj;have U:=sm.trans (AG (o:=.tup [.int j,.int (u j)]) nT);refine TX Af ?_;generalize upd I T' (.tup [.int j,.int (u j)])=H3 at U⊢;obtain⟨af,t3,Y,X,S⟩:=Eu (m.at'.same U) ab;refine xwf Z Z ((m.at'.same U).hp) T.cl_Grove T.na_Grove_parts (Cg g) (xwi Z Z Z (SqL.of Y) (Ah X) ⟨t3,Z,⟨_,SqT.of S⟩,?_⟩);refine MY (b:=true) (xs:=[.int (ps j 0:Int),.int (ps j 1:Int),.int (ps j 2:Int),.int (ps j 3:Int)]) (λk σ M=>AA H3 M/\(∃C D:Option V,σ=[some (.ref g.p),some (.int i),some (.int (bareN n:Int)),some (.int j),some (.int (u j)),C,D])/\∀d,d<k->d<4->d+j≠3->ps j d=bareN n) ⟨AA.refl H3,⟨_,_,Z⟩,λd h=>absurd h (M7 _)⟩ (λk σ M _ z=>SqT.of (z.1 _ _ S)) ?_ ?_
  .rintro k v σ M T2 c ⟨B,⟨C,D,rfl⟩,x⟩ aa;have R:k<4:=(B9.mp c).1;have y:v=.int (ps j k:Int):=by
    match k,R,c with
    |0,_,c=>cases c;rfl
    |1,_,c=>cases c;rfl
    |2,_,c=>cases c;rfl
    |3,_,c=>cases c;rfl
   subst y;have s4:=B.trans (AG (o:=.tup [.int k,.int (ps j k)]) aa);refine TX Af ?_;generalize upd M T2 (.tup [.int k,.int (ps j k)])=H5 at s4⊢;refine xw2 Z Z ⟨Z,(xq1 Z ?_)⟩;refine YT (b2:=!decide (V.int (k:Int)=V.int (3-(j:Int)))) (λ_ Q' q=>(xw2 Z Z (xq2 Z Z ⟨Z,(xq1 Z q)⟩))) ?_;refine Ip (λO=>?_) (λO=>?_)
   .refine k2 (λba=>?_) H5 (U.trans s4);rw[Q0]at O;have c2:¬k+j=3:=λz=>by
     have:=O.2;rw[K0 (show V.int (k:Int)=V.int (3-(j:Int)) by congr 1;lia)]at this;cases this
    have c1:=O.1;rw[ba j k hj R c2,K0 rfl]at c1;cases c1
   .refine⟨s4,⟨_,_,Z⟩,λd L N e=>?_⟩;rcases Q8.mp L with h|h
    .exact x d h N e
    .subst h;refine K4 λz=>O ?_;rw[K1 (show ¬V.int (ps j d:Int)=V.int (bareN n:Int) by intro q;injection q with q;exact z (K5 q)),K1 (show ¬V.int (d:Int)=V.int (3-(j:Int)) by intro q;injection q with q;lia)];rfl
  .rintro σ M ⟨B,⟨C,D,rfl⟩,x⟩;refine⟨U.trans B,⟨_,_,_,_,Z⟩,λl d L N e h4=>?_⟩;rcases Q8.mp L with h|h
   .exact W l d h N e h4
   .subst h;exact x d e e h4
 .rintro σ I ⟨sm,⟨u3,u4,C,D,rfl⟩,W⟩;exact k1 (λl d L N e=>W l d L L N e) I sm
end
theorem FJ.lev{G:Gv}:∀{l f r:Nat},An G f (l:Int)->FJ G l f r->∃n,n+1<=l/\An G r ((n+1:Nat):Int)
|0,_,_,_,h=>h.elim
|1,f,r,hl,h=>by
 have h:r=f:=h;subst h;exact⟨0,C1 _,hl⟩
|n+2,f,r,hl,h=>by
 apply AR;intro b a;obtain⟨i,ps,d,h⟩:=h;apply a;clear a b;rcases h with ⟨_,rfl⟩|⟨_,m,e,h⟩
 .exact⟨n+1,C1 _,hl⟩
 .obtain⟨k,g,c⟩:=FJ.lev (l:=n+1) ⟨_,e,by show(n:Int)+1=_;lia⟩ h;exact⟨k,by lia,c⟩
section
variable{P:N_}{w:Q_}{K:O_}{mg:C_}{base:T_}{a:Ad}
inductive SpTrim(a:Ad)(vs:List V)(H:Hp)(Q:VK):Prop
|mk (g:GA) (G:Gv) (f n:Nat) (_:vs=[.ref g.p,.int f]) (_:AX a H g G) (_:An G f ((n+1:Nat):Int)) (_:G.length<8800000) (_:∀(r:Nat)(G':Gv)(H':Hp),Fr g H H'->AX a H' g G'->AI G G' 48->FJ G' (n+1) f r->Q (.int r) H'):SpTrim a vs H Q
def Ni(a:Ad):Sp:=λvs H Q _=>SpTrim a vs H Q
theorem ok_trim(F:Fun K "trimmed" "trimmed" Nr f fd)(T:Top K mg a)(aA:Cd P w K mg base CX0 3 a.c_Grove "level_of" Lh (Mv a))(bH:Cal P w K mg base CX0 1 "is_bare_around" Lu (spBA a))(cJ:Cal P w K mg base CX0 3 "middle_of" Lu (Zg a)):AL P w K mg base CX0 4 f fd Lu (Ni a):=by
 refine F.ok LW (λvs H Q E h=>?_) (λaa A S s H vs Q E O h=>?_)
 .apply AR;intro x e;obtain⟨g,G,o,n,rfl,_⟩:=h;apply e;clear e x;rfl
 .apply AR;intro x e;obtain⟨g,G,o,n,rfl,B,Y,few,k⟩:=h;obtain⟨q,eq,lq⟩:=id Y;apply e;clear e x;have ac:n+1<=48:=by have:=(B.ok.lev eq).2;lia
  refine⟨_,(Ac (AQ (Az FH (AJ (pv 0) aA (rm O) Aq (Aa (pv 1) Ae)) (Cj Z T.k_LEAST_LEVEL) (AF _)) (Ai Bl) AC) (Ac (Ao (i:=2) LW.nd Z O_9 (pv 1)) (Ac (JL A0b (PW.pt (Mj (Az Oc (Aj Ax (AE (pv 0) Z) (pv 2) R_9) (Cj Z T.k_LEAST_LEVEL) (AF _)) (Ja (Cu (As bH (rm O) Z Aq (Aa (pv 0) (Aa (pv 2) Ae))))))) (Ai (Ao (i:=2) LW.nd Z O_9 (As cJ (rm O) Z Aq (Aa (pv 0) (Aa (pv 2) Ae)))))) (Ai (Av (pv 2)))))),?_⟩
  try dsimp only[cxK]
  refine xq1 Z ⟨g.p,g.dx,(xq1 Z ⟨B.at'.hp,DX g,(xq1 Z ⟨g,G,o,q,Z,B.at',eq,(xq2 Z Z (xq1 Z ?_))⟩)⟩)⟩;rw[K1 (by lia:¬q.lev<1)];refine AY (xq1 Z ?_);refine⟨λm σ C=>∃(j:Gv)(c:Nat),σ=[some (.ref g.p),some (.int o),some (.int c)]/\Fr g H C/\AX a C g j/\AI G j (n-m)/\m<=n/\An j c ((m+1:Nat):Int)/\∀(r:Nat)(d:Gv)(k:Nat),AI j d k->FJ d (m+1) c r->FJ d (n+1) o r,⟨n,G,o,Z,Fr.refl g H,B,(AI.refl B.ok).mono A0,C1 _,Y,λ_ _ _ _ h=>h⟩,?_⟩;rintro m σ C V;apply AR;intro x e;obtain⟨j,c,rfl,fr,b,go,mn,lc,U⟩:=V;apply e;clear e x;have gf:=go.few;obtain⟨qc,ec,ab⟩:=id lc;refine xwf Z Z b.at'.hp T.cl_Grove T.na_Grove_levels (EX g) (xwi Z Z Z (SqL.of b.at'.lv) (Ah (by rw[C0,ec];rfl)) (xq2 Z Z (xq1 Z ?_)));cases m with
  |zero =>
   rw[K1 (by lia:¬(1:Int)<qc.lev)];exact AY (AY (xq1 Z (k c j C fr b (go.mono A0) (U c j 0 (AI.refl b.ok) Z))))
  |succ m =>
   rw[K0 (by lia:(1:Int)<qc.lev)];obtain⟨I,ps,D⟩:=deep_of b.ok lc;refine BY (xw2 Z Z ⟨g,j,c,m,I,ps,Z,b,D,by lia,λba W v=>⟨true,Z,BY ?_⟩,λR W v=>⟨false,Z,AY ?_⟩⟩)
   .refine⟨fun σ' L=>∃(u:Gv)(c2:Nat),σ'=[some (.ref g.p),some (.int o),some (.int c2)]/\Fr g H L/\AX a L g u/\AI G u (n-m)/\m<=n/\An u c2 ((m+1:Nat):Int)/\∀(r:Nat)(d:Gv)(k:Nat),AI u d k->FJ d (m+1) c2 r->FJ d (n+1) o r,fun σ' L z=>⟨m,by lia,z⟩,?_⟩;refine xw2 Z Z ⟨g,j,c,m,I,ps,Z,b.at'.same v,b.ok,D,by lia,by lia,λc2 u H4 y N l X=>?_⟩;have M:=(b.same v).fr y N l;refine⟨u,c2,Z,fr.trans ((AA.fr v).trans y),M,(go.trans l).mono A0,by lia,⟨_,X,by show(m:Int)+1=_;lia⟩,λr d k' t t5=>?_⟩;exact U r d _ (l.trans t) ⟨I,ps,D.app (l.trans t),.inr ⟨ba,c2,t.get X,t5⟩⟩
   .exact xq1 Z (k c j W (fr.trans (AA.fr v)) (b.same v) (go.mono A0) (U c j 0 (AI.refl b.ok) ⟨I,ps,D,.inl ⟨R,Z⟩⟩))
def NW(G:Gv)(n f:Nat):Nat->Nat->Prop
|0,w=>w=f
|k+1,w=>∃u,NW G n f k u/\Wid G (n+k) u w
theorem NW.app{G b:Gv}{m n f:Nat}(go:AI G b m):∀{k w:Nat},NW G n f k w->NW b n f k w
|0,_,h=>h
|k+1,w,h=>by
 obtain⟨u,c,d⟩:=h;exact⟨u,NW.app go c,d.app go⟩
inductive SpWO(a:Ad)(vs:List V)(H:Hp)(Q:VK):Prop
|mk (g:GA) (G:Gv) (f n:Nat) (t:R_) (x y wd ht:Int) (_:vs=[.ref g.p,.int f,.ref t]) (_:AX a H g G) (_:An G f ((n+1:Nat):Int)) (_:n<=40) (_:H t=some (.tup [.int x,.int y,.int wd,.int ht])) (_:FR x y wd ht (2^40)) (_:G.length<8700000) (_:∀(k w:Nat)(G':Gv)(H':Hp),Fr g H H'->AX a H' g G'->AI G G' (5*k)->n+k<=40->NW G' n f k w->An G' w ((n+k+1:Nat):Int)->FR x y wd ht (2^(n+k))->(∀j,j<k->¬FR x y wd ht (2^(n+j)))->Q (.int w) H'):SpWO a vs H Q
def spWO(a:Ad):Sp:=λvs H Q _=>SpWO a vs H Q
theorem ok_wo(F:Fun K "widened_over" "widened_over" FZ f fd)(T:Top K mg a)(aD:Cal P w K mg base CX0 1 "lies_within" Qo QD)(aE:Cal P w K mg base CX0 4 "reach_of" UX (IH a))(bJ:Cal P w K mg base CX0 4 "widened" Lu (VO a)):AL P w K mg base CX0 5 f fd Ev (spWO a):=by
 refine F.ok Fz (λvs H Q E h=>?_) (λaa A V s H vs Q E R h=>?_)
 .apply AR;intro u b;obtain⟨g,G,q,n,t,x,y,C,X,rfl,_⟩:=h;apply b;clear b u;rfl
 .apply AR;intro u b;obtain⟨g,G,q,n,t,x,y,C,I,rfl,M,hl,ac,X,li,few,k⟩:=h;apply b;clear b u;refine⟨_,(Ac (Ao (i:=3) Fz.nd Z O_9 (pv 1)) (Ac (JL A0b (CS (Cu (As aD (rm R) Z Aq (Aa (pv 2) (Aa (As aE (rm R) Z Aq (Aa (pv 0) (Aa (pv 3) Ae))) Ae))))) (Ai (Ao (i:=3) Fz.nd Z O_9 (As bJ (rm R) Z Aq (Aa (pv 0) (Aa (pv 3) Ae)))))) (Ai (Av (pv 3))))),?_⟩
  try dsimp only[cxK]
  refine xq1 Z ?_;refine⟨λm σ D=>∃(e:Gv)(c j:Nat),σ=[some (.ref g.p),some (.int q),some (.ref t),some (.int c)]/\Fr g H D/\AX a D g e/\AI G e (5*j)/\n+j+m=40/\An e c ((n+j+1:Nat):Int)/\NW e n q j c/\∀i,i<j->¬FR x y C I (2^(n+i)),⟨40-n,G,q,0,Z,Fr.refl g H,M,AI.refl M.ok,by lia,hl,Z,λi O=>absurd O (M7 _)⟩,?_⟩;rintro m σ D W;apply AR;intro u b;obtain⟨e,c,j,rfl,fr,d,go,ab,U,wn,no⟩:=W;apply b;clear b u;have gf:=go.few;have S:=fr.tup M.at' X;refine xq1 Z (xq1 Z (xq1 Z ⟨g,e,c,n+j,Z,d.at',U,by lia,t,x,y,C,I,_,Z,S,_,Z,?_⟩));by_cases r:FR x y C I (2^(n+j))
  .rw[K0 r];exact AY (xq1 Z (k j c e D fr d go A0 wn U r no))
  .rw[K1 r];have m0:m≠0:=λz=>by
    subst z;have:n+j=40:=by lia
    rw[this]at r;exact r li
   refine BY ⟨fun σ' L=>∃(o:Gv)(c2 B:Nat),σ'=[some (.ref g.p),some (.int q),some (.ref t),some (.int c2)]/\Fr g H L/\AX a L g o/\AI G o (5*B)/\n+B+(m-1)=40/\An o c2 ((n+B+1:Nat):Int)/\NW o n q B c2/\∀i,i<B->¬FR x y C I (2^(n+i)),fun σ' L z=>⟨m-1,by lia,z⟩,?_⟩;refine xw2 Z Z ⟨g,e,c,n+j,Z,d,U,by lia,by lia,λc2 o H3 v N l Y=>?_⟩;refine⟨o,c2,j+1,Z,fr.trans v,d.fr v N l,(go.trans l).mono A0,by lia,?_,⟨c,wn.app l,Y⟩,λi O=>?_⟩
   .have:=Y.lev;rw[show n+(j+1)+1=n+j+2 by lia];exact this
   .rcases Q8.mp O with h|h
    .exact no i h
    .rw[h];exact r
end
def st4(x y z w k j:Nat)(i:Nat):Nat:=if i=k then j else f4 x y z w i
def quad(l x y:Nat):Nat:=x/2^l+2*(y/2^l)
theorem BU{l x:Nat}(h:x<2^(l+1)):x/2^l<2:=by
 rw[Y5 (V6 A3),O8,<-J0];exact h
theorem BS{l x y:Nat}(a:x<2^(l+1))(b:y<2^(l+1)):quad l x y<4:=by
 have c:=BU a;have d:=BU b;unfold quad;lia
theorem Fq(l:Nat):((2^l:Nat):Int)=(2:Int)^l:=M5 2 l
theorem quad_c(l x y:Nat):(x:Int)/2^l+2*((y:Int)/2^l)=((quad l x y:Nat):Int):=by
 unfold quad;rw[<-Fq,M9,N9,U1,U1];rfl
theorem mod_c(l x:Nat):(x:Int)%2^l=((x%2^l:Nat):Int):=by rw[<-Fq,Int.natCast_emod]
theorem set4(x y z w j:Nat){k:Nat}(a:k<4):([V.int (x:Int),V.int (y:Int),V.int (z:Int),V.int (w:Int)].set k (.int j))=[V.int (st4 x y z w k j 0:Int),V.int (st4 x y z w k j 1:Int),V.int (st4 x y z w k j 2:Int),V.int (st4 x y z w k j 3:Int)]:=by
 match k,a with
 |0,_=>rfl
 |1,_=>rfl
 |2,_=>rfl
 |3,_=>rfl
def Rep(G:Gv)(s:Nat):Nat->Nat->Nat->Nat->Nat->Prop
|0,_,_,_,r=>r=s
|l+1,i,x,y,r=>∃(q:Sq)(a b c d j:Nat),Iv G l i q a b c d/\Rep G s l (f4 a b c d (quad l x y)) (x%2^l) (y%2^l) j/\G[r]?=some ⟨[(st4 a b c d (quad l x y) j 0:Int),(st4 a b c d (quad l x y) j 1:Int),(st4 a b c d (quad l x y) j 2:Int),(st4 a b c d (quad l x y) j 3:Int)],(l:Int)+1⟩
theorem Rep.app{G f:Gv}{m s:Nat}(go:AI G f m):∀{l i x y r:Nat},Rep G s l i x y r->Rep f s l i x y r
|0,_,_,_,_,h=>h
|l+1,i,x,y,r,h=>by
 obtain⟨q,a,b,c,d,j,k,g,e⟩:=h;exact⟨q,a,b,c,d,j,k.app go,Rep.app go g,go.get e⟩
theorem Rep.lev{G:Gv}(ok:GOk G){s:Nat}(f:s<8):∀{l i x y r:Nat},Rep G s l i x y r->An G r (l:Int)
|0,_,_,_,r,h=>by
 have h:r=s:=h;subst h;exact⟨_,ok.leaf r f,Z⟩
|l+1,_,_,_,_,h=>by
 obtain⟨q,a,b,c,d,j,k,g,e⟩:=h;exact⟨_,e,by show(l:Int)+1=_;lia⟩
section
variable{P:N_}{w:Q_}{K:O_}{mg:C_}{base:T_}{a:Ad}
inductive SpRep(a:Ad)(n:Nat)(vs:List V)(H:Hp)(Q:VK):Prop
|mk (g:GA) (G:Gv) (i l x y s:Nat) (_:vs=[.ref g.p,.int i,.int x,.int y,.int s]) (_:AM a H g G) (_:GOk G) (_:An G i (l:Int)) (_:l<n) (_:x<2^l) (_:y<2^l) (_:s<8) (_:G.length+l<8900000) (_:∀(r:Nat)(G':Gv)(H':Hp),Fr g H H'->AM a H' g G'->AI G G' l->Rep G' s l i x y r->Q (.int r) H'):SpRep a n vs H Q
def VP(a:Ad)(n:Nat):Sp:=λvs H Q _=>SpRep a n vs H Q
theorem ZG(F:Fun K "replaced" "replaced" LY f fd)(T:Top K mg a)(hm:mg "replaced" = some (.ref f))(Bi:CN K fd Gm [])(aU:Cd P w K mg base CX0 3 a.c_Grove "leaf" RT (Ro a))(a9:Cd P w K mg base CX0 2 a.c_Grove "linked" AW (Eg a)):∀n,AL P w K mg base CX0 (n+4) f fd Gm (VP a n)
|0=>by
 refine F.ok Ea (λvs H Q E h=>?_) (λab A O s H vs Q E W h=>?_)
 .obtain⟨g,G,i,l,x,y,s,rfl,_,_,_,h0,_⟩:=h;exact absurd h0 (M7 _)
 .obtain⟨g,G,i,l,x,y,s,rfl,_,_,_,h0,_⟩:=h;exact absurd h0 (M7 _)
|n+1=>by
 have bM:Cal P w K mg base CX0 (n+4) "replaced" Gm (VP a n):=⟨f,fd,ZG F T hm Bi aU a9 n,hm,F.kp,Bi⟩
 refine F.ok Ea (λvs H Q E h=>?_) (λab A O s H vs Q E W h=>?_)
 .obtain⟨g,G,i,l,x,y,s,rfl,_⟩:=h;rfl
 .obtain⟨g,G,i,l,x,y,st,rfl,B,ok,hl,ln,hx,hy,s8,few,k⟩:=h;obtain⟨q0,e0,l0⟩:=id hl;refine⟨_,(Ac (Ao (i:=5) Ea.nd Z O_9 (Aj Ax (AE (pv 0) Z) (pv 1) R_9)) (Ac (AQ (Az CK (pv 5) Ab (AF _)) (Ai (Av (AJ (pv 0) aU (rm W) Aq (Aa (pv 4) Ae)))) AC) (Ac (Ao (i:=6) Ea.nd Z O_9 (AB Mq Ab (AB BI (pv 5) Ab))) (Ac (Ao (i:=7) Ea.nd Z O_9 (Bd Su Z T.b_list PyProof.Rows.boot_list (Aa (Aj Ax (AE (pv 0) Z) (pv 1) R_9) Ae))) (Ac (Ao (i:=8) Ea.nd Z O_9 (AB AO (AB MN (pv 2) (pv 6)) (AB DE Ab (AB MN (pv 3) (pv 6))))) (Ac (Zt (As bM (rm W) Z Aq (Aa (pv 0) (Aa (Aj Ax (pv 7) (pv 8) R_9) (AV Bc (pv 2) (pv 6) (AV Bc (pv 3) (pv 6) (Aa (pv 4) Ae)))))) (Zy (pv 7) (pv 8) Te)) (Ai (Av (AJ (pv 0) a9 (rm W) Aq (Aa (Bd BM Z T.b_tuple A0h (Aa (pv 7) Ae)) Ae)))))))))),?_⟩
  try dsimp only[cxK]
  refine⟨_,Z,g.p,_,g.dx,_,_,Z,B.hp,T.cl_Grove,T.na_Grove_levels,EX g,_,Z,g.lv,_,(i:Int),.int q0.lev,Z,Z,SqL.of B.lv,Ah (by rw[C0,e0];rfl),?_⟩;cases l with
  |zero =>
   rw[l0];exact xq1 Z ⟨Z,(xq1 Z (BY (xwn Z Z B.hp (Wg g) Z ⟨g.p,(st:Int),Z,by lia,by lia,k st G H (Fr.refl g H) B (AI.refl ok) Z⟩)))⟩
  |succ l =>
   have ah:q0.lev=(l:Int)+1:=by rw[l0];lia
   have ak:=(ok.lev e0).2;have C:=pow2_lt (l:=l) A0;have v:=OE l;obtain⟨q,c,d,m,u,D⟩:=BD ok hl;obtain⟨ts,t,h3,et,ht⟩:=Eu B D;refine xq1 Z ⟨Z,(xq1 Z ?_)⟩;rw[K1 (by intro z;injection z with z;lia)];refine AY (xwb Z Z Z (xq2 Z Z ⟨⟨by lia,by lia,by decide⟩,?_⟩));rw[show(λ(i j:Int)=>V.int (i*2^j.toNat)) 1 (q0.lev-1)=V.int (2^l)from A0c V.int (Rj l ah)];refine xwf Z Z B.hp T.cl_Grove T.na_Grove_parts (Cg g) (xwi Z Z Z (SqL.of h3) (Ah et) ⟨t,(xq1 Z ⟨.inr (SqT.of ht),λL hL=>?_⟩)⟩);have aL:Ap g L:=Ap.new B hL;have s1:=AG (o:=.lst [.int c,.int d,.int m,.int u]) hL;have M:upd H L (.lst [.int c,.int d,.int m,.int u]) L=some (.lst [.int c,.int d,.int m,.int u]):=Af;generalize upd H L (.lst [.int c,.int d,.int m,.int u])=H1 at s1 M⊢;have ad:=B.same s1;have X:=BS hx hy;refine xw2 Z Z (xq2 Z Z ⟨⟨v,C⟩,(xw2 Z Z (xq2 Z Z ⟨⟨v,C⟩,(xq2 Z Z ⟨.inl ⟨by decide,by decide⟩,(xq2 Z Z ?_)⟩)⟩))⟩);rw[show(λ(i j:Int)=>V.int (i+j)) ((x:Int)/2^l) (2*((y:Int)/2^l))=V.int ((quad l x y:Nat):Int)from A0c V.int (quad_c l x y)];have aa:[V.int (c:Int),V.int (d:Int),V.int (m:Int),V.int (u:Int)][quad l x y]?=some (.int (f4 c d m u (quad l x y):Int)):=by
    generalize quad l x y=kk at X⊢
    match kk,X with
    |0,_=>rfl
    |1,_=>rfl
    |2,_=>rfl
    |3,_=>rfl
   have ai:An G (f4 c d m u (quad l x y)) (l:Int):=(D.nat X).2;refine xw3 Z Z Z (xq4 Z Z (SqL.of M) (Ah aa) (xw2 Z Z (xq2 Z Z ⟨v,(xw2 Z Z (xq2 Z Z ⟨v,(xq1 Z ?_)⟩))⟩)));refine⟨g,G,f4 c d m u (quad l x y),l,x%2^l,y%2^l,st,by rw[<-mod_c,<-mod_c];rfl,ad,ok,ai,by lia,F6 _ (V6 A3),F6 _ (V6 A3),s8,by lia,λj G1 Y fr ae go rp=>?_⟩;have gf:=go.few;have S:=fr.get aL M;refine xw2 Z Z ⟨L,_,((quad l x y:Nat):Int),quad l x y,Z,Z,S,by unfold ixN;rw[K2 A0,K2 (by show((quad l x y:Nat):Int)<((4:Nat):Int);lia),J7],?_⟩;rw[set4 c d m u j X];have N:=ae.put (o:=.lst [V.int (st4 c d m u (quad l x y) j 0:Int),V.int (st4 c d m u (quad l x y) j 1:Int),V.int (st4 c d m u (quad l x y) j 2:Int),V.int (st4 c d m u (quad l x y) j 3:Int)]) S aL.1 aL.2.1;have U:upd Y L (.lst [V.int (st4 c d m u (quad l x y) j 0:Int),V.int (st4 c d m u (quad l x y) j 1:Int),V.int (st4 c d m u (quad l x y) j 2:Int),V.int (st4 c d m u (quad l x y) j 3:Int)]) L=some (.lst [V.int (st4 c d m u (quad l x y) j 0:Int),V.int (st4 c d m u (quad l x y) j 1:Int),V.int (st4 c d m u (quad l x y) j 2:Int),V.int (st4 c d m u (quad l x y) j 3:Int)]):=Af;have R:Fr g H (upd Y L (.lst [V.int (st4 c d m u (quad l x y) j 0:Int),V.int (st4 c d m u (quad l x y) j 1:Int),V.int (st4 c d m u (quad l x y) j 2:Int),V.int (st4 c d m u (quad l x y) j 3:Int)])):=λb o e m1 m2 m3=>by
    rw[Aw (Ay e hL)];exact fr _ _ (s1 _ _ e) m1 m2 m3
   generalize upd Y L (.lst [V.int (st4 c d m u (quad l x y) j 0:Int),V.int (st4 c d m u (quad l x y) j 1:Int),V.int (st4 c d m u (quad l x y) j 2:Int),V.int (st4 c d m u (quad l x y) j 3:Int)])=H3 at N U R⊢;refine xwn Z Z N.hp (BT g) Z ⟨L,(xq1 Z (.inl ⟨SqL.of U,λt4 ag=>?_⟩))⟩;have s4:=AG (o:=.tup [V.int (st4 c d m u (quad l x y) j 0:Int),V.int (st4 c d m u (quad l x y) j 1:Int),V.int (st4 c d m u (quad l x y) j 2:Int),V.int (st4 c d m u (quad l x y) j 3:Int)]) ag;have aj:=D.app go;have lj:=rp.lev go.ok s8;have lst:∀ii,ii<4->An G1 (st4 c d m u (quad l x y) j ii) (l:Int):=λii hi=>by
    unfold st4;split
    .exact lj
    .exact(aj.nat hi).2
   refine⟨g,G1,t4,_,_,_,_,(l:Int),Z,N.same s4,go.ok,Af,⟨lst 0 A3,lst 1 A3,lst 2 A3,lst 3 A3⟩,by lia,by lia,λr G2 H4 ac af I e4=>?_⟩;exact k r G2 H4 (R.trans ((AA.fr s4).trans ac)) af (go.trans I) ⟨q,c,d,m,u,j,D.app (go.trans I),rp.app I,e4⟩
structure LK(G:Gv)(n f:Nat)(x y:Int)(s r:Nat)(k w i:Nat):Prop where
le:n+k<=40
wid:NW G n f k w
lw:An G w ((n+k+1:Nat):Int)
li:FR x y 1 1 (2^(n+k))
no:∀j,j<k->¬FR x y 1 1 (2^(n+j))
rep:Rep G s (n+k+1) w (x+2^(n+k)).toNat (y+2^(n+k)).toNat i
tr:FJ G (n+k+1) i r
theorem Wm{x y:Int}{m:Nat}(h:FR x y 1 1 (2^m)):(x+2^m).toNat<2^(m+1)/\(y+2^m).toNat<2^(m+1)/\0<=x+2^m/\0<=y+2^m:=by
 obtain⟨b,c,d,f⟩:=h;have e:=Fq (m+1);rw[Cm]at e;have p:=OE m;refine⟨?_,?_,by lia,by lia⟩<;>lia
inductive WE(a:Ad)(vs:List V)(H:Hp)(Q:VK):Prop
|mk (g:GA) (G:Gv) (f n:Nat) (x y:Int) (s:Nat) (_:vs=[.ref g.p,.int f,.int x,.int y,.int s]) (_:AX a H g G) (_:An G f ((n+1:Nat):Int)) (_:n<=40) (_:FR x y 1 1 (2^40)) (_:s<8) (_:G.length<8000000) (_:∀(r k w i:Nat)(G':Gv)(H':Hp),Fr g H H'->AX a H' g G'->AI G G' 400->LK G' n f x y s r k w i->Q (.int r) H'):WE a vs H Q
def Rm(a:Ad):Sp:=λvs H Q _=>WE a vs H Q
theorem ZJ(F:Fun K "planted" "planted" Nt f fd)(T:Top K mg a)(aD:Cal P w K mg base CX0 1 "lies_within" Qo QD)(bG:Cal P w K mg base CX0 2 "is_state" UZ spIS)(aE:Cal P w K mg base CX0 4 "reach_of" UX (IH a))(aT:Cal P w K mg base CX0 5 "widened_over" Ev (spWO a))
 (bM:Cal P w K mg base CX0 54 "replaced" Gm (VP a 50)) (aS:Cal P w K mg base CX0 4 "trimmed" Lu (Ni a)):AL P w K mg base CX0 55 f fd NF (Rm a):=by
 refine F.ok IJ D_9 λaa A M s H vs Q E j h=>?_
 obtain⟨g,G,f',n,x,y,Y,rfl,fu,hl,L,V,X,few,k⟩:=h;refine⟨_,(Ac (Ao (i:=5) IJ.nd Z O_9 (CD (Aa (pv 2) (Aa (pv 3) (AN (AN Ae)))))) (Ac (AQ (CS (Cu (As aD (rm j) Z Aq (Aa (pv 5) (Aa (Cj Z T.k_LIMIT) Ae))))) (Ai Bl) AC) (Ac (AQ (CS (Cu (As bG (rm j) Z Aq (Aa (pv 4) Ae)))) (Ai Bl) AC) (Ac (Ao (i:=6) IJ.nd Z O_9 (As aT (rm j) Z Aq (Aa (pv 0) (Aa (pv 1) (Aa (pv 5) Ae))))) (Ac (Ao (i:=7) IJ.nd Z O_9 (As aE (rm j) Z Aq (Aa (pv 0) (Aa (pv 6) Ae)))) (Ai (Av (As aS (rm j) Z Aq (Aa (pv 0) (Aa (As bM (rm j) Z Aq (Aa (pv 0) (Aa (pv 6) (AV AO (pv 2) (pv 7) (AV AO (pv 3) (pv 7) (Aa (pv 4) Ae)))))) Ae)))))))))),?_⟩
 try dsimp only[cxK]
 refine xw2 Z Z ⟨S_4,λt ht=>?_⟩;have N:=AG (o:=.tup [.int x,.int y,.int 1,.int 1]) ht;have e:upd H t (.tup [.int x,.int y,.int 1,.int 1]) t=some (.tup [.int x,.int y,.int 1,.int 1]):=Af;generalize upd H t (.tup [.int x,.int y,.int 1,.int 1])=H1 at N e⊢;have v:=fu.same N;refine xq1 Z ⟨t,x,y,1,1,_,Z,e,_,Z,?_⟩;rw[K0 (show FR x y 1 1 1099511627776 from V)];refine AY (xq1 Z ⟨(Y:Int),Z,by lia,by lia,true,Z,AY ?_⟩);refine xw3 Z Z Z ⟨g,G,f',n,t,x,y,1,1,Z,v,hl,L,e,V,by lia,λkk O R H2 q c m le wn I U no=>?_⟩;have ab:=m.few;refine xw2 Z Z ⟨g,R,O,n+kk,Z,c.at',I,by lia,?_⟩;obtain⟨b1,b2,b3,b4⟩:=Wm U;refine xw3 Z Z Z (xw2 Z Z (xq2 Z Z (xw2 Z Z (xq2 Z Z (xq1 Z ?_)))));refine⟨g,R,O,n+kk+1,(x+2^(n+kk)).toNat,(y+2^(n+kk)).toNat,Y,by rw[O4 b3,O4 b4];rfl,c.at',c.ok,I,by lia,b1,b2,X,by lia,λS G2 H3 l C d W=>?_⟩;have ac:=d.few;have z:=c.fr l C d;have D:=W.lev d.ok X;refine⟨g,G2,S,n+kk,Z,z,D,by lia,λr G3 H4 u B p tr=>?_⟩;have b:=d.trans p;exact k r kk O S G3 H4 ((AA.fr N).trans (q.trans (l.trans u))) B ((m.trans b).mono A0) ⟨le,wn.app b,b.lev I,U,no,W.app p,tr⟩
end
structure Cl where
x:Int
y:Int
s:Nat
def SG(H:Hp)(t:R_)(c:Cl):Prop:=H t=some (.tup [.int c.x,.int c.y,.int c.s])
structure ClOk(c:Cl):Prop where
li:FR c.x c.y 1 1 (2^40)
s:c.s<8
theorem LK.app{G a:Gv}{m n f:Nat}{x y:Int}{s r k w i:Nat}(go:AI G a m)(h:LK G n f x y s r k w i):LK a n f x y s r k w i:=⟨h.le,h.wid.app go,go.lev h.lw,h.li,h.no,h.rep.app go,h.tr.app go⟩
inductive SE(G:Gv):List Cl->Nat->Nat->Prop
|nil:SE G [] 0 (bareN 1)
|cons {cs:List Cl} {c:Cl} {n f r k w i m:Nat} (h:SE G cs n f) (l:An G f ((n+1:Nat):Int)) (p:LK G n f c.x c.y c.s r k w i) (l':An G r ((m+1:Nat):Int)):SE G (c::cs) m r
theorem SE.app{G a:Gv}{m:Nat}(go:AI G a m){cs:List Cl}{n f:Nat}(h:SE G cs n f):SE a cs n f:=by
 induction h with
 |nil=>exact .nil
 |cons _ l p c b=>exact .cons b (go.lev l) (p.app go) (go.lev c)
section
variable{P:N_}{w:Q_}{K:O_}{mg:C_}{base:T_}{a:Ad}
inductive SpFld(a:Ad)(vs:List V)(H:Hp)(Q:VK):Prop
|mk (g:GA) (G:Gv) (L:R_) (ts:H_) (cs:List Cl) (_:vs=[.ref g.p,.ref L]) (_:AX a H g G) (_:H L=some (.lst (ts.map V.ref))) (_:L≠g.lv) (_:L≠g.pt) (_:Paired (SG H) ts cs) (_:(∀c∈cs,ClOk c)) (_:G.length+400*cs.length<8000000) (_:∀(f n:Nat)(G':Gv)(H':Hp),Fr g H H'->AX a H' g G'->AI G G' (400*cs.length)->n<=40->An G' f ((n+1:Nat):Int)->SE G' cs.reverse n f->Q (.int f) H'):SpFld a vs H Q
def Zk(a:Ad):Sp:=λvs H Q _=>SpFld a vs H Q
theorem ok_fld(F:Fun K "field_of" "field_of" Mf f fd)(T:Top K mg a)(aZ:Cal P w K mg base CX0 1 "bare_field" RN (OA a))(cU:Cal P w K mg base CX0 55 "planted" NF (Rm a)):AL P w K mg base CX0 56 f fd Mm (Zk a):=by
 refine F.ok GI D_9 λaa A W s H vs Q E hr h=>?_
 obtain⟨g,G,L,ts,cs,rfl,z,O,n1,n2,pr,U,few,k⟩:=h;obtain⟨r0,e0⟩:=z.g0;have S:=A0e pr;refine⟨_,(Ac (Ao (i:=2) GI.nd Z O_9 (As aZ (rm hr) Z Aq (Aa (pv 0) Ae))) (Ac (Cv A0b Z (Ci (pv 1)) (Bn (i:=3) GI.nd Z O_9) (Ai (Ao (i:=2) GI.nd Z O_9 (As cU (rm hr) Z Aq (Aa (pv 0) (Aa (pv 2) (Aa (Aj Ak (pv 3) Ab R_9) (Aa (Aj Ak (pv 3) Ab R_9) (Aa (Aj Ak (pv 3) Ab R_9) Ae))))))))) (Ai (Av (pv 2))))),?_⟩
 try dsimp only[cxK]
 refine xq1 Z ⟨g,G,Z,z,?_⟩;refine xq1 Z ⟨L,Z,⟨_,SqL.of O⟩,?_⟩;refine MX (xs:=ts.map V.ref) (λj σ u=>∃(b:Gv)(f n:Nat)(X:Option V),σ=[some (.ref g.p),some (.ref L),some (.int f),X]/\Fr g H u/\AX a u g b/\AI G b (400*j)/\n<=40/\An b f ((n+1:Nat):Int)/\SE b (cs.take j).reverse n f) ⟨G,bareN 1,0,none,Z,Fr.refl g H,z,AI.refl z.ok,by lia,EE e0 A0,.nil⟩ (λj σ u _ ⟨_,_,_,_,_,fr,_⟩=>SqL.of (fr _ _ O n1 n2 (AH O z.at'.nm A4))) ?_ ?_
 .rintro j v σ u Y ⟨b,M,n,X,rfl,fr,e,go,q,D,B⟩;rw[C0]at Y;obtain⟨t,et,rfl⟩:=D7.mp Y;obtain⟨c,I,hc⟩:=PairedM.getL pr et;have d:=U c (D6 I);have hj:j<cs.length:=(B9.mp I).1;have o:=fr.tup z.at' hc;have gf:=go.few;refine xw3 Z Z Z (xq4 Z Z (SqT.of o) (Ah (j:=0) Z) (xwi Z Z Z (SqT.of o) (Ah (j:=1) Z) (xwi Z Z Z (SqT.of o) (Ah (j:=2) Z) ?_)));refine⟨g,b,M,n,c.x,c.y,c.s,Z,e,D,q,d.li,d.s,by lia,λr kk w' i' G2 H3 N C l pl=>?_⟩;have R:=pl.rep.lev C.ok d.s;obtain⟨m,lm,lr⟩:=FJ.lev R pl.tr;have le:=pl.le;refine⟨G2,r,m,(xq1 Z ⟨fr.trans N,C,(go.trans l).mono A0,by lia,lr,?_⟩)⟩;rw[F9,I,R6,List.reverse_append];exact .cons (B.app l) (l.lev D) pl lr
 .rintro σ u ⟨b,M,n,X,rfl,fr,e,go,q,D,B⟩;rw[B8,S]at go B;rw[J8]at B;exact xq1 Z (k M n b u fr e go q D B)
end
def JC(G:Gv)(n f:Nat):Prop:=n=0\/∃m qs ps,n=m+1/\Ox G m f qs ps/\¬BA m ps
theorem JC.app{G a:Gv}{k n f:Nat}(go:AI G a k)(h:JC G n f):JC a n f:=by
 rcases h with h|⟨m,c,ps,e,d,b⟩
 .exact .inl h
 .exact .inr ⟨m,c,ps,e,d.app go,b⟩
end J
namespace J
open PySem L2
def CL(G:Gv):Nat->Nat->Nat->Nat->Nat
|0,i,_,_=>i
|n+1,i,x,y=>match G[i]? with
 |some q=>CL G n (q.parts.getD (quad n x y) 0).toNat (x%2^n) (y%2^n)
 |none=>0
theorem AK(n:Nat):0<2^n:=V6 A3
theorem BG{G:Gv}{n i:Nat}{q:Sq}{a b c d:Nat}(h:Iv G n i q a b c d){x y:Nat}(e:x<2^(n+1))(f:y<2^(n+1)):CL G (n+1) i x y=CL G n (f4 a b c d (quad n x y)) (x%2^n) (y%2^n):=by
 rw[show CL G (n+1) i x y=(match G[i]? with|some q=>CL G n (q.parts.getD (quad n x y) 0).toNat (x%2^n) (y%2^n)|none=>0)from rfl,h.g];show CL G n (q.parts.getD (quad n x y) 0).toNat _ _=_;have:=(h.nat (BS e f)).1;rw[F0,this];rfl
theorem Lm{G f:Gv}{k:Nat}(ok:GOk G)(go:AI G f k):∀{n i x y:Nat},An G i (n:Int)->x<2^n->y<2^n->CL f n i x y=CL G n i x y
|0,_,_,_,_,_,_=>rfl
|n+1,i,x,y,h,hx,hy=>by
 obtain⟨q,a,b,c,d,e⟩:=BD ok h;rw[BG e hx hy,BG (e.app go) hx hy];exact Lm ok go (e.nat (BS hx hy)).2 (F6 _ (AK n)) (F6 _ (AK n))
theorem DB{G r:Gv}(e:G=G0++r)(ok:GOk G):∀{n x y:Nat},n<=48->x<2^n->y<2^n->CL G n (bareN n) x y=0
|0,_,_,_,_,_=>rfl
|n+1,x,y,hn,hx,hy=>by
 obtain⟨q,a,b,c,d,f⟩:=BD ok (EE e (n:=n+1) hn);have h:a=bareN n/\b=bareN n/\c=bareN n/\d=bareN n:=by
  have g:=f.g;rw[show bareN (n+1)=8+n from rfl,g0_pre e n A0]at g;cases g;have s:[(bareN n:Int),(bareN n:Int),(bareN n:Int),(bareN n:Int)]=[(a:Int),(b:Int),(c:Int),(d:Int)]:=f.ps;injection s with s0 s
  injection s with s1 s
  injection s with s2 s
  injection s with s3 s
  exact⟨(K5 s0).symm,(K5 s1).symm,(K5 s2).symm,(K5 s3).symm⟩
 obtain⟨rfl,rfl,rfl,rfl⟩:=h;rw[BG f hx hy];have:f4 (bareN n) (bareN n) (bareN n) (bareN n) (quad n x y)=bareN n:=by unfold f4;split<;>rfl
 rw[this];exact DB e ok A0 (F6 _ (AK n)) (F6 _ (AK n))
theorem EW{n k x y:Nat}(c:k<4)(a:x<2^n)(b:y<2^n):(x+2^n*(k%2))<2^(n+1)/\(y+2^n*(k/2))<2^(n+1)/\quad n (x+2^n*(k%2)) (y+2^n*(k/2))=k/\(x+2^n*(k%2))%2^n=x/\(y+2^n*(k/2))%2^n=y:=by
 have p:=AK n;have e:2^(n+1)=2*2^n:=by rw[J0];lia
 unfold quad;rw[P0 _ _ p,P0 _ _ p,Q5,Q5,M6 a,M6 b,N6 a,N6 b,e];generalize 2^n=h at *
 match k,c with
 |0,_=>exact⟨by lia,by lia,Z,Z,Z⟩
 |1,_=>exact⟨by lia,by lia,Z,Z,Z⟩
 |2,_=>exact⟨by lia,by lia,Z,Z,Z⟩
 |3,_=>exact⟨by lia,by lia,Z,Z,Z⟩
theorem LG{G:Gv}(ok:GOk G):∀{n i j:Nat},An G i (n:Int)->An G j (n:Int)->(∀x y,x<2^n->y<2^n->CL G n i x y=CL G n j x y)->i=j
|0,i,j,_,_,h=>h 0 0 A3 A3
|n+1,i,j,hi,hj,h=>by
 obtain⟨q,a,b,c,d,l⟩:=BD ok hi;obtain⟨E,r,b',s,d',f⟩:=BD ok hj;have e:∀k,k<4->f4 a b c d k=f4 r b' s d' k:=λk p=>by
  refine LG ok (l.nat p).2 (f.nat p).2 λx y w z=>?_;obtain⟨m,o,t,u,v⟩:=EW p w z;have:=h _ _ m o;rw[BG l m o,BG f m o,t,u,v]at this;exact this
 have A:a=r:=e 0 A3;have B:b=b':=e 1 A3;have C:c=s:=e 2 A3;have D:d=d':=e 3 A3;subst A B C D;exact ok.one l.g f.g (l.ps.trans f.ps.symm)
theorem Tb{n x X:Nat}(a:x/2^n=X/2^n)(b:x%2^n=X%2^n):x=X:=by
 rw[<-M8 x (2^n),<-M8 X (2^n),a,b]
theorem To{G:Gv}(ok:GOk G){s:Nat}(p:s<8):∀{n i X Y r x y:Nat},X<2^n->Y<2^n->x<2^n->y<2^n->Rep G s n i X Y r->CL G n r x y=if x=X/\y=Y then s else CL G n i x y
|0,i,X,Y,r,x,y,hX,hY,hx,hy,h=>by
 have h:r=s:=h;have u:X=0:=Y9.mp hX;have v:Y=0:=Y9.mp hY;have w:x=0:=Y9.mp hx;have E:y=0:=Y9.mp hy;subst u v w E h;rfl
|n+1,i,X,Y,r,x,y,hX,hY,hx,hy,h=>by
 obtain⟨q,a,b,c,d,j,t,o,e⟩:=h;have K:=o.lev ok p;have lst:∀l,l<4->An G (st4 a b c d (quad n X Y) j l) (n:Int):=λl I=>by
  unfold st4;split
  .exact K
  .exact(t.nat I).2
 have L:Iv G n r _ (st4 a b c d (quad n X Y) j 0) (st4 a b c d (quad n X Y) j 1) (st4 a b c d (quad n X Y) j 2) (st4 a b c d (quad n X Y) j 3):=⟨e,Z,Z,lst 0 A3,lst 1 A3,lst 2 A3,lst 3 A3⟩
 have M:=BS hx hy;rw[BG L hx hy,BG t hx hy,Lk (st4 a b c d (quad n X Y) j) M];have m:=AK n;have P:=BU hx;have Q:=BU hy;have N:=BU hX;have O:=BU hY;unfold st4;by_cases g:quad n x y=quad n X Y
 .rw[K2 g,To ok p (F6 _ m) (F6 _ m) (F6 _ m) (F6 _ m) o,g];have k:x/2^n=X/2^n/\y/2^n=Y/2^n:=by
   unfold quad at g;generalize x/2^n=A at *
   generalize X/2^n=B at *
   generalize y/2^n=C at *
   generalize Y/2^n=D at *
   lia
  obtain⟨F,H⟩:=k;by_cases f:x=X/\y=Y
  .rw[K2 f,K2 ⟨by rw[f.1],by rw[f.2]⟩]
  .rw[X9 f,X9 λz=>f ⟨Tb F z.1,Tb H z.2⟩]
 .rw[X9 g,X9 λz=>g (by rw[z.1,z.2])]
def fieldF(G:Gv)(n f:Nat)(x y:Int):Nat:=if -(2^n)<=x/\x<2^n/\-(2^n)<=y/\y<2^n then CL G (n+1) f (x+2^n).toNat (y+2^n).toNat else 0
theorem FF{n:Nat}{x:Int}(a:-(2^n)<=x)(b:x<2^n):(x+2^n).toNat<2^(n+1):=by
 have e:=Fq (n+1);rw[Cm]at e;lia
theorem Ec{G a:Gv}{k n f:Nat}(ok:GOk G)(go:AI G a k)(h:An G f ((n+1:Nat):Int))(x y:Int):fieldF a n f x y=fieldF G n f x y:=by
 unfold fieldF;split
 .rename_i z;exact Lm ok go h (FF z.1 z.2.1) (FF z.2.2.1 z.2.2.2)
 .rfl
theorem RX{h X:Nat}(u:Nat)(a:h*u<=X)(b:X<h*(u+1)):X/h=u/\X%h=X-h*u:=by
 have e:X/h=u:=Nat.div_eq_of_lt_le (by rw[O8];exact a) (by rw[O8];exact b);exact⟨e,by have:=M8 X h;rw[e]at this;lia⟩
theorem EA(x n:Nat):x%2^(n+1)%2^n=x%2^n:=Nat.mod_mod_of_dvd x ⟨2,by rw[J0]⟩
theorem NU{G:Gv}{n i:Nat}{f:L_}{ps:Nat->Nat->Nat}(h:Ox G n i f ps){x y:Nat}(c:x<2^(n+2))(d:y<2^(n+2)):CL G (n+2) i x y=CL G n (ps (quad (n+1) x y) (quad n (x%2^(n+1)) (y%2^(n+1)))) (x%2^n) (y%2^n):=by
 obtain⟨q,g⟩:=h.node;have e:=BS (l:=n+1) c d;have a:x%2^(n+1)<2^(n+1):=F6 _ (AK _);have b:y%2^(n+1)<2^(n+1):=F6 _ (AK _);obtain⟨j,nk⟩:=h.sub _ e;rw[BG g c d,Lk f e,BG nk a b,Lk (ps _) (BS a b),EA,EA]
theorem bits{h u:Nat}(e:u<2*h):(u+h)/(2*h)=u/h/\(u+h)%(2*h)/h=1-u/h/\(u+h)%h=u%h/\u/h<2:=by
 have p:0<h:=by lia
 rcases Nat.lt_or_ge u h with z|z
 .have a:u/h=0:=M6 z;have b:(u+h)/(2*h)=0:=M6 A0;have c:(u+h)%(2*h)=u+h:=N6 A0;have d:(u+h)/h=1:=(RX (X:=u+h) 1 A0 A0).1;exact⟨by rw[a,b],by rw[c,d,a],Nat.add_mod_right u h,by lia⟩
 .have a:u/h=1:=(RX 1 A0 A0).1;have b:=RX (h:=2*h) (X:=u+h) 1 A0 A0;have c:(u+h-2*h*1)/h=0:=M6 A0;exact⟨by rw[a,b.1],by rw[b.2,c,a],Nat.add_mod_right u h,by lia⟩
theorem LQ(n:Nat):2^(n+1)=2*2^n:=by rw[J0];lia
theorem mid_cell{G:Gv}(ok:GOk G){n i m:Nat}{F:L_}{ps:Nat->Nat->Nat}(h:Ox G n i F ps)(D:G[m]?=some ⟨[(ps 0 3:Int),(ps 1 2:Int),(ps 2 1:Int),(ps 3 0:Int)],(n:Int)+1⟩){u v:Nat}(c:u<2^(n+1))(e:v<2^(n+1)):CL G (n+2) i (u+2^n) (v+2^n)=CL G (n+1) m u v:=by
 have b:∀k j,k<4->j<4->An G (ps k j) (n:Int):=λk j E l=>by
  obtain⟨q,nk⟩:=h.sub k E;have:=(nk.nat l).2;rw[Lk (ps k) l]at this;exact this
 have nm:Iv G n m _ (ps 0 3) (ps 1 2) (ps 2 1) (ps 3 0):=⟨D,Z,Z,b 0 3 A3 A3,b 1 2 A3 A3,b 2 1 A3 A3,b 3 0 A3 A3⟩
 have g:=LQ n;have H:2^(n+2)=2*2^(n+1):=LQ (n+1);have p:=AK n;rw[NU h A0 A0,BG nm c e];unfold quad;rw[g];rw[g]at c e;apply AR;intro r a;obtain⟨s,t,w,x⟩:=bits c;obtain⟨y,b2,B,C⟩:=bits e;apply a;clear a r;rw[s,t,w,y,b2,B];have two:∀{A:Nat},A<2->A=0\/A=1:=λ{A} h=>by lia
 have d:=two x;have f:=two C;rcases d with z|z<;>rcases f with o|o<;>rw[z,o]<;>rfl
theorem mid_iff'{m X Y:Nat}{x y:Int}(i:(X:Int)=x+2^(m+1))(j:(Y:Int)=y+2^(m+1))(n:X<2^(m+2))(o:Y<2^(m+2)):quad m (X%2^(m+1)) (Y%2^(m+1))+quad (m+1) X Y=3↔(-(2^m)<=x/\x<2^m/\-(2^m)<=y/\y<2^m):=by
 have p:=AK m;have c:=LQ m;have F:2^(m+2)=2*2^(m+1):=LQ (m+1);have c1:=Fq m;have c2:=Fq (m+1);rw[c]at c2;unfold quad;rw[c];rw[F,c]at n o;rw[<-c2]at i j;rw[<-c1];generalize 2^m=h at *
 have a:∀{X:Nat}{x:Int},(X:Int)=x+((2*h:Nat):Int)->X<2*(2*h)->(X%(2*h)/h+X/(2*h)=1 ↔ -(h:Int)<=x/\x<(h:Int))/\X%(2*h)/h<2/\X/(2*h)<2:=by
  intro X x e l;have k:0<2*h:=by lia
  have K:X/(2*h)<2:=by rw[Y5 k];exact l
  have L:X%(2*h)<2*h:=F6 _ k;have I:X%(2*h)/h<2:=by rw[Y5 p];exact L
  have E:=M8 X (2*h);have w:=M8 (X%(2*h)) h;have Q:=F6 (X%(2*h)) p;refine⟨?_,I,K⟩;generalize X/(2*h)=u at *
  generalize X%(2*h)/h=v at *
  generalize X%(2*h)%h=t at *
  generalize X%(2*h)=R at *
  have G:u=0\/u=1:=by lia
  have H:v=0\/v=1:=by lia
  rcases G with rfl|rfl<;>rcases H with rfl|rfl<;>simp only[Nat.mul_zero,Nat.mul_one,N3]at w E<;>lia
 obtain⟨q,S,T⟩:=a i n;obtain⟨r,U,V⟩:=a j o;clear a;generalize X%(2*h)/h=A at *
 generalize X/(2*h)=B at *
 generalize Y%(2*h)/h=C at *
 generalize Y/(2*h)=D at *
 constructor
 .intro z;have f:=q.mp A0;have g:=r.mp A0;exact⟨f.1,f.2,g.1,g.2⟩
 .rintro d;apply AR;intro s b;obtain⟨M,N,O,P⟩:=d;apply b;clear b s;have f:=q.mpr ⟨M,N⟩;have g:=r.mpr ⟨O,P⟩;lia
theorem QI{G r:Gv}(s:G=G0++r)(ok:GOk G){n i m:Nat}(H:n<=46){B:L_}{ps:Nat->Nat->Nat}(h:Ox G n i B ps)(o:BA n ps)(t:G[m]?=some ⟨[(ps 0 3:Int),(ps 1 2:Int),(ps 2 1:Int),(ps 3 0:Int)],(n:Int)+1⟩)(x y:Int):fieldF G (n+1) i x y=fieldF G n m x y:=by
 have I:=Cm n;have p:=OE n;unfold fieldF;by_cases b:-(2^n)<=x/\x<2^n/\-(2^n)<=y/\y<2^n
 .apply AR;intro d a;obtain⟨g,j,k,l⟩:=b;apply a;clear a d;rw[K2 ⟨by lia,by lia,by lia,by lia⟩,K2 ⟨g,j,k,l⟩];have w:=FF g j;have A:=FF k l;have c:=Fq n;have u:(x+2^(n+1)).toNat=(x+2^n).toNat+2^n:=by lia
  have v:(y+2^(n+1)).toNat=(y+2^n).toNat+2^n:=by lia
  rw[u,v];exact mid_cell ok h t w A
 .rw[X9 b];split
  .rename_i z;apply AR;intro d a;obtain⟨C,D,E,F⟩:=z;apply a;clear a d;have e:=FF C D;have f:=FF E F;rw[NU h e f];have ne:¬quad n ((x+2^(n+1)).toNat%2^(n+1)) ((y+2^(n+1)).toNat%2^(n+1))+quad (n+1) (x+2^(n+1)).toNat (y+2^(n+1)).toNat=3:=λq=>b ((mid_iff' (O4 A0) (O4 A0) e f).mp q);rw[o _ _ (BS e f) (BS (F6 _ (AK _)) (F6 _ (AK _))) ne];exact DB s ok A0 (F6 _ (AK _)) (F6 _ (AK _))
  .rfl
theorem FX{G p:Gv}(b:G=G0++p)(ok:GOk G):∀{n f r:Nat},n<=47->An G f ((n+1:Nat):Int)->FJ G (n+1) f r->∃m,m<=n/\An G r ((m+1:Nat):Int)/\JC G m r/\∀x y,fieldF G m r x y=fieldF G n f x y
|0,f,r,_,hl,h=>by
 have h:r=f:=h;subst h;exact⟨0,C1 _,hl,.inl Z,λ_ _=>Z⟩
|n+1,f,r,hn,hl,h=>by
 apply AR;intro e a;obtain⟨o,ps,d,h⟩:=h;apply a;clear a e;rcases h with ⟨l,rfl⟩|⟨g,m,c,h⟩
 .exact⟨n+1,C1 _,hl,.inr ⟨n,o,ps,Z,d,l⟩,λ_ _=>Z⟩
 .obtain⟨k,q,j,tk,i⟩:=FX b ok A0 ⟨_,c,by show(n:Int)+1=_;lia⟩ h;refine⟨k,by lia,j,tk,λx y=>?_⟩;rw[i x y,QI b ok A0 d g c x y]
theorem WO{G r:Gv}(t:G=G0++r)(ok:GOk G){n f w:Nat}(F:n<=46)(h:Wid G n f w)(x y:Int):fieldF G (n+1) w x y=fieldF G n f x y:=by
 apply AR;intro B o;obtain⟨q,a,b,c,d,H,I,K,L,m,u,v,z,A,D⟩:=h.ex;apply o;clear o B;have i:=EE t (n:=n) A0;have s:∀{p:Nat}{l:I_},G[p]?=some ⟨l,(n:Int)+1⟩->An G p ((n+1:Nat):Int):=λ{p l} e=>⟨_,e,by show(n:Int)+1=_;lia⟩
 have C:Ox G n w (f4 H I K L) (λk j=>if j+k=3 then f4 a b c d k else bareN n):=by
  refine⟨⟨_,D,Z,by show(n:Int)+2=_;lia,s u,s v,s z,s A⟩,λk E=>?_⟩
  match k,E with
  |0,_=>exact⟨_,u,Z,Z,i,i,i,m.hx⟩
  |1,_=>exact⟨_,v,Z,Z,i,i,m.hy,i⟩
  |2,_=>exact⟨_,z,Z,Z,i,m.hz,i,i⟩
  |3,_=>exact⟨_,A,Z,Z,m.hw,i,i,i⟩
 have g:=m.g;have l:=m.lev;have ps:=m.ps;refine QI t ok F C (λk j _ _ ne=>X9 ne) ?_ x y;rw[g];cases q with
 |mk N M=>cases ps;cases l;rfl
theorem IG{G r:Gv}(a:G=G0++r)(ok:GOk G){n f:Nat}:∀{k w:Nat},n+k<=46->NW G n f k w->∀x y,fieldF G (n+k) w x y=fieldF G n f x y
|0,w,_,h,x,y=>by
 have h:w=f:=h;subst h;rfl
|k+1,w,hk,h,x,y=>by
 obtain⟨u,b,c⟩:=h;rw[show n+(k+1)=n+k+1 by lia,WO a ok A0 c x y];exact IG a ok A0 b x y
theorem Tv{G p:Gv}(e:G=G0++p)(ok:GOk G){n f s r k w i:Nat}{X Y:Int}(g:s<8)(h:LK G n f X Y s r k w i):∃m,m<=40/\An G r ((m+1:Nat):Int)/\JC G m r/\∀x y,fieldF G m r x y=if x=X/\y=Y then s else fieldF G n f x y:=by
 have le:=h.le;have d:=h.rep.lev ok g;obtain⟨m,E,o,t,l⟩:=FX e ok A0 d h.tr;refine⟨m,by lia,o,t,λx y=>?_⟩;rw[l x y,<-IG e ok A0 h.wid x y];apply AR;intro c a;obtain⟨j,b2,C,D⟩:=Wm h.li;obtain⟨F,H,I,K⟩:=h.li;apply a;clear a c;unfold fieldF;split
 .rename_i z;apply AR;intro c a;obtain⟨u,v,A,B⟩:=z;apply a;clear a c;rw[To ok g j b2 (FF u v) (FF A B) h.rep];by_cases b:x=X/\y=Y
  .rw[K2 b,K2 ⟨by rw[b.1],by rw[b.2]⟩]
  .rw[X9 b,X9 λq=>b ⟨by lia,by lia⟩]
 .rename_i z;rw[X9 λq=>z ⟨by lia,by lia,by lia,by lia⟩]
theorem TU{G r:Gv}(a:G=G0++r)(ok:GOk G){n i:Nat}(b:n<=48)(h:An G i (n:Int))(ne:i≠bareN n):∃x y,x<2^n/\y<2^n/\CL G n i x y≠0:=by
 refine K4 λz=>ne (LG ok h (EE a b) λx y c d=>?_);rw[DB a ok b c d];exact K4 λq=>z ⟨x,y,c,d,q⟩
theorem SO{G r:Gv}(H:G=G0++r)(ok:GOk G){m f:Nat}(R:m<=46)(h:JC G (m+1) f):∃x y:Int,¬(-(2^m)<=x/\x<2^m/\-(2^m)<=y/\y<2^m)/\fieldF G (m+1) f x y≠0:=by
 rcases h with h|⟨a,T,ps,e,w,N⟩
 .lia
 .have:a=m:=by lia
  subst this;have:∃k j,k<4/\j<4/\j+k≠3/\ps k j≠bareN a:=by
   refine K4 λz=>N λk j g d ne=>K4 λq=>z ⟨k,j,g,d,ne,q⟩
  apply AR;intro i b;obtain⟨k,j,g,d,ne,c⟩:=this;obtain⟨S,nk⟩:=w.sub k g;apply b;clear b i;have M:An G (ps k j) (a:Int):=by
   have:=(nk.nat d).2;rw[Lk (ps k) d]at this;exact this
  obtain⟨u,v,K,L,I⟩:=TU H ok A0 M c;apply AR;intro i b;obtain⟨A,B,p,C,D⟩:=EW d K L;obtain⟨s,b2,t,l,o⟩:=EW (n:=a+1) g A B;apply b;clear b i;generalize P:u+2^a*(j%2)+2^(a+1)*(k%2)=X at *
  generalize Q:v+2^a*(j/2)+2^(a+1)*(k/2)=Y at *
  have c1:=Fq (a+1);have c2:=Fq (a+2);have O:=Cm (a+1);rw[O]at c2;refine⟨(X:Int)-2^(a+1),(Y:Int)-2^(a+1),λz=>ne ?_,?_⟩
  .have:=(mid_iff' (X:=X) (Y:=Y) A0 A0 s b2).mpr z;rw[t,l,o,p]at this;exact this
  .unfold fieldF;rw[K2 ⟨by lia,by lia,by lia,by lia⟩,show((X:Int)-2^(a+1)+2^(a+1)).toNat=X by lia,show((Y:Int)-2^(a+1)+2^(a+1)).toNat=Y by lia,NU w s b2,t,l,o,p];have E:X%2^a=u:=by rw[<-EA,l,C]
   have F:Y%2^a=v:=by rw[<-EA,o,D]
   rw[E,F];exact I
theorem PV{G r:Gv}(i:G=G0++r)(ok:GOk G){n m f a:Nat}(j:n<=47)(g:m<=47)(l:An G f ((n+1:Nat):Int))(c:An G a ((m+1:Nat):Int))(t:JC G n f)(t':JC G m a)(h:∀x y,fieldF G n f x y=fieldF G m a x y):n=m/\f=a:=by
 have le:∀{n m f a:Nat},m<=47->JC G m a->(∀x y,fieldF G n f x y=fieldF G m a x y)->m<=n:=by
  intro n m f a g t' h;refine P8 λz=>?_;obtain⟨k,rfl⟩:∃k,m=k+1:=⟨m-1,by lia⟩
  obtain⟨x,y,d,b⟩:=SO i ok A0 t';rw[<-h x y]at b;unfold fieldF at b;split at b
  .rename_i q;have:(2:Int)^n<=2^k:=by
    have:=N7 (show 0<2 by decide) (show n<=k by lia)
    exact_mod_cast this
   exact d ⟨by lia,by lia,by lia,by lia⟩
  .exact b Z
 have p:=le g t' h;have s:=le j t λx y=>(h x y).symm;have e:n=m:=by lia
 subst e;refine⟨Z,LG ok l c λx y u v=>?_⟩;have c1:=Fq n;have c2:=Fq (n+1);have o:=Cm n;rw[o]at c2;have:=h ((x:Int)-2^n) ((y:Int)-2^n);unfold fieldF at this;rw[K2 ⟨by lia,by lia,by lia,by lia⟩,K2 ⟨by lia,by lia,by lia,by lia⟩,show((x:Int)-2^n+2^n).toNat=x by lia,show((y:Int)-2^n+2^n).toNat=y by lia]at this;exact this
def Fix:HO->Prop
|.tup _=>True
|.ins _ _ _=>True
|_=>False
def Fx(l:H_)(H H':Hp):Prop:=∀b o,H b=some o->(b∈l->Fix o)->H' b=some o
theorem Fx.refl(l:H_)(H:Hp):Fx l H H:=λ_ _ e _=>e
theorem Fx.trans{l:H_}{a c d:Hp}(h:Fx l a c)(f:Fx l c d):Fx l a d:=λb o e n=>f b o (h b o e n) n
theorem AA.fx{l:H_}{a c:Hp}(h:AA a c):Fx l a c:=λb o e _=>h b o e
theorem Fx.mono{l m:H_}{a c:Hp}(h:Fx l a c)(s:∀x∈l,x∈m):Fx m a c:=λb o e n=>h b o e λz=>n (s b z)
theorem Fx.get{l:H_}{a c:Hp}(h:Fx l a c){b:R_}{o:HO}(n:b∉l)(e:a b=some o):c b=some o:=h b o e λz=>absurd z n
theorem Fx.tup{l:H_}{a c:Hp}(h:Fx l a c){b:R_}{xs:List V}(e:a b=some (.tup xs)):c b=some (.tup xs):=h b _ e λ_=>True.intro
theorem fx_up{H:Hp}{x:R_}{o o':HO}(e:H x=some o)(n:¬Fix o):Fx [x] H (upd H x o'):=λb u a f=>by
 by_cases z:b=x
 .subst z;rw[e]at a;cases a;exact absurd (f (D4.mpr Z)) n
 .rw[Aw z];exact a
theorem Fr.fx{a:Ad}{g:GA}{G:Gv}{H c:Hp}(h:Fr g H c)(at':AM a H g G):Fx [g.lv,g.pt,g.nm] H c:=λb o e f=>by
 obtain⟨i,d,_⟩:=at'.pt;refine h b o e (λz=>?_) (λz=>?_) (λz=>?_)
 .subst z;rw[at'.lv]at e;cases e;exact f A6
 .subst z;rw[d]at e;cases e;exact f A6
 .subst z;rw[at'.nm]at e;cases e;exact f A6
theorem FrQ.fx{a:Ad}{g:GA}{G:Gv}{H c:Hp}(h:FrQ g H c)(d:AX a H g G):Fx [g.am,g.bx] H c:=λb o e f=>by
 obtain⟨ks,i,_⟩:=d.am;obtain⟨k,j,_⟩:=d.bx;refine h b o e (λz=>?_) (λz=>?_)
 .subst z;rw[i]at e;cases e;exact f A6
 .subst z;rw[j]at e;cases e;exact f A6
def DF(g:GA):List Addr:=[g.lv,g.pt,g.nm,g.br,g.am,g.bx]
theorem AX.fx{a:Ad}{g:GA}{G:Gv}{H c:Hp}{l:H_}(h:AX a H g G)(f:Fx l H c)(n:∀x∈DF g,x∉l):AX a c g G:=by
 obtain⟨at',ok,w,k,⟨ks,y,A⟩,⟨d,B,j⟩,n1,n2,D⟩:=h;obtain⟨E,F,⟨N,I,K⟩,L,M⟩:=at';have m:∀x∈DF g,∀o,H x=some o->c x=some o:=λx C o e=>f.get (n x C) e;refine⟨⟨f _ _ E λ_=>True.intro,m _ (by simp[DF]) _ F,⟨N,m _ (by simp[DF]) _ I,PairedM.imp (λt q z=>f.tup z) K⟩,m _ (by simp[DF]) _ L,M⟩,ok,w,m _ (by simp[DF]) _ k,⟨ks,m _ (by simp[DF]) _ y,A⟩,⟨d,m _ (by simp[DF]) _ B,j.keys,λi v e=>?_⟩,n1,n2,D⟩;obtain⟨l,b,t,p,r,s,u⟩:=j.val i v e;exact⟨l,b,t,p,r,s,f.tup u⟩
theorem AA.noneOf{H a:Hp}(s:AA H a){x:R_}(n:a x=none):H x=none:=by
 cases e:H x with
 |none=>rfl
 |some o=>rw[s _ _ e]at n;cases n
structure Nw(H:Hp)(l:H_):Prop where
nd:l.Nodup
s:∀x∈l,∃o,H x=some o
theorem AX.nw{a:Ad}{H:Hp}{g:GA}{G:Gv}(h:AX a H g G):Nw H (DF g):=by
 obtain⟨⟨_,f,⟨r,i,_⟩,b,m⟩,_,_,j,⟨ks,c,_⟩,⟨p,d,_⟩,n1,n2,q⟩:=h;have t:∀{x y:R_}{o o':HO},H x=some o->H y=some o'->o≠o'->x≠y:=λ{x y o o'} e l n=>AH e l n;refine⟨?_,λx k=>?_⟩
 .simp only[DF,N8,C3,D8,A0g,A5d,A4e,R4,and_true];exact⟨⟨m,t f b A4,K6 n1,t f c A4,t f d A4⟩,⟨t i b A4,K6 n2,t i c A4,t i d A4⟩,⟨t b j A4,t b c A4,t b d A4⟩,⟨t j c A4,t j d A4⟩,q⟩
 .simp only[DF,C3,D8,A0g]at k;rcases k with rfl|rfl|rfl|rfl|rfl|rfl
  .exact⟨_,f⟩
  .exact⟨_,i⟩
  .exact⟨_,b⟩
  .exact⟨_,j⟩
  .exact⟨_,c⟩
  .exact⟨_,d⟩
theorem DP{H:Hp}{x y:R_}{o:HO}(h:upd H x o y=none):H y=none:=by
 by_cases e:y=x
 .subst e;rw[Af]at h;cases h
 .rw[Aw e]at h;exact h
theorem Uu.none{a:Ad}{H c:Hp}{x dx:R_}{o o':HO}{g:GA}{G:Gv}{B:I_}{d:List (Key×V)}(N:Uu a (upd (upd H dx o) x o') c g G B d):∀y∈DF g,H y=none:=λy b=>by
 obtain⟨e,f,h,f4,i,j⟩:=N.fresh;simp only[DF,C3,D8,A0g]at b;rcases b with rfl|rfl|rfl|rfl|rfl|rfl
 .exact DP (DP e)
 .exact DP (DP f)
 .exact DP (DP h)
 .exact DP (DP f4)
 .exact DP (DP i)
 .exact DP (DP j)
theorem AA.fxn{H a c:Hp}{m:H_}(s:AA H a)(f:Fx m a c)(n:∀y∈m,H y=none):AA H c:=λb o e=>f.get (λz=>by rw[n b z]at e;cases e) (s _ _ e)
structure CI(L:Int->Int->Prop)(b:Bx):Prop where
inn:∀u v,L u v->b.l<=u/\u<b.l+b.w/\b.t<=v/\v<b.t+b.h
le:∃v,L b.l v
to:∃u,L u b.t
ri:∃v,L (b.l+b.w-1) v
bo:∃u,L u (b.t+b.h-1)
theorem CI.one{L:Int->Int->Prop}{b c:Bx}(h:CI L b)(h':CI L c):b=c:=by
 obtain⟨q,a⟩:=h.le;obtain⟨r,d⟩:=h.to;obtain⟨s,e⟩:=h.ri;obtain⟨t,f⟩:=h.bo;obtain⟨u,c1⟩:=h'.le;obtain⟨v,c2⟩:=h'.to;obtain⟨w,c3⟩:=h'.ri;obtain⟨x,g⟩:=h'.bo;have i:=h'.inn _ _ a;have j:=h'.inn _ _ d;have k:=h'.inn _ _ e;have l:=h'.inn _ _ f;have m:=h.inn _ _ c1;have n:=h.inn _ _ c2;have o:=h.inn _ _ c3;have p:=h.inn _ _ g;cases b;cases c;simp only at *
 congr 1<;>lia
theorem CI.congr{L M:Int->Int->Prop}{b:Bx}(e:∀u v,L u v↔M u v)(h:CI L b):CI M b:=by
 obtain⟨g,a⟩:=h.le;obtain⟨i,c⟩:=h.to;obtain⟨j,d⟩:=h.ri;obtain⟨k,f⟩:=h.bo;exact⟨λu v m=>h.inn u v ((e u v).mpr m),⟨g,(e _ _).mp a⟩,⟨i,(e _ _).mp c⟩,⟨j,(e _ _).mp d⟩,⟨k,(e _ _).mp f⟩⟩
theorem TM{l:I_}(h:l≠[]):mnL l∈l/\∀x∈l,mnL l<=x:=by
 unfold mnL;cases e:l.min? with
 |none=>exact absurd (List.min?_eq_none_iff.mp e) h
 |some m=>exact List.min?_eq_some_iff.mp e
theorem TK{l:I_}(h:l≠[]):mxL l∈l/\∀x∈l,x<=mxL l:=by
 unfold mxL;cases e:l.max? with
 |none=>exact absurd (List.max?_eq_none_iff.mp e) h
 |some m=>exact List.max?_eq_some_iff.mp e
theorem QB{L:Int->Int->Prop}{bs:List Bx}(ne:bs≠[])(a:∀b∈bs,∃M:Int->Int->Prop,CI M b/\∀u v,M u v->L u v)(D:∀u v,L u v->∃b∈bs,b.l<=u/\u<b.l+b.w/\b.t<=v/\v<b.t+b.h):CI L (PN bs):=by
 have n1:bs.map (·.l)≠[]:=λz=>ne (R0.mp z);have n2:bs.map (·.t)≠[]:=λz=>ne (R0.mp z);have I:(bs.map λb=>b.l+b.w)≠[]:=λz=>ne (R0.mp z);have K:(bs.map λb=>b.t+b.h)≠[]:=λz=>ne (R0.mp z);obtain⟨E,k⟩:=TM n1;obtain⟨F,m⟩:=TM n2;obtain⟨G,n⟩:=TK I;obtain⟨H,o⟩:=TK K;obtain⟨p,d,B⟩:=D3.mp E;obtain⟨b2,e,C⟩:=D3.mp F;obtain⟨r,f,i⟩:=D3.mp G;obtain⟨y,g,j⟩:=D3.mp H;unfold PN;refine⟨λu v q=>?_,?_,?_,?_,?_⟩
 .obtain⟨b,c,N,O,P,Q⟩:=D u v q;have c1:=k _ (D3.mpr ⟨b,c,Z⟩);have c2:=m _ (D3.mpr ⟨b,c,Z⟩);have c3:=n _ (D3.mpr ⟨b,c,Z⟩);have A:=o _ (D3.mpr ⟨b,c,Z⟩);dsimp only at c1 c2 c3 A⊢;lia
 .obtain⟨M,t,s⟩:=a p d;obtain⟨v,x⟩:=t.le;exact⟨v,by rw[B]at x;exact s _ _ x⟩
 .obtain⟨M,t,s⟩:=a b2 e;obtain⟨v,x⟩:=t.to;exact⟨v,by rw[C]at x;exact s _ _ x⟩
 .obtain⟨M,t,s⟩:=a r f;obtain⟨v,x⟩:=t.ri;refine⟨v,?_⟩;dsimp only at i⊢;rw[i]at x;have:=s _ _ x;rw[show mnL (bs.map (·.l))+(mxL (bs.map λb=>b.l+b.w)-mnL (bs.map (·.l)))-1=mxL (bs.map λb=>b.l+b.w)-1 by lia];exact this
 .obtain⟨M,t,s⟩:=a y g;obtain⟨v,x⟩:=t.bo;refine⟨v,?_⟩;dsimp only at j⊢;rw[j]at x;have:=s _ _ x;rw[show mnL (bs.map (·.t))+(mxL (bs.map λb=>b.t+b.h)-mnL (bs.map (·.t)))-1=mxL (bs.map λb=>b.t+b.h)-1 by lia];exact this
theorem PH{half:Int}{b:Bx}:∀{a:List (Option Bx)}{k:Nat},b∈Ef half k a ↔ ∃(j:Nat)(c:Bx),a[j]?=some (some c)/\b=shB half (k+j) c
|[],k=>⟨(λh=>by cases h),(λh=>by obtain⟨j,c,h,_⟩:=h;simp at h)⟩
|none::r,k=>by
 rw[show Ef half k (none::r)=Ef half (k+1) r from rfl,PH];constructor
 .rintro⟨j,c,h,e⟩;exact⟨j+1,c,by simpa using h,by rw[e,show k+1+j=k+(j+1) by lia]⟩
 .rintro⟨j,c,h,e⟩;cases j with
  |zero=>simp at h
  |succ j=>exact⟨j,c,by simpa using h,by rw[e,show k+1+j=k+(j+1) by lia]⟩
|some d::r,k=>by
 rw[show Ef half k (some d::r)=shB half k d::Ef half (k+1) r from rfl,C3,PH];constructor
 .rintro(h|⟨j,c,h,e⟩)
  .exact⟨0,d,Z,h⟩
  .exact⟨j+1,c,by simpa using h,by rw[e,show k+1+j=k+(j+1) by lia]⟩
 .rintro⟨j,c,h,e⟩;cases j with
  |zero =>
   have h:d=c:=by simpa using h
   subst h;exact .inl e
  |succ j=>exact .inr ⟨j,c,by simpa using h,by rw[e,show k+1+j=k+(j+1) by lia]⟩
def Lv(G:Gv)(n i:Nat)(u v:Int):Prop:=∃a b:Nat,u=a/\v=b/\a<2^n/\b<2^n/\CL G n i a b≠0
theorem Wl{G:Gv}{n i:Nat}{q:Sq}{a b c d:Nat}(o:Iv G n i q a b c d)(u v:Int):Lv G (n+1) i u v ↔ ∃k,k<4/\Lv G n (f4 a b c d k) (u-2^n*((k:Int)%2)) (v-2^n*((k:Int)/2)):=by
 have h:=Fq n;constructor
 .rintro⟨x,y,rfl,rfl,f,g,ne⟩;rw[BG o f g]at ne;have C:=BU f;have D:=BU g;refine⟨quad n x y,BS f g,x%2^n,y%2^n,?_,?_,F6 _ (AK n),F6 _ (AK n),ne⟩
  .have e:=M8 x (2^n);have j:((quad n x y:Nat):Int)%2=((x/2^n:Nat):Int):=by
    unfold quad;generalize x/2^n=A at *
    generalize y/2^n=B at *
    lia
   rw[j,<-h,<-N9];lia
  .have e:=M8 y (2^n);have j:((quad n x y:Nat):Int)/2=((y/2^n:Nat):Int):=by
    unfold quad;generalize x/2^n=A at *
    generalize y/2^n=B at *
    lia
   rw[j,<-h,<-N9];lia
 .rintro⟨k,t,x,y,w,z,f,g,ne⟩;obtain⟨l,m,p,r,s⟩:=EW t f g;refine⟨x+2^n*(k%2),y+2^n*(k/2),?_,?_,l,m,?_⟩
  .rw[M9,N9,h,show((k%2:Nat):Int)=(k:Int)%2 from rfl];lia
  .rw[M9,N9,h,show((k/2:Nat):Int)=(k:Int)/2 from rfl];lia
  .rw[BG o l m,p,r,s];exact ne
theorem QE{L:Int->Int->Prop}{b:Bx}{half:Int}{k:Nat}(h:CI L b):CI (λu v=>L (u-half*((k:Int)%2)) (v-half*((k:Int)/2))) (shB half k b):=by
 obtain⟨a,f⟩:=h.le;obtain⟨c,g⟩:=h.to;obtain⟨d,i⟩:=h.ri;obtain⟨e,j⟩:=h.bo;unfold shB;generalize half*((k:Int)%2)=p;generalize half*((k:Int)/2)=q;refine⟨λu v m=>?_,⟨a+q,?_⟩,⟨c+p,?_⟩,⟨d+q,?_⟩,⟨e+p,?_⟩⟩
 .have:=h.inn _ _ m;dsimp only;lia
 .show L (b.l+p-p) (a+q-q);rw[O6,O6];exact f
 .show L (c+p-p) (b.t+q-q);rw[O6,O6];exact g
 .show L (b.l+p+b.w-1-p) (d+q-q);rw[O6,show b.l+p+b.w-1-p=b.l+b.w-1 by lia];exact i
 .show L (e+p-p) (b.t+q+b.h-1-q);rw[O6,show b.t+q+b.h-1-q=b.t+b.h-1 by lia];exact j
theorem LI{G:Gv}(ok:GOk G):∀{n i:Nat}{b:Bx},An G i (n:Int)->Cb G n i=some b->CI (Lv G n i) b
|0,i,b,_,h=>by
 have h:(if i=0 then none else some (⟨0,0,1,1⟩:Bx))=some b:=h;by_cases z:i=0
 .rw[K2 z]at h;cases h
 .rw[X9 z]at h;cases h;have A:Lv G 0 i 0 0:=⟨0,0,Z,Z,by decide,by decide,z⟩
  refine⟨λu v m=>?_,⟨0,A⟩,⟨0,A⟩,⟨0,A⟩,⟨0,A⟩⟩;obtain⟨x,y,rfl,rfl,p,r,_⟩:=m;have p:x<1:=p;have r:y<1:=r;dsimp only;lia
|n+1,i,b,l,h=>by
 obtain⟨q,a,b',c,d,g⟩:=BD ok l;rw[FW g]at h;have w:∀k,k<4->[Cb G n a,Cb G n b',Cb G n c,Cb G n d][k]?=some (Cb G n (f4 a b' c d k)):=λk f=>by
  match k,f with
  |0,_=>rfl
  |1,_=>rfl
  |2,_=>rfl
  |3,_=>rfl
 have s:∀e,e∈Ef (2^n) 0 [Cb G n a,Cb G n b',Cb G n c,Cb G n d] ↔ ∃k o,k<4/\Cb G n (f4 a b' c d k)=some o/\e=shB (2^n) k o:=λe=>by
  rw[PH];constructor
  .rintro⟨j,I,E,rfl⟩;have H:j<4:=(B9.mp E).1;rw[w j H]at E;exact⟨j,I,H,K7 E,by rw[N3]⟩
  .rintro⟨k,o,f,B,rfl⟩;exact⟨k,o,by rw[w k f,B],by rw[N3]⟩
 unfold Ql at h;cases D:Ef (2^n) 0 [Cb G n a,Cb G n b',Cb G n c,Cb G n d]with
 |nil=>rw[D]at h;cases h
 |cons M R =>
  rw[D]at h;have h:=K7 h;rw[D]at s;subst h;refine QB A6 (λe L=>?_) λu v m=>?_
  .obtain⟨k,o,f,B,rfl⟩:=(s e).mp L;refine⟨_,QE (LI ok (g.nat f).2 B),λu v m=>(Wl g u v).mpr ⟨k,f,m⟩⟩
  .obtain⟨k,f,m⟩:=(Wl g u v).mp m;cases C:Cb G n (f4 a b' c d k)with
   |none =>
    have K:=(LJ ok n _ (g.nat f).2).mp C;obtain⟨x,y,_,_,p,r,ne⟩:=m;exact absurd (cell_none ok (g.nat f).2 K p r) ne
   |some o =>
    have t:=QE (half:=2^n) (k:=k) (LI ok (g.nat f).2 C);exact⟨_,(s _).mpr ⟨k,o,f,C,Z⟩,t.inn u v m⟩
where cell_none {G:Gv} (ok:GOk G):∀{n i x y:Nat},An G i (n:Int)->DZ G n i=0->x<2^n->y<2^n->CL G n i x y=0
|0,i,x,y,_,h,_,_=>by
 have h:(if i=0 then(0:Int)else 1)=0:=h;show i=0;by_cases z:i=0
 .exact z
 .rw[X9 z]at h;lia
|n+1,i,x,y,l,h,p,r=>by
 obtain⟨q,a,b,c,d,g⟩:=BD ok l;have e:=LE g;have e:DZ G (n+1) i=DZ G n a+(DZ G n b+(DZ G n c+(DZ G n d+0))):=e;have N:=FQ G n a;have O:=FQ G n b;have P:=FQ G n c;have Q:=FQ G n d;have F:=BS p r;rw[BG g p r];refine cell_none ok (g.nat F).2 ?_ (F6 _ (AK n)) (F6 _ (AK n));generalize quad n x y=k at F
 match k,F with
 |0,_=>show DZ G n a=0;lia
 |1,_=>show DZ G n b=0;lia
 |2,_=>show DZ G n c=0;lia
 |3,_=>show DZ G n d=0;lia
seal L2.PA L2.PE L2.PS L2.PSs L2.PT L2.PW
theorem TR{G:Gv}{n f:Nat}(x y:Int):Lv G (n+1) f (x+2^n) (y+2^n)↔fieldF G n f x y≠0:=by
 have c:=Fq n;have e:=LQ n;constructor
 .rintro⟨u,v,h,i,j,k,ne⟩;unfold fieldF;rw[K2 ⟨by lia,by lia,by lia,by lia⟩,show(x+2^n).toNat=u by lia,show(y+2^n).toNat=v by lia];exact ne
 .intro ne;unfold fieldF at ne;split at ne
  .rename_i z;obtain⟨a,b,d,g⟩:=z;exact⟨(x+2^n).toNat,(y+2^n).toNat,by lia,by lia,FF a b,FF d g,ne⟩
  .exact absurd Z ne
def mvB(r:Int)(b:Bx):Bx:=⟨b.l+-r,b.t+-r,b.w,b.h⟩
theorem Fn{G:Gv}(ok:GOk G){n f:Nat}(l:An G f ((n+1:Nat):Int)){b:Bx}(h:Cb G (n+1) f=some b):CI (λx y=>fieldF G n f x y≠0) (mvB (2^n) b):=by
 have t:=LI ok l h;obtain⟨j,a⟩:=t.le;obtain⟨k,c⟩:=t.to;obtain⟨g,d⟩:=t.ri;obtain⟨i,e⟩:=t.bo;have go:∀{u v:Int},Lv G (n+1) f u v->fieldF G n f (u+-(2^n)) (v+-(2^n))≠0:=λ{u v} m=>(TR _ _).mp (by rw[show u+-(2^n)+2^n=u by lia,show v+-(2^n)+2^n=v by lia];exact m);unfold mvB;refine⟨λx y m=>?_,⟨_,go a⟩,⟨_,go c⟩,⟨g+-(2^n),?_⟩,⟨i+-(2^n),?_⟩⟩
 .have:=t.inn _ _ ((TR x y).mpr m);dsimp only;lia
 .have:=go d;rw[show b.l+b.w-1+-(2^n)=b.l+-(2^n)+b.w-1 by lia]at this;exact this
 .have:=go e;rw[show b.t+b.h-1+-(2^n)=b.t+-(2^n)+b.h-1 by lia]at this;exact this
theorem Pr{G:Gv}(ok:GOk G){n f:Nat}(l:An G f ((n+1:Nat):Int))(h:Cb G (n+1) f=none)(x y:Int):fieldF G n f x y=0:=by
 have c:=(LJ ok _ _ l).mp h;unfold fieldF;split
 .rename_i z;exact LI.cell_none ok l c (FF z.1 z.2.1) (FF z.2.2.1 z.2.2.2)
 .rfl
section
variable{P:N_}{w:Q_}{K:O_}{mg:C_}{base:T_}{a:Ad}
inductive WJ(a:Ad)(vs:List V)(H:Hp)(Q:VK):Prop
|mk (g:GA) (G:Gv) (f n:Nat) (_:vs=[.ref g.p,.int f]) (_:AX a H g G) (_:An G f ((n+1:Nat):Int)) (_:n<48) (_:G.length<8000000) (_:(Cb G (n+1) f=none->∀H',FrQ g H H'->AX a H' g G->Q .non H')) (_:∀b,Cb G (n+1) f=some b->∀t H',FrQ g H H'->AX a H' g G->NY H' t (mvB (2^n) b)->Q (.ref t) H'):WJ a vs H Q
def Mx(a:Ad):Sp:=λvs H Q _=>WJ a vs H Q
theorem ZP(F:Fun K "box_of" "box_of" Pi f fd)(T:Top K mg a)(B:Cd P w K mg base CX0 101 a.c_Grove "span" Lh (UA a))(z:Cal P w K mg base CX0 4 "reach_of" UX (IH a))(y:Cal P w K mg base CX0 1 "shifted_box" Qm Lp):AL P w K mg base CX0 102 f fd UX (Mx a):=by
 refine F.ok Nl D_9 λC A m s H vs Q E e h=>?_
 obtain⟨g,G,r,n,rfl,u,v,k,few,M,N⟩:=h;refine⟨_,(Ac (Ao (i:=2) Nl.nd Z O_9 (AJ (pv 0) B (rm e) Aq (Aa (pv 1) Ae))) (Ac (AQ (Az FE (pv 2) Cw (AF _)) (Ai (Av Cw)) AC) (Ac (Ao (i:=3) Nl.nd Z O_9 (As z (rm e) Z Aq (Aa (pv 0) (Aa (pv 1) Ae)))) (Ai (Av (As y (rm e) Z Aq (Aa (pv 2) (Aa (Iz EI (pv 3)) (Aa (Iz EI (pv 3)) Ae))))))))),?_⟩
 try dsimp only[cxK]
 refine xq1 Z ⟨g.p,g.dx,(xq1 Z ⟨u.at'.hp,no_span g,(xq1 Z ⟨g,G,r,n+1,Z,u,v,by lia,λI q d c=>?_,λb D t q d c L=>?_⟩)⟩)⟩
 .exact xq1 Z ⟨Z,(xq1 Z (BY (M I q d c)))⟩
 .refine xq1 Z ⟨Z,(xq1 Z (AY ?_))⟩;refine xw2 Z Z ⟨g,G,r,n,Z,c.at',v,k,?_⟩;refine xw3 Z Z Z (xw2 Z Z ⟨t,b,_,_,Z,L,λt' j=>?_⟩);have x:=AG (o:=.tup [.int (b.l+-(2^n)),.int (b.t+-(2^n)),.int b.w,.int b.h]) j;exact N b D t' _ (d.trans (AA.frq x)) (c.same x) Af
end
end J
namespace J
open PySem L2
theorem cel_F{G:Gv}(ok:GOk G):∀{n i x y:Nat},An G i (n:Int)->x<2^n->y<2^n->cel G n i x y=CL G n i x y
|0,_,_,_,_,_,_=>rfl
|n+1,i,x,y,h,hx,hy=>by
 obtain⟨q,a,b,c,d,f⟩:=BD ok h;rw[BG f hx hy];have p:=AK n;have j:x/2^n<2:=Nat.div_lt_of_lt_mul (by rw[J0]at hx;lia);have k:y/2^n<2:=Nat.div_lt_of_lt_mul (by rw[J0]at hy;lia);have e:qO G i ((x/2^n)%2+2*((y/2^n)%2))=f4 a b c d (quad n x y):=by
  have:=(f.nat (BS hx hy)).1;unfold qO;rw[f.g,N6 j,N6 k];show(q.parts.getD (quad n x y) 0).toNat=_;rw[F0,this];rfl
 show cel G n (qO G i ((x/2^n)%2+2*((y/2^n)%2))) x y=_;rw[e,<-cel_F ok (f.nat (BS hx hy)).2 (F6 _ p) (F6 _ p)];have:=Ss G n (f4 a b c d (quad n x y)) (x%2^n) (y%2^n) (x/2^n) (y/2^n);rw[Nat.mod_add_div,Nat.mod_add_div]at this;exact this
theorem Sj{α β:Type}(f:α->List β)(m:Nat):∀l:List α,(∀x∈l,(f x).length<=m)->(l.flatMap f).length<=l.length*m
|[],_=>by simp
|a::l,h=>by
 have:=Sj f m l λx b=>h x (C8 _ b);have:=h a C9;rw[X6,C5,F2,U8];lia
structure ZS(a:Ad)(H:Hp)(g:GA)(G:Gv)(Κ:KTy)(N b:Nat)(p dx mem pr:R_)(r:AD)(m:MA):Prop where
jz:JZ a H g G Κ N b p dx mem pr r m
fu:AX a H g G
na:g.am∉m.ds
nb:g.bx∉m.ds
def FrZ(g:GA)(m:MA)(H H':Hp):Prop:=∀b o,H b=some o->b∉[g.lv,g.pt,g.nm,g.am,g.bx,m.kc]->b∉m.ds->H' b=some o
section
variable{a:Ad}{H H' H1 H2 H3:Hp}{g:GA}{G G':Gv}{Κ:KTy}{N b i:Nat}{p dx mem pr:R_}{r:AD}{m:MA}
theorem FrZ.trans(h:FrZ g m H1 H2)(k:FrZ g m H2 H3):FrZ g m H1 H3:=λb o e n1 n2=>k b o (h b o e n1 n2) n1 n2
theorem AA.z(s:AA H H'):FrZ g m H H':=λb o e _ _=>s b o e
theorem Fr.z(f:Fr g H H'):FrZ g m H H':=λb o e n1 _=>f b o e (λz=>n1 (by simp[z])) (λz=>n1 (by simp[z])) (λz=>n1 (by simp[z]))
theorem FrQ.z(f:FrQ g H H'):FrZ g m H H':=λb o e n1 _=>f b o e (λz=>n1 (by simp[z])) (λz=>n1 (by simp[z]))
theorem FrJ.z(f:FrJ g m H H'):FrZ g m H H':=λb o e n1 n2=>f b o e (λz=>n1 (by simp[z])) (λz=>n1 (by simp[z])) (λz=>n1 (by simp[z])) (λz=>n1 (by simp[z])) n2
theorem ZS.same(h:ZS a H g G Κ N b p dx mem pr r m)(s:AA H H'):ZS a H' g G Κ N b p dx mem pr r m:=⟨h.jz.same s,h.fu.same s,h.na,h.nb⟩
theorem ZS.mono{b':Nat}(h:ZS a H g G Κ N b p dx mem pr r m)(e:b<=b'):ZS a H g G Κ N b' p dx mem pr r m:=⟨h.jz.mono e,h.fu,h.na,h.nb⟩
theorem ZS.fr(h:ZS a H g G Κ N b p dx mem pr r m)(f:Fr g H H')(c:AX a H' g G')(go:AI G G' i):ZS a H' g G' Κ N (b+i) p dx mem pr r m:=⟨h.jz.fr f c.at' go,c,h.na,h.nb⟩
theorem ZS.frQ(h:ZS a H g G Κ N b p dx mem pr r m)(f:FrQ g H H')(k:AX a H' g G):ZS a H' g G Κ N b p dx mem pr r m:=by
 have c:=h.jz.jw;have j:∀{x:R_}{o:HO},H x=some o->(∀ks,o≠.dK ks)->H' x=some o:=λ{x o} e n=>f _ _ e (h.fu.ne_am e n).1 (h.fu.ne_am e n).2;have u:∀d∈m.ds,∀o,H d=some o->H' d=some o:=λd t o e=>f _ _ e (λz=>h.na (z▸t)) (λz=>h.nb (z▸t));obtain⟨y,c1,_⟩:=c.me.ce;have q:Ju H' g G N (b+10*N) r m:=c.me.kp c.ok (AI.refl c.ok) λx o e w=>by
  rcases w with z|z|z|z
  .subst z;exact j e (by rw[c.me.tp]at e;cases e;intro ks z;cases z)
  .subst z;exact j e (by rw[c.me.l]at e;cases e;intro ks z;cases z)
  .exact u x z o e
  .subst z;exact j e (by rw[c1]at e;cases e;intro ks z;cases z)
 obtain⟨v,cn⟩:=h.jz.cn;refine⟨⟨⟨k.at',c.ok,c.bs,k.br,c.nbr,j c.hp (by intro ks z;cases z),c.ru.kp λx o e n=>j e (by intro ks z;rw[z]at n;cases n),c.rok,c.rest,q⟩,v,cn.kp (i:=0) c.ok (AI.refl c.ok) u λs e=>⟨s,j e (by intro ks z;cases z),C1 _⟩⟩,k,h.na,h.nb⟩
theorem ZS.aft(h:ZS a H g G Κ N b p dx mem pr r m)(f:FrJ g m H H')(k:JZ a H' g G' Κ N b p dx mem pr r m)(go:AI G G' i):ZS a H' g G' Κ N b p dx mem pr r m:=by
 have A:=h.jz.jw;refine⟨k,?_,h.na,h.nb⟩;obtain⟨at',ok,⟨P,I⟩,D,⟨ks,K,L⟩,⟨s,M,y⟩,n1,n2,O⟩:=h.fu;obtain⟨us,B,_⟩:=at'.pt;obtain⟨Q,c1,_⟩:=A.me.ce;have u:∀{x:R_}{o:HO},H x=some o->(∀ks,o≠.dK ks)->x∉m.ds:=λ{x o} e n z=>by
  obtain⟨j,q⟩:=L9 z;obtain⟨R,d,_⟩:=A.me.sq j x q;rw[e]at d;cases d;exact n _ Z
 obtain⟨t,F⟩:=go.pre;have dk:∀{x:R_}{ks:List (Key×V)},H x=some (.dK ks)->x∉m.ds->H' x=some (.dK ks):=λ{x ks} e n=>f _ _ e (AH e at'.lv A4) (AH e B A4) (AH e at'.nm A4) (AH e c1 A4) n;refine⟨k.jw.gr,go.ok,⟨P++t,by rw[F,I,S5]⟩,k.jw.br,⟨ks,dk K h.na,L.app ok go⟩,⟨s,dk M h.nb,y.keys.app go.le,λi v e=>?_⟩,n1,n2,O⟩;obtain⟨l,C,t,w,d,E,c⟩:=y.val i v e;exact⟨l,C,t,go.lev w,by rw[IE ok go l i w];exact d,E,f _ _ c (AH c at'.lv A4) (AH c B A4) (AH c at'.nm A4) (AH c c1 A4) (u c (by intro ks z;cases z))⟩
theorem ZS.keep(h:ZS a H g G Κ N b p dx mem pr r m)(f:FrZ g m H H'){x:R_}{o:HO}(e:H x=some o)(k:∀xs,o≠.lst xs)(l:∀ks,o≠.dK ks)(n:∀ks,o≠.dT ks):H' x=some o:=by
 have d:=h.jz.jw;obtain⟨us,s,_⟩:=h.fu.at'.pt;obtain⟨t,c1,_⟩:=d.me.ce;have n1:=h.fu.ne_am e l;refine f _ _ e (λz=>?_) (λz=>?_)
 .simp only[C3,D8,A0g]at z;rcases z with z|z|z|z|z|z
  .exact AH e h.fu.at'.lv (k _) z
  .exact AH e s (k _) z
  .exact AH e h.fu.at'.nm (n _) z
  .exact n1.1 z
  .exact n1.2 z
  .exact AH e c1 (n _) z
 .obtain⟨j,c⟩:=L9 z;obtain⟨u,q,_⟩:=d.me.sq j x c;exact AH e q (l _) Z
theorem ZS.new(h:ZS a H g G Κ N b p dx mem pr r m){x:R_}(n:H x=none):x∉[g.lv,g.pt,g.nm,g.am,g.bx,m.kc]/\x∉m.ds:=by
 have d:=h.jz.jw;obtain⟨us,l,_⟩:=h.fu.at'.pt;obtain⟨o,c1,_⟩:=d.me.ce;obtain⟨ks,f,_⟩:=h.fu.am;obtain⟨q,k,_⟩:=h.fu.bx;refine⟨λz=>?_,λz=>?_⟩
 .simp only[C3,D8,A0g]at z;rcases z with rfl|rfl|rfl|rfl|rfl|rfl
  .rw[h.fu.at'.lv]at n;cases n
  .rw[l]at n;cases n
  .rw[h.fu.at'.nm]at n;cases n
  .rw[f]at n;cases n
  .rw[k]at n;cases n
  .rw[c1]at n;cases n
 .obtain⟨j,c⟩:=L9 z;obtain⟨s,e,_⟩:=d.me.sq j x c;rw[e]at n;cases n
end
theorem JW.putL{a:Ad}{H:Hp}{g:GA}{G:Gv}{N M:Nat}{p dx mem i x:R_}{r:AD}{m:MA}{xs:List V}{o:HO}(h:JW a H g G N M p dx mem i r m)(f:H x=some (.lst xs))(n1:x≠g.lv)(n2:x≠g.pt)(q:x≠g.br)(s:x≠m.l):JW a (upd H x o) g G N M p dx mem i r m:=by
 have c:∀{b v},H b=some v->(∀l,v≠.lst l)->upd H x o b=some v:=λ{b v} e n=>by rw[Aw (AH e f (n _))];exact e
 refine⟨h.gr.put f n1 n2,h.ok,h.bs,by rw[Aw (K6 q)];exact h.br,h.nbr,c h.hp B0,h.ru.kp λb o e n=>c e λl z=>(by rw[z]at n;cases n),h.rok,h.rest,h.me.kp h.ok (AI.refl h.ok) λb o e w=>?_⟩;rcases w with z|z|z|z
 .have d:=h.me.tp;rw[<-z,e]at d;cases d;exact c e B0
 .rw[z]at e⊢;rw[Aw (K6 s)];exact e
 .obtain⟨j,k⟩:=L9 z;obtain⟨u,d,_⟩:=h.me.sq j b k;rw[e]at d;cases d;exact c e B0
 .obtain⟨t,d,_⟩:=h.me.ce;rw[z]at e⊢;rw[e]at d;cases d;exact c e B0
structure ApZ(g:GA)(m:MA)(x:R_):Prop where
n0:x∉[g.lv,g.pt,g.nm,g.am,g.bx,m.kc]
n1:x∉m.ds
n2:x≠g.br
n3:x≠m.l
section
variable{a:Ad}{H H':Hp}{g:GA}{G G':Gv}{Κ:KTy}{N b i:Nat}{p dx mem pr:R_}{r:AD}{m:MA}
theorem ZS.ap(h:ZS a H g G Κ N b p dx mem pr r m){x:R_}(n:H x=none):ApZ g m x:=by
 obtain⟨c,n1⟩:=h.new n;refine⟨c,n1,λz=>?_,λz=>?_⟩
 .rw[z,h.fu.br]at n;cases n
 .rw[z,h.jz.jw.me.l]at n;cases n
theorem ZS.putL{x:R_}{xs:List V}{o:HO}(h:ZS a H g G Κ N b p dx mem pr r m)(j:H x=some (.lst xs))(ap:ApZ g m x):ZS a (upd H x o) g G Κ N b p dx mem pr r m:=by
 have k:x≠g.lv:=λz=>ap.n0 (by simp[z]);have pt:x≠g.pt:=λz=>ap.n0 (by simp[z]);obtain⟨f,c⟩:=h.jz.cn;refine⟨⟨h.jz.jw.putL j k pt ap.n2 ap.n3,f,c.kp (i:=0) h.jz.jw.ok (AI.refl h.jz.jw.ok) (λd l o' e=>?_) λn e=>⟨n,?_,C1 _⟩⟩,h.fu.put j k pt ap.n2,h.na,h.nb⟩
 .rw[Aw (λz:d=x=>ap.n1 (z▸l))];exact e
 .rw[Aw (AH e j A4)];exact e
end
theorem Si{G:Gv}(ok:GOk G){n f:Nat}(c:An G f ((n+1:Nat):Int)){x y:Nat}(a:x<2^(n+1))(b:y<2^(n+1)):CG G (n+1) f x y=(fieldF G n f ((x:Int)-2^n) ((y:Int)-2^n):Nat):=by
 unfold CG fieldF;have p:((2^(n+1):Nat):Int)=2^n+2^n:=by rw[M5];exact Cm n
 rw[K2 A0,cel_F ok c a b];congr 2<;>lia
seal L2.PA L2.PE L2.PS L2.PSs L2.PT L2.PW
section
variable{P:N_}{w:Q_}{K:O_}{mg:C_}{base:T_}{a:Ad}
inductive SpLvF(a:Ad)(vs:List V)(H:Hp)(Q:VK):Prop
|mk (g:GA) (G:Gv) (f n e:Nat) (_:vs=[.ref g.p,.int f,.int e]) (_:AM a H g G) (_:An G f ((n+1:Nat):Int)) (_:n<=40) (_:e<=40) (_:∀l:Nat,l<=41->n<=l->e<=l->2^n+2^e<=2^l->Q (.int ((l+2:Nat):Int)) H):SpLvF a vs H Q
def Zh(a:Ad):Sp:=λvs H Q _=>SpLvF a vs H Q
theorem ok_lvf(F:Fun K "level_for" "level_for" JH f fd)(T:Top K mg a)(B:Cal P w K mg base CX0 4 "reach_of" UX (IH a)):AL P w K mg base CX0 5 f fd JQ (Zh a):=by
 refine F.ok FK D_9 λC A t s H vs Q E N h=>?_
 obtain⟨g,G,c,n,e,rfl,M,O,r,l,k⟩:=h;refine⟨_,(Ac (Ao (i:=3) FK.nd Z O_9 (AB AO (As B (rm N) Z Aq (Aa (pv 0) (Aa (pv 1) Ae))) (AB Mq Ab (pv 2)))) (Ac (Ao (i:=4) FK.nd Z O_9 Ab) (Ac (JL A0b (Az FH (AB Mq Ab (AB BI (pv 4) Ab)) (pv 3) (AF _)) (Ai (Ao (i:=4) FK.nd Z O_9 (AB AO (pv 4) Ab)))) (Ai (Av (pv 4)))))),?_⟩
 try dsimp only[cxK]
 refine Bm ?_;intro r1 s1 k1 o W;refine xw2 Z Z ⟨g,G,c,n,Z,M,O,by lia,?_⟩;refine xwb Z Z Z ⟨⟨by lia,by lia,by decide⟩,(xq2 Z Z ?_)⟩;have D:(2:Int)^n+1*2^(e:Int).toNat=((2^n+2^e:Nat):Int):=by
  rw[J7,Int.one_mul,M9,M5,M5];rfl
 have pn:2^n<=2^40:=N7 A3 r;have pe:2^e<=2^40:=N7 A3 l;have U:=AK n;have S:=AK e;rw[show(λi j:Int=>V.int (i+j)) (2^n) ((λi j:Int=>i*2^j.toNat) 1 (e:Int))=V.int ((2^n+2^e:Nat):Int)from A0c V.int D];generalize L:2^n+2^e=R at k;have y:R<=2^41:=by rw[<-L];lia
 refine o ?_;refine Bm ?_;intro r2 s2 k2 q X;refine q ?_;refine⟨λm σ d=>∃j:Nat,σ=[some (.ref g.p),some (.int c),some (.int (e:Int)),some (.int (R:Int)),some (.int ((j+2:Nat):Int))]/\d=H/\j+m=41,⟨41,0,Z,Z,Z⟩,?_⟩;rintro m σ d ⟨j,rfl,rfl,Y⟩;refine xwb Z Z Z (xq2 Z Z ⟨⟨by lia,by lia,by decide⟩,(xwb Z Z Z (xq1 Z ?_))⟩);have v:(1:Int)*2^(((j+2:Nat):Int)-2).toNat=((2^j:Nat):Int):=by
  rw[show(((j+2:Nat):Int)-2).toNat=j by lia,Int.one_mul,M5];rfl
 refine Ip (λb=>?_) (λb=>?_)
 .have b:=A0d b;have b:(1:Int)*2^(((j+2:Nat):Int)-2).toNat<(R:Int):=b;rw[v]at b;have m0:m≠0:=λz=>by
   subst z;have:j=41:=by lia
   subst this;lia
  refine⟨fun σ' u=>∃x:Nat,σ'=[some (.ref g.p),some (.int c),some (.int (e:Int)),some (.int (R:Int)),some (.int ((x+2:Nat):Int))]/\u=d/\x+(m-1)=41,fun σ' u z=>⟨m-1,by lia,z⟩,?_⟩;have I:((j+2:Nat):Int)+1=((j+1+2:Nat):Int):=by lia
  exact xwb Z Z Z ⟨j+1,A0c (λz:Int=>[some (V.ref g.p),some (V.int c),some (V.int (e:Int)),some (V.int (R:Int)),some (V.int z)]) I,Z,by lia⟩
 .have b:¬(1:Int)*2^(((j+2:Nat):Int)-2).toNat<(R:Int):=λz=>b (K0 z);rw[v]at b;have le:R<=2^j:=by lia
  refine xq1 Z (k j A0 ?_ ?_ le)
  .refine P8 λz=>?_;have:2^j<2^n:=Y7 A3 z;lia
  .refine P8 λz=>?_;have:2^j<2^e:=Y7 A3 z;lia
inductive SpWT(a:Ad)(vs:List V)(H:Hp)(Q:VK):Prop
|mk (g:GA) (G:Gv) (f n k:Nat) (_:vs=[.ref g.p,.int f,.int ((n+k+1:Nat):Int)]) (_:AX a H g G) (_:An G f ((n+1:Nat):Int)) (_:n+k<=46) (_:G.length<8000000) (_:∀(v:Nat)(G':Gv)(H':Hp),Fr g H H'->AX a H' g G'->AI G G' (5*k)->NW G' n f k v->An G' v ((n+k+1:Nat):Int)->Q (.int v) H'):SpWT a vs H Q
def spWT(a:Ad):Sp:=λvs H Q _=>SpWT a vs H Q
theorem ok_wt(F:Fun K "widened_to" "widened_to" IK f fd)(T:Top K mg a)(N:Cd P w K mg base CX0 3 a.c_Grove "level_of" Lh (Mv a))(O:Cal P w K mg base CX0 4 "widened" Lu (VO a)):AL P w K mg base CX0 5 f fd Je (spWT a):=by
 refine F.ok GU D_9 λR A C s H vs Q E I h=>?_
 obtain⟨g,G,o,n,kk,rfl,D,V,W,few,k⟩:=h;refine⟨_,(Ac (Ao (i:=3) GU.nd Z O_9 (pv 1)) (Ac (JL A0b (Az FH (AJ (pv 0) N (rm I) Aq (Aa (pv 3) Ae)) (pv 2) (AF _)) (Ai (Ao (i:=3) GU.nd Z O_9 (As O (rm I) Z Aq (Aa (pv 0) (Aa (pv 3) Ae)))))) (Ai (Av (pv 3))))),?_⟩
 try dsimp only[cxK]
 refine xq1 Z ?_;refine⟨λm σ u=>∃(d:Gv)(c j:Nat),σ=[some (.ref g.p),some (.int o),some (.int ((n+kk+1:Nat):Int)),some (.int c)]/\Fr g H u/\AX a u g d/\AI G d (5*j)/\j+m=kk/\An d c ((n+j+1:Nat):Int)/\NW d n o j c,⟨kk,G,o,0,Z,Fr.refl g H,D,AI.refl D.ok,by lia,V,Z⟩,?_⟩;rintro m σ u ⟨d,c,j,rfl,fr,b,go,S,B,M⟩;have Y:=go.few;obtain⟨q,eq,U⟩:=id B;refine xq1 Z ⟨g.p,g.dx,(xq1 Z ⟨b.at'.hp,DX g,(xq1 Z ⟨g,d,c,q,Z,b.at',eq,?_⟩)⟩)⟩;rw[U];refine xwb Z Z Z (xq1 Z (Ip (λt=>?_) (λt=>?_)))
 .have t:((n+j+1:Nat):Int)<((n+kk+1:Nat):Int):=A0d t;refine⟨fun σ' x=>∃(l:Gv)(c2 v:Nat),σ'=[some (.ref g.p),some (.int o),some (.int ((n+kk+1:Nat):Int)),some (.int c2)]/\Fr g H x/\AX a x g l/\AI G l (5*v)/\v+(m-1)=kk/\An l c2 ((n+v+1:Nat):Int)/\NW l n o v c2,fun σ' x z=>⟨m-1,by lia,z⟩,?_⟩;refine xw2 Z Z ⟨g,d,c,n+j,Z,b,B,by lia,by lia,λc2 l X r y e L=>?_⟩;refine⟨l,c2,j+1,Z,fr.trans r,b.fr r y e,(go.trans e).mono A0,by lia,?_,⟨c,M.app e,L⟩⟩;have:=L.lev;rw[show n+(j+1)+1=n+j+2 by lia];exact this
 .have t:¬((n+j+1:Nat):Int)<((n+kk+1:Nat):Int):=λz=>t (K0 z);have:j=kk:=by lia
  subst this;exact xq1 Z (k c d u fr b go M B)
end
end J
namespace J
open PySem L2
def sF(r:AD)(φ:D_):Int->Int->Nat:=λx y=>(CH r (φ x y:Nat) [((φ (x-1) (y-1):Nat):Int),((φ x (y-1):Nat):Int),((φ (x+1) (y-1):Nat):Int),((φ (x-1) y:Nat):Int),((φ (x+1) y:Nat):Int),((φ (x-1) (y+1):Nat):Int),((φ x (y+1):Nat):Int),((φ (x+1) (y+1):Nat):Int)]).toNat
def sFN(r:AD):Nat->(Int->Int->Nat)->Int->Int->Nat
|0,φ=>φ
|n+1,φ=>sF r (sFN r n φ)
theorem IZ(r:AD)(φ:D_)(n:Nat):∀m,sFN r (m+n) φ=sFN r m (sFN r n φ)
|0=>by rw[N3];rfl
|m+1=>by
 rw[show m+1+n=(m+n)+1 by lia];show sF r (sFN r (m+n) φ)=sF r (sFN r m (sFN r n φ));rw[IZ r φ n m]
theorem Ry(r:AD){φ ψ:D_}{X Y:Int}:∀(k:Nat)(x y:Int),(∀u v,x-k<=u->u<=x+k->y-k<=v->v<=y+k->φ u v=ψ (u+X) (v+Y))->sFN r k φ x y=sFN r k ψ (x+X) (y+Y)
|0,x,y,h=>h x y A0 A0 A0 A0
|k+1,x,y,h=>by
 have c:∀u v,x-1<=u->u<=x+1->y-1<=v->v<=y+1->sFN r k φ u v=sFN r k ψ (u+X) (v+Y):=λu v d e f g=>Ry r k u v λa b i j l m=>h a b A0 A0 A0 A0;show sF r (sFN r k φ) x y=sF r (sFN r k ψ) (x+X) (y+Y);unfold sF;rw[c x y A0 A0 A0 A0,c (x-1) (y-1) A0 A0 A0 A0,c x (y-1) A0 A0 A0 A0,c (x+1) (y-1) A0 A0 A0 A0,c (x-1) y A0 A0 A0 A0,c (x+1) y A0 A0 A0 A0,c (x-1) (y+1) A0 A0 A0 A0,c x (y+1) A0 A0 A0 A0,c (x+1) (y+1) A0 A0 A0 A0];rw[show x-1+X=x+X-1 by lia,show y-1+Y=y+Y-1 by lia,show x+1+X=x+X+1 by lia,show y+1+Y=y+Y+1 by lia]
theorem JJ{r:AD}(h:CH r 0 BV=0):∀k,sFN r k (λ_ _=>0)=λ_ _=>0
|0=>rfl
|k+1=>by
 show sF r (sFN r k λ_ _=>0)=_;rw[JJ h k]
 funext x y
 show(CH r ((0:Nat):Int) BV).toNat=0;rw[show((0:Nat):Int)=0 from rfl,h];rfl
theorem MG{r:AD}(h:CH r 0 BV=0){φ:D_}{k:Nat}{x y:Int}(z:sFN r k φ x y≠0):∃u v,x-k<=u/\u<=x+k/\y-k<=v/\v<=y+k/\φ u v≠0:=by
 refine K4 λno=>z ?_;have:=Ry r (φ:=φ) (ψ:=λ_ _=>0) (X:=0) (Y:=0) k x y λu v a b c d=>K4 λq=>no ⟨u,v,a,b,c,d,q⟩;rw[this,JJ h]
theorem bec_nn{r:AD}(h:GF r){cell:Int}(f:0<=cell)(a:I_):0<=CH r cell a:=by
 cases e:JB r cell a with
 |none=>rw[Nf e];exact f
 |some i =>
  obtain⟨c,b,d⟩:=Nd e;rw[d];exact(h.ok c (D6 b)).makes.1
theorem OB{r:AD}(e:GF r){c:Nat->Nat->Int}{φ:D_}{X Y:Int}:∀(k x y:Nat),k<=x->k<=y->(∀u v:Nat,x-k<=u->u<=x+k->y-k<=v->v<=y+k->c u v=(φ ((u:Int)+X) ((v:Int)+Y):Nat))->Bu r k c x y=(sFN r k φ ((x:Int)+X) ((y:Int)+Y):Nat)
|0,x,y,_,_,h=>h x y A0 A0 A0 A0
|k+1,x,y,hx,hy,h=>by
 have d:∀u v:Nat,x-1<=u->u<=x+1->y-1<=v->v<=y+1->Bu r k c u v=(sFN r k φ ((u:Int)+X) ((v:Int)+Y):Nat):=λu v f g i j=>OB e k u v A0 A0 λa b l m n o=>h a b A0 A0 A0 A0;show CH r (Bu r k c x y) [Bu r k c (x-1) (y-1),Bu r k c x (y-1),Bu r k c (x+1) (y-1),Bu r k c (x-1) y,Bu r k c (x+1) y,Bu r k c (x-1) (y+1),Bu r k c x (y+1),Bu r k c (x+1) (y+1)]=((sF r (sFN r k φ) ((x:Int)+X) ((y:Int)+Y):Nat):Int)
 unfold sF;rw[O4 (bec_nn e (Int.natCast_nonneg _) _)];rw[d x y A0 A0 A0 A0,d (x-1) (y-1) A0 A0 A0 A0,d x (y-1) A0 A0 A0 A0,d (x+1) (y-1) A0 A0 A0 A0,d (x-1) y A0 A0 A0 A0,d (x+1) y A0 A0 A0 A0,d (x-1) (y+1) A0 A0 A0 A0,d x (y+1) A0 A0 A0 A0,d (x+1) (y+1) A0 A0 A0 A0];rw[show((x-1:Nat):Int)+X=x+X-1 by lia,show((y-1:Nat):Int)+Y=y+Y-1 by lia,show((x+1:Nat):Int)+X=x+X+1 by lia,show((y+1:Nat):Int)+Y=y+Y+1 by lia]
theorem fld_jg{G:Gv}(ok:GOk G){r:AD}(F:GF r)(E:CH r 0 BV=0){l e f k:Nat}(d:An G f ((l+1+1:Nat):Int))(jr:JR r G e f k){φ:D_}(h:∀x y,fieldF G (l+1) f x y=φ x y)(far:∀x y,φ x y≠0->-(2^l)+2^e<=x/\x+2^e<2^l/\-(2^l)+2^e<=y/\y+2^e<2^l):An G k ((l+1:Nat):Int)/\∀x y,fieldF G l k x y=sFN r (2^e) φ x y:=by
 obtain⟨a,m,n,c,o⟩:=jr;have j:a=l:=by
  have:=m.one d;lia
 subst j;have p:((2^(a+1):Nat):Int)=2^a+2^a:=by rw[M5];exact Cm a
 have s:((2^a:Nat):Int)=2^a:=M5 2 a;have L:((2^e:Nat):Int)=2^e:=M5 2 e;have K:((2^(a+2):Nat):Int)=2^a+2^a+(2^a+2^a):=by
  rw[M5];show(2:Int)^(a+2)=_;rw[show(2:Int)^(a+2)=2^(a+1)+2^(a+1)from Cm (a+1),Cm]
 have le:2^e<=2^a:=N7 A3 n;refine⟨c,λx y=>?_⟩;by_cases z:-(2^a)<=x/\x<2^a/\-(2^a)<=y/\y<2^a
 .obtain⟨g,H,i,b2⟩:=z;have at':(fieldF G a k x y:Int)=Bu r (2^e) (CG G (a+2) f) ((x+2^a).toNat+2^a) ((y+2^a).toNat+2^a):=by
   rw[<-o _ _ A0 A0,Si ok c A0 A0];congr 2<;>lia
  have b:∀u:Int,-(2^a)<=u->((((u+2^a).toNat+2^a:Nat):Int)+-(2^(a+1)))=u:=λu I=>by
   rw[Cm,M9,s];lia
  rw[OB F (φ:=φ) (X:=-(2^(a+1))) (Y:=-(2^(a+1))) _ _ _ A0 A0 (λu v t A B C=>?_),b x g,b y i]at at'
  .exact K5 at'
  .rw[Si ok d A0 A0,h];rfl
 .unfold fieldF;rw[X9 z];refine(K4 λq=>?_);obtain⟨u,v,t,A,B,C,D⟩:=MG E (λw=>q w.symm);have:=far u v D;lia
def wl(W T l:Nat):Nat:=(W+2*T)/2^l+5
def OQ(ψ:D_)(l:Nat)(i j:Int):Sht:=λx y=>(ψ ((x:Int)+2^l*i) ((y:Int)+2^l*j):Nat)
theorem Ua{α β:Type}(f:α->List β)(m:α->Nat):∀l:List α,(∀x∈l,(f x).length<=m x)->(l.flatMap f).length<=(l.map m).sum
|[],_=>by simp
|a::l,h=>by
 have:=Ua f m l λx b=>h x (C8 _ b);have:=h a C9;rw[X6,C5,J3,P5];lia
theorem YN{l T W t:Nat}{x:Nat}{i X u:Int}(y:x<2^(l+2))(w:t<=T)(p:(x:Int)+2^l*i-t<=u)(r:u<=(x:Int)+2^l*i+t)(s:X<=u)(v:u<X+W):∃d,d<wl W T l/\i=(X-T)/2^l-3+((d:Nat):Int):=by
 have a:(0:Int)<2^l:=by have:=AK l;have e:((2^l:Nat):Int)=2^l:=M5 2 l;lia
 have z:((2^(l+2):Nat):Int)=2^l*4:=by rw[M5];show(2:Int)^(l+2)=_;rw[W7,W7];lia
 have m:(((W+2*T)/2^l:Nat):Int)=((W:Int)+2*T)/2^l:=by rw[U1,M5];rfl
 generalize j:(2:Int)^l=P at *
 generalize eq:(X-T)/P=q;have f:=Int.emod_add_mul_ediv (X-T) P;have g:=S0 (X-T) (Int.ne_of_gt a);have h:=O5 (X-T) a;rw[eq]at f;have n:=Int.emod_add_mul_ediv ((W:Int)+2*T) P;have o:=O5 ((W:Int)+2*T) a;generalize k:((W:Int)+2*T)/P=b at *
 have lo:P*(q-4)<P*i:=by rw[Int.mul_sub];lia
 have c:P*i<P*(q+b+2):=by rw[Z1,Z1];lia
 have lo:=Int.lt_of_mul_lt_mul_left lo (Int.le_of_lt a);have c:=Int.lt_of_mul_lt_mul_left c (Int.le_of_lt a);refine⟨(i-q+3).toNat,?_,by lia⟩;unfold wl;lia
seal L2.PA L2.PE L2.PS L2.PSs L2.PT L2.PW
def Uv(φ:D_)(k:Nat):Prop:=∀x y,φ x y≠0->-(2^40)+(k:Int)<=x/\x+k<2^40/\-(2^40)+(k:Int)<=y/\y+k<2^40
theorem nb1{x l w:Int}{k:Nat}(c:-2^40<=l-k)(d:l-k+(w+2*k)<=2^40)(a:l<=x)(b:x<l+w):-(2^40)+(k:Int)<=x/\x+k<2^40:=by lia
theorem nb2{l:Int}{k:Nat}(h:-(2^40)+(k:Int)<=l):-2^40<=l-k:=by lia
theorem nb3{l w:Int}{k:Nat}(h:l+w-1+k<2^40):l-k+(w+2*k)<=2^40:=by lia
theorem ZX {φ:D_} {b:Bx} (t:CI (λx y=>φ x y≠0) b) (k:Nat):FR (b.l-k) (b.t-k) (b.w+2*k) (b.h+2*k) (2^40)↔Uv φ k:=by
 constructor
 .rintro⟨a,c,d,e⟩ x y h;obtain⟨f,g,i,j⟩:=t.inn x y h;have q:=nb1 a d f g;exact⟨q.1,q.2,nb1 c e i j⟩
 .intro h;obtain⟨m,a⟩:=t.le;obtain⟨n,c⟩:=t.to;obtain⟨o,d⟩:=t.ri;obtain⟨p,e⟩:=t.bo;exact⟨nb2 (h _ _ a).1,nb2 (h _ _ c).2.2.1,nb3 (h _ _ d).2.1,nb3 (h _ _ e).2.2.2⟩
section
variable{P:N_}{w:Q_}{K:O_}{mg:C_}{base:T_}{a:Ad}
inductive SpChG(a:Ad)(vs:List V)(H:Hp)(Q:VK):Prop
|mk (g:GA) (G:Gv) (f n k:Nat) (_:vs=[.ref g.p,.int f,.int (k:Int)]) (_:AX a H g G) (_:An G f ((n+1:Nat):Int)) (_:n<48) (_:G.length<8000000) (_:Uv (fieldF G n f) k) (_:∀H',FrQ g H H'->AX a H' g G->Q .non H'):SpChG a vs H Q
def Zn(a:Ad):Sp:=λvs H Q _=>SpChG a vs H Q
theorem ok_chg'(F:Fun K "check_leap" "check_leap" IO f fd)(T:Top K mg a)(N:Cal P w K mg base CX0 1 "is_whole" UZ UD)(O:Cal P w K mg base CX0 102 "box_of" UX (Mx a))(M:Cal P w K mg base CX0 1 "lies_within" Qo QD):AL P w K mg base CX0 103 f fd Ji (Zn a):=by
 refine F.ok LO D_9 λS A v s H vs Q E q h=>?_
 obtain⟨g,G,U,n,k,rfl,C,I,r,few,X,D⟩:=h;refine⟨_,(Ac (AQ (PW.pt (Jz (CS (Cu (As N (rm q) Z Aq (Aa (pv 2) Ae)))) (JK (Az FH (pv 2) Ab (AF _))))) (Ai Bl) AC) (Ac (Ao (i:=3) LO.nd Z O_9 (As O (rm q) Z Aq (Aa (pv 0) (Aa (pv 1) Ae)))) (Ai (AQ (PW.pt (Mj (Az RF (pv 3) Cw (AF _)) (Ja (CS (Cu (As M (rm q) Z Aq (Bp (AV BI (Aj Ak (pv 3) Ab R_9) (pv 2) (AV BI (Aj Ak (pv 3) Ab R_9) (pv 2) (AV AO (Aj Ak (pv 3) Ab R_9) (AB DE Ab (pv 2)) (AV AO (Aj Ak (pv 3) Ab R_9) (AB DE Ab (pv 2)) Ae)))) (Aa (Cj Z T.k_LIMIT) Ae)))))))) (Ai Bl) AC)))),?_⟩
 try dsimp only[cxK]
 refine Bm ?_;intro r1 s1 k1 p Y;refine xq1 Z ⟨(k:Int),Z,true,Z,AY ?_⟩;refine xwb Z Z Z (xq1 Z ?_);rw[K1 A0];refine AY ?_;refine p ?_;refine Bm ?_;intro r2 s2 k2 e E2;refine xw2 Z Z ⟨g,G,U,n,Z,C,I,r,few,λz d o b=>?_,λR z t d o b c=>?_⟩
 .refine e ?_;refine xq1 Z ⟨Z,false,Z,AY ?_⟩;exact D d o b
 .refine e ?_;have L:=Fn C.ok I z;generalize mvB (2^n) R=B at c L;have c:d t=some (.tup [.int B.l,.int B.t,.int B.w,.int B.h]):=c;have W:=ZX L k;refine xq1 Z ⟨Z,true,Z,BY ?_⟩;refine xwi Z Z Z (SqT.of c) (Ah (j:=0) Z) (xwb Z Z Z ?_);refine xwi Z Z Z (SqT.of c) (Ah (j:=1) Z) (xwb Z Z Z ?_);refine xwi Z Z Z (SqT.of c) (Ah (j:=2) Z) (xwb Z Z Z ⟨.inl ⟨by decide,by decide⟩,(xq2 Z Z ?_)⟩);refine xwi Z Z Z (SqT.of c) (Ah (j:=3) Z) (xwb Z Z Z ⟨.inl ⟨by decide,by decide⟩,(xq2 Z Z ?_)⟩);refine⟨by show 4<=sizeLine;decide,λu V=>?_⟩;refine⟨u,B.l-k,B.t-k,B.w+2*k,B.h+2*k,2^40,Z,Af,?_⟩;generalize y:upd d u _=x;have m:AA d x:=y▸AG V;clear y;rw[K0 (W.mpr X)];exact⟨true,Z,AY (D x (o.trans (AA.frq m)) (b.same m))⟩
end
theorem bare0{G r:Gv}(e:G=G0++r)(ok:GOk G):An G (bareN 1) ((0+1:Nat):Int)/\JC G 0 (bareN 1)/\∀x y,fieldF G 0 (bareN 1) x y=0:=by
 refine⟨EE e (n:=1) A3,.inl Z,λx y=>?_⟩;unfold fieldF;by_cases z:-(2^0)<=x/\x<2^0/\-(2^0)<=y/\y<2^0
 .rw[K2 z];exact DB e ok (n:=1) A3 (by show _<2;have:(2:Int)^0=1:=rfl;lia) (by show _<2;have:(2:Int)^0=1:=rfl;lia)
 .rw[X9 z]
theorem nar{x a b c:Int}(h:-a<=x)(h':x<a)(e:a+c<=b):-b+c<=x/\x+c<b:=by lia
theorem near_lt{φ:D_}{k:Nat}(h:Uv φ k){x y:Int}(a:φ x y≠0):k<2^40:=by
 have:=h x y a;lia
theorem nr1{x u:Int}{t k:Nat}(tk:t<=k)(c:x-t<=u)(d:u<=x+t)(a:-(2^40)+(k:Int)<=u)(b:u+k<2^40):-(2^40)<=x/\x<2^40:=by lia
theorem Wi{r:AD}(o:CH r 0 BV=0){φ:D_}{k t:Nat}(h:Uv φ k)(tk:t<=k){x y:Int}(n:sFN r t φ x y≠0):-(2^40)<=x/\x<2^40/\-(2^40)<=y/\y<2^40:=by
 apply AR;intro b a;obtain⟨u,v,g,i,j,l,m⟩:=MG o n;obtain⟨c,d,e,f⟩:=h u v m;apply a;clear a b;have q:=nr1 tk g i c d;exact⟨q.1,q.2,nr1 tk j l e f⟩
theorem VD{G r:Gv}(e:G=G0++r)(ok:GOk G){n f:Nat}(c:n<=47)(t:JC G n f)(h:∀x y,fieldF G n f x y≠0->-(2^40)<=x/\x<2^40/\-(2^40)<=y/\y<2^40):n<=40:=by
 refine P8 λz=>?_;obtain⟨m,rfl⟩:∃m,n=m+1:=⟨n-1,by lia⟩
 obtain⟨x,y,b,a⟩:=SO e ok A0 t;have:=h x y a;have p:2^40<=2^m:=N7 A3 A0;have d:((2^m:Nat):Int)=2^m:=M5 2 m;lia
def SI(Κ:KTy)(r:AD)(φ:D_)(k:Nat):Prop:=∀(j l:Nat)(G:Gv)(f:Nat),k/2^j%2=1->j<=l->l<=41->GOk G->An G f ((l+1+1:Nat):Int)->(∀x y,fieldF G (l+1) f x y=sFN r (k%2^j) φ x y)->Κ l j (CG G (l+2) f)
def WL(H:Hp)(G:Gv)(ψ:D_)(ts:H_):Prop:=∃(t:R_)(sq e res l:Nat),ts.getLast?=some t/\H t=some (.tup [.int sq,.int e,.int res])/\l<=41/\An G res ((l+1:Nat):Int)/\∀x y,fieldF G l res x y=ψ x y
section
variable{P:N_}{w:Q_}{K:O_}{mg:C_}{base:T_}{a:Ad}
inductive SpRdG(a:Ad)(vs:List V)(H:Hp)(Q:VK):Prop
|mk (p dx mem pr:R_) (g:GA) (G:Gv) (Κ:KTy) (φ:D_) (N b:Nat) (r:AD) (m:MA) (f n k:Nat) (_:vs=[.ref p,.int f,.int (k:Int)]) (_:ZS a H g G Κ N b p dx mem pr r m) (_:Ng Κ N) (_:ClK r Κ) (_:SI Κ r φ k) (_:An G f ((n+1:Nat):Int)) (_:n<=40) (_:JC G n f) (_:∀x y,fieldF G n f x y=φ x y) (_:Uv φ k) (_:b+12000+10*N<7900000) (_:∀(L:R_)(ts:H_)(G':Gv)(H':Hp)(i:Nat),FrZ g m H H'->ZS a H' g G' Κ N (b+12000) p dx mem pr r m->AI G G' i->H L=none->H' L=some (.lst (ts.map V.ref))->((ts=[]/\∀x y,sFN r k φ x y=φ x y)\/WL H' G' (sFN r k φ) ts)->Q (.ref L) H'):SpRdG a vs H Q
def Zc(a:Ad):Sp:=λvs H Q _=>SpRdG a vs H Q
theorem ok_rdg(F:Fun K "road" "road" UJ f fd)(T:Top K mg a)(cE:Cal P w K mg base CX0 103 "check_leap" Ji (Zn a))(aZ:Cal P w K mg base CX0 1 "bare_field" RN (OA a))(cK:Cal P w K mg base CX0 5 "level_for" JQ (Zh a))(cC:Cal P w K mg base CX0 5 "widened_to" Je (spWT a))(bT:Cd P w K mg base CX0 149 a.c_Jumps "after" Qs (GT a 46))(aS:Cal P w K mg base CX0 4 "trimmed" Lu (Ni a)):AL P w K mg base CX0 150 f fd RE (Zc a):=by
 refine F.ok Eh (λvs H Q E h=>?_) (λcm A b8 s H vs Q E hr h=>?_)
 .apply AR;intro G_ I;obtain⟨p,dx,mem,pr,g,G,Κ,φ,N,b,r,m,f',n,k,rfl,_⟩:=h;apply I;clear I G_;rfl
 .apply AR;intro G_ I;obtain⟨p,dx,mem,pr,g,G,Κ,φ,N,b,r,m,f',n,k,rfl,zs,fin,cl,a9,lf,b6,tr,hf,nr,few,kn⟩:=h;apply I;clear I G_;refine⟨_,(Ac (Ao (i:=3) Eh.nd Z O_9 (AE (pv 0) Z)) (Ac (BJ (As cE (rm hr) Z Aq (Aa (pv 3) (Aa (pv 1) (Aa (pv 2) Ae))))) (Ac (Ao (i:=4) Eh.nd Z O_9 (BX Ae)) (Ac (Ao (i:=5) Eh.nd Z O_9 (pv 1)) (Ac (Ao (i:=6) Eh.nd Z O_9 (pv 2)) (Ac (Ao (i:=7) Eh.nd Z O_9 Ab) (Ac (JL A0b (PW.pt (Mj (Az Oc (pv 6) Ab (AF _)) (Ja (Az JY (pv 5) (As aZ (rm hr) Z Aq (Aa (pv 3) Ae)) (AF _))))) (Ac (AQ (Az CK (AB Bc (pv 6) Ab) Ab (AF _)) (Ac (Ao (i:=8) Eh.nd Z O_9 (As cC (rm hr) Z Aq (Aa (pv 3) (Aa (pv 5) (Aa (As cK (rm hr) Z Aq (Aa (pv 3) (Aa (pv 5) (Aa (pv 7) Ae)))) Ae))))) (Ac (Ao (i:=9) Eh.nd Z O_9 (AJ (pv 0) bT (rm hr) Aq (Aa (pv 8) (Aa (pv 7) Ae)))) (Ac (BJ (De K8 K9 A0a BF (pv 4) (Bp (Aa (pv 8) (Aa (pv 7) (Aa (pv 9) Ae))) Ae))) (Ai (Ao (i:=5) Eh.nd Z O_9 (As aS (rm hr) Z Aq (Aa (pv 3) (Aa (pv 9) Ae)))))))) AC) (Ac (Ao (i:=6) Eh.nd Z O_9 (AB Do (pv 6) Ab)) (Ai (Ao (i:=7) Eh.nd Z O_9 (AB AO (pv 7) Ab)))))) (Ai (Av (pv 4)))))))))),?_⟩
  try dsimp only[cxK]
  have sz:=zs.jz.sz fin;have re:=zs.jz.jw.rest;have ro:=zs.jz.jw.rok;refine Bm ?_;intro r1 s1 k1 bm E1;refine xwf Z Z zs.jz.jw.hp T.cl_Jumps T.na_Jumps_grove (DY _ _ _ _ _) ?_;refine bm ?_;refine Bm ?_;intro r2 s2 k2 bn E2;refine xw3 Z Z Z ⟨g,G,f',n,k,Z,zs.fu,lf,by lia,by lia,(λx y h=>nr x y (by rw[<-hf];exact h)),λH1 fq bb=>?_⟩;have au:=zs.frQ fq bb;have bc:FrZ g m H H1:=FrQ.z fq;refine bn ?_;refine Bm ?_;intro r3 s3 k3 bo E3;refine⟨by show 0<=sizeLine;decide,λL nL=>?_⟩;generalize eH:upd H1 L _=H2;have a7:AA H1 H2:=eH▸AG nL;have bh:H2 L=some (.lst (([]:H_).map V.ref)):=eH▸Af;clear eH;have cg:=au.same a7;obtain⟨a6,cs⟩:=au.new nL;have O:=au.ap nL;refine bo ?_;refine Bm ?_;intro r4 s4 k4 bp E4;refine xq1 Z (bp ?_);refine Bm ?_;intro r5 s5 k5 bq E5;refine xq1 Z (bq ?_);refine Bm ?_;intro r6 s6 k6 br E6;refine br ?_;refine Bm ?_;intro r7 s7 k7 bt E7;have ax:H L=none:=by
   cases e:H L with
   |none=>rfl
   |some o =>
    have h1:=fq L o e (λz=>a6 (by simp[z])) (λz=>a6 (by simp[z]));rw[nL]at h1;cases h1
  have bd:FrZ g m H H2:=bc.trans (AA.z a7);have bl:k/2^0=k:=by rw[Nat.pow_zero,Nat.div_one]
  have a2:k%2^0=0:=by rw[Nat.pow_zero,Nat.mod_one]
  refine⟨fun μ σ H3=>∃(j:Nat)(C:Gv)(B:H_)(h c:Nat)(u8 u9:Option V)(i:Nat),σ=[some (.ref p),some (.int f'),some (.int (k:Int)),some (.ref g.p),some (.ref L),some (.int h),some (.int ((k/2^j:Nat):Int)),some (.int (j:Int)),u8,u9]/\j+μ=41/\FrZ g m H H3/\ZS a H3 g C Κ N (b+270*B.length) p dx mem pr r m/\AI G C i/\H3 L=some (.lst (B.map V.ref))/\B.length<=j/\(c<=40/\An C h ((c+1:Nat):Int)/\JC C c h/\∀x y,fieldF C c h x y=sFN r (k%2^j) φ x y)/\((B=[]/\∀x y,sFN r (k%2^j) φ x y=φ x y)\/WL H3 C (sFN r (k%2^j) φ) B),⟨41,0,G,[],f',n,none,none,0,(by rw[bl];rfl),Z,bd,cg,AI.refl zs.fu.ok,bh,C1 _,⟨b6,lf,tr,by rw[a2];exact hf⟩,.inl ⟨Z,by rw[a2];exact λ_ _=>Z⟩⟩,?_⟩;rintro μ σ H3 cf;apply AR;intro G_ I;obtain⟨j,C,B,h,c,u8,u9,i,rfl,jm,am,D,an,ao,tl,⟨ak,lh,th,fh⟩,la⟩:=cf;apply I;clear I G_;have cy:=D.jz.sz fin;obtain⟨cv,e3⟩:=D.fu.g0;have aj:(k/2^j=0\/h=bareN 1)->k7 [some (.ref p),some (.int f'),some (.int (k:Int)),some (.ref g.p),some (.ref L),some (.int h),some (.int ((k/2^j:Nat):Int)),some (.int (j:Int)),u8,u9] H3:=λex=>by
   have eq:sFN r k φ=sFN r (k%2^j) φ:=by
    rcases ex with ex|rfl
    .have:k%2^j=k:=by
      have:=M8 k (2^j);rw[ex,Nat.mul_zero,N3]at this;exact this
     rw[this]
    .obtain⟨b1,b2,b3⟩:=bare0 e3 D.fu.ok;have n0:c=0:=by
      have:=lh.one b1;lia
     subst n0;have z:sFN r (k%2^j) φ=λ_ _=>0:=by
      funext x y
      rw[<-fh,b3]
     have:=IZ r φ (k%2^j) (2^j*(k/2^j));rw[M8]at this;rw[this,z,JJ re]
   refine bt ?_;refine xq1 Z (kn L B C H3 i am (D.mono A0) an ax ao ?_);rw[eq];exact la
  refine xwb Z Z Z (xq1 Z (Ip (λY=>?_) (λY=>?_)))
  .have Y:((k/2^j:Nat):Int) > 0:=A0d Y;have kj:k/2^j≠0:=by lia
   refine xw2 Z Z ⟨g,C,Z,D.fu,Z,(xq1 Z ?_)⟩;by_cases hb:h=bareN 1
   .subst hb;rw[K0 rfl];exact AY (aj (.inr Z))
   .rw[K1 (λz=>hb (by injection z with z;exact K5 z))];refine BY ?_;obtain⟨x0,y0,h0⟩:∃x y,φ x y≠0:=by
     refine K4 λno=>hb ?_;have z:φ=λ_ _=>0:=by
      funext x y
      exact K4 λz=>no ⟨x,y,z⟩
     obtain⟨b1,b2,b3⟩:=bare0 e3 D.fu.ok;refine(PV e3 D.fu.ok A0 A3 lh b1 th b2 λx y=>?_).2;rw[b3,fh,z,JJ re]
    have bx:=near_lt nr h0;have co:j<40:=by
     refine V9 λz=>kj (M6 (F5 bx (N7 A3 z)))
    refine⟨fun σ' S=>∃(j:Nat)(C:Gv)(B:H_)(h c:Nat)(u8 u9:Option V)(i:Nat),σ'=[some (.ref p),some (.int f'),some (.int (k:Int)),some (.ref g.p),some (.ref L),some (.int h),some (.int ((k/2^j:Nat):Int)),some (.int (j:Int)),u8,u9]/\j+(μ-1)=41/\FrZ g m H S/\ZS a S g C Κ N (b+270*B.length) p dx mem pr r m/\AI G C i/\S L=some (.lst (B.map V.ref))/\B.length<=j/\(c<=40/\An C h ((c+1:Nat):Int)/\JC C c h/\∀x y,fieldF C c h x y=sFN r (k%2^j) φ x y)/\((B=[]/\∀x y,sFN r (k%2^j) φ x y=φ x y)\/WL S C (sFN r (k%2^j) φ) B),fun σ' S z=>⟨μ-1,by lia,z⟩,?_⟩;have dv:k/2^(j+1)=k/2^j/2:=by rw[J0,W5]
    have md:k%2^(j+1)=k%2^j+2^j*(k/2^j%2):=Nat.mod_pow_succ;refine Bm ?_;intro r8 s8 k8 bu E8;apply PL (T:=k8) (fun σ' S=>∃(C:Gv)(B:H_)(h c:Nat)(u8 u9:Option V)(i:Nat),σ'=[some (.ref p),some (.int f'),some (.int (k:Int)),some (.ref g.p),some (.ref L),some (.int h),some (.int ((k/2^j:Nat):Int)),some (.int (j:Int)),u8,u9]/\FrZ g m H S/\ZS a S g C Κ N (b+270*B.length) p dx mem pr r m/\AI G C i/\S L=some (.lst (B.map V.ref))/\B.length<=j+1/\(c<=40/\An C h ((c+1:Nat):Int)/\JC C c h/\∀x y,fieldF C c h x y=sFN r (k%2^(j+1)) φ x y)/\((B=[]/\∀x y,sFN r (k%2^(j+1)) φ x y=φ x y)\/WL S C (sFN r (k%2^(j+1)) φ) B))
    .intro aa;refine xwb Z Z Z ⟨B7,Z,(xq1 Z (Ip (λY=>?_) (λY=>?_)))⟩
     .have Y:((k/2^j:Nat):Int)%2=1:=by
       have:=A0d Y;injection this
      have od:k/2^j%2=1:=by lia
      have tk:2^j+k%2^j<=k:=by
       have d:=M8 k (2^j);have p:2^j*1<=2^j*(k/2^j):=M4 _ A0;lia
      refine Bm ?_;intro r9 s9 k9 ar E9;refine xw3 Z Z Z (xw2 Z Z ⟨g,C,h,c,j,Z,D.fu.at',lh,ak,by lia,λl a4 nl jl le=>?_⟩);have el:c+(l+1-c)+1=l+2:=by lia
      refine⟨g,C,h,c,l+1-c,by rw[el];rfl,D.fu,lh,by lia,by lia,λv G2 S al U W wn lv=>?_⟩;have R:=D.fr al U W;have cz:=R.jz.sz fin;obtain⟨r4,e4⟩:=U.g0;have wf:∀x y,fieldF G2 (l+1) v x y=sFN r (k%2^j) φ x y:=λx y=>by
       have:=IG e4 U.ok (k:=l+1-c) (w:=v) A0 wn x y;rw[show c+(l+1-c)=l+1 by lia]at this;rw[this,Ec D.fu.ok W lh,fh]
      have af:An G2 v ((l+1+1:Nat):Int):=by rw[show l+1+1=c+(l+1-c)+1 by lia];exact lv
      have aw:=an.trans W;refine ar ?_;refine Bm ?_;intro ct cw cp a0 cj;refine xwn Z Z R.jz.jw.hp (Yg _ _ _ _ _) Z (xq1 Z ⟨p,dx,mem,pr,g,G2,Κ,N,_,r,m,v,l,j,Z,R.jz,fin,cl,af,by lia,jl,a9 j l G2 v od jl a4 U.ok af wf,by lia,λM G3 H5 i5 fj bw ad jr up=>?_⟩);have ah:=R.aft fj bw ad;have c0:=ah.jz.sz fin;have bf:FrZ g m H H5:=(am.trans (Fr.z al)).trans (FrJ.z fj);have cd:∀x y,fieldF G3 (l+1) v x y=sFN r (k%2^j) φ x y:=λx y=>by rw[Ec U.ok ad af];exact wf x y
      obtain⟨lr,rs⟩:=fld_jg ah.fu.ok ro re (ad.lev af) jr cd (λx y ae=>by
       rw[<-fh]at ae;have a5:(2:Int)^c+2^j<=2^l:=by exact_mod_cast le
       obtain⟨h1,h2,h3,h4⟩:=K4 λz:¬(-(2^c)<=x/\x<2^c/\-(2^c)<=y/\y<2^c)=>ae (by unfold fieldF;rw[X9 z]);have q:=nar h1 h2 a5;exact⟨q.1,q.2,nar h3 h4 a5⟩)
      have rs:∀x y,fieldF G3 l M x y=sFN r (k%2^(j+1)) φ x y:=λx y=>by rw[rs,<-IZ,md,od,Nat.mul_one,S7]
      have ay:H5 L=some (.lst (B.map V.ref)):=FrJ.z fj _ _ (Fr.z (m:=m) al _ _ ao O.n0 O.n1) O.n0 O.n1;refine a0 ?_;refine Bm ?_;intro cu cx cq a1 ck;refine xq1 Z ⟨.inl ⟨Z,_,SqL.of ay⟩,(xw3 Z Z Z ⟨by show 3<=sizeLine;decide,λt nt=>?_⟩)⟩;have ag:=AG (o:=.tup [.int (v:Int),.int (j:Int),.int (M:Int)]) nt;have as:upd H5 t (.tup [.int (v:Int),.int (j:Int),.int (M:Int)]) t=some (.tup [.int (v:Int),.int (j:Int),.int (M:Int)]):=Af;generalize upd H5 t (.tup [.int (v:Int),.int (j:Int),.int (M:Int)])=H6 at ag as⊢;have ch:=ah.same ag;have aq:=ag _ _ ay;refine⟨L,(xq2 Z Z ⟨aq,by rw[B8];exact EH A0,?_⟩)⟩;have ai:=ch.putL (o:=.lst (B.map V.ref++[.ref t])) aq O;have a3:upd H6 L (.lst (B.map V.ref++[.ref t])) t=some (.tup [.int (v:Int),.int (j:Int),.int (M:Int)]):=by rw[Aw (AH as aq A4)];exact as
      have av:FrZ g m H (upd H6 L (.lst (B.map V.ref++[.ref t]))):=λb' o e n1 n2=>by
       rw[Aw (Ay e ax)];exact ag _ _ (bf _ _ e n1 n2)
      have az:upd H6 L (.lst (B.map V.ref++[.ref t])) L=some (.lst ((B++[t]).map V.ref)):=by rw[Af,C7];rfl
      generalize upd H6 L (.lst (B.map V.ref++[.ref t]))=H7 at ai a3 av az⊢;refine a1 ?_;refine xw2 Z Z ⟨g,G3,M,l,Z,ai.fu,lr,by lia,λnw G8 H8 ab ac X cb=>?_⟩;have ci:=ai.fr ab ac X;obtain⟨r8,e8⟩:=ac.g0;obtain⟨m8,cr,b0,a8,ba⟩:=FX e8 ac.ok A0 (X.lev lr) cb;have fa:∀x y,fieldF G8 l M x y=sFN r (k%2^(j+1)) φ x y:=λx y=>by rw[Ec ah.fu.ok X lr];exact rs x y
      have fe:∀x y,fieldF G8 m8 nw x y=sFN r (k%2^(j+1)) φ x y:=λx y=>by rw[ba,fa]
      have b9:k%2^(j+1)<=k:=Nat.mod_le _ _;have b4:=VD e8 ac.ok A0 a8 (λx y ae=>Wi re nr b9 (by rw[<-fe];exact ae));have bv:=ai.keep (Fr.z ab) a3 (by intro xs z;cases z) (by intro xs z;cases z) (by intro xs z;cases z);have bj:H8 L=some (.lst ((B++[t]).map V.ref)):=Fr.z (m:=m) ab _ _ az O.n0 O.n1;have bg:=(aw.trans ad).trans X;refine aa _ _ ⟨G8,B++[t],nw,m8,_,_,_,Z,av.trans (Fr.z ab),ci.mono ?_,bg,bj,by rw[C5];show B.length+1<=_;lia,⟨b4,b0,a8,fe⟩,.inr ⟨t,v,j,M,l,by rw[List.getLast?_append];rfl,bv,a4,X.lev lr,fa⟩⟩;rw[C5];show _<=b+270*(B.length+1)
      lia
     .have Y:¬((k/2^j:Nat):Int)%2=1:=λz=>Y (K0 (A0c V.int z));have ev:k/2^j%2=0:=by lia
      have md:k%2^(j+1)=k%2^j:=by rw[md,ev,Nat.mul_zero,X4]
      exact aa _ _ ⟨C,B,h,c,u8,u9,i,Z,am,D,an,ao,by lia,by rw[md];exact⟨ak,lh,th,fh⟩,by rw[md];exact la⟩
    .rintro σ' S ce;apply AR;intro G_ I;obtain⟨G2,cc,h2,b7,v8,v9,i2,rfl,be,R,W,bi,ca,b5,bz⟩:=ce;apply I;clear I G_;refine bu ?_;refine Bm ?_;intro r9 s9 k9 ar E9;refine xwb Z Z Z ⟨⟨by decide,by decide⟩,?_⟩;refine ar ?_;have ed:((k/2^j:Nat):Int)/2=((k/2^(j+1):Nat):Int):=by rw[dv];lia
     have ej:(j:Int)+1=((j+1:Nat):Int):=by lia
     refine xwb Z Z Z ⟨j+1,G2,cc,h2,b7,v8,v9,i2,?_,by lia,be,R,W,bi,ca,b5,bz⟩;exact(A0c (λu:Int=>[some (V.ref p),some (V.int f'),some (V.int (k:Int)),some (V.ref g.p),some (V.ref L),some (V.int h2),some (V.int u),some (V.int ((j:Int)+1)),v8,v9]) ed).trans (A0c (λv:Int=>[some (V.ref p),some (V.int f'),some (V.int (k:Int)),some (V.ref g.p),some (V.ref L),some (V.int h2),some (V.int ((k/2^(j+1):Nat):Int)),some (V.int v),v8,v9]) ej)
  .have Y:¬((k/2^j:Nat):Int) > 0:=λz=>Y (K0 z);exact AY (aj (.inl A0))
end
theorem ifT{b:Bool}{A B:Prop}(h:b=true)(x:A):if b=true then A else B:=by rw[h];exact BY x
theorem ifF{b:Bool}{A B:Prop}(h:b=false)(x:B):if b=true then A else B:=by rw[h];exact AY x
structure Fv(G:Gv)(f:Nat)(φ:D_):Prop where
ex:∃n:Nat,n<=40/\An G f ((n+1:Nat):Int)/\JC G n f/\∀x y,fieldF G n f x y=φ x y
theorem Fv.app{G a:Gv}{k f:Nat}{φ:D_}(ok:GOk G)(go:AI G a k)(h:Fv G f φ):Fv a f φ:=by
 obtain⟨n,c,b,d,e⟩:=h.ex;exact⟨n,c,go.lev b,d.app go,λx y=>by rw[Ec ok go b];exact e x y⟩
theorem Fv.to{G:Gv}{f:Nat}{φ ψ:D_}(h:Fv G f φ)(e:∀x y,φ x y=ψ x y):Fv G f ψ:=by
 obtain⟨n,a,b,c,d⟩:=h.ex;exact⟨n,a,b,c,λx y=>by rw[d,e]⟩
section
variable{P:N_}{w:Q_}{K:O_}{mg:C_}{base:T_}{a:Ad}
inductive SpJpG(a:Ad)(vs:List V)(H:Hp)(Q:VK):Prop
|mk (p dx mem pr:R_) (g:GA) (G:Gv) (Κ:KTy) (φ:D_) (N b:Nat) (r:AD) (m:MA) (f k:Nat) (_:vs=[.ref p,.int f,.int (k:Int)]) (_:ZS a H g G Κ N b p dx mem pr r m) (_:Ng Κ N) (_:ClK r Κ) (_:SI Κ r φ k) (_:Fv G f φ) (_:Uv φ k) (_:b+12000+10*N<7900000) (_:∀(d:Nat)(G':Gv)(H':Hp)(i:Nat),FrZ g m H H'->ZS a H' g G' Κ N (b+12048) p dx mem pr r m->AI G G' i->Fv G' d (sFN r k φ)->Q (.int d) H'):SpJpG a vs H Q
def VT(a:Ad):Sp:=λvs H Q _=>SpJpG a vs H Q
theorem ok_jpg(F:Fun K "jump" "jump" UK f fd)(T:Top K mg a)(dH:Cal P w K mg base CX0 150 "road" RE (Zc a))(aS:Cal P w K mg base CX0 4 "trimmed" Lu (Ni a)):AL P w K mg base CX0 151 f fd RE (VT a):=by
 refine F.ok VY D_9 λag A ad s H vs Q E hr h=>?_
 obtain⟨p,dx,mem,pr,g,G,Κ,φ,N,b,r,m,f',k,rfl,zs,fin,cl,I,fv,nr,few,kn⟩:=h;obtain⟨n,ac,lf,tr,hf⟩:=id fv.ex;have re:=zs.jz.jw.rest;refine⟨_,(Ac (Ao (i:=3) VY.nd Z O_9 (As dH (rm hr) Z Aq (Aa (pv 0) (Aa (pv 1) (Aa (pv 2) Ae))))) (Ac (AQ (Az CK (AU Ca Z T.b_len A1e (Aa (pv 3) Ae)) Ab (AF _)) (Ai (Av (pv 1))) AC) (Ai (Av (As aS (rm hr) Z Aq (Aa (AE (pv 0) Z) (Aa (Aj Ak (Aj Ax (pv 3) (Iz EI Ab) R_9) Ab R_9) Ae))))))),?_⟩
 try dsimp only[cxK]
 refine Bm ?_;intro r1 s1 k1 S E1;refine xw3 Z Z Z (.mk p dx mem pr g G Κ φ N b r m f' n k Z zs fin cl I lf ac tr hf nr few (λL u G1 H1 i1 B c q nL hL M=>?_));refine S ?_;refine Bm ?_;intro r2 s2 k2 U E2;refine⟨_,Z,L,_,Z,.inl (SqL.of hL),Z,_,Z,?_⟩;rcases M with ⟨rfl,M⟩|⟨t,sq,e,C,l,X,ht,ah,Y,rs⟩
 .exact ifT Z ⟨_,Z,kn f' G1 H1 i1 B (c.mono A0) q ((fv.app zs.fu.ok q).to λx y=>(M x y).symm)⟩
 .have ne:u≠[]:=λz=>by rw[z]at X;cases X
  have tl:1<=u.length:=U6.mpr ne;refine ifF (K1 (λz=>by injection z with z;rw[B8]at z;lia)) ?_;refine U ?_;have li:atI (u.map V.ref) (-1)=some (.ref t):=by
   unfold atI;have:ixN (u.map V.ref).length (-1)=some (u.length-1):=by
    unfold ixN;rw[B8,X9 A3,K2 A0];congr 1;lia
   rw[this];show(u.map V.ref)[u.length-1]?=_;rw[C0,<-List.getLast?_eq_getElem?,X];rfl
  refine xwf Z Z c.jz.jw.hp T.cl_Jumps T.na_Jumps_grove (DY _ _ _ _ _) ?_;refine⟨_,Z,1,Z,L,_,-1,.ref t,Z,Z,SqL.of hL,li,t,_,2,.int (C:Int),Z,Z,SqT.of ht,Ah (j:=2) Z,?_⟩;have aj:=c.jz.sz fin;refine⟨g,G1,C,l,Z,c.fu,Y,by lia,λnh G8 H8 v d o ae=>?_⟩;have af:=c.fr v d o;obtain⟨r8,e8⟩:=d.g0;obtain⟨m8,ai,aa,D,O⟩:=FX e8 d.ok A0 (o.lev Y) ae;have R:=q.trans o;have fe:∀x y,fieldF G8 m8 nh x y=sFN r k φ x y:=λx y=>by rw[O,Ec c.fu.ok o Y];exact rs x y
  have ab:=VD e8 d.ok A0 D (λx y W=>Wi re nr (C1 k) (by rw[<-fe];exact W));exact kn nh G8 H8 _ (B.trans (Fr.z v)) (af.mono A0) R ⟨m8,ab,aa,D,fe⟩
end
end J
namespace J
open PySem L2
def stC:List Cl->Int->Int->Nat
|[],_,_=>0
|c::cs,x,y=>if x=c.x/\y=c.y then c.s else stC cs x y
theorem Yx{G v:Gv}(a:G=G0++v)(ok:GOk G){cs:List Cl}{n f:Nat}(h:SE G cs n f):(∀c∈cs,c.s<8)->JC G n f/\∀x y,fieldF G n f x y=stC cs x y:=by
 induction h with
 |nil =>
  intro _;refine⟨.inl Z,λx y=>?_⟩;unfold fieldF;split
  .rename_i z;exact DB a ok A3 (FF z.1 z.2.1) (FF z.2.2.1 z.2.2.2)
  .rfl
 |@cons cs c n f r k w i m h l p o j =>
  intro b;obtain⟨t,e⟩:=j λc g=>b c (C8 _ g);obtain⟨u,_,q,A,d⟩:=Tv a ok (b c (C9 ..)) p;have:u=m:=by
   have:=K5 (q.uniq o);lia
  subst this;refine⟨A,λx y=>?_⟩;rw[d x y,e x y];rfl
def kvC(ds:List Cl):List (List Key×V):=ds.map λc=>(kOf [c.x,c.y],V.int (c.s:Int))
theorem OJ:∀{ds:List Cl},(ds.map λc=>(c.x,c.y)).Nodup->∀{c:Cl},c∈ds->Br (kvC ds) (kOf [c.x,c.y])=some (.int (c.s:Int))
|d::ds,nd,c,a=>by
 rw[J3,N8]at nd;show Br ((kOf [d.x,d.y],V.int (d.s:Int))::kvC ds) (kOf [c.x,c.y])=_;rcases C3.mp a with rfl|a
 .exact BN Z
 .rw[BB λz=>?_]
  .exact OJ nd.2 a
  .have z:=Lx z;injection z with z1 z
   injection z with z2 z
   exact nd.1 (D3.mpr ⟨c,a,by rw[z1,z2]⟩)
def NA(ds:List Cl)(c:Cl):List Cl:=if ds.any (λd=>decide (d.x=c.x/\d.y=c.y))=true then ds.map (λd=>if d.x=c.x/\d.y=c.y then c else d)else ds++[c]
theorem mem_putC{ds:List Cl}{c d:Cl}:d∈NA ds c↔d=c\/(d∈ds/\¬(d.x=c.x/\d.y=c.y)):=by
 unfold NA;by_cases h:ds.any (λd=>decide (d.x=c.x/\d.y=c.y))=true
 .rw[K2 h,D3];obtain⟨z,g,b⟩:=U0.mp h;have b:=A0d b;constructor
  .rintro⟨e,f,rfl⟩;by_cases q:e.x=c.x/\e.y=c.y
   .rw[K2 q];exact .inl Z
   .rw[X9 q];exact .inr ⟨f,q⟩
  .rintro(rfl|⟨a,q⟩)
   .exact⟨z,g,K2 b⟩
   .exact⟨d,a,X9 q⟩
 .rw[X9 h,F4,D4];have no:∀e∈ds,¬(e.x=c.x/\e.y=c.y):=λe f q=>h (U0.mpr ⟨e,f,K0 q⟩);constructor
  .rintro(a|rfl)
   .exact .inr ⟨a,no d a⟩
   .exact .inl Z
  .rintro(rfl|⟨a,_⟩)
   .exact .inr Z
   .exact .inl a
theorem len_putC(ds:List Cl)(c:Cl):(NA ds c).length<=ds.length+1:=by
 unfold NA;split
 .rw[B8];lia
 .rw[C5];exact C1 _
theorem nd_putC {ds:List Cl} {c:Cl} (h:(ds.map λc=>(c.x,c.y)).Nodup):((NA ds c).map λc=>(c.x,c.y)).Nodup:=by
 unfold NA;by_cases q:ds.any (λd=>decide (d.x=c.x/\d.y=c.y))=true
 .rw[K2 q,N4];have:((λc:Cl=>(c.x,c.y)) ∘ λd=>if d.x=c.x/\d.y=c.y then c else d)=λd=>(d.x,d.y):=by
   funext d
   show((if d.x=c.x/\d.y=c.y then c else d).x,(if d.x=c.x/\d.y=c.y then c else d).y)=(d.x,d.y)
   split
   .rename_i z;rw[z.1,z.2]
   .rfl
  rw[this];exact h
 .rw[X9 q,C7,Q7];refine⟨h,by simp,λa g b f e=>q ?_⟩;obtain⟨d,i,rfl⟩:=D3.mp g;rw[J3,X5,D4]at f;rw[f]at e;injection e with e1 e2
  exact U0.mpr ⟨d,i,K0 ⟨e1,e2⟩⟩
theorem kv_putC(ds:List Cl)(c:Cl):DI (kvC ds) (kOf [c.x,c.y]) (.int (c.s:Int))=kvC (NA ds c):=by
 have a:∀d:Cl,(kOf [d.x,d.y]=kOf [c.x,c.y])↔(d.x=c.x/\d.y=c.y):=λd=>⟨λz=>by
  have z:=Lx z;injection z with z1 z
  injection z with z2 z
  exact⟨z1,z2⟩,λz=>by rw[z.1,z.2]⟩
 unfold DI NA kvC;rw[List.any_map];have:((λb:List Key×V=>decide (b.1=kOf [c.x,c.y])) ∘ λc:Cl=>(kOf [c.x,c.y],V.int (c.s:Int)))=λd=>decide (d.x=c.x/\d.y=c.y):=by
  funext d
  exact decide_eq_decide.mpr (a d)
 rw[this];split
 .rw[N4,N4];congr 1
  funext d
  show(if kOf [d.x,d.y]=kOf [c.x,c.y]then(kOf [d.x,d.y],V.int (c.s:Int))else(kOf [d.x,d.y],V.int (d.s:Int)))=(kOf [(if d.x=c.x/\d.y=c.y then c else d).x,(if d.x=c.x/\d.y=c.y then c else d).y],V.int ((if d.x=c.x/\d.y=c.y then c else d).s:Int))
  by_cases q:d.x=c.x/\d.y=c.y
  .rw[K2 ((a d).mpr q),K2 q,q.1,q.2]
  .rw[X9 λz=>q ((a d).mp z),X9 q]
 .rw[C7];rfl
theorem dput{H:Hp}{D t:R_}{ds:List Cl}{c:Cl}(e:H D=some (.dT (kvC ds)))(a:H t=some (.tup [.int c.x,.int c.y]))(b:ds.length<1000):LN H D (.ref t) (.int (c.s:Int)) (upd H D (.dT (kvC (NA ds c)))):=by
 rw[<-kv_putC];exact LN.t (k:=kOf [c.x,c.y]) e a (EH (by rw[show(kvC ds).length=ds.length from B8 _];lia))
structure YJ(ds:List Cl)(φ:D_):Prop where
nd:(ds.map λc=>(c.x,c.y)).Nodup
mem:∀c:Cl,c∈ds↔(1<=c.s/\φ c.x c.y=c.s)
theorem stC_ds{ds:List Cl}{φ:D_}(h:YJ ds φ)(x y:Int):stC ds.reverse x y=φ x y:=by
 have g:∀{a:List Cl},(∀c∈a,1<=c.s/\φ c.x c.y=c.s)->(∃c∈a,c.x=x/\c.y=y)->stC a x y=φ x y:=by
  intro a;induction a with
  |nil=>rintro _ ⟨c,b,_⟩;cases b
  |cons d a f =>
   intro e ⟨c,b,j,k⟩;show(if x=d.x/\y=d.y then d.s else stC a x y)=_;by_cases q:x=d.x/\y=d.y
   .rw[K2 q,q.1,q.2];exact(e d (C9 ..)).2.symm
   .rw[X9 q];refine f (λc b=>e c (C8 _ b)) ?_;rcases C3.mp b with rfl|b
    .exact absurd ⟨j.symm,k.symm⟩ q
    .exact⟨c,b,j,k⟩
 have i:∀{a:List Cl},(∀c∈a,¬(c.x=x/\c.y=y))->stC a x y=0:=by
  intro a;induction a with
  |nil=>intro _;rfl
  |cons d a f =>
   intro e;show(if x=d.x/\y=d.y then d.s else stC a x y)=_;rw[X9 λq=>e d (C9 ..) ⟨q.1.symm,q.2.symm⟩];exact f λc b=>e c (C8 _ b)
 by_cases z:φ x y=0
 .rw[z];refine i λc b q=>?_;obtain⟨m,l⟩:=(h.mem c).mp (W0.mp b);rw[q.1,q.2,z]at l;lia
 .refine g (λc b=>(h.mem c).mp (W0.mp b)) ⟨⟨x,y,φ x y⟩,W0.mpr ((h.mem _).mpr ⟨by show 1<=φ x y;lia,Z⟩),Z,Z⟩
seal L2.PA L2.PE L2.PS L2.PSs L2.PT L2.PW
def FrO(d:R_)(H H':Hp):Prop:=∀b o,H b=some o->b≠d->H' b=some o
theorem FrO.fx{c:R_}{H d:Hp}{kvs:List (List Key×V)}(a:Rd H c (.dT kvs))(f:FrO c H d):Fx [c] H d:=λb o e z=>by
 refine f b o e λy=>?_;subst y;have z:=z (D4.mpr Z);rcases a with a|⟨g,a⟩<;>rw[e]at a<;>cases a<;>exact z
theorem Mu:∀(cs:List Cl)(x y:Int),(∃c∈cs,c.x=x/\c.y=y/\stC cs x y=c.s)\/((∀c∈cs,¬(c.x=x/\c.y=y))/\stC cs x y=0)
|[],_,_=>.inr ⟨(λc g=>nomatch g),Z⟩
|c::cs,x,y=>by
 by_cases z:x=c.x/\y=c.y
 .exact .inl ⟨c,C9,z.1.symm,z.2.symm,K2 z⟩
 .have e:stC (c::cs) x y=stC cs x y:=X9 z;rw[e];rcases Mu cs x y with ⟨d,a,h⟩|⟨b,f⟩
  .exact .inl ⟨d,C8 _ a,h⟩
  .refine .inr ⟨λd a=>?_,f⟩;rcases C3.mp a with rfl|a
   .exact λq=>z ⟨q.1.symm,q.2.symm⟩
   .exact b d a
def clI(q:It3):Cl:=⟨q.x,q.y,(q.r.headD 0).toNat⟩
theorem Wa{H:Hp}:∀{e:H_}{ds:List Cl},Paired (SG H) e ds->∃b:List It3,(b.map λq=>V.ref q.a)=e.map V.ref/\b.map clI=ds/\∀q∈b,SG H q.a (clI q)/\H q.a=some (.tup (q.ns.map V.int))
|_,_,.nil=>⟨[],Z,Z,λq d=>by cases d⟩
|t::e,c::ds,.cons h pr=>by
 obtain⟨b,g,i,hit⟩:=Wa pr;have f:clI ⟨t,c.x,c.y,[(c.s:Int)]⟩=c:=rfl;refine⟨⟨t,c.x,c.y,[(c.s:Int)]⟩::b,by rw[J3,g];rfl,by rw[J3,i,f],λq d=>?_⟩;rcases C3.mp d with rfl|d
 .exact⟨by rw[f];exact h,h⟩
 .exact hit q d
theorem Pq{H:Hp}:∀{b:List It3},(∀q∈b,SG H q.a (clI q))->Paired (SG H) (b.map (·.a)) (b.map clI)
|[],_=>.nil
|q::b,h=>.cons (h q (C9 ..)) (Pq λq c=>h q (C8 _ c))
theorem YJ.perm{ds a:List Cl}{φ:D_}(h:YJ ds φ)(p:a.Perm ds):YJ a φ:=⟨(p.map _).nodup_iff.mpr h.nd,λc=>by rw[p.mem_iff];exact h.mem c⟩
structure Dd(ds:List Cl)(n:Nat)(x y:Int):Prop where
nd:(ds.map λc=>(c.x,c.y)).Nodup
ok:∀c∈ds,(ClOk c/\1<=c.s)/\x<=c.x/\c.x<x+6/\y<=c.y/\c.y<y+3
len:ds.length<=n
theorem Dd.nil(x y:Int):Dd [] 0 x y:=⟨by simp,(λc a=>by cases a),C1 _⟩
theorem Dd.put{ds:List Cl}{n:Nat}{x y:Int}{c:Cl}(h:Dd ds n x y)(f:ClOk c)(b:1<=c.s)(e:x<=c.x/\c.x<x+6/\y<=c.y/\c.y<y+3):Dd (NA ds c) (n+1) x y:=by
 refine⟨nd_putC h.nd,λd a=>?_,D0 (len_putC ds c) (P6 h.len)⟩;rcases mem_putC.mp a with rfl|⟨a,_⟩
 .exact⟨⟨f,b⟩,e⟩
 .exact h.ok d a
theorem same_s {ds:List Cl} (b:(ds.map λc=>(c.x,c.y)).Nodup) {c d:Cl} (h:c∈ds) (i:d∈ds) (e:d.x=c.x) (f:d.y=c.y):d.s=c.s:=by
 have g:=OJ b h;have a:=OJ b i;rw[e,f,g]at a;injection a with a
 injection a with a
 lia
theorem Dd.dk{ds:List Cl}{n:Nat}{x y:Int}(h:Dd ds n x y):YJ ds (stC ds):=by
 refine⟨h.nd,λc=>⟨λf=>⟨(h.ok c f).1.2,?_⟩,λ⟨j,i⟩=>?_⟩⟩
 .rcases Mu ds c.x c.y with ⟨d,g,a,b,e⟩|⟨no,_⟩
  .rw[e];exact same_s h.nd f g a b
  .exact absurd ⟨Z,Z⟩ (no c f)
 .rcases Mu ds c.x c.y with ⟨d,g,a,b,e⟩|⟨_,e⟩
  .rw[e]at i;have:d=c:=by
    cases d;cases c;cases a;cases b;cases i;rfl
   exact this▸g
  .lia
section
variable{P:N_}{w:Q_}{K:O_}{mg:C_}{base:T_}{a:Ad}
theorem ok_row(F:Fun K "_law_by_rows" "_law_by_rows" Ge f fd)(T:Top K mg a):AL P w K mg base CX0 1 f fd Pz OS:=by
 refine F.ok Om (λvs H Q E h=>?_) (λd A b s H vs Q E e h=>?_)
 .obtain⟨t,x,y,r,rfl,_⟩:=h;rfl
 .obtain⟨t,x,y,r,rfl,c,k⟩:=h;exact⟨_,(Ai (Av (CD (Aa (Aj Ak (pv 0) Ab R_9) (Aa (Aj Ak (pv 0) Ab R_9) Ae))))),(xwi Z Z Z (SqT.of c) (Ah (j:=1) Z) (xwi Z Z Z (SqT.of c) (Ah (j:=0) Z) ⟨S_2,k⟩))⟩
inductive SpLsd(vs:List V)(H:Hp)(Q:VK):Prop
|mk (D:R_) (ds:List Cl) (_:vs=[.ref D]) (_:Rd H D (.dT (kvC ds))) (_:(ds.map λc=>(c.x,c.y)).Nodup) (_:ds.length<=40) (_:∀(o:Obj)(L:R_)(ts:H_)(cs:List Cl)(H':Hp),FrO D H H'->H' D=some (.frz o (.dT (kvC ds)))->H L=none->H' L=some (.lst (ts.map V.ref))->Paired (SG H') ts cs->cs.Perm ds->Q (.ref L) H'):SpLsd vs H Q
def Zi:Sp:=λvs H Q _=>SpLsd vs H Q
theorem ok_lsd(F:Fun K "_law_listed" "_law_listed" GZ f fd)(T:Top K mg a)(bR:Cal P w K mg base CX0 1 "_law_by_rows" Pz OS):AL P w K mg base CX0 5 f fd Ii Zi:=by
 refine F.ok FY D_9 λae A ac s H vs Q E hr h=>?_
 obtain⟨D,ds,rfl,rd,nd,af,k⟩:=h;refine⟨_,(Ac (Ao (i:=1) FY.nd Z O_9 (BX Ae)) (Ac (Cv A0b Z (Zw (pv 0)) (Bn (i:=2) FY.nd Z O_9) (Ai (BJ (De K8 K9 A0a BF (pv 1) (Bp (Aa (Aj Ak (pv 2) Ab R_9) (Aa (Aj Ak (pv 2) Ab R_9) (Aa (RD (EC hr) (pv 0) (pv 2) R_9) Ae))) Ae))))) (Ai (Av (UP bR (rm hr) Z T.b_sorted Z (Aa (pv 1) Ae)))))),?_⟩
 try dsimp only[cxK]
 have X:∀{x:R_},H x=none->x≠D:=λ{x} n z=>by
  rw[z]at n;rcases rd with y|⟨o,y⟩
  .rw[y]at n;cases n
  .rw[y]at n;cases n
 refine⟨S_0,λS r=>?_⟩;have Y:=AG (o:=.lst []) r;have h1:upd H S (.lst []) S=some (.lst []):=Af;generalize upd H S (.lst [])=H1 at Y h1⊢;have ad:Rd H1 D (.dT (kvC ds)):=by
  rcases rd with y|⟨o,y⟩
  .exact .inl (Y _ _ y)
  .exact .inr ⟨o,Y _ _ y⟩
 refine xq1 Z ⟨D,kvC ds,Z,ad,λo H2 p I=>?_⟩;have h2:=I _ _ h1 (X r);have m:FrO D H H2:=λb u e n=>I _ _ (Y _ _ e) n;have ab:(kvC ds).length=ds.length:=B8 _;refine for_dT (kvs:=kvC ds) (λj σ l=>∃(C:H_)(u2:Option V),σ=[some (.ref D),some (.ref S),u2]/\(∀b u,H2 b=some u->b≠S->l b=some u)/\l S=some (.lst (C.map V.ref))/\Paired (SG l) C (ds.take j)) ⟨[],none,Z,λb u e _=>e,h2,.nil⟩ (λj σ l _ z=>by obtain⟨_,_,_,z,_⟩:=z;exact z _ _ p (K6 (X r))) ?_ ?_
 .rintro j kb kv v σ l ev hb ⟨C,u2,rfl,B,W,U⟩;obtain⟨c,G,ee⟩:∃c,ds[j]?=some c/\(kOf [c.x,c.y],V.int (c.s:Int))=(kv,v):=by
   unfold kvC at ev;rw[C0]at ev;obtain⟨c,G,e⟩:=D7.mp ev;exact⟨c,G,e⟩
  cases ee;have jl:j<ds.length:=(B9.mp G).1;have N:l kb=some (.tup [.int c.x,.int c.y]):=hb;have aa:=B _ _ p (K6 (X r));have lt:=A0e U;rw[L8]at lt;refine xq1 Z ⟨.inl ⟨Z,_,SqL.of W⟩,(xwi Z Z Z (SqT.of N) (Ah (j:=0) Z) (xwi Z Z Z (SqT.of N) (Ah (j:=1) Z) (xw2 Z Z ⟨D,.int (c.s:Int),Z,?_,?_⟩)))⟩
  .exact .inr ⟨kvC ds,kOf [c.x,c.y],kb,.inr ⟨o,aa⟩,Z,hb,(OJ nd (D6 G)).symm⟩
  refine⟨S_3,λt ht=>?_⟩;have s6:=AG (o:=.tup [.int c.x,.int c.y,.int (c.s:Int)]) ht;have O:SG (upd l t (.tup [.int c.x,.int c.y,.int (c.s:Int)])) t c:=Af;generalize upd l t (.tup [.int c.x,.int c.y,.int (c.s:Int)])=H6 at s6 O⊢;have h6:=s6 _ _ W;refine⟨S,(xq2 Z Z ⟨h6,by rw[B8];exact EH A0,?_⟩)⟩;have tp:∀{b:R_}{ys:List V},H6 b=some (.tup ys)->upd H6 S (.lst (C.map V.ref++[.ref t])) b=some (.tup ys):=λ{b ys} e=>by rw[Aw (AH e h6 A4)];exact e
  refine⟨C++[t],(xq1 Z ⟨λb u e n=>?_,by rw[Af,C7];rfl,?_⟩)⟩
  .rw[Aw n];exact s6 _ _ (B _ _ e n)
  .rw[F9,G,R6];exact A2d (PairedM.imp (λb c z=>tp (s6 _ _ z)) U) (tp O)
 .rintro σ l ⟨C,u2,rfl,B,W,U⟩;rw[ab,J8]at U;obtain⟨g,e1,e2,hit⟩:=Wa U;have li:g.length=ds.length:=by rw[<-e2,B8]
  refine xq1 Z ⟨S,g,Z,by rw[e1];exact SqL.of W,by lia,λq hq=>(hit q hq).2,λL d H4 kp R pm=>?_⟩;have M:=kp _ _ (B _ _ p (K6 (X r)));have s5:=AG (o:=.lst (d.map λq=>V.ref q.a)) R;have h5:upd H4 L (.lst (d.map λq=>V.ref q.a)) L=some (.lst ((d.map (·.a)).map V.ref)):=by rw[Af,N4];rfl
  generalize upd H4 L (.lst (d.map λq=>V.ref q.a))=H5 at s5 h5⊢;refine k o L (d.map (·.a)) (d.map clI) H5 (λb u e n=>s5 _ _ (kp _ _ (B _ _ (m _ _ e n) (Ay e r)))) (s5 _ _ M) ?_ h5 (Pq λq hq=>s5 _ _ (kp _ _ (hit q (pm.mem_iff.mp hq)).1)) (by rw[<-e2];exact pm.map _);cases e:H L with
  |none=>rfl
  |some u =>
   by_cases z:L=D
   .rw[z,M]at R;cases R
   .rw[kp _ _ (B _ _ (m _ _ e z) (Ay e r))]at R;cases R
inductive SpHeap(K:O_)(vs:List V)(H:Hp)(Q:VK):Prop
|mk (l:R_) (ns:I_) (fi x y:Int) (m:Nat) (_:vs=[.ref l,.int fi,.int (m:Int),.int x,.int y]) (_:SqL K H l (ns.map V.int)) (_:0<=fi) (_:m<=100) (_:-(2^39)<=x) (_:x<2^39) (_:-(2^39)<=y) (_:y<2^39) (_:∀(D:R_)(ds:List Cl)(H':Hp),AA H H'->H D=none->H' D=some (.dT (kvC ds))->Dd ds m x y->Q (.ref D) H'):SpHeap K vs H Q
def UE(K:O_):Sp:=λvs H Q _=>SpHeap K vs H Q
theorem ok_heap(F:Fun K "_law_heap" "_law_heap" JI f fd)(T:Top K mg a)(W:Cal P w K mg base CX0 1 "_law_at" Ym (WU K)):AL P w K mg base CX0 2 f fd JV (UE K):=by
 refine F.ok Ek D_9 λX A L s H vs Q E R h=>?_
 obtain⟨l,ns,B,x,y,m,rfl,hS,f0,m1,x1,x2,y1,y2,k⟩:=h;refine⟨_,(Ac (Ao (i:=5) Ek.nd Z O_9 MJ) (Ac (Cv A0b Z (CC Z T.b_range (Aa (pv 2) Ae)) (Bn (i:=6) Ek.nd Z O_9) (Ac (Ao (i:=7) Ek.nd Z O_9 (As W (rm R) Z Aq (Aa (pv 0) (AV AO (pv 1) (pv 6) Ae)))) (Ac (Ao (i:=8) Ek.nd Z O_9 (AB AO (pv 7) (AB DE Ab (pv 6)))) (Ai (FM (EC R) (pv 5) (CD (AV AO (pv 3) (AB Bc (pv 8) Ab) (AV AO (pv 4) (AB Bc (AB Do (pv 8) Ab) Ab) Ae))) (AB AO Ab (AB Bc (AB AO (AB Do (pv 7) Ab) (pv 6)) Ab)) Z))))) (Ai (Av (pv 5))))),?_⟩
 try dsimp only[cxK]
 refine λD C=>?_;have S:=AG (o:=.dT []) C;have p:upd H D (.dT []) D=some (.dT (kvC [])):=Af;generalize upd H D (.dT [])=H1 at S p⊢;refine xw2 Z Z ⟨by lia,by lia,?_⟩;rw[J7];refine CF (n:=m) (λj σ g=>∃(ds:List Cl)(M N O:Option V),σ=[some (.ref l),some (.int B),some (.int (m:Int)),some (.int x),some (.int y),some (.ref D),M,N,O]/\AA H g/\g D=some (.dT (kvC ds))/\Dd ds j x y) ⟨[],none,none,none,Z,S,p,Dd.nil x y⟩ ?_ ?_
 .rintro j σ g hj ⟨ds,M,N,O,rfl,u,d,r⟩;refine xq1 Z (xq1 Z (xq1 Z (xq2 Z Z ⟨l,ns,_,Z,u.seq hS,by show 0<=B+(0+(j:Int));lia,?_⟩)));generalize atN ns (B+(0+(j:Int)))=v;refine xw2 Z Z (xq2 Z Z ⟨.inl ⟨by decide,by decide⟩,(xq2 Z Z ?_)⟩);refine xwb Z Z Z ⟨⟨by decide,by decide⟩,(xwb Z Z Z (xq2 Z Z ⟨(by show(0:Int)<7;decide),(xq2 Z Z (xq1 Z ?_))⟩))⟩;obtain⟨q,I⟩:=F8 (show 0<=1+(v/18+(0+(j:Int)))%7 by lia);refine xw2 Z Z (xq2 Z Z ⟨(by show(0:Int)<6;decide),(xq2 Z Z (xw2 Z Z (xq2 Z Z ⟨⟨by decide,by decide⟩,(xq2 Z Z ⟨B1,(xq2 Z Z ⟨S_2,λt ht=>?_⟩)⟩)⟩)))⟩);have Y:(λ(i j:Int)=>V.int (i+j)) 1 ((v/18+(0+(j:Int)))%7)=V.int (q:Int):=A0c V.int I;rw[Y];have U:=AG (o:=.tup [.int (x+(v+3*(0+(j:Int)))%6),.int (y+(v+3*(0+(j:Int)))/6%3)]) ht;have h6:upd g t (.tup [.int (x+(v+3*(0+(j:Int)))%6),.int (y+(v+3*(0+(j:Int)))/6%3)]) t=some (.tup [.int (x+(v+3*(0+(j:Int)))%6),.int (y+(v+3*(0+(j:Int)))/6%3)]):=Af;have G:=U _ _ d;have dl:=r.len;refine⟨D,(xq1 Z ⟨dput (c:=⟨x+(v+3*(0+(j:Int)))%6,y+(v+3*(0+(j:Int)))/6%3,q⟩) G h6 A0,?_⟩)⟩;refine⟨NA ds ⟨x+(v+3*(0+(j:Int)))%6,y+(v+3*(0+(j:Int)))/6%3,q⟩,_,_,_,Z,λb o e=>?_,Af,r.put ⟨?_,?_⟩ ?_ ?_⟩
  .rw[Aw (Ay e C)];exact U _ _ (u _ _ e)
  .unfold FR;dsimp only;generalize v+3*(0+(j:Int))=z;refine⟨by lia,by lia,by lia,by lia⟩
  .show q<8;lia
  .show 1<=q;lia
  .dsimp only;generalize v+3*(0+(j:Int))=z;refine⟨by lia,by lia,by lia,by lia⟩
 .rintro σ g ⟨ds,M,N,O,rfl,u,d,r⟩;exact xq1 Z (k D ds g u C d r)
theorem fld_fv{g:GA}{G:Gv}{H:Hp}{Q:VK}{L:R_}{B:H_}{cs ds:List Cl}{φ:D_}(D:AX a H g G)(E:H L=some (.lst (B.map V.ref)))(ap:Ap g L)(F:Paired (SG H) B cs)(A:cs.Perm ds)(dk:YJ ds φ)(ok:∀c∈ds,ClOk c)(l:ds.length<=40)(few:G.length<6000000)(k:∀(r:Nat)(o:Gv)(t:Hp),Fr g H t->AX a t g o->AI G o 16000->Fv o r φ->Q (.int r) t):SpFld a [.ref g.p,.ref L] H Q:=by
 have M:=A.length_eq;have m:∀c∈cs,ClOk c:=λc z=>ok c (A.mem_iff.mp z);refine⟨g,G,L,B,cs,Z,D,E,ap.1,ap.2.1,F,m,by lia,λC n1 q x f b h j i e=>?_⟩;obtain⟨I,y⟩:=b.g0;obtain⟨n,d⟩:=Yx y b.ok e (λc z=>(m c (W0.mp z)).s);exact k C q x f b (h.mono A0) ⟨n1,j,i,n,λu v=>by rw[d,stC_ds (dk.perm A)]⟩
end
end J
namespace J
open PySem L2
theorem Ju.new{a:Ad}{H b:Hp}{g:GA}{G:Gv}{N M:Nat}{r:AD}{m:MA}(c:AM a H g G)(nl:H m.l=none)(nk:H m.kc=none)(j:b m.tp=some (.tup [.ref m.l,.ref m.kc]))(k:b m.l=some (.lst (m.ds.map V.ref)))(o:b m.kc=some (.dT []))(q:∀d∈m.ds,b d=some (.dK []))(s:m.ds.length=47)(t:m.ds.Nodup):Ju b g G N M r m:=by
 obtain⟨w,i,_⟩:=c.pt;exact⟨j,k,⟨K6 (Ay c.lv nl),K6 (Ay i nl),K6 (Ay c.nm nk)⟩,s,t,λe d h=>⟨[],q d (D6 h),L5 _,λp u=>(nomatch u),λn v f=>by cases f⟩,⟨[],o,L5 _,λks v f=>by cases f⟩⟩
def zL(g:GA)(m:MA):List Addr:=[g.lv,g.pt,g.nm,g.am,g.bx,m.kc]++m.ds
section
variable{a:Ad}{H H':Hp}{g:GA}{G G':Gv}{Κ:KTy}{N b i:Nat}{p dx mem pr:R_}{r:AD}{m:MA}
theorem FrZ.fx(h:ZS a H g G Κ N b p dx mem pr r m)(f:FrZ g m H H'):Fx (zL g m) H H':=λx o e z=>by
 obtain⟨w,n,_⟩:=h.fu.at'.pt;obtain⟨s,d,_⟩:=h.fu.am;obtain⟨t,k,_⟩:=h.fu.bx;obtain⟨u,c1,_⟩:=h.jz.jw.me.ce;refine f x o e (λy=>?_) (λy=>?_)
 .have c:=z (F4.mpr (.inl y));clear z;simp only[C3,D8,A0g]at y;rcases y with y|y|y|y|y|y<;>subst y
  .rw[h.fu.at'.lv]at e;cases e;exact c
  .rw[n]at e;cases e;exact c
  .rw[h.fu.at'.nm]at e;cases e;exact c
  .rw[d]at e;cases e;exact c
  .rw[k]at e;cases e;exact c
  .rw[c1]at e;cases e;exact c
 .have c:=z (F4.mpr (.inr y));obtain⟨j,q⟩:=L9 y;obtain⟨v,l,_⟩:=h.jz.jw.me.sq j x q;rw[l]at e;cases e;exact c
theorem ZS.fx{l:H_}(h:ZS a H g G Κ N b p dx mem pr r m)(f:Fx l H H')(n:∀x∈[g.br,m.l]++zL g m,x∉l):ZS a H' g G Κ N b p dx mem pr r m:=by
 have k:∀x∈zL g m,x∉l:=λx v=>n x (F4.mpr (.inr v));have j:g.br∉l:=n _ A6;have A:m.l∉l:=n _ A6;have q:=h.fu.fx f λx v=>by
  simp only[DF,C3,D8,A0g]at v;rcases v with z|z|z|z|z|z<;>subst z
  .exact k _ (by simp[zL])
  .exact k _ (by simp[zL])
  .exact k _ (by simp[zL])
  .exact j
  .exact k _ (by simp[zL])
  .exact k _ (by simp[zL])
 have c:=h.jz.jw;obtain⟨y,c1,_⟩:=c.me.ce;have s:∀d∈m.ds,∀o,H d=some o->H' d=some o:=λd C o e=>f.get (k d (F4.mpr (.inr C))) e;have t:∀o,H m.kc=some o->H' m.kc=some o:=λo e=>f.get (k _ (by simp[zL])) e;have u:Ju H' g G N (b+10*N) r m:=c.me.kp c.ok (AI.refl c.ok) λx o e w=>by
  rcases w with rfl|rfl|w|rfl
  .rw[c.me.tp]at e;cases e;exact f.tup c.me.tp
  .exact f.get A e
  .exact s x w o e
  .exact t o e
 obtain⟨B,cn⟩:=h.jz.cn;refine⟨⟨⟨q.at',c.ok,c.bs,f.get j c.br,c.nbr,f _ _ c.hp λ_=>True.intro,c.ru.kp λx o e D=>f _ _ e λ_=>?_,c.rok,c.rest,u⟩,B,cn.kp (i:=0) c.ok (AI.refl c.ok) s λy e=>⟨y,t _ e,C1 _⟩⟩,q,h.na,h.nb⟩;cases D<;>exact True.intro
theorem jnew{Q:VK}{c:Hp}(v:AX a c g G)(ro:GF r)(rz:CH r 0 BV=0)(V:CZ a c pr (Dm r) r)(np:c p=none)(P:c dx=none)(S:dx≠p)(few:G.length<=b)(k:∀(n:Hp)(mem:R_)(m:MA),AA c n->ZS a n g G Κ N b p dx mem pr r m->(∀y∈m.l::m.kc::m.ds,c y=none)->n mem=some (.dK (mK [(Dm r,m)]))->c mem=none->mem∉m.ds->Q .non n):SD a [.ref p,.ref g.p,.ref pr] (upd (upd c dx (.own p)) p (.ins a.c_Jumps dx [])) Q:=by
 have nq:upd c dx (.own p) p=none:=by rw[Aw (K6 S)];exact np
 have U:AA c (upd (upd c dx (.own p)) p (.ins a.c_Jumps dx [])):=(show AA c _ from Ar P).trans (Ar nq);refine⟨p,dx,g.p,pr,Dm r,r,Z,Af,V.same U,λn mem m F D K q f L hl B A O R T=>?_⟩;have s:AA c n:=λb o e=>F b o (U b o e) (Ay e np);have t:∀{y:R_},upd (upd c dx (.own p)) p (.ins a.c_Jumps dx []) y=none->c y=none:=λ{y} e=>AA.noneN U e;have d:=v.same s;have hw:Ju n g G N (b+10*N) r m:=(Ju.new (N:=0) (M:=0) v.at' (t f.2.1) (t f.2.2.1) L hl B A O R).mono (L5 _) (L5 _);have h:∀u∈m.ds,c u=none:=λu I=>t (f.2.2.2 u I);obtain⟨aa,W⟩:=v.g0;have E:Bs G:=λj Y=>by
  have:=MW j Y;rw[W];exact Lz this
 obtain⟨ka,w,_⟩:=v.am;obtain⟨kb,x,_⟩:=v.bx;refine k n mem m s ⟨⟨⟨d.at',d.ok,E,d.br,⟨d.n1,d.n2⟩,K,V.same s,ro,rz,hw⟩,λ_=>0,λe u X=>⟨[],A u (D6 X),Z,R4,λk hk=>nomatch hk⟩,D0 few (R3 _ _),[],B,L5 _⟩,d,λz=>?_,λz=>?_⟩ (λy C=>?_) q (t D) (λz=>T mem z Z)
 .rw[h _ z]at w;cases w
 .rw[h _ z]at x;cases x
 .rcases C3.mp C with rfl|C
  .exact t f.2.1
  .rcases C3.mp C with rfl|C
   .exact t f.2.2.1
   .exact h y C
end
structure Fd(G:Gv)(n f:Nat):Prop where
lev:An G f ((n+1:Nat):Int)
tr:JC G n f
le:n<=40
theorem Fd.app{G a:Gv}{k n f:Nat}(go:AI G a k)(h:Fd G n f):Fd a n f:=⟨go.lev h.lev,h.tr.app go,h.le⟩
theorem cast4'{x y z w a b c d:Nat}(e:[(x:Int),(y:Int),(z:Int),(w:Int)]=[(a:Int),(b:Int),(c:Int),(d:Int)]):x=a/\y=b/\z=c/\w=d:=by
 injection e with e1 e
 injection e with e2 e
 injection e with e3 e
 injection e with e4 e
 exact⟨K5 e1,K5 e2,K5 e3,K5 e4⟩
theorem Fx.fresh{l:H_}{H a c:Hp}{x:R_}(s:AA H a)(f:Fx (x::l) a c)(n:H x=none):Fx l H c:=λb o e z=>f b o (s _ _ e) λm=>by
 rcases C3.mp m with rfl|m
 .rw[n]at e;cases e
 .exact z m
def frM(g:GA)(kn:R_):List Addr:=[g.lv,g.pt,g.nm,kn]
theorem meetH{T:St->Hp->Prop}{C:Prop}(P:St->Hp->Prop)(h:(∀σ H,P σ H->T σ H)->C)(k:∀σ H,P σ H->T σ H):C:=h k
structure Sc where
Φ:Nat->Nat->Nat
R:Nat
D:Nat
M:Nat
cl:Nat->Nat->Nat->Nat
def NE(Φ:Nat->Nat->Nat)(n i j:Nat):Prop:=∃x y,x<2^(n+1)/\y<2^(n+1)/\Φ (i*2^n+x) (j*2^n+y)≠0
structure Vz(c:Sc):Prop where
lt:∀n i j,n<=48->NE c.Φ n i j->c.cl n i j<c.M
same:∀n i j i' j',n<=48->NE c.Φ n i j->NE c.Φ n i' j'->c.cl n i j=c.cl n i' j'->∀x y,x<2^(n+1)->y<2^(n+1)->c.Φ (i*2^n+x) (j*2^n+y)=c.Φ (i'*2^n+x) (j'*2^n+y)
def mk1(R n x:Nat):Prop:=R%2^n≠0\/x<2^n
structure Ag(G:Gv)(c:Sc)(n i j:Nat)(q:L_):Prop where
lev:∀k,k<4->An G (q k) (n:Int)
ag:∀x y,x<2^(n+1)->y<2^(n+1)->mk1 c.R n x->mk1 c.D n y->CL G n (q (quad n x y)) (x%2^n) (y%2^n)=c.Φ (i*2^n+x) (j*2^n+y)
structure QAt(G:Gv)(c:Sc)(n i j:Nat)(q:L_):Prop where
a:Ag G c n i j q
off:∀x y,x<2^(n+1)->y<2^(n+1)->¬(mk1 c.R n x/\mk1 c.D n y)->CL G n (q (quad n x y)) (x%2^n) (y%2^n)=0
structure Rs(G:Gv)(c:Sc)(n i j m:Nat):Prop where
lev:An G m (n:Int)
cell:∀x y,x<2^n->y<2^n->CL G n m x y=c.Φ (i*2^n+c.R%2^n+x) (j*2^n+c.D%2^n+y)
theorem Ag.app{G a:Gv}{k:Nat}{c:Sc}{n i j:Nat}{q:L_}(ok:GOk G)(go:AI G a k)(h:Ag G c n i j q):Ag a c n i j q:=⟨λk e=>go.lev (h.lev k e),λx y b d f g=>by rw[Lm ok go (h.lev _ (BS b d)) (F6 _ (AK n)) (F6 _ (AK n))];exact h.ag x y b d f g⟩
theorem QAt.app{G b:Gv}{k:Nat}{c:Sc}{n i j:Nat}{q:L_}(ok:GOk G)(go:AI G b k)(h:QAt G c n i j q):QAt b c n i j q:=⟨h.a.app ok go,λx y d e m=>by rw[Lm ok go (h.a.lev _ (BS d e)) (F6 _ (AK n)) (F6 _ (AK n))];exact h.off x y d e m⟩
theorem Rs.app{G a:Gv}{k:Nat}{c:Sc}{n i j m:Nat}(ok:GOk G)(go:AI G a k)(h:Rs G c n i j m):Rs a c n i j m:=⟨go.lev h.lev,λx y b d=>by rw[Lm ok go h.lev b d];exact h.cell x y b d⟩
def wuQ(R D n:Nat)(q:L_)(k:Nat):Nat:=if R%2^n=0 then(if k%2=1 then bareN n else q k)else if D%2^n=0 then(if k/2=1 then bareN n else q k)else q k
theorem Gi{n x y:Nat}(a:x<2^(n+1))(b:y<2^(n+1)):quad n x y%2=x/2^n/\quad n x y/2=y/2^n:=by
 have c:=BU a;have d:=BU b;unfold quad;lia
theorem Na{n x:Nat}(a:x<2^(n+1)):(x/2^n=1 ↔ ¬x<2^n):=by
 have b:=BU a;have c:x/2^n=0↔x<2^n:=by rw[Nat.div_eq_zero_iff];have:=AK n;lia
 lia
theorem Ag.wu{G r:Gv}(g:G=G0++r)(ok:GOk G){c:Sc}{n i j:Nat}{q:L_}(l:n<=48)(h:Ag G c n i j q)(w:¬(c.R%2^n=0/\c.D%2^n=0)):QAt G c n i j (wuQ c.R c.D n q):=by
 have f:=EE g (n:=n) l;have p:=λx=>F6 x (AK n);unfold wuQ;refine⟨⟨λk d=>?_,λx y a b m o=>?_⟩,λx y a b k=>?_⟩
 .split
  .split
   .exact f
   .exact h.lev k d
  .split
   .split
    .exact f
    .exact h.lev k d
   .exact h.lev k d
 .obtain⟨u,v⟩:=Gi a b;have s:=Na a;have t:=Na b;have e:(if c.R%2^n=0 then(if quad n x y%2=1 then bareN n else q (quad n x y))else if c.D%2^n=0 then(if quad n x y/2=1 then bareN n else q (quad n x y))else q (quad n x y))=q (quad n x y):=by
   unfold mk1 at m o;split
   .rw[X9 A0]
   .split
    .rw[X9 A0]
    .rfl
  rw[e];exact h.ag x y a b m o
 .obtain⟨u,v⟩:=Gi a b;have s:=Na a;have t:=Na b;have e:(if c.R%2^n=0 then(if quad n x y%2=1 then bareN n else q (quad n x y))else if c.D%2^n=0 then(if quad n x y/2=1 then bareN n else q (quad n x y))else q (quad n x y))=bareN n:=by
   unfold mk1 at k;split
   .rw[K2 A0]
   .split
    .rw[K2 A0]
    .lia
  rw[e];exact DB g ok l (p x) (p y)
theorem OL{R n x:Nat}(a:x<2^n):R%2^n+x<2^(n+1)/\mk1 R n (R%2^n+x):=by
 have:=F6 R (AK n);have:=LQ n;refine⟨by lia,?_⟩;unfold mk1;by_cases z:R%2^n=0
 .exact .inr A0
 .exact .inl z
theorem Ag.first{G:Gv}{c:Sc}{n i j:Nat}{q:L_}(h:Ag G c n i j q)(g:c.R%2^n=0)(k:c.D%2^n=0):Rs G c n i j (q 0):=by
 refine⟨h.lev 0 A3,λx y b d=>?_⟩;have e:=LQ n;have a:=h.ag x y A0 A0 (.inr b) (.inr d);have f:quad n x y=0:=by
  unfold quad;rw[M6 b,M6 d]
 rw[f,N6 b,N6 d]at a;rw[a,g,k];rfl
theorem QAt.see{G:Gv}{c:Sc}{n i j:Nat}{q:L_}(h:QAt G c n i j q){x y:Nat}(f:x<2^n)(g:y<2^n):c.Φ (i*2^n+c.R%2^n+x) (j*2^n+c.D%2^n+y)=CL G n (q (quad n (c.R%2^n+x) (c.D%2^n+y))) ((c.R%2^n+x)%2^n) ((c.D%2^n+y)%2^n):=by
 obtain⟨b,d⟩:=OL (R:=c.R) f;obtain⟨e,b2⟩:=OL (R:=c.D) g;rw[h.a.ag _ _ b e d b2,Z3,Z3]
theorem QAt.bare{G r:Gv}(a:G=G0++r)(ok:GOk G){c:Sc}{n i j:Nat}{q:L_}(d:n<=48)(h:QAt G c n i j q)(b:∀k,k<4->q k=bareN n):Rs G c n i j (bareN n):=by
 refine⟨EE a d,λx y e f=>?_⟩;rw[h.see e f,b _ (BS (OL e).1 (OL f).1),DB a ok d e f,DB a ok d (F6 _ (AK n)) (F6 _ (AK n))]
theorem QAt.hit{G:Gv}{c:Sc}{n i j d e m:Nat}{q:L_}(h:QAt G c n i j q)(h':QAt G c n d e q)(r:Rs G c n d e m):Rs G c n i j m:=⟨r.lev,λx y a b=>by rw[r.cell x y a b,h'.see a b,h.see a b]⟩
def gq(sub:Nat->Nat->Nat)(r c:Nat):Nat:=sub (c/2+2*(r/2)) (c%2+2*(r%2))
structure YH(G:Gv)(n:Nat)(q:L_)(sub:Nat->Nat->Nat):Prop where
nd:∀k,k<4->∃s,Iv G n (q k) s (sub k 0) (sub k 1) (sub k 2) (sub k 3)
theorem sub4_of{G:Gv}(ok:GOk G){n:Nat}{q:L_}(h:∀k,k<4->An G (q k) ((n+1:Nat):Int)):∃a,YH G n q a:=by
 obtain⟨u,b,f,j,l,s⟩:=BD ok (h 0 A3);obtain⟨v,c,g,c1,m,n1⟩:=BD ok (h 1 A3);obtain⟨w,d,b2,c2,o,n2⟩:=BD ok (h 2 A3);obtain⟨x,e,i,c3,p,t⟩:=BD ok (h 3 A3);refine⟨λk=>match k with|0=>f4 b f j l|1=>f4 c g c1 m|2=>f4 d b2 c2 o|_=>f4 e i c3 p,⟨λk r=>?_⟩⟩
 match k,r with
 |0,_=>exact⟨_,s⟩
 |1,_=>exact⟨_,n1⟩
 |2,_=>exact⟨_,n2⟩
 |3,_=>exact⟨_,t⟩
theorem YH.lev{G:Gv}{n:Nat}{q:L_}{a:Nat->Nat->Nat}(h:YH G n q a){k l:Nat}(d:k<4)(b:l<4):An G (a k l) (n:Int):=by
 obtain⟨s,c⟩:=h.nd k d;have:=(c.nat b).2;rw[Lk (a k) b]at this;exact this
theorem gq_lev{G:Gv}{n:Nat}{q:L_}{a:Nat->Nat->Nat}(h:YH G n q a){r c:Nat}(d:r<4)(b:c<4):An G (gq a r c) (n:Int):=h.lev A0 A0
def Sb(sub:Nat->Nat->Nat)(r c k:Nat):Nat:=gq sub (r+k/2) (c+k%2)
theorem GO{n x c:Nat}:(c*2^n+x)/2^n=c+x/2^n/\(c*2^n+x)%2^n=x%2^n:=by
 have p:=AK n;constructor
 .rw[S7,Nat.add_mul_div_right _ _ p,S7]
 .rw[S7,Nat.add_mul_mod_self_right]
theorem LC{n X:Nat}:X/2^(n+1)=X/2^n/2/\X%2^(n+1)/2^n=X/2^n%2:=by
 rw[J0];constructor
 .rw[W5]
 .rw[Nat.mod_mul_right_div_self]
theorem QAt.inner{G:Gv}{c:Sc}{n i j:Nat}{q:L_}(h:QAt G c (n+1) i j q){d:Nat->Nat->Nat}(r:YH G n q d){p:Nat}(T:p<4):Ag G c n (2*i+(c.R%2^(n+1)/2^n+p%2)) (2*j+(c.D%2^(n+1)/2^n+p/2)) (Sb d (c.D%2^(n+1)/2^n+p/2) (c.R%2^(n+1)/2^n+p%2)):=by
 have e:=LQ n;have M:=LQ (n+1);have c2:c.R%2^(n+1)/2^n<2:=BU (F6 _ (AK _));have V:c.D%2^(n+1)/2^n<2:=BU (F6 _ (AK _));refine⟨λk S=>gq_lev r A0 A0,λx y l t E F=>?_⟩;have f:∀{R x b:Nat},x<2^(n+1)->mk1 R n x->b<2->(R%2^(n+1)/2^n+b)*2^n+x<2^(n+2)/\mk1 R (n+1) ((R%2^(n+1)/2^n+b)*2^n+x):=λ{R x b} l k O=>by
  have N:R%2^(n+1)/2^n<2:=BU (F6 _ (AK _));have U:(R%2^(n+1)/2^n+b)*2^n<=2*2^n:=U3 _ A0;refine⟨by lia,?_⟩;by_cases z:R%2^(n+1)=0
  .refine .inr ?_;have L:R%2^n=0:=by rw[<-EA R n,z,Nat.zero_mod]
   have B:=k.resolve_left (λq=>q L);rw[z,Nat.zero_div,N3];have:b*2^n<=1*2^n:=U3 _ A0;lia
  .exact .inl z
 obtain⟨m,v⟩:=f (b:=p%2) l E A0;obtain⟨o,w⟩:=f (b:=p/2) t F A0;have a:=h.a.ag _ _ m o v w;generalize P:c.R%2^(n+1)/2^n+p%2=C at *
 generalize Q:c.D%2^(n+1)/2^n+p/2=g at *
 obtain⟨s,u⟩:=r.nd _ (BS m o);rw[BG u (F6 _ (AK _)) (F6 _ (AK _)),EA,EA,GO.2,GO.2]at a;have K:quad n ((C*2^n+x)%2^(n+1)) ((g*2^n+y)%2^(n+1))<4:=BS (F6 _ (AK _)) (F6 _ (AK _));rw[Lk _ K]at a;have A:d (quad (n+1) (C*2^n+x) (g*2^n+y)) (quad n ((C*2^n+x)%2^(n+1)) ((g*2^n+y)%2^(n+1)))=Sb d g C (quad n x y):=by
  obtain⟨H,I⟩:=Gi l t;unfold Sb gq;rw[H,I];congr 1
  .unfold quad;rw[LC.1,LC.1,GO.1,GO.1]
  .unfold quad;rw[LC.2,LC.2,GO.1,GO.1]
 rw[A]at a;rw[a];congr 1
 .rw[J0]
  grind
 .rw[J0]
  grind
theorem Rs.join{G:Gv}{c:Sc}{n i j m:Nat}{a:L_}(h:∀p,p<4->Rs G c n (2*i+(c.R%2^(n+1)/2^n+p%2)) (2*j+(c.D%2^(n+1)/2^n+p/2)) (a p))(f:G[m]?=some ⟨[(a 0:Int),(a 1:Int),(a 2:Int),(a 3:Int)],(n:Int)+1⟩):Rs G c (n+1) i j m:=by
 have nm:Iv G n m _ (a 0) (a 1) (a 2) (a 3):=⟨f,Z,Z,(h 0 A3).lev,(h 1 A3).lev,(h 2 A3).lev,(h 3 A3).lev⟩
 refine⟨⟨_,f,by show(n:Int)+1=_;lia⟩,λx y b d=>?_⟩;have g:=BS b d;rw[BG nm b d,Lk a g,(h _ g).cell _ _ (F6 _ (AK n)) (F6 _ (AK n))];obtain⟨k,l⟩:=Gi b d;rw[k,l];have e:∀(R x:Nat),R%2^(n+1)/2^n*2^n+R%2^n=R%2^(n+1):=λR x=>by
  have:=M8 (R%2^(n+1)) (2^n);rw[EA]at this;rw[O8];exact this
 have dx:∀x:Nat,x/2^n*2^n+x%2^n=x:=λx=>by
  rw[O8];exact M8 _ _
 have o:=e c.R x;have q:=e c.D y;have r:=dx x;have s:=dx y;congr 1
 .rw[show i*2^(n+1)=2*i*2^n by rw[J0];grind,T5,T5];lia
 .rw[show j*2^(n+1)=2*j*2^n by rw[J0];grind,T5,T5];lia
theorem QAt.one{G:Gv}(ok:GOk G){c:Sc}{n i j l s:Nat}{q t:L_}(h:QAt G c n i j q)(h':QAt G c n l s t)(e:∀x y,x<2^(n+1)->y<2^(n+1)->c.Φ (i*2^n+x) (j*2^n+y)=c.Φ (l*2^n+x) (s*2^n+y)){k:Nat}(g:k<4):q k=t k:=by
 refine LG ok (h.a.lev k g) (h'.a.lev k g) λx y u v=>?_;obtain⟨d,f,o,p,r⟩:=EW g u v;by_cases m:mk1 c.R n (x+2^n*(k%2))/\mk1 c.D n (y+2^n*(k/2))
 .have a:=h.a.ag _ _ d f m.1 m.2;have b:=h'.a.ag _ _ d f m.1 m.2;rw[o,p,r]at a b;rw[a,b,e _ _ d f]
 .have a:=h.off _ _ d f m;have b:=h'.off _ _ d f m;rw[o,p,r]at a b;rw[a,b]
theorem QAt.ne{G r:Gv}(s:G=G0++r)(ok:GOk G){c:Sc}{n i j:Nat}{q:L_}(t:n<=48)(h:QAt G c n i j q){k:Nat}(f:k<4)(b:q k≠bareN n):NE c.Φ n i j:=by
 obtain⟨x,y,u,v,l⟩:=TU s ok t (h.a.lev k f) b;obtain⟨d,e,g,o,p⟩:=EW f u v;refine⟨_,_,d,e,?_⟩;by_cases m:mk1 c.R n (x+2^n*(k%2))/\mk1 c.D n (y+2^n*(k/2))
 .have a:=h.a.ag _ _ d e m.1 m.2;rw[g,o,p]at a;rw[<-a];exact l
 .have a:=h.off _ _ d e m;rw[g,o,p]at a;exact absurd a l
seal L2.PA L2.PE L2.PS L2.PSs L2.PT L2.PW
def kQ(q:L_):List Key:=kOf [(q 0:Int),(q 1:Int),(q 2:Int),(q 3:Int)]
theorem kQ_inj{q a:L_}(e:kQ q=kQ a):∀k,k<4->q k=a k:=by
 have e:=Lx e;injection e with e0 e
 injection e with e1 e
 injection e with e2 e
 injection e with e3 _
 intro k b
 match k,b with
 |0,_=>exact K5 e0
 |1,_=>exact K5 e1
 |2,_=>exact K5 e2
 |3,_=>exact K5 e3
theorem kQ_congr{q a:L_}(e:∀k,k<4->q k=a k):kQ q=kQ a:=by
 unfold kQ;rw[e 0 A3,e 1 A3,e 2 A3,e 3 A3]
structure SEnt(G:Gv)(c:Sc)(p:List Key×V)(n i j:Nat)(q:L_)(m:Nat):Prop where
e:p=(kQ q,.int m)
at':QAt G c n i j q
rs:Rs G c n i j m
nb:∃k,k<4/\q k≠bareN n
le:n<=48
structure SOk(G:Gv)(c:Sc)(kvs:List (List Key×V)):Prop where
nd:(kvs.map (·.1)).Nodup
val:∀p∈kvs,∃n i j q m,SEnt G c p n i j q m
theorem sok0(G:Gv)(c:Sc):SOk G c []:=⟨R4,λp a=>by simp at a⟩
theorem SOk.go{G a:Gv}{k:Nat}{c:Sc}{kvs:List (List Key×V)}(ok:GOk G)(go:AI G a k)(h:SOk G c kvs):SOk a c kvs:=⟨h.nd,λp b=>by
 obtain⟨n,i,j,q,m,e⟩:=h.val p b;exact⟨n,i,j,q,m,e.e,e.at'.app ok go,e.rs.app ok go,e.nb,e.le⟩⟩
theorem SOk.put{G:Gv}{c:Sc}{kvs:List (List Key×V)}{n i j m:Nat}{q:L_}(h:SOk G c kvs)(b:SEnt G c (kQ q,.int m) n i j q m)(no:Br kvs (kQ q)=none):SOk G c (DI kvs (kQ q) (.int m))/\(DI kvs (kQ q) (.int m)).length=kvs.length+1:=by
 have a:=nd_putK (.int m) h.nd no;rw[Gk _ no]at a⊢;refine⟨⟨a,λp d=>?_⟩,by rw[C5];rfl⟩;rcases F4.mp d with z|z
 .exact h.val p z
 .rw[D4]at z;subst z;exact⟨n,i,j,q,m,b⟩
theorem SK{k:List Key}{v:V}:∀{l:List (List Key×V)},Br l k=some v->(k,v)∈l
|[],h=>by cases h
|p::r,h=>by
 by_cases e:p.1=k
 .rw[BN e]at h;cases h;rw[<-e];exact C9
 .rw[BB e]at h;exact C8 _ (SK h)
def KCo(G:Gv)(c:Sc)(k:List Key)(x:Nat):Prop:=∃n i j q,k=kQ q/\QAt G c n i j q/\(∃k,k<4/\q k≠bareN n)/\n<=48/\x=n*c.M+c.cl n i j
theorem SOk.len{G r:Gv}(u:G=G0++r)(ok:GOk G){c:Sc}(s:Vz c){kvs:List (List Key×V)}(h:SOk G c kvs):kvs.length<=49*c.M:=by
 classical
 have:=LB (49*c.M) ((kvs.map (·.1)).map (λk=>if z:∃x,KCo G c k x then Classical.choose z else 0)) (by
  rw[O1,T7];refine A4c (λ{x y} D E w z=>w ?_) (O1.mp h.nd);obtain⟨p,A,rfl⟩:=D3.mp D;obtain⟨p',B,rfl⟩:=D3.mp E;obtain⟨n,i,j,q,m,e⟩:=h.val p A;obtain⟨n',i',j',o,m',l⟩:=h.val p' B;have v:=e.e;have X:=l.e;subst v X;have f:∃x,KCo G c (kQ q) x:=⟨_,n,i,j,q,Z,e.at',e.nb,e.le,Z⟩
  have T:∃x,KCo G c (kQ o) x:=⟨_,n',i',j',o,Z,l.at',l.nb,l.le,Z⟩
  have z:(if z:∃x,KCo G c (kQ q) x then Classical.choose z else 0)=(if z:∃x,KCo G c (kQ o) x then Classical.choose z else 0):=z;rw[dif_pos f,dif_pos T]at z;obtain⟨n1,F,H,q1,R,g,t,d,K⟩:=A6a f;obtain⟨n2,P,Q,q2,k2,O,b2,S,y2⟩:=A6a T;rw[K,y2]at z;obtain⟨w1,a,b⟩:=t;obtain⟨w2,C,I⟩:=b2;have L:=g.ne u ok d a b;have N:=O.ne u ok S C I;have c1:=s.lt _ _ _ d L;have c2:=s.lt _ _ _ S N;have en:n1=n2:=by
   have U:(n1*c.M+c.cl n1 F H)/c.M=n1:=by rw[O8,Nat.mul_add_div A0,M6 c1,X4]
   have W:(n2*c.M+c.cl n2 P Q)/c.M=n2:=by rw[O8,Nat.mul_add_div A0,M6 c2,X4]
   rw[<-U,z,W]
  subst en;have Y:c.cl n1 F H=c.cl n1 P Q:=by lia
  show kQ q=kQ o;rw[R,k2];exact kQ_congr λk hk=>g.one ok O (s.same _ _ _ _ _ d L N Y) hk) (λx D=>by
  obtain⟨y,E,rfl⟩:=D3.mp D;obtain⟨p,A,rfl⟩:=D3.mp E;obtain⟨n,i,j,q,m,e⟩:=h.val p A;have v:=e.e;subst v;have f:∃x,KCo G c (kQ q) x:=⟨_,n,i,j,q,Z,e.at',e.nb,e.le,Z⟩
  show(if z:∃x,KCo G c (kQ q) x then Classical.choose z else 0)<_;rw[dif_pos f];obtain⟨n1,F,H,q1,R,g,t,d,K⟩:=A6a f;obtain⟨w1,a,b⟩:=t;have c1:=s.lt _ _ _ d (g.ne u ok d a b);rw[K];have:n1*c.M+c.M<=49*c.M:=by
   rw[<-U8];exact U3 _ A0
  lia)
 rw[B8,B8]at this;exact this
def UnS(G:Gv)(N:Nat)(kvs kvs':List (List Key×V)):Prop:=∀(q:L_)(N':Nat),An G (q 0) (N':Int)->N<N'->Br kvs (kQ q)=none->Br kvs' (kQ q)=none
theorem UnS.refl(G:Gv)(N:Nat)(kvs:List (List Key×V)):UnS G N kvs kvs:=λ_ _ _ _ h=>h
theorem UnS.trans{G d:Gv}{k N:Nat}{a b c:List (List Key×V)}(go:AI G d k)(h:UnS G N a b)(i:UnS d N b c):UnS G N a c:=λq e f g z=>i q e (go.lev f) g (h q e f g z)
section
variable{P:N_}{w:Q_}{K:O_}{mg:C_}{base:T_}{a:Ad}
def Cc(q:L_):List V:=[.int (q 0:Int),.int (q 1:Int),.int (q 2:Int),.int (q 3:Int)]
inductive SpWu(vs:List V)(H:Hp)(Q:VK):Prop
|mk (t:R_) (q:L_) (R D n:Nat) (_:vs=[.ref t,.int ((R%2^n:Nat):Int),.int ((D%2^n:Nat):Int),.int (bareN n:Int)]) (_:H t=some (.tup (Cc q))) (_:∀(t':R_)(H':Hp),AA H H'->H' t'=some (.tup (Cc (wuQ R D n q)))->Q (.ref t') H'):SpWu vs H Q
def spWu:Sp:=λvs H Q _=>SpWu vs H Q
theorem nat0{n:Nat}:decide (V.int (n:Int)=V.int 0)=decide (n=0):=by
 by_cases z:n=0
 .subst z;rw[K0 (rfl:(0:Nat)=0)];exact K0 Z
 .rw[K1 z,K1];intro q;injection q with q
  lia
theorem ok_wu(F:Fun K "without_unseen" "without_unseen" EL f fd)(T:Top K mg a):AL P w K mg base CX0 1 f fd NI spWu:=by
 refine F.ok Mz D_9 λl A g s H vs Q E m h=>?_
 obtain⟨t,q,R,D,n,rfl,d,k⟩:=h;refine⟨_,(Ac (AQ (Az CK (pv 1) Ab (AF _)) (Ai (Av (CD (Aa (Aj Ak (pv 0) Ab R_9) (Aa (pv 3) (Aa (Aj Ak (pv 0) Ab R_9) (Aa (pv 3) Ae))))))) AC) (Ac (AQ (Az CK (pv 2) Ab (AF _)) (Ai (Av (CD (Aa (Aj Ak (pv 0) Ab R_9) (Aa (Aj Ak (pv 0) Ab R_9) (Aa (pv 3) (Aa (pv 3) Ae))))))) AC) (Ai (Av (pv 0))))),?_⟩
 try dsimp only[cxK]
 have o:∀{i:Hp},AA H i->i t=some (.tup (Cc q)):=λs=>s _ _ d;refine xq1 Z ⟨Z,(xq1 Z ?_)⟩;rw[nat0];by_cases b:R%2^n=0
 .rw[K0 b];refine BY (xwi Z Z Z (SqT.of d) (Ah (j:=0) Z) (xwj Z Z Z Z (SqT.of d) (Ah (j:=2) Z) (xq1 Z ⟨S_4,λp e=>k p _ (AG e) ?_⟩)));rw[Af];show some (HO.tup [V.int (q 0:Int),V.int (bareN n:Int),V.int (q 2:Int),V.int (bareN n:Int)])=_;unfold Cc wuQ;rw[K2 b,K2 b,K2 b,K2 b];rfl
 rw[K1 b];refine AY (xq1 Z ⟨Z,(xq1 Z ?_)⟩);rw[nat0];by_cases c:D%2^n=0
 .rw[K0 c];refine BY (xwi Z Z Z (SqT.of d) (Ah (j:=0) Z) (xwi Z Z Z (SqT.of d) (Ah (j:=1) Z) (xw2 Z Z ⟨S_4,λp e=>k p _ (AG e) ?_⟩)));rw[Af];show some (HO.tup [V.int (q 0:Int),V.int (q 1:Int),V.int (bareN n:Int),V.int (bareN n:Int)])=_;unfold Cc wuQ;rw[X9 b,X9 b,X9 b,X9 b,K2 c,K2 c,K2 c,K2 c];rfl
 rw[K1 c];refine AY (xq1 Z (k t H (AA.refl H) ?_));rw[d];unfold Cc wuQ;rw[X9 b,X9 b,X9 b,X9 b,X9 c,X9 c,X9 c,X9 c]
inductive SpRq(a:Ad)(vs:List V)(H:Hp)(Q:VK):Prop
|mk (g:GA) (G:Gv) (t:R_) (q:L_) (n:Nat) (sub:Nat->Nat->Nat) (_:vs=[.ref g.p,.ref t]) (_:AX a H g G) (_:H t=some (.tup (Cc q))) (_:YH G n q sub) (_:∀(L r0 r1 r2 r3:R_)(H':Hp),AA H H'->H L=none->H' L=some (.lst [.ref r0,.ref r1,.ref r2,.ref r3])->H' r0=some (.tup (Cc (gq sub 0)))->H' r1=some (.tup (Cc (gq sub 1)))->H' r2=some (.tup (Cc (gq sub 2)))->H' r3=some (.tup (Cc (gq sub 3)))->Q (.ref L) H'):SpRq a vs H Q
def spRq(a:Ad):Sp:=λvs H Q _=>SpRq a vs H Q
theorem ok_rq(F:Fun K "rows_of_quarters" "rows_of_quarters" DR f fd)(T:Top K mg a):AL P w K mg base CX0 1 f fd CU (spRq a):=by
 refine F.ok BZ D_9 λab A S s H vs Q E hr h=>?_
 obtain⟨g,G,t,q,n,b,rfl,m,N,M,k⟩:=h;refine⟨_,(Ac (Ao (i:=2) BZ.nd Z O_9 (Aj Ax (AE (pv 0) Z) (Aj Ak (pv 1) Ab R_9) R_9)) (Ac (Ao (i:=3) BZ.nd Z O_9 (Aj Ax (AE (pv 0) Z) (Aj Ak (pv 1) Ab R_9) R_9)) (Ac (Ao (i:=4) BZ.nd Z O_9 (Aj Ax (AE (pv 0) Z) (Aj Ak (pv 1) Ab R_9) R_9)) (Ac (Ao (i:=5) BZ.nd Z O_9 (Aj Ax (AE (pv 0) Z) (Aj Ak (pv 1) Ab R_9) R_9)) (Ai (Av (BX (Bp (Aa (Aj Ak (pv 2) Ab R_9) (Aa (Aj Ak (pv 2) Ab R_9) (Aa (Aj Ak (pv 3) Ab R_9) (Aa (Aj Ak (pv 3) Ab R_9) Ae)))) (Bp (Aa (Aj Ak (pv 2) Ab R_9) (Aa (Aj Ak (pv 2) Ab R_9) (Aa (Aj Ak (pv 3) Ab R_9) (Aa (Aj Ak (pv 3) Ab R_9) Ae)))) (Bp (Aa (Aj Ak (pv 4) Ab R_9) (Aa (Aj Ak (pv 4) Ab R_9) (Aa (Aj Ak (pv 5) Ab R_9) (Aa (Aj Ak (pv 5) Ab R_9) Ae)))) (Bp (Aa (Aj Ak (pv 4) Ab R_9) (Aa (Aj Ak (pv 4) Ab R_9) (Aa (Aj Ak (pv 5) Ab R_9) (Aa (Aj Ak (pv 5) Ab R_9) Ae)))) Ae))))))))))),?_⟩
 try dsimp only[cxK]
 obtain⟨s0,n0⟩:=M.nd 0 A3;obtain⟨s1,n1⟩:=M.nd 1 A3;obtain⟨s2,n2⟩:=M.nd 2 A3;obtain⟨s3,n3⟩:=M.nd 3 A3;obtain⟨ts,ta,h3,ea,B⟩:=Eu m.at' n0;obtain⟨ac,tb,O,eb,C⟩:=Eu m.at' n1;obtain⟨aa,tc,r,ec,D⟩:=Eu m.at' n2;obtain⟨V,td,p,ed,I⟩:=Eu m.at' n3;refine xwf Z Z m.at'.hp T.cl_Grove T.na_Grove_parts (Cg g) (xwi Z Z Z (SqT.of N) (Ah (j:=0) Z) (xq4 Z Z (SqL.of h3) (Ah ea) ?_));refine xwf Z Z m.at'.hp T.cl_Grove T.na_Grove_parts (Cg g) (xwi Z Z Z (SqT.of N) (Ah (j:=1) Z) (xq4 Z Z (SqL.of O) (Ah eb) ?_));refine xwf Z Z m.at'.hp T.cl_Grove T.na_Grove_parts (Cg g) (xwi Z Z Z (SqT.of N) (Ah (j:=2) Z) (xq4 Z Z (SqL.of r) (Ah ec) ?_));refine xwf Z Z m.at'.hp T.cl_Grove T.na_Grove_parts (Cg g) (xwi Z Z Z (SqT.of N) (Ah (j:=3) Z) (xq4 Z Z (SqL.of p) (Ah ed) ?_));have c:=AA.refl H;refine xwi Z Z Z (SqT.of (c _ _ B)) (Ah (j:=0) Z) (xwi Z Z Z (SqT.of (c _ _ B)) (Ah (j:=1) Z) (xwi Z Z Z (SqT.of (c _ _ C)) (Ah (j:=0) Z) (xwi Z Z Z (SqT.of (c _ _ C)) (Ah (j:=1) Z) ⟨S_4,λX R=>?_⟩)));have d:=c.trans (AG (o:=.tup (Cc (gq b 0))) R);refine xwi Z Z Z (SqT.of (d _ _ B)) (Ah (j:=2) Z) (xwi Z Z Z (SqT.of (d _ _ B)) (Ah (j:=3) Z) (xwi Z Z Z (SqT.of (d _ _ C)) (Ah (j:=2) Z) (xwi Z Z Z (SqT.of (d _ _ C)) (Ah (j:=3) Z) ⟨S_4,λY u=>?_⟩)));have e:=d.trans (AG (o:=.tup (Cc (gq b 1))) u);refine xwi Z Z Z (SqT.of (e _ _ D)) (Ah (j:=0) Z) (xwi Z Z Z (SqT.of (e _ _ D)) (Ah (j:=1) Z) (xwi Z Z Z (SqT.of (e _ _ I)) (Ah (j:=0) Z) (xwi Z Z Z (SqT.of (e _ _ I)) (Ah (j:=1) Z) ⟨S_4,λp2 v=>?_⟩)));have l:=e.trans (AG (o:=.tup (Cc (gq b 2))) v);refine xwi Z Z Z (SqT.of (l _ _ D)) (Ah (j:=2) Z) (xwi Z Z Z (SqT.of (l _ _ D)) (Ah (j:=3) Z) (xwi Z Z Z (SqT.of (l _ _ I)) (Ah (j:=2) Z) (xwi Z Z Z (SqT.of (l _ _ I)) (Ah (j:=3) Z) ⟨S_4,λp3 x=>?_⟩)));have y:=l.trans (AG (o:=.tup (Cc (gq b 3))) x);refine⟨S_4,λL W=>?_⟩;have t0:=AG (o:=.tup (Cc (gq b 1))) u;have t1:=AG (o:=.tup (Cc (gq b 2))) v;have U:=AG (o:=.tup (Cc (gq b 3))) x;have z:=AG (o:=.lst [.ref X,.ref Y,.ref p2,.ref p3]) W;exact k L X Y p2 p3 _ (y.trans z) (AA.noneOf y W) Af (z _ _ (U _ _ (t1 _ _ (t0 _ _ Af)))) (z _ _ (U _ _ (t1 _ _ Af))) (z _ _ (U _ _ Af)) (z _ _ Af)
end
theorem OC(q:L_){k:Nat}(a:k<4):(Cc q)[k]?=some (.int (q k:Int)):=by
 match k,a with
 |0,_=>rfl
 |1,_=>rfl
 |2,_=>rfl
 |3,_=>rfl
section
variable{P:N_}{w:Q_}{K:O_}{mg:C_}{base:T_}{a:Ad}
inductive SpSa(a:Ad)(n:Nat)(vs:List V)(H:Hp)(Q:VK):Prop
|mk (g:GA) (G:Gv) (c:Sc) (kn tf:R_) (kvs:List (List Key×V)) (q:L_) (i j N:Nat) (_:vs=[.ref g.p,.ref tf,.int ((c.R%2^N:Nat):Int),.int ((c.D%2^N:Nat):Int),.ref kn]) (_:AX a H g G) (_:H kn=some (.dT kvs)) (_:kn∉DF g) (_:H tf=some (.tup (Cc q))) (_:Ag G c N i j q) (_:SOk G c kvs) (_:Vz c) (_:N<n) (_:N<=47) (_:G.length+49*c.M<8000000+kvs.length/\49*c.M<4000000) (_:∀(m:Nat)(G':Gv)(kvs':List (List Key×V))(H':Hp),Fx (frM g kn) H H'->AX a H' g G'->H' kn=some (.dT kvs')->SOk G' c kvs'->kvs.length<=kvs'.length->AI G G' (kvs'.length-kvs.length)->UnS G N kvs kvs'->Rs G' c N i j m->Q (.int m) H'):SpSa a n vs H Q
def Zb(a:Ad)(n:Nat):Sp:=λvs H Q _=>SpSa a n vs H Q
inductive SpSq(a:Ad)(n:Nat)(vs:List V)(H:Hp)(Q:VK):Prop
|mk (g:GA) (G:Gv) (c:Sc) (kn tf:R_) (kvs:List (List Key×V)) (q:L_) (i j N:Nat) (_:vs=[.ref g.p,.ref tf,.int ((c.R%2^(N+1):Nat):Int),.int ((c.D%2^(N+1):Nat):Int),.ref kn]) (_:AX a H g G) (_:H kn=some (.dT kvs)) (_:kn∉DF g) (_:H tf=some (.tup (Cc q))) (_:QAt G c (N+1) i j q) (_:SOk G c kvs) (_:Vz c) (_:N<n) (_:N<=46) (_:G.length+49*c.M<8000000+kvs.length/\49*c.M<4000000) (_:∀(m:Nat)(G':Gv)(kvs':List (List Key×V))(H':Hp),Fx (frM g kn) H H'->AX a H' g G'->H' kn=some (.dT kvs')->SOk G' c kvs'->kvs.length<=kvs'.length->AI G G' (kvs'.length-kvs.length+1)->UnS G N kvs kvs'->Rs G' c (N+1) i j m->Q (.int m) H'):SpSq a n vs H Q
def spSq(a:Ad)(n:Nat):Sp:=λvs H Q _=>SpSq a n vs H Q
theorem ok_sq{n d:Nat}(hd:2<=d)(F:Fun K "seen_quarters" "seen_quarters" DM f fd)(T:Top K mg a)(aN:Cal P w K mg base CX0 1 "rows_of_quarters" CU (spRq a))(a9:Cd P w K mg base CX0 2 a.c_Grove "linked" AW (Eg a))(cA:Cal P w K mg base CX0 d "seen_at" FT (Zb a n)):AL P w K mg base CX0 (d+1) f fd FT (spSq a n):=by
 refine F.ok Bv (λvs H Q E h=>?_) (λbq A bj s H vs Q E hr h=>?_)
 .apply AR;intro G_ u;obtain⟨g,G,c,X,tf,kvs,q,i,j,N,rfl,_⟩:=h;apply u;clear u G_;rfl
 .apply AR;intro G_ u;obtain⟨g,G,c,X,tf,kvs,q,i,j,N,rfl,W,hk,nk,a0,qa,bl,sc,Nn,a6,⟨few,av⟩,k⟩:=h;apply u;clear u G_;refine⟨_,(Ac (Ao (i:=5) Bv.nd Z O_9 (AB Mq Ab (AB BI (Aj Ax (AE (pv 0) Z) (Aj Ak (pv 1) Ab R_9) R_9) Ab))) (Ac (Ao (i:=6) Bv.nd Z O_9 (As aN (rm hr) Z Aq (Aa (pv 0) (Aa (pv 1) Ae)))) (Ac (Ao (i:=7) Bv.nd Z O_9 (BX Ae)) (Ac (Cv A0b Z (CC Z T.b_range (AN Ae)) (Bn (i:=8) Bv.nd Z O_9) (Ac (Ao (i:=9) Bv.nd Z O_9 (AB AO (AB MN (pv 2) (pv 5)) (AB Bc (pv 8) Ab))) (Ac (Ao (i:=10) Bv.nd Z O_9 (AB AO (AB MN (pv 3) (pv 5)) (AB Do (pv 8) Ab))) (Ac (Ao (i:=11) Bv.nd Z O_9 (CD (Aa (Aj Ak (Aj Ax (pv 6) (pv 10) R_9) (pv 9) R_9) (Aa (Aj Ak (Aj Ax (pv 6) (pv 10) R_9) (AB AO (pv 9) Ab) R_9) (Aa (Aj Ak (Aj Ax (pv 6) (AB AO (pv 10) Ab) R_9) (pv 9) R_9) (Aa (Aj Ak (Aj Ax (pv 6) (AB AO (pv 10) Ab) R_9) (AB AO (pv 9) Ab) R_9) Ae)))))) (Ai (BJ (De K8 K9 A0a BF (pv 7) (Aa (As cA (rm hr) Z Aq (Aa (pv 0) (Aa (pv 11) (AV Bc (pv 2) (pv 5) (AV Bc (pv 3) (pv 5) (Aa (pv 4) Ae)))))) Ae)))))))) (Ai (Av (AJ (pv 0) a9 (rm hr) Aq (Aa (Bd BM Z T.b_tuple A0h (Aa (pv 7) Ae)) Ae)))))))),?_⟩
  try dsimp only[cxK]
  obtain⟨b,hs⟩:=sub4_of W.ok qa.a.lev;obtain⟨q0,a7,ah⟩:=id (qa.a.lev 0 A3);have bc:(1:Int)*2^(q0.lev-1).toNat=((2^N:Nat):Int):=by
   rw[ah,show(((N+1:Nat):Int)-1).toNat=N by lia,Int.one_mul,Fq]
  refine xwf Z Z W.at'.hp T.cl_Grove T.na_Grove_levels (EX g) (xwi Z Z Z (SqT.of a0) (Ah (j:=0) Z) (xq4 Z Z (SqL.of W.at'.lv) (Ah (by rw[C0,a7];rfl)) (xq2 Z Z (xq2 Z Z ⟨⟨by rw[ah];lia,by rw[ah];lia,by decide⟩,?_⟩))));rw[show(λ(i j:Int)=>V.int (i*2^j.toNat)) 1 ((λ(i j:Int)=>i-j) q0.lev 1)=V.int ((2^N:Nat):Int)from A0c V.int bc];refine xw2 Z Z ⟨g,G,tf,q,N,b,Z,W,a0,hs,λL r0 r1 r2 r3 H2 s2 nL hL h0 h1 h2 h3=>?_⟩;refine⟨S_0,λI ac=>?_⟩;have s3:=AG (o:=.lst []) ac;have ax:upd H2 I (.lst []) I=some (.lst []):=Af;show(WS _ _) _ _ (upd H2 I (.lst []));generalize upd H2 I (.lst [])=H3 at s3 ax⊢;have am:=s2.trans s3;have al:H I=none:=AA.noneOf s2 ac;have af:∀{r:Nat},r<4->∃x,[V.ref r0,V.ref r1,V.ref r2,V.ref r3][r]?=some (.ref x)/\H3 x=some (.tup (Cc (gq b r))):=λ{r} hr=>by
   match r,hr with
   |0,_=>exact⟨r0,Z,s3 _ _ h0⟩
   |1,_=>exact⟨r1,Z,s3 _ _ h1⟩
   |2,_=>exact⟨r2,Z,s3 _ _ h2⟩
   |3,_=>exact⟨r3,Z,s3 _ _ h3⟩
  have bb:=s3 _ _ hL;have a8:=W.same am;have be:=am _ _ hk;have aa:I∉DF g:=λz=>by
   obtain⟨oo,e⟩:=(W.same s2).nw.s I z;rw[ac]at e;cases e
  have a1:I≠X:=λz=>by
   rw[z,hk]at al;cases al
  have mF:I∉frM g X:=λz=>by
   simp only[frM,C3,D8,A0g]at z;rcases z with z|z|z|z
   .exact aa (by rw[z];simp[DF])
   .exact aa (by rw[z];simp[DF])
   .exact aa (by rw[z];simp[DF])
   .exact a1 z
  have LF:L∉I::frM g X:=λz=>by
   rcases C3.mp z with z|z
   .rw[z]at hL;rw[ac]at hL;cases hL
   .simp only[frM,C3,D8,A0g]at z;have ex:∃o,H L=some o:=by
     rcases z with z|z|z|z
     .exact W.nw.s L (by rw[z];simp[DF])
     .exact W.nw.s L (by rw[z];simp[DF])
     .exact W.nw.s L (by rw[z];simp[DF])
     .exact⟨_,by rw[z];exact hk⟩
    obtain⟨o,e⟩:=ex;rw[nL]at e;cases e
  clear h0 h1 h2 h3 hL s2 s3;have c2:c.R%2^(N+1)/2^N<2:=BU (F6 _ (AK _));have d2:c.D%2^(N+1)/2^N<2:=BU (F6 _ (AK _));have pN:0<2^N:=AK N;have pI:(0:Int)<((2^N:Nat):Int):=by lia
  have a4:((2^N:Nat):Int)<2^64:=by
   have:2^N<=2^46:=N7 A3 a6;lia
  have ar:∀R:Nat,((R%2^(N+1):Nat):Int)%((2^N:Nat):Int)=((R%2^N:Nat):Int):=λR=>by rw[<-Int.natCast_emod,EA]
  refine⟨4,Z,by decide,by decide,?_⟩;refine CF (n:=4) (λp σ H4=>∃(G4:Gv)(l:List (List Key×V))(B:L_)(u8 u9 an ao:Option V),σ=[some (.ref g.p),some (.ref tf),some (.int ((c.R%2^(N+1):Nat):Int)),some (.int ((c.D%2^(N+1):Nat):Int)),some (.ref X),some (.int ((2^N:Nat):Int)),some (.ref L),some (.ref I),u8,u9,an,ao]/\Fx (I::frM g X) H3 H4/\H4 I=some (.lst ((List.range p).map λx=>V.int (B x:Nat)))/\AX a H4 g G4/\H4 X=some (.dT l)/\SOk G4 c l/\kvs.length<=l.length/\AI G G4 (l.length-kvs.length)/\UnS G N kvs l/\∀x,x<p->Rs G4 c N (2*i+(c.R%2^(N+1)/2^N+x%2)) (2*j+(c.D%2^(N+1)/2^N+x/2)) (B x)) ⟨G,kvs,λ_=>0,none,none,none,none,Z,Fx.refl _ H3,ax,a8,be,bl,C1 _,(AI.refl W.ok).mono A0,UnS.refl _ _ _,λx hx=>absurd hx (M7 _)⟩ ?_ ?_
  .rintro p σ H4 hp bp;apply AR;intro G_ u;obtain⟨G4,l,B,u8,u9,an,ao,rfl,x4,ak,t,aj,U,a3,M,aq,S⟩:=bp;apply u;clear u G_;have eC:((c.R%2^(N+1):Nat):Int)/((2^N:Nat):Int)+(0+(p:Int))%2=((c.R%2^(N+1)/2^N+p%2:Nat):Int):=by rw[<-U1];lia
   have eD:((c.D%2^(N+1):Nat):Int)/((2^N:Nat):Int)+(0+(p:Int))/2=((c.D%2^(N+1)/2^N+p/2:Nat):Int):=by rw[<-U1];lia
   have ag:=(qa.inner hs hp).app W.ok M;have C2:c.R%2^(N+1)/2^N+p%2<3:=by lia
   have D2:c.D%2^(N+1)/2^N+p/2<3:=by lia
   refine xw2 Z Z (xq2 Z Z ⟨⟨pI,a4⟩,(xwb Z Z Z ⟨B7,(xq2 Z Z ?_)⟩)⟩);rw[show(λ(i j:Int)=>V.int (i+j)) (((c.R%2^(N+1):Nat):Int)/((2^N:Nat):Int)) ((0+(p:Int))%2)=V.int ((c.R%2^(N+1)/2^N+p%2:Nat):Int)from A0c V.int eC];refine xw2 Z Z (xq2 Z Z ⟨⟨pI,a4⟩,(xwb Z Z Z ⟨⟨by decide,by decide⟩,(xq2 Z Z ?_)⟩)⟩);rw[show(λ(i j:Int)=>V.int (i+j)) (((c.D%2^(N+1):Nat):Int)/((2^N:Nat):Int)) ((0+(p:Int))/2)=V.int ((c.D%2^(N+1)/2^N+p/2:Nat):Int)from A0c V.int eD];generalize hC:c.R%2^(N+1)/2^N+p%2=C at ag C2⊢;generalize ba:c.D%2^(N+1)/2^N+p/2=v at ag D2⊢;obtain⟨y0,as,ad⟩:=af (r:=v) A0;obtain⟨y1,au,ae⟩:=af (r:=v+1) A0;have ab:=x4.get LF bb;have ad:=x4.tup ad;have ae:=x4.tup ae;have b0:=OC (gq b v) (k:=C) A0;have b1:=OC (gq b v) (k:=C+1) A0;have b2:=OC (gq b (v+1)) (k:=C) A0;have b3:=OC (gq b (v+1)) (k:=C+1) A0;refine xwj Z Z Z Z (SqL.of ab) (Ah as) (xwi Z Z Z (SqT.of ad) (Ah b0) ?_);refine xwj Z Z Z Z (SqL.of ab) (Ah as) (xwb Z Z Z (xq4 Z Z (SqT.of ad) (Ah b1) ?_));refine xw2 Z Z (xq2 Z Z (xq4 Z Z (SqL.of ab) (Ah au) (xwi Z Z Z (SqT.of ae) (Ah b2) ?_)));refine xw2 Z Z (xq2 Z Z (xq4 Z Z (SqL.of ab) (Ah au) (xwb Z Z Z (xq4 Z Z (SqT.of ae) (Ah b3) ?_))));refine⟨S_4,λqp bg=>?_⟩;have Y:=AG (o:=.tup (Cc (Sb b v C))) bg;have h5:upd H4 qp (.tup (Cc (Sb b v C))) qp=some (.tup (Cc (Sb b v C))):=Af;obtain⟨H5,e5⟩:∃H5,upd H4 qp (.tup (Cc (Sb b v C)))=H5:=⟨_,Z⟩
   have et:[V.int (gq b v C:Int),V.int (gq b v (C+1):Int),V.int (gq b (v+1) C:Int),V.int (gq b (v+1) (C+1):Int)]=Cc (Sb b v C):=rfl;rw[et,e5];rw[e5]at Y h5;clear e5 et;have x5:=x4.trans (AA.fx Y);have ay:=Y _ _ ak;have g4:=M.few;refine xq1 Z ⟨.inl ⟨Z,_,SqL.of ay⟩,(xw3 Z Z Z (xwb Z Z Z ⟨pI,(xw2 Z Z (xq2 Z Z ⟨pI,(xq1 Z ?_)⟩))⟩))⟩;refine⟨g,G4,c,X,qp,l,Sb b v C,2*i+C,2*j+v,N,?_,t.same Y,Y _ _ aj,nk,h5,ag,U,sc,Nn,by lia,⟨by lia,av⟩,λm G6 a2 H6 x6 ai bf a5 br O bm bi=>?_⟩
   .show [V.ref g.p,V.ref qp,V.int (((c.R%2^(N+1):Nat):Int)%((2^N:Nat):Int)),V.int (((c.D%2^(N+1):Nat):Int)%((2^N:Nat):Int)),V.ref X]=_;rw[ar,ar]
   have az:=x6.get mF ay;refine⟨I,_,.int m,Z,Z,az,by rw[B8,L7];exact EH A0,?_⟩;have x7:=fx_up (o':=.lst (((List.range p).map λx=>V.int (B x:Nat))++[.int m])) az (λz=>z);refine⟨G6,a2,λx=>if x=p then m else B x,_,_,_,_,Z,(x5.trans (x6.mono (by simp[frM]))).trans (x7.mono A6),?_,ai.fx x7 (λy hy z=>aa (by rw[D4]at z;rw[<-z];exact hy)),x7.get (by simpa using K6 a1) bf,a5,by lia,(M.trans O).mono A0,aq.trans M bm,λx hx=>?_⟩
   .rw[Af,P2,C7];congr 3
    .exact List.map_congr_left λx hx=>by
      show V.int (B x:Nat)=V.int ((if x=p then m else B x:Nat):Int);rw[X9 (by have:=J6.mp hx;lia)]
    .show [V.int m]=[V.int ((if p=p then m else B p:Nat):Int)]
     rw[K2 rfl]
   .dsimp only;by_cases z:x=p
    .subst z;rw[K2 rfl,hC,ba];exact bi
    .rw[X9 z];exact(S x A0).app t.ok O
  .rintro σ H4 bo;apply AR;intro G_ u;obtain⟨G4,l,B,u8,u9,an,ao,rfl,x4,ak,t,aj,U,a3,M,aq,S⟩:=bo;apply u;clear u G_;have g4:=M.few;obtain⟨r4,e4⟩:=t.g0;have l4:=U.len e4 t.ok sc;refine xq1 Z ⟨g.p,g.dx,(xq1 Z ⟨t.at'.hp,BT g,(xq1 Z ⟨I,(xq1 Z (.inl ⟨SqL.of ak,λtl bh=>?_⟩))⟩)⟩)⟩;have Y:=AG (o:=.tup [.int (B 0:Nat),.int (B 1:Nat),.int (B 2:Nat),.int (B 3:Nat)]) bh;refine⟨g,G4,tl,B 0,B 1,B 2,B 3,(N:Int),Z,t.at'.same Y,t.ok,Af,⟨(S 0 A3).lev,(S 1 A3).lev,(S 2 A3).lev,(S 3 A3).lev⟩,by lia,by lia,λm G6 H6 aw bd O e6=>?_⟩;have x6:=aw.fx (t.at'.same Y);have ai:=(t.same Y).fr aw bd O;have bn:Fx (I::frM g X) H3 H6:=(x4.trans (AA.fx Y)).trans (x6.mono (by simp[frM]));have kf:X∉[g.lv,g.pt,g.nm]:=λz=>nk (by simp[DF]at *;lia);exact k m G6 l H6 (Fx.fresh am bn al) ai (x6.get kf (Y _ _ aj)) (U.go t.ok O) a3 (M.trans O) aq (Rs.join (λx hx=>(S x hx).app t.ok O) e6)
theorem ok_saS{n d:Nat}(F:Fun K "seen_at" "seen_at" Lq f fd)(T:Top K mg a)(hd:1<=d)(aR:Cal P w K mg base CX0 1 "without_unseen" NI spWu)(cX:Cal P w K mg base CX0 d "seen_quarters" FT (spSq a n)):AL P w K mg base CX0 (d+1) f fd FT (Zb a (n+1)):=by
 refine F.ok EK (λvs H Q E h=>?_) (λa0 A aw s H vs Q E hr h=>?_)
 .apply AR;intro S b;obtain⟨g,G,c,kn,tf,kvs,q,i,j,N,rfl,_⟩:=h;apply b;clear b S;rfl
 .apply AR;intro S b;obtain⟨g,G,c,kn,tf,kvs,q,i,j,N,rfl,u,hk,nk,ad,ag,ae,sc,Nn,az,few,k⟩:=h;apply b;clear b S;refine⟨_,(Ac (AQ (PW.pt (Mj (Az CK (pv 2) Ab (AF _)) (Ja (Az CK (pv 3) Ab (AF _))))) (Ai (Av (Aj Ak (pv 1) Ab R_9))) AC) (Ac (Ao (i:=5) EK.nd Z O_9 (Aj Ax (AE (pv 0) Z) (Aj Ax (AE (pv 0) Z) (Aj Ak (pv 1) Ab R_9) R_9) R_9)) (Ac (Ao (i:=6) EK.nd Z O_9 (As aR (rm hr) Z Aq (Aa (pv 1) (Aa (pv 2) (Aa (pv 3) (Aa (pv 5) Ae)))))) (Ac (AQ (Az (WZ hr.units) (pv 6) (CD (Aa (pv 5) (Aa (pv 5) (Aa (pv 5) (Aa (pv 5) Ae))))) (AF _)) (Ai (Av (pv 5))) AC) (Ac (Ao (i:=7) EK.nd Z O_9 (IA (EC hr) (pv 4) (pv 6) ⟨Z,Z,Z,Z⟩)) (Ac (AQ (Az FE (pv 7) Cw (AF _)) (Ac (Ao (i:=7) EK.nd Z O_9 (As cX (rm hr) Z Aq (Aa (pv 0) (Aa (pv 6) (Aa (pv 2) (Aa (pv 3) (Aa (pv 4) Ae))))))) (Ai (FM (EC hr) (pv 4) (pv 6) (pv 7) Z))) AC) (Ai (Av (pv 7))))))))),?_⟩
  try dsimp only[cxK]
  obtain⟨r0,e0⟩:=u.g0;have r:∀{m:Nat}{U:Hp},AA H U->Rs G c N i j m->Q (.int m) U:=λ{m U} s' mx=>k m G kvs U (AA.fx s') (u.same s') (s' _ _ hk) ae (C1 _) ((AI.refl u.ok).mono A0) (UnS.refl _ _ _) mx;refine xq1 Z ⟨Z,(xq1 Z ?_)⟩;rw[nat0];apply meetH (fun σ U=>H=U/\σ=[some (.ref g.p),some (.ref tf),some (.int ((c.R%2^N:Nat):Int)),some (.int ((c.D%2^N:Nat):Int)),some (.ref kn),none,none,none]/\¬(c.R%2^N=0/\c.D%2^N=0))
  .intro L;by_cases z1:c.R%2^N=0
   .rw[K0 z1];refine BY (xq1 Z ⟨Z,(xq1 Z ?_)⟩);rw[nat0];by_cases z2:c.D%2^N=0
    .rw[K0 z2];exact BY (xwi Z Z Z (SqT.of ad) (Ah (j:=0) Z) (r (AA.refl H) (ag.first z1 z2)))
    .rw[K1 z2];exact AY (L _ _ ⟨Z,Z,λz=>z2 z.2⟩)
   .rw[K1 z1];exact AY (AY (L _ _ ⟨Z,Z,λz=>z1 z.1⟩))
  rintro σ U ⟨rfl,rfl,nz⟩;have C:=ag.wu e0 u.ok A0 nz;obtain⟨q0,ar,ao⟩:=id (ag.lev 0 A3);refine⟨_,Z,g.p,_,g.dx,_,_,Z,u.at'.hp,T.cl_Grove,T.na_Grove_bares,Iq g,_,Z,g.p,_,g.dx,_,_,Z,u.at'.hp,T.cl_Grove,T.na_Grove_levels,EX g,_,Z,tf,_,0,.int (q 0:Int),Z,Z,SqT.of ad,Ah (j:=0) Z,g.lv,_,(q 0:Int),.int q0.lev,Z,Z,SqL.of u.at'.lv,Ah (by rw[C0,ar];rfl),g.br,_,(N:Int),.int (bareN N:Int),Z,by rw[ao],SqL.of u.br,Ah (bareL_at' A0),?_⟩;refine xw3 Z Z Z (xq1 Z ⟨tf,q,c.R,c.D,N,Z,ad,λt' H1 s1 ah=>?_⟩);generalize wuQ c.R c.D N q=l at C ah;refine xw3 Z Z Z (xw2 Z Z ⟨S_4,λtb ai=>?_⟩);have s2:=AG (o:=.tup [.int (bareN N:Int),.int (bareN N:Int),.int (bareN N:Int),.int (bareN N:Int)]) ai;have aa:upd H1 tb (.tup [.int (bareN N:Int),.int (bareN N:Int),.int (bareN N:Int),.int (bareN N:Int)]) tb=some (.tup (Cc λ_=>bareN N)):=Af;show ∃_,_;generalize upd H1 tb (.tup [.int (bareN N:Int),.int (bareN N:Int),.int (bareN N:Int),.int (bareN N:Int)])=H2 at s2 aa⊢;have B:=s1.trans s2;have ac:=s2 _ _ ah;have tq:∀q:Nat->Nat,Cc q=([(q 0:Int),(q 1:Int),(q 2:Int),(q 3:Int)]:I_).map V.int:=λq=>Z;refine⟨t',tb,[(l 0:Int),(l 1:Int),(l 2:Int),(l 3:Int)],[(bareN N:Int),(bareN N:Int),(bareN N:Int),(bareN N:Int)],Z,Z,SqT.of (by rw[<-tq];exact ac),SqT.of aa,(xq1 Z (Ip (λz=>?_) (λz=>?_)))⟩
  .have z:=A0d z;apply AR;intro S b;obtain⟨z0,z1,z2,z3⟩:=cast4' z;apply b;clear b S;refine xq1 Z (r B (C.bare e0 u.ok A0 λk hk=>?_))
   match k,hk with
   |0,_=>exact z0
   |1,_=>exact z1
   |2,_=>exact z2
   |3,_=>exact z3
  have nb:∃k,k<4/\l k≠bareN N:=K4 λy=>z (K0 (by
   have y:∀k,k<4->l k=bareN N:=λk hk=>K4 λw=>y ⟨k,hk,w⟩;rw[y 0 A3,y 1 A3,y 2 A3,y 3 A3]))
  clear aa z ai;have ab:=B _ _ hk;have as:=u.same B;have aj:H2 t'=some (.tup ((kQ l).map kV)):=ac;refine xq1 Z ⟨kn,Z,.inr ⟨kvs,.inl ab⟩,(xq1 Z ⟨_,IF.t ab aj,?_⟩)⟩;cases ev:Br kvs (kQ l)with
  |some v =>
   apply AR;intro S b;obtain⟨n',i',j',a3,m,en⟩:=ae.val _ (SK ev);apply b;clear b S;have e2:=en.e;injection e2 with e2 e3
   subst e3;have W:=kQ_inj e2;have aq:n'=N:=K5 ((en.at'.a.lev 0 A3).uniq (by rw[<-W 0 A3];exact C.a.lev 0 A3));subst aq;have ax:QAt G c n' i' j' l:=⟨⟨C.a.lev,λx y hx hy m1 m2=>by rw[W _ (BS hx hy)];exact en.at'.a.ag x y hx hy m1 m2⟩,λx y hx hy m1=>by rw[W _ (BS hx hy)];exact en.at'.off x y hx hy m1⟩
   exact xq1 Z ⟨Z,(xq1 Z (AY (xq1 Z (r B (C.hit ax en.rs)))))⟩
  |none =>
   refine xq1 Z ⟨Z,(xq1 Z (BY ?_))⟩;obtain⟨M,rfl⟩:∃M,N=M+1:=by
    cases N with
    |zero=>exact absurd ⟨Nat.mod_one _,Nat.mod_one _⟩ nz
    |succ M=>exact⟨M,Z⟩
   refine xw3 Z Z Z (xw2 Z Z ?_);refine⟨g,G,c,kn,t',kvs,l,i,j,M,Z,as,ab,nk,ac,C,ae,sc,by lia,by lia,few,λm G3 I H3 x3 X af O a2 Y an al=>?_⟩;have g3:=Y.few;obtain⟨r3,e3⟩:=X.g0;have l3:=O.len e3 X.ok sc;have av:Br I (kQ l)=none:=an l (M+1) (C.a.lev 0 A3) A0 ev;have ak:H3 t'=some (.tup ((kQ l).map kV)):=x3.tup aj;refine xw3 Z Z Z ⟨kn,(xq1 Z ⟨LN.t (k:=kQ l) af ak (EH A0),?_⟩)⟩;obtain⟨am,ay⟩:=O.put ⟨Z,C.app u.ok Y,al,nb,by lia⟩ av;have x4:=fx_up (o':=.dT (DI I (kQ l) (.int m))) af (λz=>z);have au:=X.fx x4 (λy hy z=>nk (by rw[D4]at z;rw[<-z];exact hy));refine xq1 Z (k m G3 _ _ (((AA.fx B).trans x3).trans (x4.mono (by simp[frM]))) au Af am A0 (Y.mono A0) ?_ al);intro q9 N' hN a1 z;rw[Fl,X9]
   .exact an q9 N' hN A0 z
   .intro y;have:=kQ_inj y 0 A3;rw[this]at hN;have:=K5 (hN.uniq (C.a.lev 0 A3));lia
theorem ok_sa{f:R_}{m:E_}{r:R_}{e:E_}(F:Fun K "seen_at" "seen_at" Lq f m)(o:Fun K "seen_quarters" "seen_quarters" DM r e)(T:Top K mg a)(B:mg "seen_at" = some (.ref f))(v:CN K m FT [])(l:mg "seen_quarters" = some (.ref r))(k:CN K e FT [])(z:Cal P w K mg base CX0 1 "without_unseen" NI spWu)(y:Cal P w K mg base CX0 1 "rows_of_quarters" CU (spRq a))(x:Cd P w K mg base CX0 2 a.c_Grove "linked" AW (Eg a)):∀n,AL P w K mg base CX0 (2*n+2) f m FT (Zb a n)
|0=>by
 refine F.ok EK (λvs H Q E h=>?_) (λC A u s H vs Q E L h=>?_)
 .apply AR;intro p b;obtain⟨g,G,c,D,I,kvs,q,i,j,N,rfl,_,_,_,_,_,_,_,t,_⟩:=h;apply b;clear b p;exact absurd t (M7 _)
 .apply AR;intro p b;obtain⟨g,G,c,D,I,kvs,q,i,j,N,rfl,_,_,_,_,_,_,_,t,_⟩:=h;apply b;clear b p;exact absurd t (M7 _)
|n+1=>ok_saS F T A0 z ⟨r,e,ok_sq (d:=2*n+2) A0 o T y x ⟨f,m,ok_sa F o T B v l k z y x n,B,F.kp,v⟩,l,o.kp,k⟩
end
def frA(g:GA):List Addr:=[g.lv,g.pt,g.nm,g.am,g.bx]
theorem LA{G:Gv}{n f:Nat}{x y:Int}(h:¬(-(2^n)<=x/\x<2^n/\-(2^n)<=y/\y<2^n)):fieldF G n f x y=0:=X9 h
def Fu(N px py w k:Nat):Nat:=if k=px+2*py then w else bareN N
theorem four_ag{G r:Gv}(f:G=G0++r)(ok:GOk G){n w a b M R D:Nat}{cl:Nat->Nat->Nat->Nat}(C:n<=46)(E:a<2)(F:b<2)(A:An G w ((n+1:Nat):Int)){φ:D_}(e:∀u v,fieldF G n w u v=φ u v):Ag G ⟨λx y=>φ ((x:Int)-(a*2^(n+1)+2^n)) ((y:Int)-(b*2^(n+1)+2^n)),R,D,M,cl⟩ (n+1) 0 0 (Fu (n+1) a b w):=by
 have ps:=LQ n;have H:=AK n;have c1:=Fq n;have c2:=Fq (n+1);refine⟨λk B=>?_,λx y j l _ _=>?_⟩
 .unfold Fu;split
  .exact A
  .exact EE f A0
 obtain⟨I,K⟩:=Gi j l;have g:=BU j;have i:=BU l;have m:=F6 x (AK (n+1));have o:=F6 y (AK (n+1));have c:=M8 x (2^(n+1));have d:=M8 y (2^(n+1));show _=φ (((0*2^(n+1)+x:Nat):Int)-(a*2^(n+1)+2^n)) (((0*2^(n+1)+y:Nat):Int)-(b*2^(n+1)+2^n));rw[Z8,N3,N3,<-e];by_cases z:x/2^(n+1)=a/\y/2^(n+1)=b
 .have eq:Fu (n+1) a b w (quad (n+1) x y)=w:=by
   unfold Fu;rw[K2 A0]
  rw[eq];rw[z.1]at c;rw[z.2]at d;have s:(x:Int)-(a*2^(n+1)+2^n)=((x%2^(n+1):Nat):Int)-2^n:=by
   have:(x:Int)=((2^(n+1)*a+x%2^(n+1):Nat):Int):=by rw[c]
   rw[this,M9,N9,c2];rw[Int.mul_comm ((2:Int)^(n+1))];lia
  have t:(y:Int)-(b*2^(n+1)+2^n)=((y%2^(n+1):Nat):Int)-2^n:=by
   have:(y:Int)=((2^(n+1)*b+y%2^(n+1):Nat):Int):=by rw[d]
   rw[this,M9,N9,c2];rw[Int.mul_comm ((2:Int)^(n+1))];lia
  rw[s,t];generalize x%2^(n+1)=X at m;generalize y%2^(n+1)=Y at o;unfold fieldF;rw[K2 (by rw[<-c1];lia)];congr 1
  .lia
  .lia
 .have eq:Fu (n+1) a b w (quad (n+1) x y)=bareN (n+1):=by
   unfold Fu;rw[X9 A0]
  rw[eq,DB f ok A0 m o];refine(LA ?_).symm;have far:∀{x a:Nat},x/2^(n+1)≠a->¬(-(2^n)<=(x:Int)-(a*2^(n+1)+2^n)/\(x:Int)-(a*2^(n+1)+2^n)<2^n):=λ{x a} ne h=>ne (by
   rw[<-c1,<-c2]at h;have g:a*2^(n+1)<=x:=by
    have:((a*2^(n+1):Nat):Int)<=x:=by rw[N9];lia
    lia
   have i:x<(a+1)*2^(n+1):=by
    have:(x:Int)<((a*2^(n+1)+2^(n+1):Nat):Int):=by rw[M9,N9];lia
    rw[T5,Nat.one_mul];lia
   exact Nat.div_eq_of_lt_le g i)
  intro h;by_cases p:x/2^(n+1)=a
  .exact far (λq=>z ⟨p,q⟩) ⟨h.2.2.1,h.2.2.2⟩
  .exact far p ⟨h.1,h.2.1⟩
section
variable{P:N_}{w:Q_}{K:O_}{mg:C_}{base:T_}{a:Ad}
theorem ixN_nat{n j:Nat}(h:j<n):ixN n (j:Int)=some j:=by
 unfold ixN;rw[K2 A0,K2 A0,J7]
theorem VE{σ:St}{i:Nat}{dx c:Int}{H:Hp}{Q:VK}(h:σ[i]?=some (some (.int dx)))(q:Q (.int (if 0<dx then c else 0)) H):tIf (YV (tOp (rI0 λi j=>V.bl (decide (j<i))) (GR i) (tC (V.int 0)))) (tC (V.int c)) (tC (V.int 0)) σ H Q:=by
 refine⟨_,h,(xq2 Z Z (xq1 Z ?_))⟩;by_cases z:0<dx
 .rw[K2 z]at q;rw[K0 z];exact BY q
 .rw[X9 z]at q;rw[K1 z];exact AY q
theorem Td{n:Nat}{dx l w:Int}(c:-(2^n)<=l)(d:l<2^n)(f:-(2^n)<=l+dx)(g:l+dx<2^n):∃(b R:Nat),b<2/\(if 0<dx then(1:Int)else 0)=b/\R<2^(n+1)/\-dx%(2*2^n)=(R:Int)/\(R:Int)-b*2^(n+1)=-dx:=by
 have e:=Cm n;have c2:=Fq (n+1);by_cases z:0<dx
 .refine⟨1,(2^(n+1)-dx).toNat,by decide,K2 z,by lia,?_,by lia⟩;rw[show -dx=(2^(n+1)-dx)+(2*2^n)*(-1) by lia,Int.add_mul_emod_self_left,Int.emod_eq_of_lt A0 A0];lia
 .refine⟨0,(-dx).toNat,by decide,X9 z,by lia,?_,by lia⟩;rw[Int.emod_eq_of_lt A0 A0];lia
def Tgt(G:Gv)(n f:Nat)(dx dy:Int)(li:Prop):Prop:=∀b,Cb G (n+1) f=some b->(FR ((mvB (2^n) b).l+dx) ((mvB (2^n) b).t+dy) (mvB (2^n) b).w (mvB (2^n) b).h (2^40)↔li)
inductive SpMv(a:Ad)(vs:List V)(H:Hp)(Q:VK):Prop
|mk (g:GA) (G:Gv) (f n M:Nat) (dx dy:Int) (φ:D_) (_:vs=[.ref g.p,.int f,.int dx,.int dy]) (_:AX a H g G) (_:Fd G n f) (_:∀u v,fieldF G n f u v=φ u v) (_:Tgt G n f dx dy True) (_:∀(ax ay:Int)(R D:Nat),∃cl,Vz ⟨λx y=>φ ((x:Int)-ax) ((y:Int)-ay),R,D,M,cl⟩) (_:49*M<1000000) (_:G.length<6000000) (_:∀(r m:Nat)(G':Gv)(H':Hp),Fx (frA g) H H'->AX a H' g G'->AI G G' (49*M+700)->Fd G' m r->(∀u v,fieldF G' m r u v=φ (u-dx) (v-dy))->Q (.int r) H'):SpMv a vs H Q
def WT(a:Ad):Sp:=λvs H Q _=>SpMv a vs H Q
theorem ok_mv(F:Fun K "moved_by" "moved_by" Ma f fd)(T:Top K mg a)(bA:Cal P w K mg base CX0 102 "box_of" UX (Mx a))(aC:Cal P w K mg base CX0 1 "shifted_box" Qm Lp)(aD:Cal P w K mg base CX0 1 "lies_within" Qo QD)(aT:Cal P w K mg base CX0 5 "widened_over" Ev (spWO a))(aE:Cal P w K mg base CX0 4 "reach_of" UX (IH a))(aA:Cd P w K mg base CX0 3 a.c_Grove "level_of" Lh (Mv a))(aS:Cal P w K mg base CX0 4 "trimmed" Lu (Ni a))(cA:Cal P w K mg base CX0 102 "seen_at" FT (Zb a 50)):AL P w K mg base CX0 103 f fd Jg (WT a):=by
 refine F.ok Dq D_9 λbf A bc s H vs Q E hr h=>?_
 obtain⟨g,G,f',n,M,dx,dy,φ,rfl,fu,I,ef,aw,a6,M1,few,k⟩:=h;refine⟨_,(Ac (Ao (i:=4) Dq.nd Z O_9 (As bA (rm hr) Z Aq (Aa (pv 0) (Aa (pv 1) Ae)))) (Ac (AQ (Az FE (pv 4) Cw (AF _)) (Ai (Av (pv 1))) AC) (Ac (Ao (i:=5) Dq.nd Z O_9 (As aC (rm hr) Z Aq (Aa (pv 4) (Aa (pv 2) (Aa (pv 3) Ae))))) (Ac (AQ (CS (Cu (As aD (rm hr) Z Aq (Aa (pv 5) (Aa (Cj Z T.k_LIMIT) Ae))))) (Ai Bl) AC) (Ac (Ao (i:=6) Dq.nd Z O_9 (As aT (rm hr) Z Aq (Aa (pv 0) (Aa (pv 1) (Aa (pv 5) Ae))))) (Ac (Ao (i:=7) Dq.nd Z O_9 (AB DE Ab (As aE (rm hr) Z Aq (Aa (pv 0) (Aa (pv 6) Ae))))) (Ac (Ao (i:=8) Dq.nd Z O_9 (Aj Ax (AE (pv 0) Z) (AJ (pv 0) aA (rm hr) Aq (Aa (pv 6) Ae)) R_9)) (Ac (Ao (i:=9) Dq.nd Z O_9 (BX (Aa (pv 8) (Aa (pv 8) (Aa (pv 8) (Aa (pv 8) Ae)))))) (Ac (Zt (pv 6) (Zy (pv 9) (AB AO (Ty (Az Oc (pv 2) Ab (AF _)) Ab Ab) (Ty (Az Oc (pv 3) Ab (AF _)) Ab Ab)) Te)) (Ai (Av (As aS (rm hr) Z Aq (Aa (pv 0) (Aa (As cA (rm hr) Z Aq (Aa (pv 0) (Aa (Bd BM Z T.b_tuple A0h (Aa (pv 9) Ae)) (AV Bc (Iz EI (pv 2)) (pv 7) (AV Bc (Iz EI (pv 3)) (pv 7) (Aa MJ Ae)))))) Ae)))))))))))))),?_⟩
 try dsimp only[cxK]
 have bb:=I.le;refine xw2 Z Z ⟨g,G,f',n,Z,fu,I.lev,by lia,by lia,λbn H1 W X=>?_,λb hb t H1 W X ht=>?_⟩
 .refine xq1 Z ⟨Z,(xq1 Z (BY (xq1 Z ?_)))⟩;have z:=λu v=>Pr fu.ok I.lev bn u v;exact k f' n G H1 ((W.fx fu).mono (by simp[frA])) X ((AI.refl fu.ok).mono A0) I λu v=>by rw[z u v,<-ef,z]
 have tg:=(aw b hb).mpr trivial;have ti:=Fn fu.ok I.lev hb;generalize mvB (2^n) b=d at tg ti ht;refine xq1 Z ⟨Z,(xq1 Z (AY ?_))⟩;refine xw3 Z Z Z ⟨t,d,dx,dy,Z,ht,λt2 am=>?_⟩;have s2:=AG (o:=.tup [.int (d.l+dx),.int (d.t+dy),.int d.w,.int d.h]) am;have h2:upd H1 t2 (.tup [.int (d.l+dx),.int (d.t+dy),.int d.w,.int d.h]) t2=some (.tup [.int (d.l+dx),.int (d.t+dy),.int d.w,.int d.h]):=Af;show(WS _ _) _ _ _;generalize upd H1 t2 (.tup [.int (d.l+dx),.int (d.t+dy),.int d.w,.int d.h])=H2 at s2 h2⊢;have ac:=X.same s2;refine xq1 Z ⟨t2,d.l+dx,d.t+dy,d.w,d.h,2^40,Z,h2,(xq1 Z ?_)⟩;rw[K0 tg];refine AY (xw3 Z Z Z ⟨g,G,f',n,t2,_,_,_,_,Z,ac,I.lev,bb,h2,tg,by lia,λj N G3 H3 ai q ae nk wi lw a8 _=>?_⟩);have g3:=ae.few;obtain⟨r3,e3⟩:=q.g0;have ew:∀u v,fieldF G3 (n+j) N u v=φ u v:=λu v=>by rw[IG e3 q.ok A0 wi,Ec fu.ok ae I.lev,ef]
 have S:CI (λu v=>φ u v≠0) d:=ti.congr λu v=>by rw[ef]
 have x3:Fx (frA g) H H3:=(((W.fx fu).mono (by simp[frA])).trans (AA.fx s2)).trans ((ai.fx ac.at').mono (by simp[frA]));have bi:j<=40:=by lia
 generalize n+j=c at *
 clear wi ac h2 ai s2 am X W ht ti aw;obtain⟨qw,a2,ay⟩:=id lw;refine xw2 Z Z ⟨g,G3,N,c,Z,q.at',lw,by lia,(xq2 Z Z ⟨.inl ⟨by decide,by decide⟩,?_⟩)⟩;refine xwf Z Z q.at'.hp T.cl_Grove T.na_Grove_bares (Iq g) (xq1 Z ⟨g.p,g.dx,(xq1 Z ⟨q.at'.hp,DX g,(xq1 Z ⟨g,G3,N,qw,Z,q.at',a2,g.br,_,((c+1:Nat):Int),.int (bareN (c+1):Int),Z,by rw[ay],SqL.of q.br,Ah (bareL_at' A0),?_⟩)⟩)⟩);refine xw3 Z Z Z (xq1 Z ⟨S_4,λL hL=>?_⟩);have s4:=AG (o:=.lst (Cc λ_=>bareN (c+1))) hL;have a5:upd H3 L (.lst (Cc λ_=>bareN (c+1))) L=some (.lst (Cc λ_=>bareN (c+1))):=Af;have pn:=OE c;have e2:=Cm c;have an:∀{u v:Int},φ u v≠0->-(2^c)<=u/\u<2^c/\-(2^c)<=v/\v<2^c:=λ{u v} z=>K4 λy=>z (by rw[<-ew];exact LA y);obtain⟨vl,hl⟩:=S.le;obtain⟨ut,hu⟩:=S.to;have il:=an hl;have it:=an hu;have bl:=S.inn _ _ hl;have bt:=S.inn _ _ hu;have ba:=a8;unfold FR at ba;obtain⟨C,R,aq,a0,R1,eR,sR⟩:=Td (n:=c) (dx:=dx) (l:=d.l) (w:=d.w) il.1 il.2.1 A0 A0;obtain⟨B,D,ar,a1,D1,eD,sD⟩:=Td (n:=c) (dx:=dy) (l:=d.t) (w:=d.h) it.2.2.1 it.2.2.2 A0 A0;have ah:(if 0<dy then(2:Int)else 0)=2*B:=by
  rw[<-a1];split<;>rfl
 refine xw2 Z Z (VE Z (VE Z ?_));rw[a0,ah];have au:(Cc λ_=>bareN (c+1)).set (C+2*B) (.int N)=Cc (Fu (c+1) C B N):=by
  unfold Cc Fu
  match C,aq,B,ar with
  |0,_,0,_=>rfl
  |1,_,0,_=>rfl
  |0,_,1,_=>rfl
  |1,_,1,_=>rfl
 refine xq2 Z Z ⟨L,Cc λ_=>bareN (c+1),((C+2*B:Nat):Int),C+2*B,Z,A0c V.int A0,a5,ixN_nat (by show C+2*B<4;lia),?_⟩;rw[au];have s5:AA H3 (upd (upd H3 L (.lst (Cc λ_=>bareN (c+1)))) L (.lst (Cc (Fu (c+1) C B N)))):=λb o e=>by rw[Aw (Ay e hL)];exact s4 _ _ e
 have ak:upd (upd H3 L (.lst (Cc λ_=>bareN (c+1)))) L (.lst (Cc (Fu (c+1) C B N))) L=some (.lst (Cc (Fu (c+1) C B N))):=Af;obtain⟨H5,e5⟩:∃H5,upd (upd H3 L (.lst (Cc λ_=>bareN (c+1)))) L (.lst (Cc (Fu (c+1) C B N)))=H5:=⟨_,Z⟩
 have et:[V.int (bareN (c+1):Int),V.int (bareN (c+1):Int),V.int (bareN (c+1):Int),V.int (bareN (c+1):Int)]=Cc λ_=>bareN (c+1):=rfl;rw[et,e5];rw[e5]at s5 ak;clear e5 et;refine xw3 Z Z Z ⟨L,(xq1 Z (.inl ⟨SqL.of ak,λtf a7=>?_⟩))⟩;have s6:=s5.trans (AG (o:=.tup (Cc (Fu (c+1) C B N))) a7);have h6:upd H5 tf (.tup (Cc (Fu (c+1) C B N))) tf=some (.tup (Cc (Fu (c+1) C B N))):=Af;generalize upd H5 tf (.tup (Cc (Fu (c+1) C B N)))=H6 at s6 h6⊢;have sz:(0:Int)<2*2^c:=by lia
 refine xw3 Z Z Z (xq2 Z Z ⟨sz,(xw3 Z Z Z (xq2 Z Z ⟨sz,λU af=>?_⟩))⟩);have s7:=s6.trans (AG (o:=.dT []) af);have h7:=AG (o:=.dT []) af _ _ h6;have al:upd H6 U (.dT []) U=some (.dT []):=Af;generalize upd H6 U (.dT [])=H7 at s7 h7 al⊢;have a4:=q.same s7;have ao:H3 U=none:=AA.noneOf s6 af;have kg:U∉DF g:=λz=>by
  obtain⟨o1,e1⟩:=q.nw.s U z;rw[ao]at e1;cases e1
 obtain⟨cl,as⟩:=a6 (C*2^(c+1)+2^c) (B*2^(c+1)+2^c) R D;have ag:=four_ag (R:=R) (D:=D) (M:=M) (cl:=cl) e3 q.ok A0 aq ar lw ew;refine⟨g,G3,_,U,tf,[],Fu (c+1) C B N,0,0,c+1,?_,a4,al,kg,h7,ag,sok0 _ _,as,by lia,by lia,⟨by show G3.length+49*M<8000000+0;lia,by show 49*M<4000000;lia⟩,λm G8 ab H8 x8 O bg av bj aj bm aa=>?_⟩
 .show [V.ref g.p,V.ref tf,V.int (-dx%(2*2^c)),V.int (-dy%(2*2^c)),V.ref U]=[V.ref g.p,V.ref tf,V.int ((R%2^(c+1):Nat):Int),V.int ((D%2^(c+1):Nat):Int),V.ref U]
  rw[eR,eD,N6 R1,N6 D1]
 obtain⟨r8,e8⟩:=O.g0;have l8:=av.len e8 O.ok as;have l8:ab.length<=49*M:=l8;have g8:=aj.few;have g8:G8.length<=G3.length+(ab.length-0):=g8;have ax:∀u v,fieldF G8 c m u v=φ (u-dx) (v-dy):=λu v=>by
  by_cases z:-(2^c)<=u/\u<2^c/\-(2^c)<=v/\v<2^c
  .unfold fieldF;rw[K2 z,aa.cell _ _ (FF z.1 z.2.1) (FF z.2.2.1 z.2.2.2)];show φ (((0*2^(c+1)+R%2^(c+1)+(u+2^c).toNat:Nat):Int)-(C*2^(c+1)+2^c)) (((0*2^(c+1)+D%2^(c+1)+(v+2^c).toNat:Nat):Int)-(B*2^(c+1)+2^c))=_;rw[N6 R1,N6 D1,Z8,N3,N3];congr 1
   .rw[M9,O4 A0];lia
   .rw[M9,O4 A0];lia
  .rw[LA z];refine(K4 λy=>?_:φ (u-dx) (v-dy)=0).symm;have:=S.inn _ _ y;exact z ⟨by lia,by lia,by lia,by lia⟩
 refine⟨g,G8,m,c,Z,O,aa.lev,by lia,λr G9 H9 a3 ad Y be=>?_⟩;have g9:=Y.few;obtain⟨r9,e9⟩:=ad.g0;obtain⟨m9,bh,a9,bd,az⟩:=FX e9 ad.ok A0 (Y.lev aa.lev) be;have x9:Fx (frA g) H H9:=(x3.trans ((Fx.fresh s7 (x8.mono (m:=[U,g.lv,g.pt,g.nm]) (by intro x hx;simp only[frM,C3,D8,A0g]at hx⊢;rcases hx with h|h|h|h<;>simp[h])) ao).mono (by simp[frA]))).trans ((a3.fx O.at').mono (by simp[frA]));exact k r m9 G9 H9 x9 ad (((ae.trans aj).trans Y).mono (by simp only[R9]at *;lia)) ⟨a9,bd,by lia⟩ λu v=>by rw[az,Ec O.ok Y aa.lev,ax]
end
end J
namespace J
open PySem L2
def it(f:L_):Nat->Nat->Nat
|0,s=>s
|k+1,s=>f (it f k s)
structure Mp(f:L_):Prop where
z:f 0=0
le:∀s,s<=7->f s<=7
section
variable{f:L_}
theorem EB(n s:Nat):∀m,it f (m+n) s=it f m (it f n s)
|0=>by rw[N3];rfl
|m+1=>by
 rw[show m+1+n=(m+n)+1 by lia];show f (it f (m+n) s)=f (it f m (it f n s));rw[EB n s m]
theorem Mp.it0(h:Mp f):∀k,it f k 0=0
|0=>rfl
|k+1=>by show f (it f k 0)=0;rw[h.it0 k,h.z]
theorem Mp.itl(h:Mp f){s:Nat}(a:s<=7):∀k,it f k s<=7
|0=>a
|k+1=>h.le _ (h.itl a k)
def Per(f:L_)(c u:Nat):Prop:=it f c u=u
theorem Per.mul{c u:Nat}(h:Per f c u):∀m,Per f (m*c) u
|0=>by rw[Z8];rfl
|m+1=>by
 show it f ((m+1)*c) u=u;rw[U8,EB,(h:it f c u=u)];exact h.mul m
theorem Per.at'{c u:Nat}(h:Per f c u)(i:Nat):Per f c (it f i u):=by
 show it f c (it f i u)=it f i u;rw[<-EB,S7,EB,(h:it f c u=u)]
def Mn(f:L_)(c u:Nat):Prop:=1<=c/\Per f c u/\∀d,1<=d->d<c->¬Per f d u
theorem mn_ex{u:Nat}:∀{c:Nat},1<=c->Per f c u->∃d,d<=c/\Mn f d u:=by
 intro c;induction c using Nat.strongRecOn with
 |ind c j =>
  intro h i;by_cases z:∃d,1<=d/\d<c/\Per f d u
  .obtain⟨d,a,b,g⟩:=z;obtain⟨e,k,b2⟩:=j d b a g;exact⟨e,by lia,b2⟩
  .exact⟨c,C1 _,h,i,λd a b g=>z ⟨d,a,b,g⟩⟩
def cyc(f:L_)(c u:Nat):List Nat:=(List.range c).map λi=>it f i u
theorem RY{c u s:Nat}:s∈cyc f c u ↔ ∃i,i<c/\it f i u=s:=by
 unfold cyc;rw[D3];exact⟨λ⟨i,a,b⟩=>⟨i,J6.mp a,b⟩,λ⟨i,a,b⟩=>⟨i,J6.mpr a,b⟩⟩
theorem Mn.apart{c u i j:Nat}(h:Mn f c u)(d:i<j)(g:j<c):it f i u≠it f j u:=λe=>by
 have a:it f (c-i) (it f i u)=u:=by
  rw[<-EB,V2 A0];exact h.2.1
 have b:it f (c-i) (it f j u)=it f (j-i) u:=by
  rw[<-EB,show c-i+j=(j-i)+c by lia,EB,(h.2.1:it f c u=u)]
 rw[e,b]at a;exact h.2.2 (j-i) A0 A0 a
theorem Mn.nodup{c u:Nat}(h:Mn f c u):(cyc f c u).Nodup:=by
 unfold cyc;rw[O1,T7];refine A4c (λ{i j} b a lt=>h.apart lt (J6.mp a)) W6
theorem Wy(c u:Nat):(cyc f c u).length=c:=by unfold cyc;rw[B8,L7]
theorem seven{l:J_}(c:l.Nodup)(h:∀s∈l,1<=s/\s<=7):l.length<=7:=by
 have:=Sd (λ(x y:Nat)=>x=y) (λx d y e a=>e.trans a.symm) [1,2,3,4,5,6,7] l c λs b=>⟨s,by have:=h s b;simp;lia,Z⟩
 exact this
theorem Mp.pos(h:Mp f){c u:Nat}(c2:2<=c)(b:Mn f c u)(g:u<=7):∀s∈cyc f c u,1<=s/\s<=7:=λs d=>by
 obtain⟨i,j,rfl⟩:=RY.mp d;refine⟨Nat.pos_of_ne_zero λz=>?_,h.itl g i⟩;have e:u=0:=by
  have a:it f (c-i) (it f i u)=u:=by
   rw[<-EB,V2 A0];exact b.2.1
  rw[z,h.it0]at a;exact a.symm
 subst e;exact b.2.2 1 A3 A0 (h.it0 1)
theorem Mp.round(h:Mp f){s:Nat}(n:s<=7):∃c,c<=7/\Mn f c (it f 7 s):=by
 have b:∃c,1<=c/\c<=7/\Per f c (it f 7 s):=by
  by_cases z:it f 7 s=0
  .exact⟨1,by decide,by decide,by rw[z];exact h.it0 1⟩
  .refine K4 λno=>?_;have ap:((List.range 8).map λi=>it f i s).Nodup:=by
    rw[O1,T7];refine A4c (λ{i j} a g lt e=>?_) W6;have g:=J6.mp g;refine no ⟨j-i,by lia,by lia,?_⟩;show it f (j-i) (it f 7 s)=it f 7 s;rw[<-EB,show j-i+7=(7-i)+j by lia,EB,<-e,<-EB,V2 A0]
   have:=seven ap λt o=>by
    obtain⟨i,a,rfl⟩:=D3.mp o;refine⟨Nat.pos_of_ne_zero λq=>z ?_,h.itl n i⟩;have a:=J6.mp a;rw[show(7:Nat)=(7-i)+i by lia,EB,q,h.it0]
   rw[B8,L7]at this;lia
 obtain⟨c,k,p,l⟩:=b;obtain⟨d,r,m⟩:=mn_ex k l;exact⟨d,by lia,m⟩
theorem Mn.mem{c u s:Nat}(h:Mn f c u)(m:s∈cyc f c u):Per f c s:=by
 obtain⟨i,_,rfl⟩:=RY.mp m;exact h.2.1.at' i
theorem Mn.meet{c u d v s:Nat}(h:Mn f c u)(k:Mn f d v)(m:s∈cyc f c u)(n:s∈cyc f d v):Per f c v:=by
 obtain⟨j,b,e⟩:=RY.mp n;have a:=h.mem m;have:v=it f (d-j) s:=by
  rw[<-e,<-EB,V2 A0];exact k.2.1.symm
 rw[this];exact a.at' _
theorem Mp.two(h:Mp f){c u d v:Nat}(g:Mn f c u)(i:Mn f d v)(p:u<=7)(q:v<=7)(c2:2<=c)(r:8<=c+d)(j:2<=d):Per f c v:=by
 refine K4 λno=>?_;have:=seven (l:=cyc f c u++cyc f d v) (by
  rw[Q7];exact⟨g.nodup,i.nodup,λa k b n e=>no (g.meet i k (e▸n))⟩) λs o=>by
  rcases F4.mp o with m|m
  .exact h.pos c2 g p s m
  .exact h.pos j i q s m
 rw[C5,Wy,Wy]at this;lia
theorem Mp.period(h:Mp f):∃p,1<=p/\p<=12/\∀s,s<=7->Per f p (it f 7 s):=by
 by_cases z:∃s,s<=7/\∃c,(c=5\/c=7)/\Mn f c (it f 7 s)
 .obtain⟨s,n,c,m,g⟩:=z;have i:=h.itl n 7;refine⟨if c=5 then 10 else 7,by split<;>decide,by split<;>decide,λt b=>?_⟩;obtain⟨d,l,a⟩:=h.round b;have j:=h.itl b 7;have k:=a.1;rcases m with rfl|rfl
  .rw[K2 rfl];rcases(show d=1\/d=2\/3<=d by lia)with rfl|rfl|d3
   .exact a.2.1.mul 10
   .exact a.2.1.mul 5
   .exact(h.two g a i j A3 A0 A0).mul 2
  .rw[X9 A3];rcases(show d=1\/2<=d by lia)with rfl|d2
   .exact a.2.1.mul 7
   .exact h.two g a i j A3 A0 d2
 .refine⟨12,by decide,by decide,λt b=>?_⟩;obtain⟨d,l,a⟩:=h.round b;have k:=a.1;rcases(show d=1\/d=2\/d=3\/d=4\/d=6\/(d=5\/d=7) by lia)with rfl|rfl|rfl|rfl|rfl|e
  .exact a.2.1.mul 12
  .exact a.2.1.mul 6
  .exact a.2.1.mul 4
  .exact a.2.1.mul 3
  .exact a.2.1.mul 2
  .exact absurd ⟨t,b,d,e,a⟩ z
end
def Gl(r:AD)(f:L_)(dx dy:Int):Prop:=∀φ:Int->Int->Nat,(∀x y,φ x y<=7)->∀x y,sF r φ x y=f (φ (x+dx) (y+dy))
theorem Ws{r:AD}{f:L_}{dx dy:Int}(c:Mp f)(a:Gl r f dx dy){φ:D_}(h:∀x y,φ x y<=7):∀(k:Nat)(x y:Int),sFN r k φ x y=it f k (φ (x+k*dx) (y+k*dy))
|0,x,y=>by
 show φ x y=φ (x+(0:Nat)*dx) (y+(0:Nat)*dy);rw[show((0:Nat):Int)=0 from rfl,Int.zero_mul,Int.zero_mul,O2,O2]
|k+1,x,y=>by
 have b:=Ws c a h k;show sF r (sFN r k φ) x y=f (it f k _);rw[a _ (λu v=>by rw[b];exact c.itl (h _ _) k),b];have e:∀x dx:Int,x+dx+(k:Int)*dx=x+((k+1:Nat):Int)*dx:=λx dx=>by
  rw[M9,Int.add_mul];lia
 rw[e,e]
seal L2.PA L2.PE L2.PS L2.PSs L2.PT L2.PW
def plW(w:Nat)(k:Int):List (Option Int):=List.replicate w none++some k::List.replicate (7-w) none
def glC(M:L_)(w k:Nat):AT:=if w=8 then⟨some (k:Int),[],(M k:Int)⟩else⟨none,[.pl (plW w (k:Int))],(M k:Int)⟩
def glR(M:L_)(w:Nat):AD:=((List.range 7).map λi=>glC M w (i+1))++if w=8 then []else [⟨none,[],0⟩]
theorem Zu{w:Nat}(i:w<8)(k a b c d e f g h:Int):(Ba.pl (plW w k)).holds [a,b,c,d,e,f,g,h]=decide (k=[a,b,c,d,e,f,g,h].getD w 0):=by
 match w,i with
 |0,_=>simp[Ba.holds,plW,BW]
 |1,_=>simp[Ba.holds,plW,BW]
 |2,_=>simp[Ba.holds,plW,BW]
 |3,_=>simp[Ba.holds,plW,BW]
 |4,_=>simp[Ba.holds,plW,BW]
 |5,_=>simp[Ba.holds,plW,BW]
 |6,_=>simp[Ba.holds,plW,BW]
 |7,_=>simp[Ba.holds,plW,BW]
theorem Wt(M:L_)(p:AT->Bool)(C:Nat->AT)(d:∀k,(C k).makes=(M k:Int))(v:Nat)(b:∀k,1<=k->p (C k)=decide ((k:Int)=(v:Int)))(c:v<=7)(L:List AT):(v=0->(((List.range 7).map λi=>C (i+1))++L).find? p=L.find? p)/\(v≠0->(((List.range 7).map λi=>C (i+1))++L).find? p=some (C v)):=by
 have e:(((List.range 7).map λi=>C (i+1))++L)=C 1::C 2::C 3::C 4::C 5::C 6::C 7::L:=rfl;rw[e];have q:∀(k:Nat)(K:List AT),1<=k->(C k::K).find? p=if k=v then some (C k)else K.find? p:=λk K a=>by
  rw[Q6,b k a];by_cases z:k=v
  .rw[K2 z,K0 (by rw[z])]
  .rw[X9 z,K1 (λy:(k:Int)=(v:Int)=>z (K5 y))]
 rw[q 1 _ A3,q 2 _ A3,q 3 _ A3,q 4 _ A3,q 5 _ A3,q 6 _ A3,q 7 _ A3]
 match v,c with
 |0,_=>exact⟨λ_=>Z,λz=>absurd Z z⟩
 |1,_=>exact⟨λz=>(nomatch z),λ_=>Z⟩
 |2,_=>exact⟨λz=>(nomatch z),λ_=>Z⟩
 |3,_=>exact⟨λz=>(nomatch z),λ_=>Z⟩
 |4,_=>exact⟨λz=>(nomatch z),λ_=>Z⟩
 |5,_=>exact⟨λz=>(nomatch z),λ_=>Z⟩
 |6,_=>exact⟨λz=>(nomatch z),λ_=>Z⟩
 |7,_=>exact⟨λz=>(nomatch z),λ_=>Z⟩
theorem gl_bec{M:L_}(p:M 0=0){w:Nat}(o:w<8)(c a b d f g h i j:Int){v:Nat}(n:v<=7)(e:[a,b,d,f,g,h,i,j].getD w 0=(v:Int)):CH (glR M w) c [a,b,d,f,g,h,i,j]=(M v:Int):=by
 have ne:w≠8:=by lia
 obtain⟨l,m⟩:=Wt M (AT.fits c [a,b,d,f,g,h,i,j]) (glC M w) (λk=>by unfold glC;rw[X9 ne]) v (λk _=>by
  unfold glC;rw[X9 ne];show(true && ((Ba.pl (plW w (k:Int))).holds [a,b,d,f,g,h,i,j] && true))=_;rw[Zu o,e,Bool.true_and,Z6]) n [⟨none,[],0⟩]
 unfold CH glR;rw[X9 ne];by_cases z:v=0
 .rw[l z,z,p];rfl
 .rw[m z];unfold glC;rw[X9 ne]
theorem Wu{M:L_}(f:M 0=0){c:Nat}(e:c<=7)(a:I_):CH (glR M 8) (c:Int) a=(M c:Int):=by
 obtain⟨b,d⟩:=Wt M (AT.fits (c:Int) a) (glC M 8) (λk=>Z) c (λk _=>by
  show(decide ((k:Int)=(c:Int)) && true)=_;rw[Z6]) e []
 unfold CH glR;rw[K2 rfl];by_cases z:c=0
 .rw[b z,z,f];rfl
 .rw[d z];rfl
def ofX:Nat->Int
|0=>-1|1=>0|2=>1|3=>-1|4=>1|5=>-1|6=>0|7=>1|_=>0
def ofY:Nat->Int
|0=>-1|1=>-1|2=>-1|3=>0|4=>0|5=>1|6=>1|7=>1|_=>0
theorem gl_gl{M:L_}(c:M 0=0){w:Nat}(d:w<=8):Gl (glR M w) M (ofX w) (ofY w):=fun φ a x y=>by
 unfold sF;by_cases z:w=8
 .subst z;rw[Wu c (a x y),J7];show M (φ x y)=M (φ (x+0) (y+0));rw[O2,O2]
 .have b:w<8:=by lia
  rw[gl_bec c b _ _ _ _ _ _ _ _ _ (v:=φ (x+ofX w) (y+ofY w)) (a _ _) ?_,J7]
  match w,b with
  |0,_=>rfl
  |1,_=>show((φ x (y-1):Nat):Int)=(φ (x+0) (y-1):Nat);rw[O2]
  |2,_=>rfl
  |3,_=>show((φ (x-1) y:Nat):Int)=(φ (x-1) (y+0):Nat);rw[O2]
  |4,_=>show((φ (x+1) y:Nat):Int)=(φ (x+1) (y+0):Nat);rw[O2]
  |5,_=>rfl
  |6,_=>show((φ x (y+1):Nat):Int)=(φ (x+0) (y+1):Nat);rw[O2]
  |7,_=>rfl
theorem gl_rest{M:L_}(a:M 0=0){w:Nat}(d:w<=8):CH (glR M w) 0 BV=0:=by
 by_cases z:w=8
 .subst z;have:=Wu a (c:=0) A3 BV;rw[a]at this;exact this
 .have b:w<8:=by lia
  have:=gl_bec a b 0 0 0 0 0 0 0 0 0 (v:=0) A3 (by
   match w,b with
   |0,_=>rfl
   |1,_=>rfl
   |2,_=>rfl
   |3,_=>rfl
   |4,_=>rfl
   |5,_=>rfl
   |6,_=>rfl
   |7,_=>rfl)
  rw[a]at this;exact this
theorem glC_ok{M:L_}(f:∀s,M s<=7){w k:Nat}(h:w<=8)(g:k<=7):(glC M w k).ok:=by
 have c:Iy (k:Int):=⟨by lia,by lia⟩
 have e:Iy (M k:Int):=⟨by lia,by have:=f k;lia⟩
 unfold glC;split
 .exact⟨c,e,L5 _,λd a=>nomatch a⟩
 .refine⟨True.intro,e,by show 1<=50;decide,λd a=>?_⟩;rw[D4.mp a];refine⟨by unfold plW;rw[C5,F2,O0,O0];lia,λv b=>?_⟩;unfold plW at b;rcases F4.mp b with q|q
  .rw[(List.mem_replicate.mp q).2];exact True.intro
  .rcases C3.mp q with q|q
   .rw[q];exact c
   .rw[(List.mem_replicate.mp q).2];exact True.intro
theorem glR_ok{M:L_}(g:∀s,M s<=7){w:Nat}(f:w<=8):GF (glR M w):=by
 refine⟨?_,λc a=>?_⟩
 .unfold glR;rw[C5,B8,L7];split<;>decide
 .unfold glR at a;rcases F4.mp a with q|q
  .obtain⟨i,e,rfl⟩:=D3.mp q;exact glC_ok g f (by have:=J6.mp e;lia)
  .split at q
   .cases q
   .rw[D4.mp q];exact⟨True.intro,⟨R5 _,by show(0:Int)<8;decide⟩,L5 _,λd b=>nomatch b⟩
theorem Sm{d:Int}(a:0<=d)(b:d<=9):(Str.ofString (toString d)).length=1:=by rw[Tx.ED a b];rfl
theorem gt_8:∀k:Nat,k<8->∀m:Nat,m<8->(sgD (k:Int)++Str.ofString " ")++sgD (m:Int)=Bf ⟨some (k:Int),[],(m:Int)⟩:=by decide +kernel
theorem gt_w:∀w:Nat,w<8->∀k:Nat,k<8->∀m:Nat,m<8->(((Str.ofString "* " ++ ((UL (Str.ofString "*") w++sgD (k:Int))++UL (Str.ofString "*") (7-w)))++Str.ofString " ")++sgD (m:Int))=Bf ⟨none,[.pl (plW w (k:Int))],(m:Int)⟩:=by decide +kernel
theorem gt_0:Str.ofString "* 0" = Bf ⟨none,[],0⟩:=by decide +kernel
section
variable{P:N_}{w:Q_}{K:O_}{mg:C_}{base:T_}{a:Ad}
inductive SpMapB(K:O_)(vs:List V)(H:Hp)(Q:VK):Prop
|mk (l:R_) (ns:I_) (fi:Int) (_:vs=[.ref l,.int fi]) (_:SqL K H l (ns.map V.int)) (_:0<=fi) (_:∀(L:R_)(M:L_)(H':Hp),AA H H'->M 0=0->(∀s,M s<=7)->H' L=some (.lst ((List.range 8).map λi=>V.int (M i:Int)))->Q (.ref L) H'):SpMapB K vs H Q
def UC(K:O_):Sp:=λvs H Q _=>SpMapB K vs H Q
theorem ok_mapb(F:Fun K "_law_map_by" "_law_map_by" Fb f fd)(T:Top K mg a)(v:Cal P w K mg base CX0 1 "_law_at" Ym (WU K)):AL P w K mg base CX0 2 f fd LT (UC K):=by
 refine F.ok Pd D_9 λx A g s H vs Q E D h=>?_
 obtain⟨l,ns,d,rfl,B,O,k⟩:=h;refine⟨_,(Ai (Av (AB RG (BX (AN Ae)) (Ck Z (BE.of (So:=Al Fb) (No:=LT) (N:=["_law_state","_law_script","_law_first"]) (k:=1) (cs:=[0,1]) Z Z A1) (NC Z T.b_range (AN (AN Ae))) (λ_ _ _=>(Bg (i:=0) A1 Z Z)) (λ_ _ _=>BL) (λ_ _ _=>(AB Bc (AB AO (pv 0) (As v (rm D) Z Aq (Aa (pv 1) (AV BI (AB AO (pv 2) (pv 0)) Ab Ae)))) Ab)))))),?_⟩
 try dsimp only[cxK]
 refine⟨S_1,λz G=>?_⟩;have m:=AG (o:=.lst [.int 0]) G;have r:upd H z (.lst [.int 0]) z=some (.lst [.int 0]):=Af;generalize upd H z (.lst [.int 0])=u at m r⊢;generalize e:(λs:Nat=>if s=0 then 0 else(((s:Int)+atN ns (d+(s:Int)-1))%8).toNat)=M;refine⟨1,8,Z,⟨by decide,by decide,by decide,by decide⟩,?_⟩;refine NV (n:=7) (λi b c=>c=u/\b=(List.range i).map λj=>V.int (M (j+1):Int)) ⟨Z,Z⟩ ?_ ?_
 .rintro i b c R ⟨rfl,rfl⟩;refine⟨⟨[some (.int (1+(i:Int)))],Z,Z⟩,by rw[B8,L7];exact EH A0,GQ (xq1 Z (xq1 Z (xq1 Z (xq1 Z (xq2 Z Z (xq2 Z Z ⟨l,ns,_,Z,m.seq B,by show 0<=d+(1+(i:Int))-1;lia,_,_,Z,Z,_,_,Z,Z,B5,Z,?_⟩))))))⟩;rw[P2,C7,<-e];congr 1;show [V.int ((1+(i:Int)+atN ns (d+(1+(i:Int))-1))%8)]=[V.int (((((i+1:Nat):Int)+atN ns (d+((i+1:Nat):Int)-1))%8).toNat:Int)]
  rw[show((i+1:Nat):Int)=1+(i:Int) by lia,O4 (S0 _ A3)]
 .rintro b c ⟨rfl,rfl⟩ L y;have p:=AG (o:=.lst ((List.range 7).map λj=>V.int (M (j+1):Int))) y;have t:upd c L (.lst ((List.range 7).map λj=>V.int (M (j+1):Int))) L=some (.lst ((List.range 7).map λj=>V.int (M (j+1):Int))):=Af;generalize upd c L (.lst ((List.range 7).map λj=>V.int (M (j+1):Int)))=I at p t⊢;refine⟨z,L,(xq2 Z Z ⟨p _ _ r,t,by show 1+7<=sizeLine;decide,λq C=>?_⟩)⟩;refine k q M _ ((m.trans p).trans (AG C)) (by rw[<-e];rfl) (λs=>?_) ?_
  .rw[<-e];dsimp only;split
   .decide
   .have:=O5 ((s:Int)+atN ns (d+(s:Int)-1)) (by decide:(0:Int)<8);lia
  .rw[Af,<-e];rfl
inductive SpGtx(vs:List V)(H:Hp)(Q:VK):Prop
|mk (L:R_) (M:L_) (w:Nat) (_:vs=[.ref L,.int (w:Int)]) (_:w<=8) (_:∀s,M s<=7) (_:H L=some (.lst ((List.range 8).map λi=>V.int (M i:Int)))) (_:∀H':Hp,AA H H'->Q (.str (Dm (glR M w))) H'):SpGtx vs H Q
def Zj:Sp:=λvs H Q _=>SpGtx vs H Q
theorem ok_gtx(F:Fun K "_law_glide_text" "_law_glide_text" Eo f fd)(T:Top K mg a):AL P w K mg base CX0 1 f fd Ey Zj:=by
 refine F.ok CP D_9 λaa A W s H vs Q E hr h=>?_
 obtain⟨L,M,w,rfl,X,U,hL,k⟩:=h;refine⟨_,(Ac (Ao (i:=2) CP.nd Z O_9 (BX Ae)) (Ac (Cv A0b Z (NC Z T.b_range (AN (AN Ae))) (Bn (i:=3) CP.nd Z O_9) (Ai (AQ (Az CK (pv 1) Ab (AF _)) (Ai (BJ (De K8 K9 A0a BF (pv 2) (AV CV (AB CV (Bd CY Z T.b_str A1b (Aa (pv 3) Ae)) Dk) (Bd CY Z T.b_str A1b (Aa (Aj Ax (pv 0) (pv 3) R_9) Ae)) Ae)))) (Ac (Ao (i:=4) CP.nd Z O_9 (AB CV (AB CV (AB We Dk (pv 1)) (Bd CY Z T.b_str A1b (Aa (pv 3) Ae))) (AB We Dk (AB BI Ab (pv 1))))) (Ai (BJ (De K8 K9 A0a BF (pv 2) (AV CV (AB CV (AB CV Dk (pv 4)) Dk) (Bd CY Z T.b_str A1b (Aa (Aj Ax (pv 0) (pv 3) R_9) Ae)) Ae)))))))) (Ac (AQ (Az FH (pv 1) Ab (AF _)) (Ai (BJ (De K8 K9 A0a BF (pv 2) (ND Ae)))) AC) (Ai (Av (De A1d A2h A3a MS Dk (Aa (pv 2) Ae))))))),?_⟩
 try dsimp only[cxK]
 refine⟨S_0,λS B=>?_⟩;have s1:=AG (o:=.lst []) B;have h1:upd H S (.lst []) S=some (.lst []):=Af;generalize upd H S (.lst [])=H1 at s1 h1⊢;refine⟨1,8,Z,⟨by decide,by decide,by decide,by decide⟩,?_⟩;refine CF (n:=7) (λi σ x=>∃C D:Option V,σ=[some (.ref L),some (.int (w:Int)),some (.ref S),C,D]/\AA H x/\x S=some (.lst ((List.range i).map λj=>V.str (Bf (glC M w (j+1)))))) ⟨none,none,Z,s1,h1⟩ ?_ ?_
 .rintro i σ x hi ⟨C,D,rfl,r,l⟩;refine xq1 Z ⟨Z,(xq1 Z (Ip (λd=>?_) (λd=>?_)))⟩
  .have X:w=8:=by
    have:=A0d d;injection this with this
    lia
   subst X;have mi:=U (i+1);have m:(Str.ofString (toString (1+(i:Int)))).length=1:=Sm A0 A0;have O:(Str.ofString (toString (M (i+1):Int))).length=1:=Sm A0 A0;have v:(Str.ofString " ").length=1:=by decide
   have N:atI ((List.range 8).map λi=>V.int (M i:Int)) (1+(i:Int))=some (.int (M (i+1):Int)):=by
    rw[show 1+(i:Int)=((i+1:Nat):Int) by lia];exact Ah (by rw[C0,O3 A0];rfl)
   refine xq1 Z ⟨.inl ⟨Z,_,SqL.of l⟩,(xq1 Z ⟨1+(i:Int),Z,EJ A0 A0,(xq2 Z Z ⟨Dp (by rw[m,v];decide),(xwj Z Z Z Z (SqL.of (r _ _ hL)) N ⟨(M (i+1):Int),Z,EJ A0 A0,(xq2 Z Z ⟨Dp (by rw[A1g,m,O,v];decide),S,(xq2 Z Z ⟨l,by rw[B8,L7];exact EH A0,?_⟩)⟩)⟩)⟩)⟩)⟩;refine⟨_,_,Z,λb o e=>?_,?_⟩
   .rw[Aw (Ay e B)];exact r _ _ e
   .rw[Af,P2,C7];congr 3;have e:=gt_8 (i+1) A0 (M (i+1)) A0;rw[show((i+1:Nat):Int)=1+(i:Int) by lia]at e;have G:glC M 8 (i+1)=⟨some (1+(i:Int)),[],(M (i+1):Int)⟩:=by
     unfold glC;rw[K2 rfl,show((i+1:Nat):Int)=1+(i:Int) by lia]
    show [V.str _]=[V.str (Bf (glC M 8 (i+1)))]
    rw[G,Tx.ED (show 0<=1+(i:Int) by lia) A0,Tx.ED (show 0<=(M (i+1):Int) by lia) A0];exact A0c (λz=>[V.str z]) e
  .have ne:w≠8:=λz=>d (K0 (by rw[z];rfl));have h8:w<8:=by lia
   have mi:=U (i+1);have m:(Str.ofString (toString (1+(i:Int)))).length=1:=Sm A0 A0;have O:(Str.ofString (toString (M (i+1):Int))).length=1:=Sm A0 A0;have v:(Str.ofString " ").length=1:=by decide
   have R:(Str.ofString "*").length=1:=by decide
   have q:(Str.ofString "* ").length=2:=by decide
   have g:=λk=>Tp R k;have N:atI ((List.range 8).map λi=>V.int (M i:Int)) (1+(i:Int))=some (.int (M (i+1):Int)):=by
    rw[show 1+(i:Int)=((i+1:Nat):Int) by lia];exact Ah (by rw[C0,O3 A0];rfl)
   refine xq1 Z ⟨_,w,Z,Z,R,by lia,(xq1 Z ⟨1+(i:Int),Z,EJ A0 A0,(xq2 Z Z ⟨Dp (by rw[m,g];lia),(xwb Z Z Z ⟨_,7-w,Z,A0c V.int A0,R,by lia,(xq2 Z Z ⟨Dp (by rw[A1g,m,g,g];lia),?_⟩)⟩)⟩)⟩)⟩;refine xq1 Z ⟨.inl ⟨Z,_,SqL.of l⟩,(xwb Z Z Z ⟨Dp (by rw[A1g,A1g,m,g,g,q];lia),(xq2 Z Z ⟨Dp (by rw[A1g,A1g,A1g,m,g,g,q,v];lia),(xwj Z Z Z Z (SqL.of (r _ _ hL)) N ⟨(M (i+1):Int),Z,EJ A0 A0,(xq2 Z Z ⟨Dp (by rw[A1g,A1g,A1g,A1g,m,O,g,g,q,v];lia),S,(xq2 Z Z ⟨l,by rw[B8,L7];exact EH A0,?_⟩)⟩)⟩)⟩)⟩)⟩;refine⟨_,_,Z,λb o e=>?_,?_⟩
   .rw[Aw (Ay e B)];exact r _ _ e
   .rw[Af,P2,C7];congr 3;have e:=gt_w w h8 (i+1) A0 (M (i+1)) A0;rw[show((i+1:Nat):Int)=1+(i:Int) by lia]at e;have G:glC M w (i+1)=⟨none,[.pl (plW w (1+(i:Int)))],(M (i+1):Int)⟩:=by
     unfold glC;rw[X9 ne,show((i+1:Nat):Int)=1+(i:Int) by lia]
    show [V.str _]=[V.str (Bf (glC M w (i+1)))]
    rw[G,Tx.ED (show 0<=1+(i:Int) by lia) A0,Tx.ED (show 0<=(M (i+1):Int) by lia) A0];exact A0c (λz=>[V.str z]) e
 .rintro σ x ⟨C,D,rfl,r,l⟩;have ok:=glR_ok U X;dsimp only;refine Bm ?_;intro r9 s9 k9 I E9;apply PL (T:=k9) (fun σ y=>σ=[some (.ref L),some (.int (w:Int)),some (.ref S),C,D]/\AA H y/\y S=some (.lst (((glR M w).map Bf).map V.str)))
  .intro p;refine xwb Z Z Z (xq1 Z (Ip (λd=>?_) (λd=>?_)))
   .have ne:w≠8:=by
     have:=A0d d;lia
    refine xq1 Z ⟨.inl ⟨Z,_,SqL.of l⟩,S,(xq2 Z Z ⟨l,by rw[B8,L7];decide,?_⟩)⟩;refine p _ _ ⟨Z,λb o e=>?_,?_⟩
    .rw[Aw (Ay e B)];exact r _ _ e
    .rw[Af];unfold glR;rw[X9 ne,C7,C7,N4,N4,gt_0];rfl
   .have e8:w=8:=by
     have:¬(w:Int)<8:=λz=>d (K0 z);lia
    refine p _ _ ⟨Z,r,?_⟩;rw[l];unfold glR;rw[K2 e8,U5,N4,N4];rfl
  .rintro σ y ⟨rfl,s4,h4⟩;refine I ?_;have Y:Str.ofString "; " = Og:=by decide +kernel
   have u:JoinOk (Str.ofString "; ") ((glR M w).map Bf)=true:=by
    refine Tx.MU 1000 (λt ht=>?_) ?_
    .obtain⟨c,d,rfl⟩:=D3.mp ht;exact Js (ok.ok c d)
    .rw[B8,Y,show Og.length=2 from rfl];have:=ok.few;lia
   refine⟨Z,(xq1 Z ⟨_,S,(xq1 Z ⟨Z,SqL.of h4,u,?_⟩)⟩)⟩;rw[Y];exact k y s4
end
def plc(ax ay:Int)(n:Nat)(p:Int×Int):List (Nat×Nat):=[((p.1+ax).toNat/2^n,(p.2+ay).toNat/2^n),((p.1+ax).toNat/2^n-1,(p.2+ay).toNat/2^n),((p.1+ax).toNat/2^n,(p.2+ay).toNat/2^n-1),((p.1+ax).toNat/2^n-1,(p.2+ay).toNat/2^n-1)]
theorem len_pl(a b:Int)(n:Nat):∀ps:List (Int×Int),(ps.flatMap (plc a b n)).length=4*ps.length
|[]=>rfl
|p::ps=>by
 rw[X6,C5,len_pl a b n ps];show 4+_=_;rw[F2];lia
theorem Pb{φ:D_}{ps:List (Int×Int)}(h:∀u v,φ u v≠0->(u,v)∈ps)(c d:Int)(R D:Nat):∃cl,Vz ⟨λx y=>φ ((x:Int)-c) ((y:Int)-d),R,D,4*ps.length,cl⟩:=by
 have mem:∀n i j,NE (λx y=>φ ((x:Int)-c) ((y:Int)-d)) n i j->(i,j)∈ps.flatMap (plc c d n):=λn i j ne=>by
  apply AR;intro w f;obtain⟨x,y,q,r,z⟩:=ne;apply f;clear f w;have m:=h _ _ z;refine T9.mpr ⟨_,m,?_⟩;have C:((((i*2^n+x:Nat):Int)-c)+c).toNat=i*2^n+x:=by lia
  have E:((((j*2^n+y:Nat):Int)-d)+d).toNat=j*2^n+y:=by lia
  unfold plc;dsimp only;rw[C,E,GO.1,GO.1];have g:=BU q;have k:=BU r;generalize x/2^n=a at g;generalize y/2^n=b at k
  match a,g,b,k with
  |0,_,0,_=>simp
  |1,_,0,_=>simp
  |0,_,1,_=>simp
  |1,_,1,_=>simp
 refine⟨λn i j=>(ps.flatMap (plc c d n)).idxOf (i,j),λn i j _ ne=>?_,λn i j l o _ ne p e x y q r=>?_⟩
 .have:=P4 (mem n i j ne);rw[len_pl]at this;exact this
 .have s:=mem n i j ne;have t:=mem n l o p;have A:=List.getElem_idxOf (P4 s);have B:=List.getElem_idxOf (P4 t);have e:(ps.flatMap (plc c d n)).idxOf (i,j)=(ps.flatMap (plc c d n)).idxOf (l,o):=e;have:(ps.flatMap (plc c d n))[(ps.flatMap (plc c d n)).idxOf (i,j)]?=(ps.flatMap (plc c d n))[(ps.flatMap (plc c d n)).idxOf (l,o)]?:=by rw[e]
  rw[C6 (P4 s),C6 (P4 t),A,B]at this;have:=K7 this;injection this with g k
  rw[g,k]
theorem pow2_le{b:Nat}(h:b<=40):(2:Int)^b<=2^40:=by
 have:=N7 (show 0<2 by decide) h
 exact_mod_cast this
structure Vg(G:Gv)(f:Nat)(φ:D_):Prop where
ex:∃n:Nat,Fd G n f/\∀u v,fieldF G n f u v=φ u v
theorem Vg.app{G a:Gv}{k f:Nat}{φ:D_}(ok:GOk G)(go:AI G a k)(h:Vg G f φ):Vg a f φ:=by
 obtain⟨n,b,c⟩:=h.ex;exact⟨n,b.app go,λu v=>by rw[Ec ok go b.lev];exact c u v⟩
theorem Vg.eq{G r:Gv}(d:G=G0++r)(ok:GOk G){f c:Nat}{φ ψ:D_}(h:Vg G f φ)(h':Vg G c ψ)(e:∀u v,φ u v=ψ u v):f=c:=by
 obtain⟨n,b,i⟩:=h.ex;obtain⟨m,a,g⟩:=h'.ex;have:=b.le;have:=a.le;exact(PV d ok A0 A0 b.lev a.lev b.tr a.tr λu v=>by rw[i,g,e]).2
def mvF(dx dy:Int)(φ:D_)(u v:Int):Nat:=φ (u-dx) (v-dy)
def mvX(dx dy:Int)(b:Bx):Bx:=⟨b.l+dx,b.t+dy,b.w,b.h⟩
theorem CI.mv {φ:D_} {b:Bx} (dx dy:Int) (h:CI (λu v=>φ u v≠0) b):CI (λu v=>mvF dx dy φ u v≠0) (mvX dx dy b):=by
 apply AR;intro g f;obtain⟨i,⟨a,j⟩,⟨c,k⟩,⟨d,m⟩,⟨e,n⟩⟩:=h;apply f;clear f g;unfold mvX mvF;refine⟨λu v z=>?_,⟨a+dy,?_⟩,⟨c+dx,?_⟩,⟨d+dy,?_⟩,⟨e+dx,?_⟩⟩
 .have:=i _ _ z;dsimp only;lia
 .dsimp only at *
  rw[show b.l+dx-dx=b.l by lia,show a+dy-dy=a by lia];exact j
 .dsimp only at *
  rw[show c+dx-dx=c by lia,show b.t+dy-dy=b.t by lia];exact k
 .dsimp only at *
  rw[show b.l+dx+b.w-1-dx=b.l+b.w-1 by lia,show d+dy-dy=d by lia];exact m
 .dsimp only at *
  rw[show e+dx-dx=e by lia,show b.t+dy+b.h-1-dy=b.t+b.h-1 by lia];exact n
theorem tgt_of {G:Gv} (ok:GOk G) {n f:Nat} (l:An G f ((n+1:Nat):Int)) {φ:D_} (e:∀u v,fieldF G n f u v=φ u v) {B:Bx} (t:CI (λu v=>φ u v≠0) B) {dx dy:Int} {a:Prop} (h:FR (B.l+dx) (B.t+dy) B.w B.h (2^40)↔a):Tgt G n f dx dy a:=by
 intro b c;have d:=(Fn ok l c).congr (M:=λu v=>φ u v≠0) λu v=>by rw[e]
 rw[d.one t];exact h
def shX(B:Bx):Int:=-(B.w/2)-B.l
def shY(B:Bx):Int:=-(B.h/2)-B.t
section
variable{P:N_}{w:Q_}{K:O_}{mg:C_}{base:T_}{a:Ad}
theorem mv_of {g:GA} {G:Gv} {H:Hp} {Q:VK} {E:XK} {f M:Nat} {dx dy:Int} {φ:D_} {B:Bx} (j:AX a H g G) (h:Vg G f φ) (t:CI (λu v=>φ u v≠0) B) (C:FR (B.l+dx) (B.t+dy) B.w B.h (2^40)) (i:∀(s z:Int)(R D:Nat),∃cl,Vz ⟨λx y=>φ ((x:Int)-s) ((y:Int)-z),R,D,M,cl⟩) (M1:49*M<1000000) (few:G.length<6000000) (k:∀(r:Nat)(b:Gv)(c:Hp),Fx (frA g) H c->AX a c g b->AI G b (49*M+700)->Vg b r (mvF dx dy φ)->Q (.int r) c):WT a [.ref g.p,.int f,.int dx,.int dy] H Q E:=by
 obtain⟨n,o,q⟩:=h.ex;exact⟨g,G,f,n,M,dx,dy,φ,Z,j,o,q,tgt_of j.ok o.lev q t ⟨λ_=>trivial,λ_=>C⟩,i,M1,few,λr m b c x d go A e=>k r b c x d go ⟨m,A,e⟩⟩
theorem mv_none{g:GA}{G:Gv}{H:Hp}{Q:VK}{E:XK}{f:Nat}{dx dy:Int}{φ:D_}(j:AX a H g G)(h:Vg G f φ)(z:∀u v,φ u v=0)(few:G.length<6000000)(k:∀(r:Nat)(c:Gv)(d:Hp),Fx (frA g) H d->AX a d g c->AI G c 700->Vg c r φ->Q (.int r) d):WT a [.ref g.p,.int f,.int dx,.int dy] H Q E:=by
 obtain⟨n,l,o⟩:=h.ex;refine⟨g,G,f,n,0,dx,dy,φ,Z,j,l,o,λb A=>?_,λq s R D=>Pb (ps:=[]) (λu v y=>absurd (z u v) y) q s R D,by decide,few,λr m c d x i go t e=>k r c d x i go ⟨m,t,λu v=>by rw[e,z,z]⟩⟩;obtain⟨v,B⟩:=(Fn j.ok l.lev A).le;exact absurd (by rw[o,z]) B
inductive SB(a:Ad)(vs:List V)(H:Hp)(Q:VK):Prop
|mk (g:GA) (G:Gv) (f M:Nat) (φ:D_) (_:vs=[.ref g.p,.int f]) (_:AX a H g G) (_:Vg G f φ) (_:∀(ax ay:Int)(R D:Nat),∃cl,Vz ⟨λx y=>φ ((x:Int)-ax) ((y:Int)-ay),R,D,M,cl⟩) (_:49*M<1000000) (_:G.length<5900000) (_:(∀u v,φ u v=0)->∀(t:R_)(H':Hp),Fx (frA g) H H'->AX a H' g G->H' t=some (.tup [.int f,.int 0,.int 0])->Q (.ref t) H') (_:∀B,CI (λu v=>φ u v≠0) B->∀(r:Nat)(t:R_)(G':Gv)(H':Hp),Fx (frA g) H H'->AX a H' g G'->AI G G' (49*M+700)->Vg G' r (mvF (shX B) (shY B) φ)->H' t=some (.tup [.int r,.int B.l,.int B.t])->Q (.ref t) H'):SB a vs H Q
def Rk(a:Ad):Sp:=λvs H Q _=>SB a vs H Q
theorem ZF(F:Fun K "shape_of" "shape_of" LX f fd)(T:Top K mg a)(bA:Cal P w K mg base CX0 102 "box_of" UX (Mx a))(bF:Cal P w K mg base CX0 103 "moved_by" Jg (WT a)):AL P w K mg base CX0 104 f fd UX (Rk a):=by
 refine F.ok JE (λvs H Q E h=>?_) (λaa A V s H vs Q E hr h=>?_)
 .apply AR;intro I c;obtain⟨g,G,O,M,φ,rfl,_⟩:=h;apply c;clear c I;rfl
 .apply AR;intro I c;obtain⟨g,G,O,M,φ,rfl,x,vf,S,M1,few,k0,k1⟩:=h;obtain⟨n,e,N⟩:=id vf.ex;apply c;clear c I;have U:=e.le;refine⟨_,(Ac (Ao (i:=2) JE.nd Z O_9 (As bA (rm hr) Z Aq (Aa (pv 0) (Aa (pv 1) Ae)))) (Ac (AQ (Az FE (pv 2) Cw (AF _)) (Ai (Av (CD (Aa (pv 1) (AN (AN Ae)))))) AC) (Ac (Ao (i:=3) JE.nd Z O_9 (As bF (rm hr) Z Aq (Aa (pv 0) (Aa (pv 1) (AV BI (Iz EI (AB Do (Aj Ak (pv 2) Ab R_9) Ab)) (Aj Ak (pv 2) Ab R_9) (AV BI (Iz EI (AB Do (Aj Ak (pv 2) Ab R_9) Ab)) (Aj Ak (pv 2) Ab R_9) Ae)))))) (Ai (Av (CD (Aa (pv 3) (Aa (Aj Ak (pv 2) Ab R_9) (Aa (Aj Ak (pv 2) Ab R_9) Ae))))))))),?_⟩
  try dsimp only[cxK]
  refine xw2 Z Z ⟨g,G,O,n,Z,x,e.lev,by lia,by lia,λbn X m q=>?_,λb hb t X m q d=>?_⟩
  .have z:∀u v,φ u v=0:=λu v=>by rw[<-N];exact Pr x.ok e.lev bn u v
   refine xq1 Z ⟨Z,(xq1 Z (BY (xq1 Z ⟨S_3,λt d=>?_⟩)))⟩;have s2:=AG (o:=.tup [.int (O:Int),.int 0,.int 0]) d;exact k0 z t _ (((m.fx x).mono (by simp[frA])).trans (AA.fx s2)) (q.same s2) Af
  .have k:=(Fn x.ok e.lev hb).congr (M:=λu v=>φ u v≠0) λu v=>by rw[N]
   generalize mvB (2^n) b=B at k d;have far:∀{u v:Int},φ u v≠0->-(2^n)<=u/\u<2^n/\-(2^n)<=v/\v<2^n:=λ{u v} z=>Decidable.byContradiction λy=>z (by rw[<-N];exact LA y);have W:(2:Int)^n<=2^40:=pow2_le U;obtain⟨v1,Y⟩:=k.le;obtain⟨v2,h2⟩:=k.ri;obtain⟨v3,h3⟩:=k.to;obtain⟨v4,h4⟩:=k.bo;have b1:=far Y;have b2:=far h2;have b3:=far h3;have b4:=far h4;have w1:=k.inn _ _ Y;have w3:=k.inn _ _ h3;have li:FR (B.l+shX B) (B.t+shY B) B.w B.h (2^40):=by
    unfold FR shX shY;have L:(2:Int)^40=1099511627776:=by decide
    rw[L]at W⊢;generalize (2:Int)^n=p at *
    refine⟨by lia,by lia,by lia,by lia⟩
   have d:X t=some (.tup [.int B.l,.int B.t,.int B.w,.int B.h]):=d;refine xq1 Z ⟨Z,(xq1 Z (AY ?_))⟩;refine xw3 Z Z Z (xq4 Z Z (SqT.of d) (Ah (j:=2) Z) (xq2 Z Z ⟨⟨by decide,by decide⟩,(xwj Z Z Z Z (SqT.of d) (Ah (j:=0) Z) (xq2 Z Z ?_))⟩));refine xwi Z Z Z (SqT.of d) (Ah (j:=3) Z) (xq2 Z Z ⟨⟨by decide,by decide⟩,(xwj Z Z Z Z (SqT.of d) (Ah (j:=1) Z) (xq2 Z Z ?_))⟩);refine mv_of (E:=E0) (dx:=shX B) (dy:=shY B) q vf k li S M1 A0 λr G' H2 C R go vr=>?_;have D:=C.tup d;refine xwj Z Z Z Z (SqT.of D) (Ah (j:=0) Z) (xwi Z Z Z (SqT.of D) (Ah (j:=1) Z) ⟨S_3,λu hu=>?_⟩);have s3:=AG (o:=.tup [.int (r:Int),.int B.l,.int B.t]) hu;exact k1 B k r u G' _ ((((m.fx x).mono (by simp[frA])).trans C).trans (AA.fx s3)) (R.same s3) go vr Af
end
end J
namespace J
open PySem L2
noncomputable def bxO (ψ:D_):Option Bx:=open Classical in if h:∃B,CI (λu v=>ψ u v≠0) B then some h.choose else none
theorem bxO_some {ψ:D_} {B:Bx} (t:CI (λu v=>ψ u v≠0) B):bxO ψ=some B:=by
 unfold bxO;have h:∃B,CI (λu v=>ψ u v≠0) B:=⟨B,t⟩
 rw[dif_pos h];exact A0c some (h.choose_spec.one t)
theorem bxO_none{ψ:D_}(z:∀u v,ψ u v=0):bxO ψ=none:=by
 unfold bxO;rw[dif_neg];rintro⟨B,t⟩;obtain⟨v,h⟩:=t.le;exact h (z _ _)
noncomputable def nrm (ψ:D_):Int->Int->Nat:=match bxO ψ with
|some B=>mvF (shX B) (shY B) ψ
|none=>ψ
noncomputable def bxL (ψ:D_):Int:=match bxO ψ with
|some B=>B.l
|none=>0
noncomputable def bxT (ψ:D_):Int:=match bxO ψ with
|some B=>B.t
|none=>0
theorem IB {ψ:D_} {B:Bx} (t:CI (λu v=>ψ u v≠0) B):nrm ψ=mvF (shX B) (shY B) ψ/\bxL ψ=B.l/\bxT ψ=B.t:=by
 have e:=bxO_some t;unfold nrm bxL bxT;rw[e];exact⟨Z,Z,Z⟩
theorem Lb{ψ:D_}(z:∀u v,ψ u v=0):nrm ψ=ψ/\bxL ψ=0/\bxT ψ=0:=by
 have e:=bxO_none z;unfold nrm bxL bxT;rw[e];exact⟨Z,Z,Z⟩
def Fy(φ ψ:D_):Prop:=∀u v,nrm φ u v=nrm ψ u v
theorem Vg.fn{G:Gv}{f:Nat}{φ ψ:D_}(h:Vg G f φ)(k:Vg G f ψ)(u v:Int):φ u v=ψ u v:=by
 obtain⟨n,a,b⟩:=h.ex;obtain⟨m,c,d⟩:=k.ex;have:n=m:=by
  have:=a.lev.one c.lev;lia
 subst this;rw[<-b,<-d]
theorem Fv.vf{G:Gv}{f:Nat}{φ:D_}(h:Fv G f φ):Vg G f φ:=by
 obtain⟨n,a,b,c,d⟩:=h.ex;exact⟨n,⟨b,c,a⟩,d⟩
section
variable{P:N_}{w:Q_}{K:O_}{mg:C_}{base:T_}{a:Ad}
theorem sh_nrm{g:GA}{G:Gv}{H:Hp}{Q:VK}{f:Nat}{ψ:D_}{ps:List (Int×Int)}(o:AX a H g G)(v:Vg G f ψ)(x:∀u v,ψ u v≠0->(u,v)∈ps)(C:ps.length<=2400)(few:G.length<5800000)(k:∀(r:Nat)(t:R_)(c:Gv)(b:Hp),Fx (frA g) H b->AX a b g c->AI G c (196*ps.length+700)->Vg c r (nrm ψ)->b t=some (.tup [.int (r:Int),.int (bxL ψ),.int (bxT ψ)])->Q (.ref t) b):SB a [.ref g.p,.int (f:Int)] H Q:=by
 refine⟨g,G,f,4*ps.length,ψ,Z,o,v,Pb x,by lia,by lia,λz t b fx i y=>?_,λB tB r t q s l j m A n=>?_⟩
 .obtain⟨d,e,h⟩:=Lb z;exact k f t G b fx i ((AI.refl o.ok).mono (L5 _)) (by rw[d];exact v) (by rw[e,h];exact y)
 .obtain⟨d,e,h⟩:=IB tB;exact k r t q s l j (m.mono A0) (by rw[d];exact A) (by rw[e,h];exact n)
end
seal L2.PA L2.PE L2.PS L2.PSs L2.PT L2.PW
section
variable{a:Ad}{H H':Hp}{g:GA}{G G':Gv}{Κ:KTy}{N b i:Nat}{p dx mem pr:R_}{r:AD}{m:MA}
theorem Fx.zA(f:Fx (frA g) H H'):FrZ g m H H':=λx o e n1 _=>f.get (λz=>n1 (by simp only[frA,C3,D8,A0g]at z⊢;lia)) e
theorem ZS.fA(h:ZS a H g G Κ N b p dx mem pr r m)(f:Fx (frA g) H H')(c:AX a H' g G')(go:AI G G' i):ZS a H' g G' Κ N (b+i) p dx mem pr r m:=by
 have q:=h.jz.jw;have n:=q.me;apply AR;intro K t;obtain⟨y,c1,c2,_⟩:=n.ce;obtain⟨T,I,_⟩:=h.fu.at'.pt;obtain⟨P,E,_⟩:=h.fu.am;obtain⟨Q,F,_⟩:=h.fu.bx;apply t;clear t K;have C:∀{x:R_}{o:HO},H x=some o->Fix o->H' x=some o:=λ{x o} e k=>f _ _ e λ_=>k;have u:∀d∈m.ds,∀o,H d=some o->H' d=some o:=λd A o e=>by
  obtain⟨j,B⟩:=L9 A;obtain⟨R,s,_⟩:=n.sq j d B;refine f.get (λz=>?_) e;simp only[frA,C3,D8,A0g]at z;rcases z with z|z|z|z|z
  .rw[z,h.fu.at'.lv]at s;cases s
  .rw[z,I]at s;cases s
  .rw[z,h.fu.at'.nm]at s;cases s
  .exact h.na (z▸A)
  .exact h.nb (z▸A)
 have v:∀o,H m.kc=some o->H' m.kc=some o:=λo e=>by
  refine f.get (λz=>?_) e;simp only[frA,C3,D8,A0g]at z;rcases z with z|z|z|z|z
  .rw[z,h.fu.at'.lv]at c1;cases c1
  .rw[z,I]at c1;cases c1
  .exact n.ap.2.2 z
  .rw[z,E]at c1;cases c1
  .rw[z,F]at c1;cases c1
 have M:H' m.l=some (.lst (m.ds.map V.ref)):=by
  refine f.get (λz=>?_) n.l;have e:=n.l;simp only[frA,C3,D8,A0g]at z;rcases z with z|z|z|z|z
  .exact n.ap.1 z
  .exact n.ap.2.1 z
  .rw[z,h.fu.at'.nm]at e;cases e
  .rw[z,E]at e;cases e
  .rw[z,F]at e;cases e
 have D:Ju H' g G' N (b+i+10*N) r m:=(n.kp q.ok go λx o e w=>by
  rcases w with rfl|rfl|w|rfl
  .rw[n.tp]at e;cases e;exact C n.tp True.intro
  .rw[n.l]at e;cases e;exact M
  .exact u x w o e
  .exact v o e).mono (C1 _) A0
 obtain⟨L,cn⟩:=h.jz.cn;have bs:Bs G':=λj B=>by
  obtain⟨S,e⟩:=c.g0;rw[e];exact Lz (MW j B)
 refine⟨⟨⟨c.at',c.ok,bs,c.br,q.nbr,C q.hp True.intro,q.ru.kp λx o e O=>C e (by cases O<;>exact True.intro),q.rok,q.rest,D⟩,L,cn.kp q.ok go u λy e=>⟨y,v _ e,by lia⟩⟩,c,h.na,h.nb⟩
end
theorem ZS.putD{a:Ad}{H:Hp}{g:GA}{G:Gv}{Κ:KTy}{N b:Nat}{p dx mem e D:R_}{r:AD}{m:MA}{i:List (Key×V)}{o:HO}(h:ZS a H g G Κ N b p dx mem e r m)(f:H D=some (.dK i))(ap:ApZ g m D):ZS a (upd H D o) g G Κ N b p dx mem e r m:=by
 refine h.fx (fx_up f (λz=>z)) λx d z=>?_;rw[D4.mp z]at d;simp only[zL,List.cons_append,List.nil_append,C3]at d;have c:=ap.n0;simp only[C3,D8,A0g,A5d]at c;rcases d with z|z|z|z|z|z|z|z|z
 .exact ap.n2 z
 .exact ap.n3 z
 .exact c.1 z
 .exact c.2.1 z
 .exact c.2.2.1 z
 .exact c.2.2.2.1 z
 .exact c.2.2.2.2.1 z
 .exact c.2.2.2.2.2 z
 .exact ap.n1 z
def CaT(H:Hp)(r:AD)(φ:D_)(c:Nat)(t:R_):Prop:=H t=some (.tup [.int (c:Int),.int (bxL (sFN r c φ)),.int (bxT (sFN r c φ))])
structure Sn0(H:Hp)(G:Gv)(r:AD)(φ:D_)(n:Nat)(kv:List (Key×V)):Prop where
len:kv.length<=n
old:∀c,c<n->∃q t,Vg G q (nrm (sFN r c φ))/\Br kv (Sum.inl ((q:Nat):Int))=some (.ref t)/\CaT H r φ c t
inv:∀q v,Br kv (Sum.inl ((q:Nat):Int))=some v->∃c t,c<n/\v=.ref t/\CaT H r φ c t/\Vg G q (nrm (sFN r c φ))
theorem Sn0.kp{H l:Hp}{G j:Gv}{r:AD}{φ:D_}{n i:Nat}{m:List (Key×V)}(h:Sn0 H G r φ n m)(ok:GOk G)(go:AI G j i)(k:∀t xs,H t=some (.tup xs)->l t=some (.tup xs)):Sn0 l j r φ n m:=by
 refine⟨h.len,λc p=>?_,λq v e=>?_⟩
 .apply AR;intro b a;obtain⟨q,t,d,f,g⟩:=h.old c p;apply a;clear a b;exact⟨q,t,d.app ok go,f,k _ _ g⟩
 .apply AR;intro b a;obtain⟨c,t,d,f,g,o⟩:=h.inv q v e;apply a;clear a b;exact⟨c,t,d,f,k _ _ g,o.app ok go⟩
theorem Sn0.put{H:Hp}{G:Gv}{r:AD}{φ:D_}{n q:Nat}{t:R_}{f:List (Key×V)}(h:Sn0 H G r φ n f)(no:Br f (Sum.inl (q:Int))=none)(k:Vg G q (nrm (sFN r n φ)))(j:CaT H r φ n t):Sn0 H G r φ (n+1) (DI f (Sum.inl (q:Int)) (.ref t)):=by
 refine⟨by rw[Gk _ no,C5];show f.length+1<=n+1;have:=h.len;lia,λc o=>?_,λd v e=>?_⟩
 .by_cases z:c=n
  .subst z;exact⟨q,t,k,by rw[Fl,K2 rfl],j⟩
  .obtain⟨d,t',i,a,g⟩:=h.old c A0;refine⟨d,t',i,?_,g⟩;rw[Fl,X9]
   .exact a
   .intro y;rw[y]at a;rw[no]at a;cases a
 .rw[Fl]at e;by_cases z:(Sum.inl ((d:Nat):Int):Key)=Sum.inl (q:Int)
  .rw[K2 z]at e;cases e;have:d=q:=by
    injection z with z
    lia
   subst this;exact⟨n,t,by lia,Z,j,k⟩
  .rw[X9 z]at e;apply AR;intro l b;obtain⟨c,t',i,a,g,m⟩:=h.inv d v e;apply b;clear b l;exact⟨c,t',by lia,a,g,m⟩
section
variable{P:N_}{w:Q_}{K:O_}{mg:C_}{base:T_}{a:Ad}
inductive SpCA(a:Ad)(vs:List V)(H:Hp)(Q:VK):Prop
|mk (p dx mem pr:R_) (g:GA) (G:Gv) (Κ:KTy) (φ:D_) (N b:Nat) (r:AD) (m:MA) (f k gr:Nat) (_:vs=[.ref p,.int f,.int (k:Int)]) (_:ZS a H g G Κ N b p dx mem pr r m) (_:Ng Κ N) (_:ClK r Κ) (_:∀c,c<k->SI Κ r (sFN r c φ) 1) (_:Fv G f φ) (_:∀c,c<=k->∃ps:List (Int×Int),12800+196*ps.length<=gr/\∀u v,sFN r c φ u v≠0->(u,v)∈ps) (_:k<=24) (_:gr*(k+1)<=450000) (_:b+450000+10*N<5700000) (_:∀c,c<k->Uv (sFN r c φ) 1)
  (_:∀c d,1<=d->c+d<=k->(∀i j,j<i->i<c+d->¬Fy (sFN r j φ) (sFN r i φ))->Fy (sFN r c φ) (sFN r (c+d) φ)->∀(t:R_)(G':Gv)(H':Hp)(i:Nat),FrZ g m H H'->ZS a H' g G' Κ N (b+450000) p dx mem pr r m->AI G G' i->H' t=some (.tup [.int (c:Int),.int (d:Int),.int (bxL (sFN r (c+d) φ)-bxL (sFN r c φ)),.int (bxT (sFN r (c+d) φ)-bxT (sFN r c φ))])->Q (.ref t) H')
  (_:(∀i j,j<i->i<=k->¬Fy (sFN r j φ) (sFN r i φ))->∀(G':Gv)(H':Hp)(i:Nat),FrZ g m H H'->ZS a H' g G' Κ N (b+450000) p dx mem pr r m->AI G G' i->Q .non H'):SpCA a vs H Q
def spCA(a:Ad):Sp:=λvs H Q _=>SpCA a vs H Q
theorem ok_ca(F:Fun K "comes_again" "comes_again" GY f fd)(T:Top K mg a)(aF:Cal P w K mg base CX0 1 "is_whole" UZ UD)(cQ:Cal P w K mg base CX0 151 "jump" RE (VT a))(cP:Cal P w K mg base CX0 104 "shape_of" UX (Rk a)):AL P w K mg base CX0 152 f fd Ig (spCA a):=by
 refine F.ok Ce (λvs H Q E h=>?_) (λbb A a7 s H vs Q E hr h=>?_)
 .apply AR;intro C l;obtain⟨p,dx,mem,pr,g,G,Κ,φ,N,b,r,m,f',k,gr,rfl,_⟩:=h;apply l;clear l C;rfl
 .apply AR;intro C l;obtain⟨p,dx,mem,pr,g,G,Κ,φ,N,b,r,m,f',k,gr,rfl,zs,fin,cl,au,fv,ae,bd,bc,few,a6,kt,kn⟩:=h;apply l;clear l C;refine⟨_,(Ac (AQ (PW.pt (Jz (CS (Cu (As aF (rm hr) Z Aq (Aa (pv 2) Ae)))) (JK (Az FH (pv 2) Ab (AF _))))) (Ai Bl) AC) (Ac (Ao (i:=3) Ce.nd Z O_9 JN) (Ac (Ao (i:=4) Ce.nd Z O_9 (pv 1)) (Ac (Cv A0b Z (CC Z T.b_range (AV AO (pv 2) Ab Ae)) (Bn (i:=5) Ce.nd Z O_9) (Ac (AQ (Az Oc (pv 5) Ab (AF _)) (Ai (Ao (i:=4) Ce.nd Z O_9 (As cQ (rm hr) Z Aq (Aa (pv 0) (Aa (pv 4) (AN Ae)))))) AC) (Ac (Ao (i:=6) Ce.nd Z O_9 (As cP (rm hr) Z Aq (Aa (AE (pv 0) Z) (Aa (pv 4) Ae)))) (Ac (Ao (i:=7) Ce.nd Z O_9 (IA (EC hr) (pv 3) (Aj Ak (pv 6) Ab R_9) ⟨Z,Z,Z,Z⟩)) (Ac (AQ (Az RF (pv 7) Cw (AF _)) (Ai (Av (CD (Aa (Aj Ak (pv 7) Ab R_9) (AV BI (pv 5) (Aj Ak (pv 7) Ab R_9) (AV BI (Aj Ak (pv 6) Ab R_9) (Aj Ak (pv 7) Ab R_9) (AV BI (Aj Ak (pv 6) Ab R_9) (Aj Ak (pv 7) Ab R_9) Ae))))))) AC) (Ai (FM (EC hr) (pv 3) (Aj Ak (pv 6) Ab R_9) (CD (Aa (pv 5) (Aa (Aj Ak (pv 6) Ab R_9) (Aa (Aj Ak (pv 6) Ab R_9) Ae)))) Z))))))) (Ai (Av Cw)))))),?_⟩
  try dsimp only[cxK]
  refine Bm ?_;intro r1 s1 k1 ax E1;refine xq1 Z ⟨(k:Int),Z,⟨true,Z,AY ?_⟩⟩;refine xwb Z Z Z (xq1 Z ?_);rw[K1 A0];refine AY ?_;refine ax ?_;have re:=zs.jz.jw.rest;refine Bm ?_;intro r2 s2 k2 ay E2;refine λD nD=>?_;have sD:=AG (o:=.dK []) nD;have am:upd H D (.dK []) D=some (.dK []):=Af;generalize upd H D (.dK [])=H1 at sD am⊢;have ba:=zs.same sD;have X:=zs.ap nD;refine ay ?_;refine Bm ?_;intro r3 s3 k3 az E3;refine xq1 Z (az ?_);refine Bm ?_;intro r4 s4 k4 a0 E4;refine xwb Z Z Z (xq1 Z ⟨by lia,by lia,?_⟩);rw[show((k:Int)+1).toNat=k+1 by lia];refine CF (n:=k+1) (λc σ H3=>∃(W:Gv)(h:Nat)(kv:List (Key×V))(u5 u6 u7:Option V)(i:Nat),σ=[some (.ref p),some (.int f'),some (.int (k:Int)),some (.ref D),some (.int (h:Int)),u5,u6,u7]/\FrZ g m H H3/\ZS a H3 g W Κ N (b+gr*c) p dx mem pr r m/\AI G W i/\H3 D=some (.dK kv)/\Sn0 H3 W r φ c kv/\(∀i j,j<i->i<c->¬Fy (sFN r j φ) (sFN r i φ))/\Fv W h (sFN r (c-1) φ)) ⟨G,f',[],none,none,none,0,Z,AA.z sD,ba,AI.refl zs.fu.ok,am,⟨C1 _,(λc hc=>absurd hc (M7 _)),λq v e=>by cases e⟩,(λi j _ hi=>absurd hi (M7 _)),fv⟩ ?_ ?_
  .rintro c σ H3 hc a9;apply AR;intro C l;obtain⟨W,h,kv,u5,u6,u7,i,rfl,fz,z3,go,ab,sn,y,fh⟩:=a9;apply l;clear l C;have gs:gr*(c+1)=gr*c+gr:=Nat.mul_succ ..;have gc:gr*c+gr<=450000:=by
    have:=M4 gr (show c+1<=k+1 by lia);lia
   have a4:∀{x:R_}{o:HO},H x=some o->x≠D:=λ{x o} e z=>by rw[z,nD]at e;cases e
   refine Bm ?_;intro r5 s5 k5 a1 E5;apply PL (T:=k5) (fun σ' H4=>∃(G4:Gv)(h4:Nat)(i4:Nat),σ'=[some (.ref p),some (.int f'),some (.int (k:Int)),some (.ref D),some (.int (h4:Int)),some (.int (0+(c:Int))),u6,u7]/\FrZ g m H H4/\ZS a H4 g G4 Κ N (b+gr*c+12048) p dx mem pr r m/\AI G G4 i4/\H4 D=some (.dK kv)/\Sn0 H4 G4 r φ c kv/\Fv G4 h4 (sFN r c φ))
   .intro U;refine xwb Z Z Z (xq1 Z (Ip (λai=>?_) (λai=>?_)))
    .have c1:1<=c:=by
      have:=A0d ai;lia
     refine xw2 Z Z ⟨p,dx,mem,pr,g,W,Κ,sFN r (c-1) φ,N,_,r,m,h,1,Z,z3,fin,cl,au (c-1) A0,fh,a6 (c-1) A0,by lia,λd G4 H4 i4 I z4 Y fd=>?_⟩;rw[<-IZ,show 1+(c-1)=c by lia]at fd;refine U _ _ ⟨G4,d,(xq1 Z ⟨fz.trans I,z4,go.trans Y,I _ _ ab X.n0 X.n1,sn.kp z3.fu.ok Y (λt xs e=>z3.keep I e B0 B0 B0),fd⟩)⟩
    .have B:c=0:=by
      have:¬(0:Int)<0+(c:Int):=λz=>ai (K0 z);lia
     subst B;exact U _ _ ⟨W,h,i,Z,fz,z3.mono A0,go,ab,sn,fh⟩
   .rintro σ' H4 aj;apply AR;intro C l;obtain⟨G4,h4,i4,rfl,I,z4,Y,an,as,af⟩:=aj;apply l;clear l C;refine a1 ?_;clear fz z3 go ab sn fh;refine Bm ?_;intro r6 s6 k6 a2 E6;obtain⟨ps,be,a3⟩:=ae c A0;have bg:=z4.jz.sz fin;refine xwf Z Z z4.jz.jw.hp T.cl_Jumps T.na_Jumps_grove (DY _ _ _ _ _) ?_;refine xq1 Z (sh_nrm z4.fu af.vf a3 A0 A0 λq t6 G5 H5 R ak aa vq M=>?_);have z5:=z4.fA R ak aa;have ag:H5 D=some (.dK kv):=R.get (λz=>X.n0 (by simp only[frA,C3,D8,A0g]at z⊢;lia)) an;have ac:=as.kp z4.fu.ok aa (λt xs e=>R.tup e);have aw:=af.app z4.fu.ok aa;have al:FrZ g m H H5:=I.trans (Fx.zA R);have ad:=Y.trans aa;obtain⟨bf,av⟩:=z5.fu.g0;have S:=z5.fu.ok;clear R ak z4 as af an I;refine a2 ?_;refine Bm ?_;intro r7 s7 k7 ao E7;refine xq1 Z ⟨D,Z,.inl ⟨_,.inl ag⟩,(xwi Z Z Z (SqT.of M) (Ah (j:=0) Z) ⟨_,IF.k (k:=Sum.inl (q:Int)) ag,?_⟩)⟩;cases ev:Br kv (Sum.inl (q:Int))with
    |some v =>
     apply AR;intro C l;obtain⟨B,t0,h1,rfl,L,v0⟩:=ac.inv q v ev;apply l;clear l C;refine ao ?_;refine Bm ?_;intro r8 s8 k8 aq E8;refine xq1 Z ⟨Z,(xq1 Z (BY ?_))⟩;have L:H5 t0=some (.tup [.int (B:Int),.int (bxL (sFN r B φ)),.int (bxT (sFN r B φ))]):=L;refine xwi Z Z Z (SqT.of L) (Ah (j:=0) Z) (xwj Z Z Z Z (SqT.of L) (Ah (j:=0) Z) (xq2 Z Z ?_));refine xwi Z Z Z (SqT.of M) (Ah (j:=1) Z) (xwi Z Z Z (SqT.of L) (Ah (j:=1) Z) (xq2 Z Z ?_));refine xwi Z Z Z (SqT.of M) (Ah (j:=2) Z) (xwi Z Z Z (SqT.of L) (Ah (j:=2) Z) (xq2 Z Z ?_));refine⟨by show 4<=sizeLine;decide,λu hu=>?_⟩;have ec:B+(c-B)=c:=by lia
     refine kt B (c-B) A0 A0 (λi j h1 h2=>y i j h1 A0) (by rw[ec];exact v0.fn vq) u G5 _ _ (al.trans (AA.z (AG hu))) ((z5.same (AG hu)).mono A0) ad ?_;rw[Af,ec];have:(0:Int)+(c:Int)-(B:Int)=((c-B:Nat):Int):=by lia
     exact A0c (λz:Int=>some (HO.tup [.int (B:Int),.int z,.int (bxL (sFN r c φ)-bxL (sFN r B φ)),.int (bxT (sFN r c φ)-bxT (sFN r B φ))])) this
    |none =>
     have a5:∀j,j<c->¬Fy (sFN r j φ) (sFN r c φ):=λj hj ss=>by
      apply AR;intro C l;obtain⟨q',t',w1,w2,_⟩:=ac.old j hj;apply l;clear l C;have:q'=q:=Vg.eq av S w1 vq ss;subst this;rw[ev]at w2;cases w2
     refine ao ?_;refine Bm ?_;intro r8 s8 k8 aq E8;refine xq1 Z ⟨Z,(xq1 Z (AY (aq ?_)))⟩;refine xwj Z Z Z Z (SqT.of M) (Ah (j:=1) Z) (xwi Z Z Z (SqT.of M) (Ah (j:=2) Z) ⟨by show 3<=sizeLine;decide,λu hu=>?_⟩);have O:=AG (o:=.tup [.int (0+(c:Int)),.int (bxL (sFN r c φ)),.int (bxT (sFN r c φ))]) hu;have ar:CaT (upd H5 u (.tup [.int (0+(c:Int)),.int (bxL (sFN r c φ)),.int (bxT (sFN r c φ))])) r φ c u:=by
      show upd H5 u _ u=_;rw[Af,T8]
     generalize upd H5 u (.tup [.int (0+(c:Int)),.int (bxL (sFN r c φ)),.int (bxT (sFN r c φ))])=H6 at O ar⊢;have ah:=O _ _ ag;have z6:=z5.same O;have a8:=(ac.kp S (AI.refl S) (λt xs e=>O _ _ e)).put ev vq ar;have lk:=ac.len;refine xwj Z Z Z Z (SqT.of (O _ _ M)) (Ah (j:=0) Z) ⟨D,(xq1 Z ⟨LN.k (k:=Sum.inl (q:Int)) ah (EH A0),?_⟩)⟩;refine⟨G5,h4,DI kv (Sum.inl (q:Int)) (.ref u),_,_,_,_,Z,?_,(z6.putD ah X).mono A0,ad,Af,?_,λi j h1 h2=>?_,by rw[Z7];exact aw⟩
     .intro x o e n1 n2;rw[Aw (a4 e)];exact O _ _ (al x o e n1 n2)
     .exact a8.kp S (AI.refl S) λt xs e=>by
       rw[Aw (AH e ah A4)];exact e
     .by_cases z:i=c
      .subst z;exact a5 j h1
      .exact y i j h1 A0
  .rintro σ H3 aj;apply AR;intro C l;obtain⟨W,h,kv,u5,u6,u7,i,rfl,fz,z3,go,ab,sn,y,fh⟩:=aj;apply l;clear l C;refine a0 ?_;exact kn (λi j h1 h2=>y i j h1 A0) W H3 i fz (z3.mono A0) go
end
end J
namespace J
open PySem L2
def Kp(r:AD)(φ:D_)(Tt:Nat->Nat->Nat->Prop):KTy:=λl e ψ=>l<47/\((∀x y,x<2^(l+2)->y<2^(l+2)->ψ x y=0)\/∃(t:Nat)(i j:Int),Tt l e t/\∀x y,x<2^(l+2)->y<2^(l+2)->ψ x y=OQ (sFN r t φ) l i j x y)
structure TtC(Tt:Nat->Nat->Nat->Prop):Prop where
c1:∀{l e t},Tt (l+1) e t->e<=l->Tt l e t
c2:∀{l t},Tt (l+1) (l+1) t->Tt l l t
c3:∀{l t},Tt (l+1) (l+1) t->Tt l l (t+2^l)
theorem kp_cl{r:AD}(A:GF r)(M:CH r 0 BV=0){φ:D_}{d:Nat->Nat->Nat->Prop}(tc:TtC d):ClK r (Kp r φ d):=by
 have p:∀l,2^(l+1)=2^l*2:=λl=>J0 ..;have w:∀l:Nat,(2:Int)^(l+1)=2^l*2:=λl=>W7 ..;have q:∀l,2^(l+2)=2^l*2*2:=λl=>by rw[J0,J0]
 have s:∀l,2^(l+1+2)=2^l*2*2*2:=λl=>by rw[J0,J0,J0]
 have nine:∀{l e k ψ},Kp r φ d (l+1) e ψ->(∀t,d (l+1) e t->d l k t)->∀i j,i<3->j<3->Kp r φ d l k λx y=>ψ (x+2^(l+1)*i) (y+2^(l+1)*j):=λ{l e k ψ} h m i j K L=>by
  have E:2^(l+1)*i<=2^(l+1)*2:=M4 _ A0;have b2:2^(l+1)*j<=2^(l+1)*2:=M4 _ A0;have B:=p l;have C:=q l;have D:=s l;refine⟨by have:=h.1;lia,?_⟩;rcases h.2 with z|⟨t,a,g,b,z⟩
  .exact .inl λx y n o=>z _ _ A0 A0
  .refine .inr ⟨t,2*a+2*(i:Int),2*g+2*(j:Int),m t b,λx y n o=>?_⟩;show ψ _ _=_;rw[z _ _ A0 A0];have f:∀(x i:Nat)(a:Int),((x+2^(l+1)*i:Nat):Int)+2^(l+1)*a=(x:Int)+2^l*(2*a+2*(i:Int)):=λx i a=>by
    rw[M9,N9,M5];show(x:Int)+2^(l+1)*(i:Int)+2^(l+1)*a=_;rw[w,Z1,Z4,Z4];lia
   unfold OQ;rw[f,f]
 refine⟨λh m=>nine h λt b=>tc.c1 b m,λ{l φ} h=>nine h λt b=>tc.c2 b,λ{l ψ} h i j K L=>?_⟩;have E:2^(l+1)*i<=2^(l+1)*1:=M4 _ A0;have b2:2^(l+1)*j<=2^(l+1)*1:=M4 _ A0;have B:=p l;have C:=q l;have D:=s l;refine⟨by have:=h.1;lia,?_⟩;rcases h.2 with z|⟨t,a,g,b,z⟩
 .refine .inl λx y n o=>?_;have:=OB A (c:=ψ) (φ:=λ_ _=>0) (X:=0) (Y:=0) (2^l) (x+(2^(l+1)*i+2^l)) (y+(2^(l+1)*j+2^l)) A0 A0 λu v F G H I=>z u v A0 A0;rw[JJ M]at this;exact this
 .refine .inr ⟨t+2^l,2*a+(2*(i:Int)+1),2*g+(2*(j:Int)+1),tc.c3 b,λx y n o=>?_⟩;have:=OB A (c:=ψ) (φ:=sFN r t φ) (X:=2^(l+1)*a) (Y:=2^(l+1)*g) (2^l) (x+(2^(l+1)*i+2^l)) (y+(2^(l+1)*j+2^l)) A0 A0 λu v F G H I=>z u v A0 A0;show Bu r (2^l) ψ _ _=_;rw[this,<-IZ,S7];have f:∀(x i:Nat)(a:Int),((x+(2^(l+1)*i+2^l):Nat):Int)+2^(l+1)*a=(x:Int)+2^l*(2*a+(2*(i:Int)+1)):=λx i a=>by
   rw[M9,M9,N9,M5,M5];show(x:Int)+(2^(l+1)*(i:Int)+2^l)+2^(l+1)*a=_;rw[w,Z1,Z1,Z4,Z4,Int.mul_one];lia
  unfold OQ;rw[f,f]
def Tn(n l e t:Nat):Prop:=(e<l/\n/2^e%2=1/\t=n%2^e)\/(e=l/\∃m,m<n/2^l/\t=n%2^l+m*2^l)
def Tk(k n1 n2 l e t:Nat):Prop:=(e=0/\t<k)\/Tn n1 l e t\/Tn n2 l e t
theorem Tn.beg{n l e:Nat}(h:n/2^e%2=1)(a:e<=l):Tn n l e (n%2^e):=by
 by_cases z:e<l
 .exact .inl ⟨z,h,Z⟩
 .have:e=l:=by lia
  subst this;exact .inr ⟨Z,0,by lia,by lia⟩
theorem Tn.c1{n l e t:Nat}(h:Tn n (l+1) e t)(a:e<=l):Tn n l e t:=by
 rcases h with ⟨_,b,rfl⟩|⟨c,_⟩
 .exact Tn.beg b a
 .lia
theorem Tn.two{n l t:Nat}(h:Tn n (l+1) (l+1) t):∃m,m+1<n/2^l/\t=n%2^l+m*2^l:=by
 rcases h with ⟨b,_⟩|⟨_,m,a,rfl⟩
 .lia
 .refine⟨n/2^l%2+2*m,?_,?_⟩
  .rw[J0,<-W5]at a;lia
  .rw[Nat.mod_pow_succ,J0,T5,O8 (n/2^l%2)];have:m*(2^l*2)=2*m*2^l:=by rw[<-Nat.mul_assoc,O8,<-Nat.mul_assoc]
   lia
theorem Tn.c2{n l t:Nat}(h:Tn n (l+1) (l+1) t):Tn n l l t:=by
 obtain⟨m,b,a⟩:=h.two;exact .inr ⟨Z,m,by lia,a⟩
theorem Tn.c3{n l t:Nat}(h:Tn n (l+1) (l+1) t):Tn n l l (t+2^l):=by
 obtain⟨m,a,b⟩:=h.two;refine .inr ⟨Z,m+1,a,?_⟩;rw[b,T5,Nat.one_mul,Z3]
theorem tk_c(k n1 n2:Nat):TtC (Tk k n1 n2):=by
 refine⟨λ{l e t} h a=>?_,λ{l t} h=>?_,λ{l t} h=>?_⟩
 .rcases h with h|h|h
  .exact .inl h
  .exact .inr (.inl (h.c1 a))
  .exact .inr (.inr (h.c1 a))
 .rcases h with h|h|h
  .exact absurd h.1 (Nat.succ_ne_zero _)
  .exact .inr (.inl h.c2)
  .exact .inr (.inr h.c2)
 .rcases h with h|h|h
  .exact absurd h.1 (Nat.succ_ne_zero _)
  .exact .inr (.inl h.c3)
  .exact .inr (.inr h.c3)
theorem Tn.lt{n l e t:Nat}(h:Tn n l e t):t<n:=by
 rcases h with ⟨_,d,rfl⟩|⟨_,m,c,rfl⟩
 .have b:=M8 n (2^e);have a:2^e*1<=2^e*(n/2^e):=M4 _ A0;have:=Nat.two_pow_pos e;lia
 .have b:=M8 n (2^l);have a:2^l*(m+1)<=2^l*(n/2^l):=M4 _ c;have:=Nat.two_pow_pos l;rw[Nat.mul_add,O8 (2^l) m]at a;lia
theorem Vl{G:Gv}(ok:GOk G){r:AD}{φ:D_}{a:Nat->Nat->Nat->Prop}{l e t f:Nat}(g:l<47)(i:An G f ((l+1+1:Nat):Int))(b:a l e t)(h:∀x y,fieldF G (l+1) f x y=sFN r t φ x y):Kp r φ a l e (CG G (l+2) f):=by
 refine⟨by lia,.inr ⟨t,-2,-2,b,λx y c d=>?_⟩⟩;unfold OQ;rw[Si ok i c d,h];have e:(2:Int)^(l+1)=2^l*2:=W7 ..;rw[e];congr 2<;>lia
theorem kp_one{r:AD}{φ:D_}{k n1 n2 c:Nat}(b:c<k):SI (Kp r φ (Tk k n1 n2)) r (sFN r c φ) 1:=λj l G f a i g ok h d=>by
 have e:j=0:=by
  by_cases z:j=0
  .exact z
  .rw[M6 (Nat.one_lt_two_pow z)]at a;cases a
 subst e;refine Vl ok A0 h (t:=c) (.inl ⟨Z,b⟩) λx y=>?_;rw[d];rfl
theorem kp_n1{r:AD}{φ:D_}{k n1 n2:Nat}:SI (Kp r φ (Tk k n1 n2)) r φ n1:=λj l G f a c d ok e b=>Vl ok A0 e (.inr (.inl (Tn.beg a c))) b
theorem kp_n2{r:AD}{φ:D_}{k n1 n2:Nat}:SI (Kp r φ (Tk k n1 n2)) r φ n2:=λj l G f a c d ok e b=>Vl ok A0 e (.inr (.inr (Tn.beg a c))) b
def kw(W D l:Nat):Nat:=wl W 0 l*wl D 0 l
def wnA(χ:D_)(X Y:Int)(W D l:Nat):List Sht:=(List.range (kw W D l)).map λd=>OQ χ l (X/2^l-3+((d%wl W 0 l:Nat):Int)) (Y/2^l-3+((d/wl W 0 l:Nat):Int))
theorem Ux{a b c d:Nat}(e:a<c)(f:b<d):a+c*b<c*d/\(a+c*b)%c=a/\(a+c*b)/c=b:=by
 refine⟨?_,by rw[Q5,N6 e],by rw[P0 _ _ A0,M6 e,N3]⟩;have:c*(b+1)<=c*d:=M4 _ f;rw[Nat.mul_add]at this;lia
theorem wnA_mem{χ:D_}{X Y:Int}{W D l:Nat}(n:∀u v,χ u v≠0->X<=u/\u<X+W/\Y<=v/\v<Y+D){i j:Int}{x y:Nat}(o:x<2^(l+2))(p:y<2^(l+2))(z:OQ χ l i j x y≠0):OQ χ l i j∈wnA χ X Y W D l:=by
 obtain⟨g,h,k,m⟩:=n _ _ (λq=>z (by unfold OQ;rw[q];rfl));obtain⟨c,r,a⟩:=YN (T:=0) (t:=0) (W:=W) (i:=i) (X:=X) (u:=(x:Int)+2^l*i) o (C1 _) A0 A0 g h;obtain⟨d,s,b⟩:=YN (T:=0) (t:=0) (W:=D) (i:=j) (X:=Y) (u:=(y:Int)+2^l*j) p (C1 _) A0 A0 k m;obtain⟨lt,f,e⟩:=Ux r s;refine D3.mpr ⟨c+wl W 0 l*d,J6.mpr lt,?_⟩;have w:∀x:Int,x-((0:Nat):Int)=x:=λx=>Int.sub_zero x;rw[w]at a b;rw[f,e,<-a,<-b]
def wnB(χ:D_)(X Y:Int)(W D l:Nat):List Sht:=(List.range ((W+2^(l+2))*(D+2^(l+2)))).map λd=>λx y=>((χ ((x:Int)+(X-2^(l+2)+((d%(W+2^(l+2)):Nat):Int))) ((y:Int)+(Y-2^(l+2)+((d/(W+2^(l+2)):Nat):Int))):Nat):Int)
theorem wnB_mem{χ:D_}{X Y:Int}{W D l:Nat}(k:∀u v,χ u v≠0->X<=u/\u<X+W/\Y<=v/\v<Y+D){a b:Int}{x y:Nat}(r:x<2^(l+2))(s:y<2^(l+2))(z:χ ((x:Int)+a) ((y:Int)+b)≠0):(λ(x y:Nat)=>((χ ((x:Int)+a) ((y:Int)+b):Nat):Int))∈wnB χ X Y W D l:=by
 obtain⟨m,n,o,q⟩:=k _ _ z;have p:((2^(l+2):Nat):Int)=2^(l+2):=M5 2 (l+2);unfold wnB;rw[<-p];generalize 2^(l+2)=P at *
 obtain⟨e,i⟩:∃d:Nat,a=X-(P:Int)+d:=⟨(a-X+P).toNat,by lia⟩
 obtain⟨f,j⟩:∃d:Nat,b=Y-(P:Int)+d:=⟨(b-Y+P).toNat,by lia⟩
 obtain⟨lt,h,g⟩:=Ux (a:=e) (b:=f) (c:=W+P) (d:=D+P) A0 A0;refine D3.mpr ⟨e+(W+P)*f,J6.mpr lt,?_⟩;rw[h,g,<-i,<-j]
def Tl(n l e:Nat):List Nat:=if e<l then(if n/2^e%2=1 then [n%2^e]else [])else if e=l then(List.range (n/2^l)).map λm=>n%2^l+m*2^l else []
theorem Tn.mem{n l e t:Nat}(h:Tn n l e t):t∈Tl n l e:=by
 unfold Tl;rcases h with ⟨a,b,rfl⟩|⟨rfl,m,c,rfl⟩
 .rw[K2 a,K2 b];exact D4.mpr Z
 .rw[X9 (O9 _),K2 rfl];exact D3.mpr ⟨m,J6.mpr c,Z⟩
def tl(e l:Nat):Nat:=if e<l then(if e<15 then 1 else 0)else if e=l then 18500/2^l else 0
theorem Tl_len{n:Nat}(h:n<=18500)(l e:Nat):(Tl n l e).length<=tl e l:=by
 unfold Tl tl;split
 .split
  .rename_i z;rw[K2]
   .exact C1 _
   .refine V9 λq=>?_;have:n<2^e:=F5 (F7 h A3) (N7 A3 q);rw[M6 this]at z;cases z
  .exact L5 _
 .split
  .rw[B8,L7];exact Nat.div_le_div_right h
  .exact C1 _
def cn(q W D e l:Nat):Nat:=if e=l/\l<4 then q*((W+2^(l+2))*(D+2^(l+2)))else((if e=0 then 24 else 0)+2*tl e l)*kw W D l
def np(q W D:Nat):Nat:=s47 λe=>((List.range 47).map λl=>1+cn q W D e l).sum
def Wp(r:AD)(φ:D_)(X Y:Nat->Int)(q W D k n1 n2 l e:Nat):List Sht:=if e=l/\l<4 then(List.range q).flatMap λt=>wnB (sFN r t φ) (X t) (Y t) W D l else((if e=0 then List.range k else [])++(Tl n1 l e++Tl n2 l e)).flatMap λt=>wnA (sFN r t φ) (X t) (Y t) W D l
theorem Wp_len{k n1 n2:Nat}(c:k<=24)(a:n1<=18500)(b:n2<=18500)(r:AD)(φ:D_)(X Y:Nat->Int)(q W D l e:Nat):(Wp r φ X Y q W D k n1 n2 l e).length<=cn q W D e l:=by
 unfold Wp cn;split
 .have:=Sj (λt=>wnB (sFN r t φ) (X t) (Y t) W D l) ((W+2^(l+2))*(D+2^(l+2))) (List.range q) λt _=>by unfold wnB;rw[B8,L7];exact C1 _
  rw[L7]at this;exact this
 .have:=Sj (λt=>wnA (sFN r t φ) (X t) (Y t) W D l) (kw W D l) ((if e=0 then List.range k else [])++(Tl n1 l e++Tl n2 l e)) λt _=>by unfold wnA;rw[B8,L7];exact C1 _
  refine D0 this (U3 _ ?_);rw[C5,C5];have d:=Tl_len a l e;have f:=Tl_len b l e;have g:(if e=0 then List.range k else []).length<=if e=0 then 24 else 0:=by
   split
   .rw[L7];exact c
   .exact C1 _
  lia
theorem kp_fin{r:AD}{φ:D_}{X Y:Nat->Int}{q W D k n1 n2 T:Nat}(E:k<=24)(C:n1<=18500)(m:n2<=18500)(K:k<=T)(H:n1<=T)(I:n2<=T)(w:∀t,t<T->∀u v,sFN r t φ u v≠0->X t<=u/\u<X t+W/\Y t<=v/\v<Y t+D)(L:q<=T)(p:∀t,t<T->∃t',t'<q/\∃a b:Int,∀u v,sFN r t φ u v=sFN r t' φ (u+a) (v+b)):Ng (Kp r φ (Tk k n1 n2)) (np q W D):=by
 refine⟨⟨_,C1 _,λe=>⟨(List.range 47).flatMap λl=>(l,λ_ _=>0)::(Wp r φ X Y q W D k n1 n2 l e).map fun ψ=>(l,ψ),Ua _ _ _ λl _=>?_,λl ψ h=>?_⟩⟩,λ{l e G ψ} h q=>⟨h.1,?_⟩⟩
 .rw[F2,B8];have:=Wp_len E C m r φ X Y q W D l e;lia
 .obtain⟨n,h⟩:=h;have g:∀f,f∈Wp r φ X Y q W D k n1 n2 l e->(l,f)∈(List.range 47).flatMap λl=>(l,λ_ _=>0)::(Wp r φ X Y q W D k n1 n2 l e).map fun ψ=>(l,ψ):=fun f h=>T9.mpr ⟨l,J6.mpr n,C8 _ (D3.mpr ⟨f,h,Z⟩)⟩;by_cases z:∀x y,x<2^(l+2)->y<2^(l+2)->ψ x y=0
  .exact⟨λ_ _=>0,T9.mpr ⟨l,J6.mpr n,C9⟩,z⟩
  .rcases h with h|⟨t,i,j,o,h⟩
   .exact absurd h z
   .obtain⟨x,z⟩:=Classical.not_forall.mp z;obtain⟨y,z⟩:=Classical.not_forall.mp z;obtain⟨c,z⟩:=Classical.not_imp.mp z;obtain⟨d,z⟩:=Classical.not_imp.mp z;rw[h x y c d]at z;have A:t<T:=by
     rcases o with h|h|h
     .have:=h.2;lia
     .have:=h.lt;lia
     .have:=h.lt;lia
    by_cases B:e=l/\l<4
    .obtain⟨t',F,a,b,s⟩:=p t A;refine⟨λx y=>((sFN r t' φ ((x:Int)+(2^l*i+a)) ((y:Int)+(2^l*j+b)):Nat):Int),g _ ?_,λx y c d=>?_⟩
     .unfold Wp;rw[K2 B];refine T9.mpr ⟨t',J6.mpr F,wnB_mem (w t' A0) c d λq=>z ?_⟩;unfold OQ;rw[s,Z5,Z5,q];rfl
     .rw[h x y c d];unfold OQ;rw[s,Z5,Z5]
    .refine⟨OQ (sFN r t φ) l i j,g _ ?_,h⟩;unfold Wp;rw[X9 B];refine T9.mpr ⟨t,?_,wnA_mem (w t A) c d z⟩;rcases o with ⟨rfl,h⟩|h|h
     .rw[K2 rfl];exact F4.mpr (.inl (J6.mpr h))
     .exact F4.mpr (.inr (F4.mpr (.inl h.mem)))
     .exact F4.mpr (.inr (F4.mpr (.inr h.mem)))
 .rcases h.2 with m|⟨t,i,j,o,m⟩
  .exact .inl λx y c d=>(q x y c d).symm.trans (m x y c d)
  .exact .inr ⟨t,i,j,o,λx y c d=>(q x y c d).symm.trans (m x y c d)⟩
theorem np_g:np 24 6 3<=223000:=by decide +kernel
theorem np_d:np 6 16 13<=223000:=by decide +kernel
theorem YS{ψ:D_}{ps:List (Int×Int)}(j:∀u v,ψ u v≠0->(u,v)∈ps){d f:Int}(g:ψ d f≠0):∃B,CI (λu v=>ψ u v≠0) B:=by
 let c:=ps.filter λp=>decide (ψ p.1 p.2≠0);have mem:∀u v,ψ u v≠0->(u,v)∈c:=λu v h=>T3.mpr ⟨j u v h,K0 h⟩;refine⟨_,QB (bs:=c.map λp=>⟨p.1,p.2,1,1⟩) ?_ ?_ ?_⟩
 .intro e;have:=mem d f g;rw[R0.mp e]at this;cases this
 .intro b i;obtain⟨p,a,rfl⟩:=D3.mp i;have k:=A0d (T3.mp a).2;refine⟨λu v=>u=p.1/\v=p.2,⟨?_,⟨p.2,Z,Z⟩,⟨p.1,Z,Z⟩,⟨p.2,by dsimp only;lia,Z⟩,⟨p.1,Z,by dsimp only;lia⟩⟩,?_⟩
  .rintro u v ⟨rfl,rfl⟩;dsimp only;lia
  .rintro u v ⟨rfl,rfl⟩;exact k
 .intro u v h;refine⟨_,D3.mpr ⟨_,mem u v h,Z⟩,?_⟩;dsimp only;lia
def SF(ψ:D_):Prop:=∃ps:List (Int×Int),ps.length<=210/\∀u v,ψ u v≠0->(u,v)∈ps
theorem SF.tight{ψ:D_}(h:SF ψ):(∀u v,ψ u v=0)\/∃B,CI (λu v=>ψ u v≠0) B:=by
 obtain⟨ps,_,a⟩:=h;by_cases z:∃u v,ψ u v≠0
 .obtain⟨u,v,z⟩:=z;exact .inr (YS a z)
 .exact .inl λu v=>K4 λq=>z ⟨u,v,q⟩
theorem SQ {ψ:D_} {B:Bx} (t:CI (λu v=>ψ u v≠0) B) (z:∀u v,ψ u v=0):False:=by
 obtain⟨v,h⟩:=t.le;exact h (z _ _)
theorem sam_mv{φ ψ:D_}(d:SF φ)(a:SF ψ)(h:Fy φ ψ)(u v:Int):ψ u v=mvF (bxL ψ-bxL φ) (bxT ψ-bxT φ) φ u v:=by
 rcases d.tight with z|⟨B,tB⟩
 .have n1:=Lb z;have e:ψ u v=0:=by
   rcases a.tight with y|⟨C,tC⟩
   .exact y u v
   .have n2:=IB tC;refine absurd (λu v=>?_) (SQ (tC.mv (shX C) (shY C)));rw[<-n2.1,<-h,n1.1,z]
  rw[e];exact(z _ _).symm
 .have n1:=IB tB;rcases a.tight with y|⟨C,tC⟩
  .have n2:=Lb y;refine absurd (λu v=>?_) (SQ (tB.mv (shX B) (shY B)));rw[<-n1.1,h,n2.1,y]
  .have n2:=IB tC;unfold Fy at h;rw[n1.1,n2.1]at h;have e:=(tB.mv (shX B) (shY B)).one ((tC.mv (shX C) (shY C)).congr λu v=>by rw[h]);have c:B.w=C.w:=by
    have:=A0c Bx.w e;exact this
   have b:B.h=C.h:=by
    have:=A0c Bx.h e;exact this
   rw[n1.2.1,n1.2.2,n2.2.1,n2.2.2];have q:=h (u+shX C) (v+shY C);unfold mvF shX shY at *
   rw[O6,O6,<-c,<-b]at q;rw[<-q];congr 1<;>lia
theorem sam_of{φ ψ:D_}(c:SF φ){a b:Int}(h:∀u v,ψ u v=mvF a b φ u v):Fy φ ψ:=λu v=>by
 have e:ψ=mvF a b φ:=funext λu=>funext λv=>h u v;rw[e];rcases c.tight with z|⟨B,tB⟩
 .rw[(Lb z).1,(Lb (ψ:=mvF a b φ) λu v=>z _ _).1,z];exact(z _ _).symm
 .rw[(IB tB).1,(IB (tB.mv a b)).1];unfold mvF mvX shX shY;dsimp only;congr 1<;>lia
theorem Fy.symm{φ ψ:D_}(h:Fy φ ψ):Fy ψ φ:=λu v=>(h u v).symm
theorem Fy.trans{φ ψ χ:D_}(h:Fy φ ψ)(k:Fy ψ χ):Fy φ χ:=λu v=>(h u v).trans (k u v)
theorem sFN_mv{r:AD}(dx dy:Int)(φ:D_)(n:Nat):sFN r n (mvF dx dy φ)=mvF dx dy (sFN r n φ):=by
 funext x y
 unfold mvF;rw[Ry r (φ:=λx y=>φ (x-dx) (y-dy)) (ψ:=φ) (X:=-dx) (Y:=-dy) n x y λu v _ _ _ _=>by rw[<-R8,<-R8],<-R8,<-R8]
section
variable{r:AD}{φ:D_}{c d:Nat}{dx dy:Int}(h:sFN r (c+d) φ=mvF dx dy (sFN r c φ))
include h
theorem per_add{t:Nat}(a:c<=t):sFN r (t+d) φ=mvF dx dy (sFN r t φ):=by
 obtain⟨s,rfl⟩:=Nat.exists_eq_add_of_le a;rw[show c+s+d=s+(c+d) by lia,IZ,h,sFN_mv,<-IZ,S7 s c]
theorem RA{t:Nat}(a:c<=t):∀j:Nat,sFN r (t+j*d) φ=mvF (j*dx) (j*dy) (sFN r t φ)
|0=>by
 funext u v
 unfold mvF;rw[Z8,X4];congr 1<;>simp
|j+1=>by
 rw[T5,Nat.one_mul,<-Z3,per_add h (D0 a (R3 _ _)),RA a j]
 funext u v
 unfold mvF;rw[M9,Int.add_mul,Int.add_mul];congr 1<;>lia
theorem UN(f:1<=d)(t:Nat):∃t',t'<c+d/\∃a b:Int,∀u v,sFN r t φ u v=sFN r t' φ (u+a) (v+b):=by
 by_cases z:t<c+d
 .exact⟨t,z,0,0,λu v=>by rw[O2,O2]⟩
 .have e:t=c+(t-c)%d+(t-c)/d*d:=by
   have:=Nat.mod_add_div (t-c) d;rw[O8]at this;lia
  refine⟨c+(t-c)%d,by have:=F6 (t-c) f;lia,-(((t-c)/d:Nat)*dx),-(((t-c)/d:Nat)*dy),λu v=>?_⟩
  conv=>lhs;rw[e,RA h (R3 _ _)]
  unfold mvF;rw[R8,R8]
end
def InX(ψ:D_)(X Y:Int)(W D:Nat):Prop:=∀u v,ψ u v≠0->X<=u/\u<X+W/\Y<=v/\v<Y+D
theorem InX.ps{ψ:D_}{X Y:Int}{W D:Nat}(h:InX ψ X Y W D):∃ps:List (Int×Int),ps.length<=W*D/\∀u v,ψ u v≠0->(u,v)∈ps:=by
 refine⟨(List.range (W*D)).map λd=>(X+(d%W:Nat),Y+(d/W:Nat)),by rw[B8,L7];exact C1 _,λu v z=>?_⟩;obtain⟨g,i,j,k⟩:=h u v z;obtain⟨lt,f,e⟩:=Ux (a:=(u-X).toNat) (b:=(v-Y).toNat) (c:=W) (d:=D) A0 A0;refine D3.mpr ⟨_,J6.mpr lt,?_⟩;rw[f,e];refine Prod.ext ?_ ?_<;>dsimp only<;>lia
theorem InX.fini{ψ:D_}{X Y:Int}{W D:Nat}(h:InX ψ X Y W D)(c:W*D<=210):SF ψ:=by
 obtain⟨ps,a,b⟩:=h.ps;exact⟨ps,D0 a c,b⟩
theorem InX.mv{ψ χ:D_}{X Y a b:Int}{W D:Nat}(h:InX ψ X Y W D)(e:∀u v,χ u v=ψ (u+a) (v+b)):InX χ (X-a) (Y-b) W D:=λu v z=>by
 rw[e]at z;have:=h _ _ z;lia
structure Bx7(r:AD)(φ:D_)(B W D q:Nat):Prop where
ro:GF r
re:CH r 0 BV=0
box:∀t,t<=B->∃X Y:Int,(-100<=X/\X<=100/\-100<=Y/\Y<=100)/\InX (sFN r t φ) X Y W D
wd:W*D<=210
gk:(12800+196*(W*D))*(B+1)<=450000
w:W<=20/\D<=20
np:np q W D<=223000
qB:q<=B+1
bq:B<=q
q24:q<=24/\B<=24
section
variable{r:AD}{φ:D_}{B W D q k c d:Nat}{dx dy:Int}
theorem Bx7.fini(h:Bx7 r φ B W D q){t:Nat}(b:t<=B):SF (sFN r t φ):=by
 obtain⟨X,Y,_,a⟩:=h.box t b;exact a.fini h.wd
theorem nr7{X x:Int}{W n:Nat}(e:-100<=X)(f:X<=100)(w:W<=20)(n1:n<=20000)(a:X<=x)(b:x<X+W):-(2^40)+(n:Int)<=x/\x+n<2^40:=by lia
theorem Bx7.near(h:Bx7 r φ B W D q){t n:Nat}(p:t<=B)(a:n<=20000):Uv (sFN r t φ) n:=λx y z=>by
 obtain⟨X,Y,⟨j,b2,l,m⟩,o⟩:=h.box t p;obtain⟨b,f,g,i⟩:=o x y z;have e:=nr7 j b2 h.w.1 a b f;exact⟨e.1,e.2,nr7 l m h.w.2 a g i⟩
theorem Bx7.none(h:Bx7 r φ B W D q)(j:k<=B):Ng (Kp r φ (Tk k 0 0)) 223000/\ClK r (Kp r φ (Tk k 0 0)):=by
 refine⟨?_,kp_cl h.ro h.re (tk_c _ _ _)⟩;have a:∀t:Nat,∃p:Int×Int,t<q->InX (sFN r t φ) p.1 p.2 W D:=λt=>by
  by_cases z:t<q
  .obtain⟨X,Y,_,e⟩:=h.box t (by have:=h.qB;lia);exact⟨(X,Y),λ_=>e⟩
  .exact⟨(0,0),λy=>absurd y z⟩
 have:=h.bq;have:=h.q24;have f:=kp_fin (r:=r) (φ:=φ) (X:=λt=>(a t).choose.1) (Y:=λt=>(a t).choose.2) (q:=q) (W:=W) (D:=D) (k:=k) (n1:=0) (n2:=0) (T:=q) A0 A3 A3 A0 (L5 _) (L5 _) (λt b=>(a t).choose_spec b) (C1 _) λt b=>⟨t,b,0,0,λu v=>by rw[O2,O2]⟩
 obtain⟨M,g,i⟩:=f.ls;exact⟨⟨M,D0 g h.np,i⟩,f.ext⟩
theorem Bx7.found(h:Bx7 r φ B W D q)(v:k<=B)(i:1<=d)(u:c+d<=k)(e:sFN r (c+d) φ=mvF dx dy (sFN r c φ)){n1 n2:Nat}(j:n1<=18500)(l:n2<=18500):Ng (Kp r φ (Tk k n1 n2)) 223000/\ClK r (Kp r φ (Tk k n1 n2)):=by
 refine⟨?_,kp_cl h.ro h.re (tk_c _ _ _)⟩;have g:∀t:Nat,∃p:Int×Int,InX (sFN r t φ) p.1 p.2 W D:=λt=>by
  obtain⟨t',lt,a,b,m⟩:=UN e i t;obtain⟨X,Y,_,n⟩:=h.box t' A0;exact⟨(X-a,Y-b),n.mv m⟩
 have:=h.bq;have:=h.q24;have f:=kp_fin (r:=r) (φ:=φ) (X:=λt=>(g t).choose.1) (Y:=λt=>(g t).choose.2) (q:=q) (W:=W) (D:=D) (k:=k) (n1:=n1) (n2:=n2) (T:=18500) A0 j l A0 j l (λt _=>(g t).choose_spec) A0 λt _=>by
  obtain⟨t',lt,x⟩:=UN e i t;exact⟨t',by lia,x⟩
 obtain⟨M,o,s⟩:=f.ls;exact⟨⟨M,D0 o h.np,s⟩,f.ext⟩
theorem Bx7.finiA(h:Bx7 r φ B W D q)(l:k<=B)(f:1<=d)(j:c+d<=k)(e:sFN r (c+d) φ=mvF dx dy (sFN r c φ))(t:Nat):SF (sFN r t φ):=by
 obtain⟨t',lt,a,b,g⟩:=UN e f t;obtain⟨X,Y,_,i⟩:=h.box t' A0;exact(i.mv g).fini h.wd
theorem Yy{F:Nat->Int->Int->Nat}{c d a d':Nat}(l:1<=d)(f:1<=d')(n:∀i j,j<i->i<c+d->¬Fy (F j) (F i))(s:Fy (F c) (F (c+d)))(h:∀i j,j<i->i<a+d'->¬Fy (F j) (F i))(b:Fy (F a) (F (a+d'))):c=a/\d=d':=by
 have e:c+d=a+d':=by
  rcases Nat.lt_trichotomy (c+d) (a+d')with z|z|z
  .exact absurd s (h _ _ A0 z)
  .exact z
  .exact absurd b (n _ _ A0 z)
 have g:c=a:=by
  rw[<-e]at b;rcases Nat.lt_trichotomy c a with z|z|z
  .exact absurd (s.trans b.symm) (n _ _ z A0)
  .exact z
  .exact absurd (b.trans s.symm) (n _ _ z A0)
 exact⟨g,by lia⟩
theorem Bx7.plan(h:Bx7 r φ B W D q)(n:k<=B){s R:Nat}(x:s<=3)(o:R<=768):∃n1 n2:Nat,(Ng (Kp r φ (Tk k n1 n2)) 223000/\ClK r (Kp r φ (Tk k n1 n2)))/\(n1<=18500/\n2<=18500)/\∀c d,1<=d->c+d<=k->(∀i j,j<i->i<c+d->¬Fy (sFN r j φ) (sFN r i φ))->Fy (sFN r c φ) (sFN r (c+d) φ)->n2=c+s/\n1=c+s+R*d/\sFN r (c+d) φ=mvF (bxL (sFN r (c+d) φ)-bxL (sFN r c φ)) (bxT (sFN r (c+d) φ)-bxT (sFN r c φ)) (sFN r c φ):=by
 have l:=h.q24;have mv:∀c d,c+d<=k->Fy (sFN r c φ) (sFN r (c+d) φ)->sFN r (c+d) φ=mvF (bxL (sFN r (c+d) φ)-bxL (sFN r c φ)) (bxT (sFN r (c+d) φ)-bxT (sFN r c φ)) (sFN r c φ):=λc d b a=>funext λu=>funext λv=>sam_mv (h.fini A0) (h.fini A0) a u v;by_cases z:∃c d,1<=d/\c+d<=k/\(∀i j,j<i->i<c+d->¬Fy (sFN r j φ) (sFN r i φ))/\Fy (sFN r c φ) (sFN r (c+d) φ)
 .obtain⟨c,d,e,b,no,a⟩:=z;have t:R*d<=768*24:=Nat.mul_le_mul o A0;refine⟨c+s+R*d,c+s,h.found n e b (mv c d b a) A0 A0,⟨by lia,by lia⟩,λw d' f p g m=>?_⟩;obtain⟨rfl,rfl⟩:=Yy e f no a g m;exact⟨Z,Z,mv c d b a⟩
 .exact⟨0,0,h.none n,⟨by decide,by decide⟩,λc d e b no a=>absurd ⟨c,d,e,b,no,a⟩ z⟩
theorem Bx7.far(h:Bx7 r φ B W D q){n:Nat}(A:n<=18500){u v:Int}(z:sFN r n φ u v≠0):(-20000<=u/\u<=20000)/\-20000<=v/\v<=20000:=by
 obtain⟨x,y,o,p,s,t,a⟩:=MG h.re z;obtain⟨X,Y,⟨j,b2,l,m⟩,b⟩:=h.box 0 (L5 _);obtain⟨e,f,g,i⟩:=b x y a;have w:=h.w;exact⟨⟨by lia,by lia⟩,by lia,by lia⟩
end
theorem bx_gen{r:AD}{φ:D_}{x y:Int}(f:GF r)(c:CH r 0 BV=0)(p:-20<=x/\x<=20)(q:-20<=y/\y<=20)(e:InX φ x y 6 3):Bx7 r φ 5 16 13 6:=by
 refine⟨f,c,λt o=>⟨x-5,y-5,by lia,λu v z=>?_⟩,by decide,by decide,⟨by decide,by decide⟩,np_d,by decide,by decide,by decide,by decide⟩;obtain⟨a,b,k,l,m,n,d⟩:=MG c z;obtain⟨g,h,i,j⟩:=e a b d;exact⟨by lia,by lia,by lia,by lia⟩
theorem bx_gl{M:L_}{w:Nat}{φ:D_}{x y:Int}(b:M 0=0)(d:∀s,M s<=7)(c:w<=8)(j:∀u v,φ u v<=7)(g:(-1<=ofX w/\ofX w<=1)/\-1<=ofY w/\ofY w<=1)(n:-20<=x/\x<=20)(p:-20<=y/\y<=20)(k:InX φ x y 6 3):Bx7 (glR M w) φ 24 6 3 24:=by
 have f:Mp M:=⟨b,λs _=>d s⟩
 have i:∀{o:Int}{t:Nat},(-1<=o/\o<=1)->t<=24->-24<=t*o/\t*o<=24:=λ{o t} h a=>by
  rcases(show o=-1\/o=0\/o=1 by lia)with rfl|rfl|rfl<;>lia
 refine⟨glR_ok d c,gl_rest b c,λt a=>⟨x-t*ofX w,y-t*ofY w,?_,λu v z=>?_⟩,by decide,by decide,⟨by decide,by decide⟩,np_g,by decide,by decide,by decide,by decide⟩
 .have l:=i g.1 a;have m:=i g.2 a;lia
 .rw[Ws f (gl_gl b c) j]at z;have:=k _ _ λe=>z (by rw[e,f.it0]);lia
theorem gl_again{M:L_}{w:Nat}{φ:D_}(d:M 0=0)(j:∀s,M s<=7)(f:w<=8)(c:∀u v,φ u v<=7)(g:SF (sFN (glR M w) 7 φ)):∃i,7<i/\i<=24/\Fy (sFN (glR M w) 7 φ) (sFN (glR M w) i φ):=by
 have e:Mp M:=⟨d,λs _=>j s⟩
 obtain⟨p,l,k,h⟩:=e.period;refine⟨p+7,by lia,by lia,sam_of g (a:=-(p*ofX w)) (b:=-(p*ofY w)) λu v=>?_⟩;unfold mvF;rw[Ws e (gl_gl d f) c,Ws e (gl_gl d f) c,EB,h _ (c _ _)];congr 2<;>lia
seal L2.PA L2.PE L2.PS L2.PSs L2.PT L2.PW
theorem of_b:∀w:Nat,(-1<=ofX w/\ofX w<=1)/\-1<=ofY w/\ofY w<=1
|0|1|2|3|4|5|6|7=>by decide
|_+8=>by
 show(-1<=(0:Int)/\(0:Int)<=1)/\-1<=(0:Int)/\(0:Int)<=1;decide
theorem stC_in{ds:List Cl}{n:Nat}{x y:Int}(h:Dd ds n x y){u v:Int}(z:stC ds u v≠0):x<=u/\u<x+6/\y<=v/\v<y+3:=by
 rcases Mu ds u v with ⟨c,d,a,b,_⟩|⟨_,e⟩
 .subst a;subst b;exact(h.ok c d).2
 .exact absurd e z
theorem stC_7{ds:List Cl}{n:Nat}{x y:Int}(h:Dd ds n x y)(u v:Int):stC ds u v<=7:=by
 rcases Mu ds u v with ⟨c,a,_,_,e⟩|⟨_,e⟩
 .have:=(h.ok c a).1.1.s;lia
 .lia
theorem kit_tt(K:O_):kitOne K (.type "tuple") (.type "tuple")=some true:=by kernel_rfl
theorem ZS.tup{a:Ad}{H c:Hp}{g:GA}{G:Gv}{Κ:KTy}{N b:Nat}{p dx mem d:R_}{r:AD}{m:MA}{t:R_}{xs:List V}(e:ZS a H g G Κ N b p dx mem d r m)(f:FrZ g m H c)(h:H t=some (.tup xs)):c t=some (.tup xs):=e.keep f h (by intro xs z;cases z) (by intro xs z;cases z) (by intro xs z;cases z)
theorem many_ok(x q:Int):∃a:Nat,(1:Int)+x%3+(if(if q-15<9 then q-15 else 9) > 0 then(if q-15<9 then q-15 else 9)else 0)=(a:Int)/\a<=12:=by
 by_cases z:q-15<9
 .rw[K2 z];by_cases y:q-15 > 0
  .rw[K2 y];exact⟨(1+x%3+(q-15)).toNat,by lia,by lia⟩
  .rw[X9 y];exact⟨(1+x%3).toNat,by lia,by lia⟩
 .rw[X9 z,K2 A3];exact⟨(1+x%3+9).toNat,by lia,by lia⟩
theorem nn_of{H:Hp}{g:GA}{m:MA}(a:∀y∈DF g,H y=none)(fr:∀y∈m.l::m.kc::m.ds,H y=none):∀y∈[g.br,m.l]++zL g m,H y=none:=λy b=>by
 simp only[zL,List.cons_append,List.nil_append,C3]at b;rcases b with rfl|rfl|rfl|rfl|rfl|rfl|rfl|rfl|b
 .exact a _ (by simp[DF])
 .exact fr _ A6
 .exact a _ (by simp[DF])
 .exact a _ (by simp[DF])
 .exact a _ (by simp[DF])
 .exact a _ (by simp[DF])
 .exact a _ (by simp[DF])
 .exact fr _ A6
 .exact fr _ (by simp[b])
section
variable{a:Ad}{Hd H H':Hp}{g:GA}{G G':Gv}{Κ:KTy}{N b i:Nat}{p dx mem pr:R_}{r:AD}{m:MA}
structure Y8(a:Ad)(Hd H:Hp)(g:GA)(G:Gv)(Κ:KTy)(N b:Nat)(p dx mem pr:R_)(r:AD)(m:MA):Prop where
zs:ZS a H g G Κ N b p dx mem pr r m
sm:AA Hd H
ng:∀y∈DF g,Hd y=none
nn:∀y∈zL g m,Hd y=none
theorem Y8.fr(h:Y8 a Hd H g G Κ N b p dx mem pr r m)(f:Fr g H H')(c:AX a H' g G')(go:AI G G' i):Y8 a Hd H' g G' Κ N (b+i) p dx mem pr r m:=⟨h.zs.fr f c go,AA.fxn h.sm ((Fr.z f).fx h.zs) h.nn,h.ng,h.nn⟩
theorem Y8.frz(h:Y8 a Hd H g G Κ N b p dx mem pr r m)(f:FrZ g m H H'){G':Gv}{b':Nat}(z:ZS a H' g G' Κ N b' p dx mem pr r m):Y8 a Hd H' g G' Κ N b' p dx mem pr r m:=⟨z,AA.fxn h.sm (f.fx h.zs) h.nn,h.ng,h.nn⟩
theorem Y8.mono{b':Nat}(h:Y8 a Hd H g G Κ N b p dx mem pr r m)(e:b<=b'):Y8 a Hd H g G Κ N b' p dx mem pr r m:=⟨h.zs.mono e,h.sm,h.ng,h.nn⟩
end
section
variable{P:N_}{w:Q_}{K:O_}{mg:C_}{base:T_}{a:Ad}
theorem ok_law(F:Fun K "law" "law" Zp f fd)(T:Top K mg a)(dD:SH P w K mg base CX0 2 "Grove" a.c_Grove Jo (Rt a))(aB:Cal P w K mg base CX0 1 "_law_at" Ym (WU K))(bC:Cal P w K mg base CX0 4 "_law_clauses_by" Ez (spCs K))(cM:Cal P w K mg base CX0 2 "_law_text" JU spTx)(bY:Cal P w K mg base CX0 2 "_law_map_by" LT (UC K))(bB:Cal P w K mg base CX0 1 "_law_glide_text" Ey Zj)(cH:Cal P w K mg base CX0 8 "read_rule" Ie (spRR a))(cN:Cal P w K mg base CX0 2 "_law_heap" JV (UE K))(bZ:Cal P w K mg base CX0 5 "_law_listed" Ii Zi)(cR:Cal P w K mg base CX0 56 "field_of" Mm (Zk a))(cY:SH P w K mg base CX0 3 "Jumps" a.c_Jumps RQ (Rq a))(cQ:Cal P w K mg base CX0 151 "jump" RE (VT a))(bX:Cal P w K mg base CX0 152 "comes_again" Ig (spCA a))(bF:Cal P w K mg base CX0 103 "moved_by" Jg (WT a))(aX:Cal P w K mg base CX0 1 "_law_whole" RO spWh):AL P w K mg base CX0 153 f fd p_law (VS K):=by
 refine F.ok CO (λvs H Q E h=>?_) (λer A dz s H vs Q E G h=>?_)
 .apply AR;intro G_ n;obtain⟨l,ns,rfl,_⟩:=h;apply n;clear n G_;rfl
 .apply AR;intro G_ n;obtain⟨l,ns,rfl,hS,ea,kq⟩:=h;apply n;clear n G_;refine⟨_,(Ac (Ao (i:=1) CO.nd Z O_9 (Et CK (AB Bc (As aB (rm G) Z Aq (Aa (pv 0) (AN Ae))) Ab) Ab (AF _))) (Ac (Ao (i:=2) CO.nd Z O_9 (As bB (rm G) Z Aq (Aa (As bY (rm G) Z Aq (Aa (pv 0) (AN Ae))) (AV Bc (As aB (rm G) Z Aq (Aa (pv 0) (AN Ae))) Ab Ae)))) (Ac (Ao (i:=3) CO.nd Z O_9 Ab) (Ac (AQ (Cu (pv 1)) (Ac (Ao (i:=2) CO.nd Z O_9 (As cM (rm G) Z Aq (Aa (As bC (rm G) Z Aq (Aa (pv 0) (AN (AV Bc (As aB (rm G) Z Aq (Aa (pv 0) (AN Ae))) Ab Ae)))) Ae))) (Ai (Ao (i:=3) CO.nd Z O_9 (AB Bc (As aB (rm G) Z Aq (Aa (pv 0) (AN Ae))) Ab)))) AC) (Ac (Ao (i:=4) CO.nd Z O_9 (AB BI (AB Bc (As aB (rm G) Z Aq (Aa (pv 0) (AN Ae))) Ab) Ab)) (Ac (Ao (i:=5) CO.nd Z O_9 (AB AO (AB AO Ab (AB Bc (As aB (rm G) Z Aq (Aa (pv 0) (AN Ae))) Ab)) (AU (YF Z) Z T.b_max A5h (AN (Aa (AU (QX Z) Z T.b_min A4h (AN (AV BI (AU Ca Z T.b_len A1e (Aa (pv 0) Ae)) Ab Ae))) Ae))))) (Ac (Ao (i:=6) CO.nd Z O_9 (As cN (rm G) Z Aq (Aa (pv 0) (AN (Aa (pv 5) (Aa (pv 4) (AV BI (AB Bc (AB Do (As aB (rm G) Z Aq (Aa (pv 0) (AN Ae))) Ab) Ab) Ab Ae))))))) (Ac (Ao (i:=7) CO.nd Z O_9 (ZC dD (rm G) Z Aq)) (Ac (Ao (i:=8) CO.nd Z O_9 (As cH (rm G) Z Aq (Aa (pv 2) Ae))) (Ac (Ao (i:=9) CO.nd Z O_9 (Lr cY (rm G) Z Aq (Aa (pv 7) (Aa (pv 8) Ae)))) (Ac (Ao (i:=10) CO.nd Z O_9 (As cR (rm G) Z Aq (Aa (pv 7) (Aa (As bZ (rm G) Z Aq (Aa (pv 6) Ae)) Ae)))) (Ac (Ao (i:=11) CO.nd Z O_9 (As bX (rm G) Z Aq (Aa (pv 9) (Aa (pv 10) (Aa (pv 3) Ae))))) (Ac (AQ (Az FE (pv 11) Cw (AF _)) (Ai (Av (pv 1))) AC) (Ac (AQ (PW.pt (Jz (CS (Cu (AU GC Z T.b_isinstance A1a (Aa (pv 11) (Aa (Jc (v:=.ty "tuple") Z T.b_tuple A0h Z) Ae))))) (Jz (Az JY (AU Ca Z T.b_len A1e (Aa (pv 11) Ae)) Ab (AF _)) (Jz (CS (Cu (As aX (rm G) Z Aq (Aa (Aj Ak (pv 11) Ab R_9) Ae)))) (JK (CS (Cu (As aX (rm G) Z Aq (Aa (Aj Ak (pv 11) Ab R_9) Ae))))))))) (Ai (Av Po)) AC) (Ac (AQ (PW.pt (Jz (CS (Cu (As aX (rm G) Z Aq (Aa (Aj Ak (pv 11) Ab R_9) Ae)))) (Jz (CS (Cu (As aX (rm G) Z Aq (Aa (Aj Ak (pv 11) Ab R_9) Ae)))) (Jz (Az FH (Aj Ak (pv 11) Ab R_9) Ab (AF _)) (JK (Az FH (Aj Ak (pv 11) Ab R_9) Ab (AF _))))))) (Ai (Av Po)) AC) (Ac (AQ (Az Oc (AB AO (Aj Ak (pv 11) Ab R_9) (Aj Ak (pv 11) Ab R_9)) (pv 3) (AF _)) (Ai (Av Po)) AC) (Ac (AQ (Az CK (AB Bc (AB Do (As aB (rm G) Z Aq (Aa (pv 0) (AN Ae))) Ab) Ab) Ab (AF _)) (Ai (Ao (i:=9) CO.nd Z O_9 (Lr cY (rm G) Z Aq (Aa (pv 7) (Aa (pv 8) Ae))))) AC) (Ac (Ao (i:=12) CO.nd Z O_9 (AB Mq (AB Bc (As aB (rm G) Z Aq (Aa (pv 0) (AN Ae))) Ab) (AB Bc (As aB (rm G) Z Aq (Aa (pv 0) (AN Ae))) Ab))) (Ac (Ao (i:=13) CO.nd Z O_9 (AB AO (Aj Ak (pv 11) Ab R_9) (AB Bc (AB Do (As aB (rm G) Z Aq (Aa (pv 0) (AN Ae))) Ab) Ab))) (Ac (Ao (i:=14) CO.nd Z O_9 (As cQ (rm G) Z Aq (Aa (pv 9) (Aa (pv 10) (AV AO (pv 13) (AB DE (pv 12) (Aj Ak (pv 11) Ab R_9)) Ae))))) (Ac (Ao (i:=15) CO.nd Z O_9 (As cQ (rm G) Z Aq (Aa (pv 9) (Aa (pv 10) (Aa (pv 13) Ae))))) (Ai (Av (Jd (As aX (rm G) Z Aq (Aa (pv 14) Ae)) (JM (Et CK (pv 14) (As bF (rm G) Z Aq (Aa (pv 7) (Aa (pv 15) (AV DE (pv 12) (Aj Ak (pv 11) Ab R_9) (AV DE (pv 12) (Aj Ak (pv 11) Ab R_9) Ae))))) (AF _))))))))))))))))))))))))))),?_⟩
  try dsimp only[cxK]
  refine Bm ?_;intro r1 s1 k1 df E1;refine xq1 Z ⟨l,ns,8,Z,hS,by decide,(xq2 Z Z ⟨B1,Z,?_⟩)⟩;generalize decide (V.int (atN ns 8%3)=V.int 1)=dr;refine df ?_;refine Bm ?_;intro r2 s2 k2 dg E2;obtain⟨w,hw⟩:=F8 (S0 (atN ns 9) (by decide:(9:Int)≠0));have w8:w<=8:=by have:=O5 (atN ns 9) (by decide:(0:Int)<9);lia
  refine xq1 Z ⟨l,ns,0,Z,hS,by decide,λL M H1 bu m0 m7 hL=>?_⟩;refine xq1 Z ⟨l,ns,9,Z,bu.seq hS,by decide,(xq2 Z Z ⟨B4,L,M,w,by rw[<-hw];rfl,w8,m7,hL,λH2 cx=>?_⟩)⟩;have au:=bu.trans cx;have bm:=au.seq hS;clear hL hw bu cx;refine dg ?_;refine Bm ?_;intro r3 s3 k3 dh E3;refine dh ?_;refine Bm ?_;intro r4 s4 k4 di E4;apply PL (T:=k4) (fun σ' H5=>∃(C:AD)(k:Nat),σ'=[some (.ref l),some (.bl dr),some (.str (Dm C)),some (.int (k:Int)),none,none,none,none,none,none,none,none,none,none,none,none]/\AA H H5/\((dr=true/\GF C/\CH C 0 BV=0/\k<=5)\/(C=glR M w/\k=24)))
  .intro U;refine xw2 Z Z (Ip (λhd=>?_) (λ_=>U _ _ ⟨glR M w,24,Z,au,.inr ⟨Z,Z⟩⟩));refine Bm ?_;intro r6 s6 k6 bn E6;refine xw2 Z Z ⟨l,ns,9,Z,bm,by decide,(xq2 Z Z ⟨(by show(0:Int)<7;decide),l,ns,0,atN ns 9%7,Z,bm,by decide,by lia,by lia,λqc r H3 d5 dp rok bz _ _=>?_⟩)⟩;refine⟨qc,r,Z,dp,rok,λH4 d6=>?_⟩;refine bn ?_;have cz:=(au.trans d5).trans d6;obtain⟨k',de⟩:=F8 (S0 (atN ns 10) (by decide:(6:Int)≠0));have dv:k'<=5:=by have:=O5 (atN ns 10) (by decide:(0:Int)<6);lia
   refine xq1 Z ⟨l,ns,10,Z,cz.seq hS,by decide,(xq2 Z Z ⟨(by show(0:Int)<6;decide),?_⟩)⟩;rw[show(λi j:Int=>V.int (i%j)) (atN ns 10) 6=V.int (k':Int)from A0c V.int de];exact U _ _ ⟨r,k',Z,cz,.inl ⟨hd,rok,bz,dv⟩⟩
  .rintro σ' H5 b5;apply AR;intro G_ n;obtain⟨C,k,rfl,d7,bd⟩:=b5;apply n;clear n G_;refine di ?_;have aa:=d7.seq hS;clear bm au hS;refine Bm ?_;intro r5 s5 k5 dj E5;obtain⟨x,hx⟩:∃x,atN ns 11%9-6=x:=⟨_,Z⟩
   have x1:-6<=x/\x<=2:=by lia
   refine xq1 Z ⟨l,ns,11,Z,aa,by decide,(xq2 Z Z ⟨B4,(xq2 Z Z ?_)⟩)⟩;rw[show(λi j:Int=>V.int (i-j)) _ _=V.int x from A0c V.int hx];clear hx;refine dj ?_;refine Bm ?_;intro r6 s6 k6 bn E6;obtain⟨my,cq,eb⟩:=many_ok (atN ns 12) ((ns.map V.int).length:Int);refine xq1 Z ⟨l,ns,12,Z,aa,by decide,(xq2 Z Z ⟨B1,(xq2 Z Z (xq1 Z ⟨l,(xq1 Z ⟨.inl aa,(xq2 Z Z ⟨_,_,Z,_,_,Z,(xq2 Z Z ?_)⟩)⟩)⟩))⟩)⟩;rw[show(λi j:Int=>V.int (i+j)) (1+atN ns 12%3) (if(if((ns.map V.int).length:Int)-15<9 then((ns.map V.int).length:Int)-15 else 9) > 0 then(if((ns.map V.int).length:Int)-15<9 then((ns.map V.int).length:Int)-15 else 9)else 0)=V.int (my:Int)from A0c V.int cq];clear cq;refine bn ?_;refine Bm ?_;intro r7 s7 k7 dl E7;obtain⟨y,hy⟩:∃y,atN ns 11/9%9-5=y:=⟨_,Z⟩
   have y1:-5<=y/\y<=3:=by lia
   refine xw3 Z Z Z (xq1 Z ⟨l,ns,11,Z,aa,by decide,(xq2 Z Z ⟨⟨by decide,by decide⟩,(xq2 Z Z ⟨B4,(xq2 Z Z ?_)⟩)⟩)⟩);refine⟨l,ns,15,x,y,my,A0c (λz=>[V.ref l,V.int 15,V.int (my:Int),V.int x,V.int z]) hy,aa,by decide,by lia,by lia,by lia,by lia,by lia,λD ds Hd sd nD hD dd=>?_⟩;clear hy;refine dl ?_;refine Bm ?_;intro r8 s8 k8 dm E8;refine λx' db nx dw e9=>⟨x',db,Z,Af,λg H6 cb N=>⟨Z,?_⟩⟩
   have cy:AA Hd H6:=λb o e=>N.kp b o (by rw[Aw (Ay e nx),Aw (Ay e dw)];exact e) (cb▸Ay e nx);subst cb;have b9:=AX.new N;have ng:=N.none;clear N;refine dm ?_;refine Bm ?_;intro r9 s9 k9 dn E9;have dk:=dd.dk;generalize bp:stC ds=φ at dk;have bq:InX φ x y 6 3:=λu v z=>stC_in dd (by rw[bp];exact z);have h7:∀u v,φ u v<=7:=λu v=>by rw[<-bp];exact stC_7 dd u v
   clear bp;have d9:∃B W D' q,Bx7 C φ B W D' q/\k<=B/\(dr=true\/∃i j,j<i/\i<=k/\Fy (sFN C j φ) (sFN C i φ)):=by
    rcases bd with ⟨b1,b2,b3,b4⟩|⟨rfl,rfl⟩
    .exact⟨5,16,13,6,bx_gen b2 b3 A0 A0 bq,b4,.inl b1⟩
    .have bg:=bx_gl m0 m7 w8 h7 (of_b w) A0 A0 bq;obtain⟨i,i7,dq,sa⟩:=gl_again m0 m7 w8 h7 (bg.fini (t:=7) A3);exact⟨24,6,3,24,bg,C1 _,.inr ⟨i,7,i7,dq,sa⟩⟩
   apply AR;intro G_ n;obtain⟨B,W,c8,q,S,kB,ag⟩:=d9;apply n;clear n G_;clear bd h7 m0 m7 w8 bq;refine xq1 Z ⟨C,Z,S.ro,S.re,λpr H7 bv hR=>?_⟩;refine dn ?_;refine Bm ?_;intro fa fq ev ce ec;obtain⟨st,cr⟩:=F8 (S0 (atN ns 13/4) (by decide:(4:Int)≠0));have d8:st<=3:=by have:=O5 (atN ns 13/4) (by decide:(0:Int)<4);lia
   obtain⟨u,hu⟩:=F8 (S0 (atN ns 13) (by decide:(4:Int)≠0));have u3:u<=3:=by have:=O5 (atN ns 13) (by decide:(0:Int)<4);lia
   obtain⟨v,hv⟩:=F8 (S0 (atN ns 14) (by decide:(9:Int)≠0));have v8:v<=8:=by have:=O5 (atN ns 14) (by decide:(0:Int)<9);lia
   have R7:u*2^v<=768:=Nat.mul_le_mul u3 (N7 (show 0<2 by decide) v8);apply AR;intro G_ n;obtain⟨n1,n2,⟨fin,cl⟩,⟨ao,e8⟩,plan⟩:=S.plan kB d8 R7;apply n;clear n G_;have af:∀c,c<k->SI (Kp C φ (Tk k n1 n2)) C (sFN C c φ) 1:=λc hc=>kp_one hc;have ax:SI (Kp C φ (Tk k n1 n2)) C φ n1:=kp_n1;have ay:SI (Kp C φ (Tk k n1 n2)) C φ n2:=kp_n2;generalize Kp C φ (Tk k n1 n2)=Κ at fin cl af ax ay;refine xw2 Z Z (λp an np aq ar=>jnew (Κ:=Κ) (N:=223000) (b:=1000) (b9.same bv) S.ro S.re hR np aq ar (by rw[Sg];decide) λH8 mem m bw c7 b8 _ _ _=>⟨Z,?_⟩);have as:=cy.trans bv;have bt:=nn_of ng (λy hy=>AA.noneN as (b8 y hy));have y8:Y8 a H5 H8 g G0 Κ 223000 1000 p an mem pr C m:=⟨c7,sd.trans (as.trans bw),λy hy=>AA.noneN sd (ng y hy),λy hy=>AA.noneN sd (bt y (F4.mpr (.inr hy)))⟩
   have cs:∀x∈[g.br,m.l]++zL g m,x∉[D]:=λx hx z=>by
    have:=bt x hx;rw[D4.mp z,hD]at this;cases this
   have bj:=(as.trans bw) _ _ hD;clear c7 b8 bw as cy bv hR ng b9 np aq ar bt sd hD;refine ce ?_;refine Bm ?_;intro fb ft ew cf ed;refine xw2 Z Z ⟨D,ds,Z,.inl bj,dd.nd,by have:=dd.len;lia,λo1 L1 f7 et da fo _ ct cc cv cu=>?_⟩;have fx:=fo.fx (.inl bj);have b0:Y8 a H5 da g G0 Κ 223000 1000 p an mem pr C m:=⟨y8.zs.fx fx cs,AA.fxn y8.sm fx λy hy=>by rw[D4.mp hy];exact nD,y8.ng,y8.nn⟩
   refine fld_fv b0.zs.fu cc (Ap.new y8.zs.fu.at' ct) cv cu dk (λc hc=>(dd.ok c hc).1.1) (by have:=dd.len;lia) (by rw[Sg];decide) λf1 G1 en a0 a5 a7 fv=>?_;have av:=(b0.fr a0 a5 a7).mono (b':=20000) A3;clear y8 b0 fx fo ct cc cv cu a0 a5 a7 bj cs nD;refine cf ?_;refine Bm ?_;intro fc cw ex bb ee;have es:cw=[some (.ref l),some (.bl dr),some (.str (Dm C)),some (.int (k:Int)),some (.int x),some (.int (my:Int)),some (.ref D),some (.ref g.p),some (.ref pr),some (.ref p),some (.int (f1:Int)),none,none,none,none,none]:=rfl
   clear_value cw
   subst es;refine xw3 Z Z Z ⟨p,an,mem,pr,g,G1,Κ,φ,223000,20000,C,m,f1,k,12800+196*(W*c8),Z,av.zs,fin,cl,af,fv,λc hc=>?_,by have:=S.q24;lia,D0 (M4 _ (P6 kB)) S.gk,by decide,λc hc=>S.near A0 A3,λc d d1 cd no sa t G2 b6 i2 a6 c0 a8 ht=>?_,λno G2 b6 i2 _ _ _=>?_⟩
   .obtain⟨X,Y,_,hi⟩:=S.box c A0;obtain⟨ps,lp,hp⟩:=hi.ps;exact⟨ps,Nat.add_le_add_left (M4 196 lp) _,hp⟩
   .obtain⟨e2,e1,mv⟩:=plan c d d1 cd no sa;have I:=av.frz a6 c0;have bi:=fv.app av.zs.fu.ok a8;clear av a6 c0 a8 fv plan af ag;generalize bxL (sFN C (c+d) φ)-bxL (sFN C c φ)=dx at ht mv;generalize bxT (sFN C (c+d) φ)-bxT (sFN C c φ)=dy at ht mv;refine bb ?_;refine Bm ?_;intro d0 d2 dt bc c9;refine xq1 Z ⟨Z,(xq1 Z (AY (bc ?_)))⟩;refine Bm ?_;intro fe fw ey cg ef;refine xq1 Z ⟨_,_,_,.type "tuple",true,Z,Z,.of (.tup ht),kit_tt K,true,Z,AY ?_⟩;refine xq1 Z ⟨t,(xq1 Z ⟨.inr (SqT.of ht),Z,false,A0c (λb=>V.bl (!b)) (K0 Z),AY ?_⟩)⟩;refine xwi Z Z Z (SqT.of ht) (Ah (j:=0) Z) (.inl (xq1 Z ⟨true,Z,AY ?_⟩));refine xwi Z Z Z (SqT.of ht) (Ah (j:=1) Z) (.inl (xq1 Z ⟨true,Z,AY (cg ?_)⟩));refine Bm ?_;intro ff fy ez ch eg;refine xwi Z Z Z (SqT.of ht) (Ah (j:=2) Z) (.inl (xq1 Z ⟨true,Z,AY ?_⟩));refine xwi Z Z Z (SqT.of ht) (Ah (j:=3) Z) (.inl (xq1 Z ⟨true,Z,AY ?_⟩));refine xwi Z Z Z (SqT.of ht) (Ah (j:=0) Z) (xq2 Z Z (xq1 Z ?_));rw[K1 A0];refine AY (xwi Z Z Z (SqT.of ht) (Ah (j:=1) Z) (xq2 Z Z (xq1 Z ?_)));rw[K1 A0];refine AY (ch ?_);refine Bm ?_;intro fg fz e3 ci eh;refine xwi Z Z Z (SqT.of ht) (Ah (j:=0) Z) (xwi Z Z Z (SqT.of ht) (Ah (j:=1) Z) (xq2 Z Z (xwb Z Z Z (xq1 Z ?_))));rw[K1 A0];refine AY (ci ?_);refine Bm ?_;intro fh f0 du cj ei;have sz:=I.zs.jz.sz fin;apply PL (T:=du) (fun σ' am=>∃(p2 ac O:R_)(m2:MA),σ'=[some (.ref l),some (.bl dr),some (.str (Dm C)),some (.int (k:Int)),some (.int x),some (.int (my:Int)),some (.ref D),some (.ref g.p),some (.ref pr),some (.ref p2),some (.int (f1:Int)),some (.ref t),none,none,none,none]/\Y8 a H5 am g G2 Κ 223000 2800000 p2 ac O pr C m2/\am t=some (.tup [.int (c:Int),.int (d:Int),.int dx,.int dy]))
    .intro U;refine xq1 Z ⟨l,ns,12,Z,I.sm.seq aa,by decide,(xq2 Z Z ⟨⟨by decide,by decide⟩,(xq2 Z Z ⟨B7,Z,(xq1 Z (Ip (λ_=>?_) (λ_=>U _ _ ⟨p,an,mem,m,Z,I.mono A3,ht⟩)))⟩)⟩)⟩;refine xw2 Z Z (λp2 ac np aq ar=>jnew (Κ:=Κ) (N:=223000) (b:=2800000) I.zs.fu S.ro S.re I.zs.jz.jw.ru np aq ar (D0 sz A3) λam O m2 bh c6 b7 _ _ _=>⟨Z,?_⟩);exact U _ _ ⟨p2,ac,O,m2,Z,⟨c6,I.sm.trans bh,I.ng,λy hy=>nn_of I.ng (λy hy=>AA.noneN I.sm (b7 y hy)) y (F4.mpr (.inr hy))⟩,bh _ _ ht⟩
    .rintro σ' am b5;apply AR;intro G_ n;obtain⟨p2,ac,O,m2,rfl,ae,ab⟩:=b5;apply n;clear n G_;clear I ht sz;refine cj ?_;have ak:=ae.sm.seq aa;refine Bm ?_;intro fj f2 e4 ck ej;refine xq1 Z ⟨l,ns,13,Z,ak,by decide,(xq2 Z Z ⟨B6,(xq1 Z ⟨l,ns,14,Z,ak,by decide,(xq2 Z Z ⟨B4,(u:Int),(v:Int),A0c V.int hu,A0c V.int hv,⟨by lia,by lia,by lia⟩,?_⟩)⟩)⟩)⟩;rw[show(λi j:Int=>V.int (i*2^j.toNat)) (u:Int) (v:Int)=V.int ((u*2^v:Nat):Int)from A0c V.int (by rw[J7,N9,M5];rfl)];generalize u*2^v=R at R7 e1;clear hu hv u3 v8;refine ck ?_;refine Bm ?_;intro fk f3 e5 cm ek;refine xwi Z Z Z (SqT.of ab) (Ah (j:=0) Z) (xq1 Z ⟨l,ns,13,Z,ak,by decide,(xq2 Z Z ⟨⟨by decide,by decide⟩,(xq2 Z Z ⟨B6,(xq2 Z Z ?_)⟩)⟩)⟩);rw[show(λi j:Int=>V.int (i+j)) (c:Int) (atN ns 13/4%4)=V.int ((c+st:Nat):Int)from A0c V.int (by rw[cr];rfl)];clear cr;refine cm ?_;refine Bm ?_;intro fm f5 e6 co el;have eu:d<=24:=by have:=S.q24;lia
     refine xw3 Z Z Z (xwj Z Z Z Z (SqT.of ab) (Ah (j:=1) Z) (xq2 Z Z ⟨.inl ⟨by lia,by lia⟩,(xq2 Z Z ?_)⟩));refine⟨p2,ac,O,pr,g,G2,Κ,φ,223000,_,C,m2,f1,n1,A0c (λz=>[V.ref p2,V.int (f1:Int),V.int z]) (by rw[e1,M9 (c+st) (R*d),N9 R d]),ae.zs,fin,cl,ax,bi,S.near (t:=0) (L5 _) A0,by decide,λd3 G3 eo j3 ah c4 a9 fl=>?_⟩;have al:=ae.frz ah c4;have be:=ae.zs.tup ah ab;have ca:=bi.app ae.zs.fu.ok a9;clear ae ab ah c4 a9 bi;refine co ?_;refine Bm ?_;intro fp f6 e7 cp em;refine xw3 Z Z Z ⟨p2,ac,O,pr,g,G3,Κ,φ,223000,_,C,m2,f1,n2,A0c (λz:Nat=>[V.ref p2,V.int (f1:Int),V.int (z:Int)]) e2.symm,al.zs,fin,cl,ay,ca,S.near (t:=0) (L5 _) A0,by decide,λd4 G4 ep j4 ai c5 ba fo=>?_⟩;have aw:=al.frz ai c5;have bf:=al.zs.tup ai be;have dc:=fl.app al.zs.fu.ok ba;clear al be ai c5 ba ca fl;refine cp ?_;have pm:=RA mv (R3 c st) R;rw[<-e1,<-e2]at pm;have fi:=S.finiA kB d1 cd mv n2;have sz:=F7 (aw.zs.jz.sz fin) (show 2800000+12048+12048+10*223000<6000000 by decide);refine xq1 Z (.inl (xq1 Z ⟨true,Z,BY ?_⟩));refine xw3 Z Z Z (xwj Z Z Z Z (SqT.of bf) (Ah (j:=2) Z) (xq2 Z Z ⟨.inl ⟨by lia,by lia⟩,(xwj Z Z Z Z (SqT.of bf) (Ah (j:=3) Z) (xq2 Z Z ⟨.inl ⟨by lia,by lia⟩,?_⟩))⟩));have az:∀(r1:Nat)(G':Gv)(H':Hp)(i:Nat),AX a H' g G'->AI G4 G' i->Vg G' r1 (mvF (R*dx) (R*dy) (sFN C n2 φ))->rEq (V.int (d3:Int)) (V.int (r1:Int)) H' Q:=λr1 G' H' i ad aj vr=>by
      obtain⟨r0,e0⟩:=ad.g0;have e:d3=r1:=Vg.eq e0 ad.ok (dc.app aw.zs.fu.ok aj).vf vr λu v=>by rw[pm]
      subst e;refine⟨Z,?_⟩;rw[K0 rfl];exact kq H'
     rcases fi.tight with z|⟨Bq,tB⟩
     .exact mv_none (E:=E0) aw.zs.fu fo.vf z sz λr1 G' H' _ ad aj vr=>az r1 G' H' _ ad aj (by
       have e:mvF (R*dx) (R*dy) (sFN C n2 φ)=sFN C n2 φ:=funext λu=>funext λv=>(z _ _).trans (z _ _).symm;rw[e];exact vr)
     .obtain⟨ps,lp,hp⟩:=fi;refine mv_of (E:=E0) aw.zs.fu fo.vf tB ?_ (Pb hp) A0 sz λr1 G' H' _ ad aj vr=>az r1 G' H' _ ad aj vr;have t1:=tB.mv (R*dx) (R*dy);rw[<-pm]at t1;obtain⟨w1,a1⟩:=t1.le;obtain⟨w2,a2⟩:=t1.to;obtain⟨w3,a3⟩:=t1.ri;obtain⟨w4,a4⟩:=t1.bo;have b1:=(S.far ao a1).1;have b2:=(S.far ao a2).2;have b3:=(S.far ao a3).1;have b4:=(S.far ao a4).2;unfold mvX at b1 b2 b3 b4;dsimp only at b1 b2 b3 b4;exact⟨by lia,by lia,by lia,by lia⟩
   .refine bb ?_;refine Bm ?_;intro d0 d2 dt bc c9;refine xq1 Z ⟨Z,(xq1 Z (BY (xq1 Z ?_)))⟩;rcases ag with e|⟨i,j,ij,ik,sa⟩
    .rw[e];exact kq b6
    .exact absurd sa (no i j ij ik)
end
end J
namespace J
open PySem L2
theorem ar1{α:Type}:∀us:List α,us.length=1->∃a,us=[a]
|[a],_=>⟨a,Z⟩
theorem ar2{α:Type}:∀us:List α,us.length=2->∃a b,us=[a,b]
|[a,b],_=>⟨a,b,Z⟩
theorem ar3{α:Type}:∀us:List α,us.length=3->∃a b c,us=[a,b,c]
|[a,b,c],_=>⟨a,b,c,Z⟩
theorem ar4{α:Type}:∀us:List α,us.length=4->∃a b c d,us=[a,b,c,d]
|[a,b,c,d],_=>⟨a,b,c,d,Z⟩
theorem ar5{α:Type}:∀us:List α,us.length=5->∃a b c d e,us=[a,b,c,d,e]
|[a,b,c,d,e],_=>⟨a,b,c,d,e,Z⟩
structure Fg(K:O_)(x:Str)(st:Stmt)(f:R_)(fd:E_):Prop where
at_:W.nsIn K mainGlobals x=some (some (.ref f))
fn:Fun K x x st f fd
structure Fm(K:O_)(C:R_)(m q:Str)(st:Stmt)(f:R_)(fd:E_):Prop where
me:Qw K C m f
fn:Fun K m q st f fd
structure Fi(K:O_)(C:R_)(q:Str)(st:Stmt)(f:R_)(fd:E_):Prop where
mk_:Mk K C f
fn:Fun K "__init__" q st f fd
theorem bnd{K:O_}{x q:Str}{b:Stmt}{f:R_}{i:E_}{ps:K_}(F:Fun K x q b f i)(h:∀(kV e m:S_)(k:Option Addr)(d l:S_)(us:F_),us.length=ps.length->bindArgs (W.fnOf x q (Nb b) (LD b) (Al b) .none kV e m k d l) ⟨us,[]⟩=pure (ps.zip us):=by intro _ _ _ _ _ _ us a;first|(obtain⟨c,rfl⟩:=ar1 us a;exact rfl)|(obtain⟨c,g,rfl⟩:=ar2 us a;exact rfl)|(obtain⟨c,g,j,rfl⟩:=ar3 us a;exact rfl)|(obtain⟨c,g,j,n,rfl⟩:=ar4 us a;exact rfl)|(obtain⟨c,g,j,n,o,rfl⟩:=ar5 us a;exact rfl)):CN K i ps []:=F.binds h
theorem fin{l:W.OpenLaw}{w:Q_}{K:O_}{h:T_}{mg:C_}{fa:R_}(X:K.In h)(G:h.Ns mainGlobals mg)(j1:mg "law" = some (.ref fa))
  {i:R_} {r:R_} {j:R_} {a:R_} {O:R_} {g:R_} {f0:R_} {d0:E_} {f1:R_} {d1:E_} {f2:R_} {d2:E_} {f3:R_} {d3:E_} {f4:R_} {d4:E_} {f5:R_} {d5:E_} {f6:R_} {d6:E_} {f7:R_} {d7:E_} {f8:R_} {d8:E_} {f9:R_} {d9:E_} {hn:R_} {el:E_} {ho:R_} {em:E_} {hp:R_} {en:E_} {hq:R_} {eo:E_} {hr:R_} {ep:E_} {hs:R_} {er:E_} {ht:R_} {es:E_} {hu:R_} {et:E_} {hv:R_} {eu:E_} {hw:R_} {ev:E_} {hx:R_} {ew:E_} {hy:R_} {ey:E_} {hz:R_} {ez:E_} {h0:R_} {e0:E_} {h1:R_} {e1:E_} {h2:R_} {e2:E_} {h3:R_} {e3:E_} {h4:R_} {e4:E_} {h5:R_} {e5:E_} {h6:R_} {e6:E_} {h7:R_} {e7:E_} {h8:R_} {e8:E_} {h9:R_} {e9:E_} {ia:R_} {fb:E_} {ib:R_} {fc:E_} {ic:R_} {fe:E_} {ie:R_} {ff:E_} {ig:R_} {fg:E_} {ih:R_} {fh:E_} {ii:R_} {fi:E_} {ij:R_} {fj:E_} {ik:R_} {fk:E_} {il:R_} {fl:E_} {im:R_} {fm:E_} {io:R_} {fo:E_} {ip:R_} {fp:E_} {iq:R_} {fq:E_} {ir:R_} {ft:E_} {is:R_} {fu:E_} {iu:R_} {fv:E_} {iv:R_} {fw:E_} {iw:R_} {fy:E_} {ix:R_} {fz:E_} {iy:R_} {ga:E_} {iz:R_} {gb:E_} {i0:R_} {gc:E_} {i1:R_} {ge:E_} {i2:R_} {gf:E_} {i3:R_} {gg:E_} {i4:R_} {gh:E_} {i5:R_} {gi:E_} {i6:R_} {ek:E_} {i8:R_} {gk:E_} {ja:R_} {gm:E_} {jc:R_} {gp:E_} {je:R_} {gs:E_} {jf:R_} {gt:E_} {jg:R_} {gu:E_} {jh:R_} {gv:E_} {ji:R_} {gw:E_} {jj:R_} {gx:E_} {jk:R_} {gy:E_} {jm:R_} {gz:E_} {jn:R_} {ha:E_} {jo:R_} {hb:E_} {jp:R_} {hc:E_} {jt:R_} {hf:E_} {ju:R_} {hg:E_} {jv:R_} {hh:E_} {jw:R_} {hi:E_} {jx:R_} {hj:E_} {jy:R_} {hk:E_} {jz:R_} {hl:E_} {j0:R_} {hm:E_} {i7:R_} {gj:E_} {i9:R_} {gl:E_} {jb:R_} {gn:E_} {jd:R_} {gr:E_} {jq:R_} {hd:E_} {js:R_} {he:E_} {a4:Tok} {R:Tok} {B:Tok} {D:Str} {u:Tok} {y:Str} {ak:Tok} {al:Str} {ae:Tok} {ba:Tok} {M:Tok} {L:Tok} {N:Str} {E:Tok}
  (dE:W.nsIn K mainGlobals "Amounts" = some (some (.ref i)))
  (dF:W.nsIn K mainGlobals "Places" = some (some (.ref r)))
  (dG:W.nsIn K mainGlobals "Clause" = some (some (.ref j)))
  (dM:W.nsIn K mainGlobals "Grove" = some (some (.ref a)))
  (dN:W.nsIn K mainGlobals "Rule" = some (some (.ref O)))
  (dL:W.nsIn K mainGlobals "Jumps" = some (some (.ref g)))
  (ay:Cls K i)
  (a3:Cls K r)
  (a2:Cls K j)
  (n:Cls K a)
  (bl:Cls K O)
  (t:Cls K g)
  (aa:findIn K (.ref i) "state" = some none)
  (P:findIn K (.ref i) "numbers" = some none)
  (ad:findIn K (.ref r) "wanted" = some none)
  (ao:findIn K (.ref j) "cell" = some none)
  (H:findIn K (.ref j) "conditions" = some none)
  (ah:findIn K (.ref j) "makes" = some none)
  (ai:findIn K (.ref a) "levels" = some none)
  (as:findIn K (.ref a) "parts" = some none)
  (ac:findIn K (.ref a) "numbers" = some none)
  (aq:findIn K (.ref a) "bares" = some none)
  (ab:findIn K (.ref a) "amounts" = some none)
  (ar:findIn K (.ref a) "boxes" = some none)
  (a0:findIn K (.ref O) "text" = some none)
  (aj:findIn K (.ref O) "clauses" = some none)
  (au:findIn K (.ref g) "grove" = some none)
  (U:findIn K (.ref g) "memories" = some none)
  (ax:findIn K (.ref g) "rule" = some none)
  (A:findIn K (.ref g) "known_squares" = some none)
  (I:findIn K (.ref g) "known_cells" = some none)
  (g0:Fg K "is_whole" Mb f0 d0)
  (g1:Fg K "is_state" Mc f1 d1)
  (g2:Fg K "takes" Rx f2 d2)
  (g3:Fg K "read_clause" Fa f3 d3)
  (g4:Fg K "read_state" IM f4 d4)
  (g5:Fg K "read_wanted" GW f5 d5)
  (g6:Fg K "read_condition" EM f6 d6)
  (g7:Fg K "read_amounts" Gb f7 d7)
  (g8:Fg K "read_numbers" Ga f8 d8)
  (g9:Fg K "read_places" EZ f9 d9)
  (bo:Fg K "shifted_box" GV hn el)
  (bp:Fg K "least_box" Dr ho em)
  (bq:Fg K "lies_within" GX hp en)
  (br:Fg K "reach_of" LZ hq eo)
  (bt:Fg K "bare_field" IP hr ep)
  (bu:Fg K "widened" Nq hs er)
  (bv:Fg K "trimmed" Nr ht es)
  (bw:Fg K "middle_of" GJ hu et)
  (bx:Fg K "is_bare_around" EN hv eu)
  (bz:Fg K "widened_over" FZ hw ev)
  (b0:Fg K "widened_to" IK hx ew)
  (b1:Fg K "planted" Nt hy ey)
  (bd:Fg K "replaced" LY hz ez)
  (b2:Fg K "field_of" Mf h0 e0)
  (b3:Fg K "box_of" Pi h1 e1)
  (b4:Fg K "jump" UK h2 e2)
  (b5:Fg K "road" UJ h3 e3)
  (ca:Fg K "check_leap" IO h4 e4)
  (cb:Fg K "level_for" JH h5 e5)
  (cc:Fg K "moved_by" Ma h6 e6)
  (be:Fg K "seen_at" Lq h7 e7)
  (cd:Fg K "without_unseen" EL h8 e8)
  (ce:Fg K "seen_quarters" DM h9 e9)
  (cf:Fg K "rows_of_quarters" DR ia fb)
  (cg:Fg K "shape_of" LX ib fc)
  (ch:Fg K "comes_again" GY ic fe)
  (ci:Fg K "clause_texts" Gc ie ff)
  (cj:Fg K "read_rule" JG ig fg)
  (ck:Fg K "deciding" Mg ih fh)
  (cl:Fg K "becomes" Ny ii fi)
  (cm:Fg K "shown_rule" IL ij fj)
  (co:Fg K "nine_parts" IN ik fk)
  (cp:Fg K "fours_of" Md il fl)
  (cq:Fg K "met_in_the_middle" DC im fm)
  (cr:Fg K "_law_at" Nz io fo)
  (cs:Fg K "_law_mix" Mh ip fp)
  (ct:Fg K "_law_state_by" FB iq fq)
  (cu:Fg K "_law_condition_by" Cz ir ft)
  (cv:Fg K "_law_clause_by" EO is fu)
  (cw:Fg K "_law_holds" IR iu fv)
  (cx:Fg K "_law_decides" Gd iv fw)
  (cy:Fg K "_law_becomes" Gf iw fy)
  (cz:Fg K "_law_clauses_by" Ep ix fz)
  (c0:Fg K "_law_word" Fp iy ga)
  (c4:Fg K "_law_text" GK iz gb)
  (c5:Fg K "_law_map_by" Fb i0 gc)
  (c6:Fg K "_law_glide_text" Eo i1 ge)
  (c7:Fg K "_law_by_rows" Ge i2 gf)
  (c8:Fg K "_law_listed" GZ i3 gg)
  (c9:Fg K "_law_heap" JI i4 gh)
  (da:Fg K "_law_whole" IQ i5 gi)
  (db:Fg K "law" Zp i6 ek)
  (dd:Fm K i "holds" "Amounts.holds" FC i8 gk)
  (df:Fm K r "holds" "Places.holds" Er ja gm)
  (dh:Fm K j "fits" "Clause.fits" Fe jc gp)
  (dj:Fm K a "kept" "Grove.kept" IV je gs)
  (dl:Fm K a "linked" "Grove.linked" Gg jf gt)
  (dm:Fm K a "check_square" "Grove.check_square" Dt jg gu)
  (dn:Fm K a "leaf" "Grove.leaf" IU jh gv)
  (dp:Fm K a "level_of" "Grove.level_of" ER ji gw)
  (dq:Fm K a "state_of" "Grove.state_of" EQ jj gx)
  (j2:Fm K a "living" "Grove.living" Pj jk gy)
  (j3:Fm K a "counted" "Grove.counted" Op jm gz)
  (dr:Fm K a "span" "Grove.span" IT jn ha)
  (bf:Fm K a "boxed" "Grove.boxed" Fc jo hb)
  (ds:Fm K a "measured" "Grove.measured" Dy jp hc)
  (dv:Fm K g "change" "Jumps.change" Es jt hf)
  (dw:Fm K g "after" "Jumps.after" Ib ju hg)
  (dx:Fm K g "check_jump" "Jumps.check_jump" DS jv hh)
  (bg:Fm K g "reckoned" "Jumps.reckoned" Dx jw hi)
  (dy:Fm K g "fresh" "Jumps.fresh" Ct jx hj)
  (dz:Fm K g "four_halfway" "Jumps.four_halfway" Bw jy hk)
  (ea:Fm K g "middle_after" "Jumps.middle_after" Ds jz hl)
  (eb:Fm K g "cell_after" "Jumps.cell_after" CQ j0 hm)
  (dc:Fi K i "Amounts.__init__" Gh i7 gj)
  (de:Fi K r "Places.__init__" Ia i9 gl)
  (dg:Fi K j "Clause.__init__" Ic jb gn)
  (di:Fi K a "Grove.__init__" IW jd gr)
  (dt:Fi K O "Rule.__init__" GL jq hd)
  (du:Fi K g "Jumps.__init__" IS js he)
  (ec:W.nsIn K mainGlobals "all" = some none)
  (bm:W.nsIn K mainGlobals "bool" = some none)
  (a7:W.nsIn K mainGlobals "enumerate" = some none)
  (ed:W.nsIn K mainGlobals "int" = some none)
  (a1:W.nsIn K mainGlobals "isinstance" = some none)
  (ee:W.nsIn K mainGlobals "len" = some none)
  (bn:W.nsIn K mainGlobals "list" = some none)
  (ef:W.nsIn K mainGlobals "max" = some none)
  (eg:W.nsIn K mainGlobals "min" = some none)
  (bi:W.nsIn K mainGlobals "range" = some none)
  (bc:W.nsIn K mainGlobals "sorted" = some none)
  (eh:W.nsIn K mainGlobals "str" = some none)
  (ei:W.nsIn K mainGlobals "sum" = some none)
  (bj:W.nsIn K mainGlobals "tuple" = some none)
  (ej:W.nsIn K mainGlobals "zip" = some none)
  (bb:W.nsIn K mainGlobals "STATES" = some (some (.int 8 a4)))
  (az:W.nsIn K mainGlobals "NEIGHBOURS" = some (some (.int 8 R)))
  (ag:W.nsIn K mainGlobals "STATE_FIGURES" = some (some (.str D B)))
  (Y:D=Str.ofString "01234567")
  (V:W.nsIn K mainGlobals "AMOUNT_FIGURES" = some (some (.str y u)))
  (S:y=Str.ofString "012345678")
  (a8:W.nsIn K mainGlobals "ANY_SIGN" = some (some (.str al ak)))
  (a6:al=Str.ofString "*")
  (a5:W.nsIn K mainGlobals "TOP_LEVEL" = some (some (.int 48 ae)))
  (bh:W.nsIn K mainGlobals "LIMIT" = some (some (.int 1099511627776 ba)))
  (aw:W.nsIn K mainGlobals "LEAST_LEVEL" = some (some (.int 1 M)))
  (av:W.nsIn K mainGlobals "CLAUSE_MARK" = some (some (.str N L)))
  (an:N=Str.ofString "; ")
  (am:W.nsIn K mainGlobals "LEAST_JUMPED" = some (some (.int 2 E)))
  : ∃fd:FuncData,(∀(s:P_)(v:S_),BindsTo s fd ⟨[v],[]⟩ [("_law_script",v)])/\∀Q:Heap,K.In Q->Q.Ns mainGlobals mg->AL l.prog w K mg Q CX0 153 fa fd ["_law_script"] (VS K):=by
 have e:=j1.symm.trans (A0f X G db.at_);cases e;have no:∀{x:Str},W.nsIn K mainGlobals x=some none->mg x=none:=λz=>W.mg_none_of X G z;subst an;subst a6;subst S;subst Y;have T:Top K mg (⟨i,r,j,a,O,g⟩:Ad):=⟨no ec,no bm,no a7,no ed,no a1,no ee,no bn,no ef,no eg,no bi,no bc,no eh,no ei,no bj,no ej,⟨a4,A0f X G bb⟩,⟨R,A0f X G az⟩,⟨B,A0f X G ag⟩,⟨u,A0f X G V⟩,⟨ak,A0f X G a8⟩,⟨ae,A0f X G a5⟩,⟨ba,A0f X G bh⟩,⟨M,A0f X G aw⟩,⟨L,A0f X G av⟩,⟨E,A0f X G am⟩,A0f X G dE,ay,aa,P,A0f X G dF,a3,ad,A0f X G dG,a2,ao,H,ah,A0f X G dM,n,ai,as,ac,aq,ab,ar,A0f X G dN,bl,a0,aj,A0f X G dL,t,au,U,ax,A,I⟩
 refine⟨ek,λs v=>(by obtain⟨_,_,_,_,_,_,_,_,_,rfl,_⟩:=db.fn.ex;exact .of_eq Z),λQ _ _=>?_⟩;have d:∀{CX:CXT}{k:Nat}{x:Str}{st:Stmt}{f:R_}{fd:E_}{ps:K_}{sp:Sp},Fg K x st f fd->AL l.prog w K mg Q CX k f fd ps sp->CN K fd ps []->Cal l.prog w K mg Q CX k x ps sp:=λF o b=>⟨_,_,o,A0f X G F.at_,F.fn.kp,b⟩
 have p:∀{CX:CXT}{k:Nat}{C:R_}{x q:Str}{st:Stmt}{f:R_}{fd:E_}{ps:K_}{sp:Sp},Fm K C x q st f fd->Cls K C->AL l.prog w K mg Q CX k f fd ps sp->CN K fd ps []->Cd l.prog w K mg Q CX k C x ps sp:=λF c o b=>⟨⟨_,_,o,F.me,b⟩,c⟩
 have af:∀{CX:CXT}{k:Nat}{C:R_}{x q:Str}{st:Stmt}{f:R_}{fd:E_}{ps:K_}{sp:Sp},Fi K C q st f fd->mg x=some (.ref C)->AL l.prog w K mg Q CX k f fd ps sp->CN K fd ps []->SH l.prog w K mg Q CX k x C ps sp:=λF m o b=>⟨_,_,o,F.mk_,m,b⟩
 have aF:=d g0 (ok_iw g0.fn T) (bnd g0.fn);have bG:=d g1 (ok_is g1.fn T aF) (bnd g1.fn);have aV:=p dj n (ok_kept dj.fn T) (bnd dj.fn);have dD:=af di T.m_Grove (ZN di.fn T aV) (bnd di.fn)
 have a9:=p dl n (ok_link dl.fn T aV) (bnd dl.fn);have aI:=p dm n (ok_chk dm.fn T aF) (bnd dm.fn);have aU:=p dn n (ok_leaf dn.fn T bG) (bnd dn.fn);have aA:=p dp n (ok_lev dp.fn T aI) (bnd dp.fn);have bD:=p dq n (ok_sta dq.fn T aA) (bnd dq.fn);have aC:=d bo (ZE bo.fn T) (bnd bo.fn);have b9:=d bp (ZK bp.fn T) (bnd bp.fn);have b7:=p bf n (ZQ bf.fn ds.fn T bf.me (bnd bf.fn) ds.me (bnd ds.fn) aC b9 49) (bnd bf.fn);have cB:=p dr n (ok_span dr.fn T aI b7) (bnd dr.fn);have aD:=d bq (ok_lie bq.fn T) (bnd bq.fn);have aE:=d br (ZH br.fn T aA) (bnd br.fn);have bJ:=d bu (ok_wid bu.fn T aA a9) (bnd bu.fn);have cJ:=d bw (ok_mid bw.fn T a9) (bnd bw.fn);have bH:=d bx (ok_ba bx.fn T) (bnd bx.fn);have aS:=d bv (ok_trim bv.fn T aA bH cJ) (bnd bv.fn);have aT:=d bz (ok_wo bz.fn T aD aE bJ) (bnd bz.fn);have aZ:=d bt (ZR bt.fn T) (bnd bt.fn);have bM:=d bd (ZG bd.fn T (A0f X G bd.at_) (bnd bd.fn) aU a9 50) (bnd bd.fn);have cU:=d b1 (ZJ b1.fn T aD bG aE aT bM aS) (bnd b1.fn);have cR:=d b2 (ok_fld b2.fn T aZ cU) (bnd b2.fn);have bA:=d b3 (ZP b3.fn T cB aE aC) (bnd b3.fn);have cO:=d g2 (ZD g2.fn) (bnd g2.fn);have cV:=af dc T.m_Amounts (Yd dc.fn T) (bnd dc.fn)
 have dA:=af de T.m_Places (Yb de.fn T) (bnd de.fn)
 have dB:=af dg T.m_Clause (Yc dg.fn T) (bnd dg.fn)
 have cW:=p dd ay (UT dd.fn T) (bnd dd.fn);have cZ:=p df a3 (US df.fn T cO) (bnd df.fn);have bU:=p dh a2 (ok_Fits dh.fn T cO cW cZ) (bnd dh.fn);have cS:=d ck (ok_dec ck.fn T bU) (bnd ck.fn);have bK:=d cl (ok_bec cl.fn T cS) (bnd cl.fn);have aP:=d g4 (ok_rs g4.fn T) (bnd g4.fn);have aY:=d g5 (ok_rw g5.fn T aP) (bnd g5.fn);have bN:=d g8 (ok_rn g8.fn T) (bnd g8.fn);have bO:=d g7 (ok_ram g7.fn T aP bN cV) (bnd g7.fn);have bV:=d g9 (ok_rpl g9.fn T aY dA) (bnd g9.fn);have bE:=d g6 (ZI g6.fn T bO bV) (bnd g6.fn);have bW:=d g3 (ok_rc g3.fn T aP aY bE dB) (bnd g3.fn);have bP:=d ci (ok_ct ci.fn T) (bnd ci.fn);have dJ:=af dt T.m_Rule (ok_ri dt.fn T bP bW) (bnd dt.fn)
 have cH:=d cj (ok_rr cj.fn T dJ bK) (bnd cj.fn);have cD:=d cm (ok_show cm.fn T) (bnd cm.fn);have bL:=p dv t (ok_chg dv.fn T cD) (bnd dv.fn);have cY:=af du T.m_Jumps (ZL du.fn T bL) (bnd du.fn)
 have aM:=p eb t (ok_cel eb.fn T bD aU bK) (bnd eb.fn);have aH:=p ea t (ok_mid2 ea.fn T a9 aM) (bnd ea.fn);have aQ:=d co (ok_nine co.fn T a9) (bnd co.fn);have aW:=d cp (ZO cp.fn T) (bnd cp.fn);have aJ:=d cq (ok_met cq.fn T a9) (bnd cq.fn);have aG:=p bg t (Wf bg.fn dz.fn dy.fn T bg.me (bnd bg.fn) dz.me (bnd dz.fn) dy.me (bnd dy.fn) aH a9 aQ aW aJ 46) (bnd bg.fn);have b8:=p dx t (ok_cj dx.fn T aA aF) (bnd dx.fn);have bT:=p dw t (Ya dw.fn T A3 b8 aG) (bnd dw.fn);have cE:=d ca (ok_chg' ca.fn T aF bA aD) (bnd ca.fn);have cK:=d cb (ok_lvf cb.fn T aE) (bnd cb.fn);have cC:=d b0 (ok_wt b0.fn T aA bJ) (bnd b0.fn);have dH:=d b5 (ok_rdg b5.fn T cE aZ cK cC bT aS) (bnd b5.fn);have cQ:=d b4 (ok_jpg b4.fn T dH aS) (bnd b4.fn);have aR:=d cd (ok_wu cd.fn T) (bnd cd.fn);have aN:=d cf (ok_rq cf.fn T) (bnd cf.fn);have cA:=d be (ok_sa be.fn ce.fn T (A0f X G be.at_) (bnd be.fn) (A0f X G ce.at_) (bnd ce.fn) aR aN a9 50) (bnd be.fn);have bF:=d cc (ok_mv cc.fn T bA aC aD aT aE aA aS cA) (bnd cc.fn);have cP:=d cg (ZF cg.fn T bA bF) (bnd cg.fn);have bX:=d ch (ok_ca ch.fn T aF cQ cP) (bnd ch.fn);have aB:=d cr (ok_at cr.fn T) (bnd cr.fn);have aO:=d cs (ok_mix cs.fn) (bnd cs.fn);have aK:=d ct (ok_st ct.fn) (bnd ct.fn);have b6:=d cu (ok_co cu.fn T aO aK) (bnd cu.fn);have bI:=d cv (ok_cl cv.fn T aO aK b6) (bnd cv.fn);have cF:=d cw (ok_ho cw.fn T) (bnd cw.fn);have bQ:=d cx (ok_de cx.fn T cF) (bnd cx.fn);have bS:=d cy (ok_be cy.fn T bQ) (bnd cy.fn);have bC:=d cz (ok_cs cz.fn T aB bI bS) (bnd cz.fn);have cL:=d c0 (ok_wd c0.fn T) (bnd c0.fn);have cM:=d c4 (ok_tx c4.fn T cL) (bnd c4.fn);have bR:=d c7 (ok_row c7.fn T) (bnd c7.fn);have bZ:=d c8 (ok_lsd c8.fn T bR) (bnd c8.fn);have cN:=d c9 (ok_heap c9.fn T aB) (bnd c9.fn);have bY:=d c5 (ok_mapb c5.fn T aB) (bnd c5.fn);have bB:=d c6 (ok_gtx c6.fn T) (bnd c6.fn);have aX:=d da (ok_wh da.fn T) (bnd da.fn);exact ok_law db.fn T dD aB bC cM bY bB cH cN bZ cR cY cQ bX bF aX
theorem walk{l:W.OpenLaw}{q:N_}{c:K_}{o:(Str->Option Value)->Heap->Prop}{i:World->Heap->Prop}{d:DefRec}{K:Params->W.Frag}(v:l.most=some 63)(g:d.params.defaults=[])
  (r:∀(w:Q_)(h:T_),i w h->(K w.params).In h)
  (F:∀(w:Q_)(e:C_)(j:R_)(h:T_),(K w.params).In h->h.Ns mainGlobals e->e d.name=some (.ref j) ->
   ∃m:FuncData,(∀(s:P_)(u:S_),BindsTo s m ⟨[u],[]⟩ [("_law_script",u)])/\∀b:Heap,(K w.params).In b->b.Ns mainGlobals e->AL l.prog w (K w.params) e b CX0 153 j m ["_law_script"] (VS (K w.params))) :
  W.WalkO q c o i l.row.toRowW d [] (λf vs=>PySem.call f vs) :=
 L2.VB (n:=63) (k:=153) (x:="_law_script") (CX:=λ_=>CX0) (sp:=λw=>VS (K w.params)) v A3 g ⟨Z,by decide,by decide⟩ r F (λ_ _ a ns t _ p=>⟨a,ns,Z,p,t,λ_=>Z⟩) λ_ _ _ _ _ z=>z
end J
structure PySem.W.Fast:Prop where(tw4719271479809519344 tw5547312526865120163 tw15616634880392149628 tw10646115857327661490 tw7479897342420661873 tw3004426412728376113 tw16385869654149207009 tw17141550779735083614 tw16119393743711900593 tw16193591099389130992 tw15784730448013649685 tw14127039589478105317 tw531083091095487125 tw2986379392528444735 tw5954615770735178738 tw10566367865115822705 tw8038753544913150354 tw4481090636232724145 tw17819497854605597516 tw2035817089799953630 tw5376450108039140881 tw2859201582506912267 tw1255169010285906526 tw8079722425813324641 tw11185209593588798646 tw3045130536883701518 tw3979396986810143773 tw1517724837910851795 tw17639044319431341085 tw1230923188258127761 tw12746403159938706379 tw1558502509851467995 tw2419593152077634154 tw8450672149863220490 tw12059248806555904790 tw6468397288136190763 tw15614311903099632367 tw12842383089407769294 tw8442050097638585008 tw16661793217767109404 tw12783111806420280216 tw10344697675897767955 tw16763277762293217966 tw3729426609277752794 tw17897035331090122994 tw1768813182128734014 tw16412265130455513058 tw1624299934681008722 tw7430414015179451696 tw9009657681666666130 tw11348256902936735188 tw8027198248925792040 tw4504660495147252388 tw7446223425328608485 tw2974987475587948155 tw18350179341855573102 tw5122958322464511365 tw14397277583500202220 tw15393501470829508663 tw16145292482825958586 tw15290894935061053970 tw12095486376769655526 tw6578673927027440516 tw7232736511732257440 tw16094712941050065391 tw14234076045533200967 tw5313192453842279863 tw7211841430856894606 tw5473411935883784474 tw4528373347260675049 tw18145053427400587849 tw4709483398131453092 tw4817587537326093006 tw17929661705870089563 tw2332615626677255094 tw585483578247743114 tw15344615604822719256 tw5931725186685548136 tw16866201736281786820 tw2698683724993736321 tw2292678875931364641 tw10563881686595980270 tw4311556869240304920 tw2407618592564551448 tw6938311159105146035 tw7944227299051601856 tw7860131641929393727 tw14763827985400856269 tw14013310035225412356 tw241477016723389992 tw18069082801069278288 tw7986435979928528958 tw943339370726516736 tw854901056750570979 tw1642486044106332365 tw5688421405569756909 tw1142647580835169291 tw17541128352192220600 tw1362059537154913732 tw6405947458977495623 tw15473666511079168948 tw16916944528316538962 tw9317249319652313978 tw4855638125915104057 tw10082591758389359920 tw10108023112866037368 tw7376893203637213731 tw2676010723115528299 tw2548537977579401519 tw5362333016510157313 tw8551756972318536383 tw11933980106706423461 tw13412728924882999684 tw8851058648856997421 tw17023230916102187499 tw15985905109683838330 tw12417624788691052032 tw15924346098281448737 tw850935509803949309 tw13966065361065378083 tw1511346496568268523 tw5650219248913869422 tw5162424473818226760 tw3998020816677020703 tw4368189199843452951 tw15374191462661150009 tw12250189905131028401 tw12230547318030437297 tw9877179753125373238 tw16414894174188157932 tw3135678435089273201 tw16679657287280945922 tw15437804170542651863 tw10448474303736957407 tw13498837249099748249 tw7958579135770956060 tw3151982517416938421 tw12446745051958535783 tw4749982805848578195 tw13725406127751778526 tw6336557212865383918 tw6056299526005911437 tw9164234100434687273 tw12092378935562935595 tw885344244794728246 tw13530885968358685554 tw16044234624069822 tw8314783504026774429 tw7090405531176058397 tw12401065051839617865 tw14048990814414958581 tw14414306561087389960 tw2643558000103193634 tw4593662169434284913 tw13751455497120025743 tw1794135498093970311 tw7533733070651941174 tw10328825464875747786 tw4802093160180052165 tw2455635517156677998 tw14694713250750127720 tw9487236845227549506 tw13543243211378335400 tw1922186384476377082 tw8085387243129845253 tw14407683839102562559 tw13013270029442120462 tw6121154892520000633 tw7545277825020898197 tw284301323824981459 tw14881185794590537050 tw12638427289815320272 tw11127998829996460924 tw7296854658461563666 tw1128320221658125816 tw4514644696785957230 tw9911030619047380373 tw8236214739096974406 tw2559013734046008029 tw371202276335901800 tw16941904431045723538 tw11993429661776260148 tw14211989459955415285 tw4169499849734954879 tw6987636165333379112 tw6609635457946388218 tw568714683537311951 tw2547082712349762443 tw5137080873779308589 tw5851355182357520647 tw958438098790476243 tw9836659225284970735 tw5133179356428126590 tw16840673473944925500 tw12724694344798621022 tw13381377568190274628 tw12202701635296236881 tw16581795257336442127 tw11498494102689998440 tw764619724761092966 tw8021251616563917928 tw7954798778552508733 tw83900803608356738 tw9192374944065867644 tw15303621940297303010 tw6462649742526599861 tw6254990856031826031 tw7932905043251713552 tw11322032325127112089 tw13100803078473553478 tw9834420160111423747 tw2322247975552825598 tw5250948097250054798 tw3612846944872012808 tw16179813260941157123 tw8029123050984732299 tw173832979637143698 tw2803288950428835985 tw8223366732020964430 tw3719756130636394860 tw9383881809799680767 tw5330858005250373064 tw17599280460042001690 tw5576615664054670478 tw15847991375940525174 tw7930809623830528351 tw9769777675530147968 tw16496622909858423996 tw4135412210218104497 tw13604710435325202837 tw15191664542459314553 tw6209807510965957432 tw8928149477112502515 tw5678587423621981586 tw9672936896413757678 tw1969733588553007898 tw1497441549315412447 tw7694440656634205961 tw9982072396644478889 tw16878851607543352137 tw8305726025928003824 tw1103377571626063790 tw12047316551116027920 tw3597087253543603956 tw9264236159504064944 tw16594987850799049201 tw8267969855327083962 tw8852686340581737784 tw7138158284968991651 tw14083062116007690858 tw2886673984954261478 tw13769005279144311705 tw12342099670277778089 tw15609476154648174145 tw7491658102354971003 tw10470130504945106049 tw6387889531063256674 tw1549159674623799654 tw180734153914647685 tw6042015393771800065 tw16619274346935711153 tw2008760788297341102 tw4533108459490137637 tw7675173991146014008 tw3518666561562158401 tw13573278775587302625 tw17613369584754530290 tw1902231695614960800 tw7033518064985980012 tw11227237401373481852 tw1279319463136703992 tw16474889296063770688 tw10885098055736936393 tw10492224123523050800 tw7824105841458087958 tw6681424924899351559 tw12458877059767795235 tw10119105912364484385 tw815392265078239007 tw12083230841895952041 tw7953254917518818490 tw16286525738418444666 tw3108088681595955390 tw13113566112190247504 tw17526127610033216174 tw154731681738110419 tw5994186280018403950 tw2089713017152284711 tw11435834596970057617 tw12654932000541958506 tw6695343815127894174 tw1075670294017238622 tw14920746857725543735 tw6738746524860473296 tw542788163463123114 tw5427909896702381937 tw5175812673175218341 tw8569440004234508160 tw8583264016706276903 tw16518709268909257190 tw15459744585341518563 tw1042635582172153382 tw4278423173833096568 tw3611028148745035 tw531849347410554416 tw11237670619845941878 tw6339850588857410914 tw4654332634151501773 tw6943569194595994383 tw8584443038213185813 tw15761736834923742049 tw7562032707000090279 tw9766471712864888269 tw8624898199384734577 tw16487728261103967779 tw3013185635051109532 tw5926015923918609931 tw9136197880181550499 tw2870528479984439784 tw10336441867762485198 tw17217966755469885763 tw7385157273614673743 tw12918205756331601121 tw958096767183557167 tw4499033789604956136 tw1975410503114460033 tw9199802776975934836 tw17757877963417555375 tw8389601991826512821 tw237187278459805269 tw16614436665301429765 tw6763558290130581328 tw5075455613044567084 tw1750837980492989901 tw11033898828453697687 tw5384093015819977382 tw5248354410950727921 tw4189525012475131676 tw15892739651889360127 tw4873785621595576593 tw3425397950946419500 tw4815601351087556988 tw7086034533800190487 tw3646350106950459569 tw9327587574666208272 tw15711395763956426677 tw3619289059520489012 tw17137214426849991944 tw11142806688612308967 tw14531202257183934747 tw4184012192348998959 tw8817230445986796624 tw16511170360439848286 tw2481155533478980702 tw11275901130583698321 tw8644368796813126807 tw1438772012620482878 tw4263943736441031517 tw8989175334865770813 tw16654150913257600502 tw13599548251649035719 tw8857619549815128807 tw6610317906087670174 tw8443900818547437793 tw2444607416086822434 tw11505568203166846817 tw12637832050463607978 tw11092498309184664131 tw16188114892501282903 tw10483415829363258222 tw11557650354425677915 tw6551417962188588239 tw7877828580210383714 tw14848931208356256272 tw1765566050833393723 tw11348110893541554908 tw5630811350283552857 tw9551897177276550882 tw12329769545819374127 tw7740682983921993560 tw17177270283318989565 tw16032267065837592590 tw15745279076858465057 tw16161554887020886743 tw12104274134443679111 tw3650962756051126350 tw5157021178463185957 tw11187168747447516341 tw9163209592720069721 tw4758084087479619196 tw2397915919228742483 tw18124114931226325391 tw11256354372640467043 tw7292996863065333102 tw14136141384994975711 tw5475698722462779679 tw4258155625944142791 tw400949431516244858 tw14041628873412481192 tw12821183399597960714 tw15298655032057529667 tw2875215792245886985 tw4926086299766259453 tw108892042607680466 tw3755485987889119606 tw16777697124651098394 tw15565286759900218257 tw4084892574738078115 tw5435060380422423952 tw3464913690685535477 tw17920087229793729823 tw3706480491179348983 tw18053492246090806909 tw12017030218677530855 tw2469859296345520668 tw12954168886636231473 tw13692107605863716356 tw13105185615912334079 tw1583067825068101926 tw4145802239373645453 tw1872805882965686964 tw3359323678939726682 tw8482416924910543300 tw13678541848477462540 tw2778017057271350882 tw11440973082345621554 tw10276389401342016125 tw8908129753295916228 tw9566999871272768100 tw12082359817413444053 tw12482800661199311366 tw8854343572756710589 tw1991255409840805429 tw1783686295163301004 tw7419050370589872681 tw8231947745720395710 tw2215221069243221655 tw8576565460595061654 tw5075929659517743305 tw984548448009577020 tw4614094951698938544 tw1921356556650694553 tw4117368113916012173 tw11922684521311671321 tw510110779055533263 tw2724664708686689668 tw17817085283611575094 tw2594133849707576022 tw15587593086722577979 tw10402211383730521219 tw12972807894731282356 tw15182388849336036095 tw4798916014266201211 tw8839233602776942236 tw15584411329178314931 tw11499744802083616740 tw9246533528223192695 tw5438946606083657321 tw12173892463264094086 tw1314549587255193436 tw7672453908791271296 tw6863243489485395984 tw11920365883076887880 tw13009780913684418876 tw12364464329426268906 tw13217989966342933877 tw17902375939042118128 tw5687562842836495196 tw9704552225964530790 tw18013429644455790268 tw10932038763158022836 tw14514894697586080883 tw4169025728119423884 tw239601641376907905 tw10293400664778108462 tw925951779532423256 tw3399997506253265215 tw14973944108294437430 tw1064768749406263296 tw228188318878688498 tw18028683090192883425 tw4778659594607491885 tw5149525629550369245 tw1211024971595795890 tw5314721556911661462 tw10699746233891670724 tw9402667337475735876 tw2136052515444606237 tw6502100617404417434 tw4666126723656935120 tw6007417509783915587 tw4542608972239760922 tw9301548835474618808 tw3131387025312432620 tw14649875671827955723 tw8137992259083419566 tw16694556508465996798 tw11674059358984348624 tw12661767341547677720 tw1972762776859897379 tw10589121319129854595 tw2252807155012972911 tw8199945176648870325 tw7256035397055015174 tw7028776986845297658 tw17249773158268755491 tw14522518134266540646 tw8375473073466295630 tw1552143140605522324 tw3545844425080617299 tw2749479123855978719 tw11080041447553932219 tw14231872420812135304 tw14569292297679413010 tw632950596136015303 tw13668776993802078348 tw13876961009964993054 tw237602202785270995 tw5397473520019992577 tw16466191197582355846 tw15355921880549880263 tw17307214890781832096 tw5947311581061975531 tw16472171432074070313 tw8788816288850649753 tw1378703707875606655 tw16307768466089062948 tw18146733660814084212 tw7979877130870480517 tw8161599137269691542 tw15228844996566938167 tw5006479809772712551 tw8880881688550736155 tw6372181069468979584 tw14459952473349697344 tw7210773133615520165 tw14370834188880085105 tw14407459534971844945 tw9042733570417604092 tw6965405501709122025 tw4097502148691091370 tw1747038834211465358 tw11354326269035350249 tw5389247716102411662 tw2879009708552482894 tw10891869144892080795 tw10925963945873546354 tw12477758811448476623 tw13063910309241580609 tw15988005569250872287 tw13373180968132801344 tw736588106341416014 tw1361714476149777654 tw4784845166872952150 tw14208512047976177424 tw16596880130719312229 tw12012653450215626580 tw16535436404720304147 tw6709166848585538351 tw2111852796206302783 tw17960942936870935294 tw10877464801499295101 tw8987612070092408141 tw861939936122464559 tw5923435811711314807 tw13608507673303482027 tw4620123096428336548 tw1277032661213522707 tw1961562564835861289 tw10113910321524469155 tw3506559995505910873 tw7996273850688102232 tw14981600811257816931 tw16524048429682881294 tw8822876400428608386 tw17479863154381101383 tw14533034889623599880 tw18327557940585901301 tw6587870032921930383 tw4561671535359873457 tw12064223031549077485 tw6308838193554698823 tw8817149093320742007 tw14479211519069230799 tw13946327283091786861 tw2543790440094740990 tw2191930019600208026 tw13191603043690796432 tw9461681927146699575 tw15811568543846298368 tw9178623475152951155 tw5624150798978106313 tw12458169073727961587 tw7106983095854460151 tw18308619808690180110 tw8130372243057456759 tw4150026592165186294 tw2227489409343347054 tw4804934165474437004 tw11733371225597862080 tw13538199319868719987 tw6909410512821063034 tw1872615131236671430 tw15481898618773970795 tw7521816337456937595 tw16078285759901567520 tw7438066015485878507 tw12062094271944996858 tw5217953450198889114 tw8949871679714976874 tw10568133767513441774 tw3298564051080029570 tw14765026665728919591 tw6428362817901695859 tw15757261742771650339:True)
open PySem PySem.W PyProof.Rows
set_option maxRecDepth 100000 in
set_option maxHeartbeats 0 in
theorem PySem.Challenge.cw_jumpfield_k73_whole_it_goes_on_holds : PySem.Challenge.rw_jumpfield_k73_whole_it_goes_on.Holds := by
 w_on; o_law; k_head; (case hw=>w_witness2)
 k_fill
 refine J.walk (l:=PySem.Challenge.rw_jumpfield_k73_whole_it_goes_on) rfl rfl (fun w h Y=>PySem.W.kIn_of Y) ?F
 case F =>
  intro w mg fa h KX G hmg;refine' J.fin KX G hmg ?h0 ?h1 ?h2 ?h3 ?h4 ?h5 ?h6 ?h7 ?h8 ?h9 ?h10 ?h11 ?h12 ?h13 ?h14 ?h15 ?h16 ?h17 ?h18 ?h19 ?h20 ?h21 ?h22 ?h23 ?h24 ?h25 ?h26 ?h27 ?h28 ?h29 ?h30 ?h31 ?h32 ?h33 ?h34 ?h35 ?h36 ?h37 ?h38 ?h39 ?h40 ?h41 ?h42 ?h43 ?h44 ?h45 ?h46 ?h47 ?h48 ?h49 ?h50 ?h51 ?h52 ?h53 ?h54 ?h55 ?h56 ?h57 ?h58 ?h59 ?h60 ?h61 ?h62 ?h63 ?h64 ?h65 ?h66 ?h67 ?h68 ?h69 ?h70 ?h71 ?h72 ?h73 ?h74 ?h75 ?h76 ?h77 ?h78 ?h79 ?h80 ?h81 ?h82 ?h83 ?h84 ?h85 ?h86 ?h87 ?h88 ?h89 ?h90 ?h91 ?h92 ?h93 ?h94 ?h95 ?h96 ?h97 ?h98 ?h99 ?h100 ?h101 ?h102 ?h103 ?h104 ?h105 ?h106 ?h107 ?h108 ?h109 ?h110 ?h111 ?h112 ?h113 ?h114 ?h115 ?h116 ?h117 ?h118 ?h119 ?h120 ?h121 ?h122 ?h123 ?h124 ?h125 ?h126 ?h127 ?h128 ?h129 ?h130 ?h131 ?h132 ?h133 ?h134 ?h135 ?h136 ?h137 ?h138 ?h139 ?h140 ?h141 ?h142 ?h143 ?h144 ?h145 ?h146 ?h147 ?h148 ?h149
  (case h0 | h1 | h2 | h3 | h4 | h5=>k_is)
  (case h6 | h7 | h8 | h9 | h10 | h11=>(refine' ⟨?_,?_,?_,?_⟩<;>k_is))
  (case h12 | h13 | h14 | h15 | h16 | h17 | h18 | h19 | h20 | h21 | h22 | h23 | h24 | h25 | h26 | h27 | h28 | h29 | h30=>k_is)
  (case h31 | h32 | h33 | h34 | h35 | h36 | h37 | h38 | h39 | h40 | h41 | h42 | h43 | h44 | h45 | h46 | h47 | h48 | h49 | h50 | h51 | h52 | h53 | h54 | h55 | h56 | h57 | h58 | h59 | h60 | h61 | h62 | h63 | h64 | h65 | h66 | h67 | h68 | h69 | h70 | h71 | h72 | h73 | h74 | h75 | h76 | h77 | h78 | h79 | h80 | h81 | h82 | h83 | h84 | h85 | h86 | h87 | h88 | h89 | h90 | h91 | h92=>(apply J.Fg.mk; k_is; apply L2.Vq<;>k_is))
  (case h93 | h94 | h95 | h96 | h97 | h98 | h99 | h100 | h101 | h102 | h103 | h104 | h105 | h106 | h107 | h108 | h109 | h110 | h111 | h112 | h113 | h114=>(apply J.Fm.mk; (apply L2.Qw.mk<;>k_is); apply L2.Vq<;>k_is))
  (case h115 | h116 | h117 | h118 | h119 | h120=>(apply J.Fi.mk; (apply L2.Mk.mk<;>k_is); apply L2.Vq<;>k_is))
  (case h121 | h122 | h123 | h124 | h125 | h126 | h127 | h128 | h129 | h130 | h131 | h132 | h133 | h134 | h135 | h136 | h137 | h138=>k_is)
  (case h139=>decide +kernel)
  (case h140=>k_is)
  (case h141=>decide +kernel)
  (case h142=>k_is)
  (case h143=>decide +kernel)
  (case h144 | h145 | h146 | h147=>k_is)
  (case h148=>decide +kernel)
  (case h149=>k_is)
